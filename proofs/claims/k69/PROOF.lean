import PyProof.Rows.All
import Wide.All
import OpenK.AllK
import Wide.FinOn
import Lean
import PyProof.EqAt
import PyProof.EqKinds
import PyProof.TupleCall
import KE.KRevIter
import PyProof.ListNew
import PyProof.Draws
import PyProof.EnumMake
import PyProof.Rows.EnumRows
import PyProof.ZipIter
import PyProof.ConsumeWalk
import KE.LcSums
import PyProof.AttrMissHeap
import KE.KDictOf
import PyProof.DictWalks
import PyProof.ListMulRoad
import PyProof.FactsAll.tuple
import PyProof.NeKinds
import KE.RegKTryMore
import KE.RegKIsAll
import PyProof.StrWalks
import PyProof.Rows.SetFrom
import PyProof.FString5
import Wide.Txt
import PyProof.Rows.SeqMore
import PyProof.StrOps2
import KE.KEqDict
import PyProof.CollectIter
import PyProof.JoinWalk
import PyProof.CallStr
import PyProof.DictRoadsH
import PyProof.MeetsDictList
import PyProof.DictTruth
import PyProof.StrLawsChain
import PyProof.StrCalls6
import PyProof.ToksMono
import PyProof.StrCalls2
import KE.KWords
import PyProof.MeetsStr2
import KE.KLam
import KE.KDictLaws
import PyProof.DictItems
import PyProof.DictValues
import PyProof.DictItemsLoops
import PySem.Challenge.RW_boughbook_k69_sure_states_go
set_option Elab.async false
set_option linter.all false
set_option maxRecDepth 100000
set_option genInjectivity false
set_option genSizeOf false
local macro_rules | `(tactic| omega) => `(tactic| lia)
open PySem renaming wpAny_bind→Va,Addr→Vd,Value→Vg,wpAny_pure→Vk,Shared→Vm,Program→Vu,wpAny→Vw,sizeLine→Vz,World→VI,Str→VM,model→VN,mainGlobals→VS,Paired→VW,starEach→V0,Around→V2,wpAny_field→Wc,boot_len→Wh,wpAny_callSpecial?_slot→Wi,Expr→Wq,wpAny_newObj_type→Wt,wpAny_call_entry→Wu,Heap→Wx,wpAny_Call_Name_kw→WC,builtinLookup_eq_fast→WD,wpAny_seqItems→WG,wpAny_holding→WH,Stmt→WL,wpAny_specialOf→WR,cLine→W7,wpAny_updateSeq→Xa,sysModules→Xc,typeLookup_type→Xg,eval→Xh,rawInt→Xi,Obj→Xq,wpAny_mono→Xu,IsPair→Xz,FuncData→XJ,NameKind→XS,wpAny_typeOf→XW,Builtin→XZ,wpAny_isInstance→X0,wpAny_setField_rec→X5,wpAny_rule→X6,wpAny_pyIter_tuple→X7,wpAny_attempt→Yk,pyNext→Yl,plainId_quiet→Ym,backTo→Yn,Pos→Yr,isSubtype_type→Ys,wpAny_typeNameOfWhole_keyiter→Yy,wpAny_of_eq→Yz,sizeLine_eq→YA,wpAny_passesOwn→YC,codeAny→YM,Scope→YN,mem_of_lookup→YO,wpAny_setField→YR,typeLookup→YS,atKey→YT,wpAny_typeNameOf_keyiter→Y5,codeAny_builtin→Y8,tupleKind_room_in1→Y9,compareOp→Za,wpAny_truthy_bool→Zh,tupleKeyHash→Zi,getItem→Zj,firstArgMember→Zk,binaryOp→Zl,attributeBase→Zt,OsState→ZK,updateSeq→ZN,wpAny_pyIter_enum→Z0,wpAny_letGo→Z1,wpAny_dictEntries→Z2,storedH→Z3,atKey_none_of_get→Z4,behindInMarks→Z7
open List renaming length_map→Vb,getElem?_eq_getElem→Ve,mem_of_getElem?→Vh,getElem?_eq_some_iff→Vn,length_cons→Vo,getElem?_map→Vp,size_toArray→Vr,map_append→Vs,mem_cons→VA,mem_cons_of_mem→VB,mem_cons_self→VC,length_append→VD,mem_singleton→VF,mem_iff_getElem?→VH,length_range→VT,mem_append→VX,mem_append_right→VY,mem_map→V1,map_cons→V3,mem_append_left→V6,append_nil→V7,append_assoc→V8,range→V9,reverse_cons→Wj,length_take→Wl,filter_cons→Wm,cons_append→Wn,take_add_one→Ww,getElem?_range→Wz,length_eq_zero_iff→WA,length_reverse→WB,reverse_append→WJ,mem_filter→WV,getElem?_cons_succ→W2,take_of_length_le→W5,take_length→W6,getElem?_zip_eq_some→W9,getElem?_eq_none→Xb,map_nil→Xd,dropLast_concat_getLast→Xe,reverse_reverse→Xf,nil_append→Xp,getElem?_append_left→Xr,mem_range→XC,map_map→XM,not_mem_nil→XN,lookup_cons→XO,find?_cons→X3,lookup→Yc,ext_getElem?→Yd,take_zero→Yi,zip_cons_cons→Yp,filter_append→Yq,length_zip→Yu,length_filter_le→Yx,replicate→YE,getElem?_append_right→YF,drop_zero→YG,getElem_mem→YL,filterMap_cons→YQ,of_mem_zip→YZ,nodup_cons→Y0,forIn_cons→Y1,length→Y4,take_append_drop→Zb,length_drop→Ze,all_eq_true→Zf,take_append_of_le_length→Zm,length_nil→Zp,zip_nil_right→Zx,nodup_nil→Zy,map_inj_right→Zz,drop_eq_getElem_cons→ZE,zip_nil_left→ZG,nodup_append→ZH,eq_of_mem_replicate→ZM,map_reverse→ZS,getD→ZT,filter_nil→Z5,length_singleton→Z8,length_replicate→Z9
open PySem.W renaming Frag→Vc,nsIn→Ws,mg_none_of→WS,findIn→WU,fnOf→Xj,emptyDict→Xk,mg_of→Xy,keepIn→XB,instObj→X1,boot_heap→X8,codeIn→YD,tabIn→YU,plainGet→Zd,hasDictIn→ZF,isFn→ZU
open PySem.Str renaming ofString→Vf
open PySem.Heap renaming get?_push_of_some→Vi,get?_push_size→Vq,lt_size→Vx,get?_update_self→V4,get?_update_other→Wa,size_push→Wo,SameBut→W3,size_update→Zs
open Nat renaming le_refl→Vj,zero_le→VJ,ne_of_lt→VU,lt_of_lt_of_le→Wb,lt_irrefl→WN,le_trans→WZ,le_add_right→Xx,le_of_lt→Yb,not_lt_zero→Yt,ne_of_gt→YJ,lt_trans→YK,lt_succ_of_lt→Y6,not_lt→Zv,lt_of_le_of_lt→Zw,add_assoc→ZL,lt_succ_self→ZR,min_self→ZX,le_of_eq→ZY
open PySem.Paired renaming length→Vv
open PySem.F renaming plainAttrs_list→Vy,type_list_append→VP,slot_list_append→VQ,plain_extend_loop→WQ,slot_dict_setdefault→XF,slot_dict_keyiterator_next→XQ,type_list_pop→XT,slot_list_pop→XU,type_list_extend→Ye,slot_list_extend→Yg,slot_dict_get→Yw,slot_zip_next→YH,slot_tuple_iterator_next→YW,plainAttrs_dict→Y3,type_dict_setdefault→Zn,entry_extend_loop→ZI,args_tuple_add_2→ZJ,slot_list_index→ZO,entry_tuple_add→ZP,args_dict_get_3→ZQ,slot_tuple_add→ZV,entry_dict_get→ZW,slot_tuple_hash→Z6
open Or renaming inl→VE,inr→Zo
open Bool renaming false_ne_true→VG,false_eq_true→Wy,eq_false_iff→WO,and_eq_true→WY,false_or→Yv,not_true→Zg,eq_iff_iff→Zq,and_false→ZC
open Option.some renaming inj→VL
open PySem.Value renaming ref→VO,none→WI,type→XD
open Sum renaming inl→VR,inr→YI
open PySem.PassesOwn renaming never→VZ
open PyProof.Rows renaming slot_tuple_getitem→V5,callWith_type1→We,boot_tuple→WM,IsTup→Yo
open Option renaming map_eq_some_iff→Wd,map_some→X2,isSome_iff_exists→YV
open PySem.Builtin.SmallTypes renaming nextOf→Wf,ownedTupleIsFree→Wk
open Int renaming toNat_natCast→Wg,emod_nonneg→WK,emod_lt_of_pos→WT,zero_add→Xl,toNat_of_nonneg→Xn
open Array renaming length_toList→Wr,getElem?_eq_getElem→Xs,forIn_toList→Y2,getElem?_eq_none→Y7,getElem?_toList→Zc,getElem?_eq_some_iff→ZD
open PySem.Obj renaming mapSeq→Wv,data_mapFields→XE,isFreed_of_fields→Zr
open PySem.NameKind renaming free→WE,cell→Zu
open PySem.Builtin.Slice renaming slicePlaces→WW,sliceAdjust→Yh,sliceApplied→YY
open PySem.Calls renaming spliced_cons→WX,spliced_nil→Xv,callWith_builtin→YB,evalArgs_plain→ZA
open PySem.Builtin.Tuple renaming tupleExact→W0,tupleHashOf→XA,tupleItemsOf→YX
open Ne renaming symm→W4
open PySem.Value.type renaming inj→W8
open False renaming elim→Xm
open PySem.Builtin.List renaming listExtendWith→Xo,listTooLong→XG,listSameRef→XH,listLengthHint→XX,listItems→XY
open PySem.Heap.SameBut renaming update→Xw
open PySem.AutoSeq1 renaming wpAny_loadPart'→XI
open True renaming intro→XR
open ForInStep renaming yield→X4
open Sum.inl renaming inj→X9
open PySem.Around renaming under_plainId→Yj
namespace HD
open PySem PySem.W PySem.Calls PyProof.Rows
def kq (tb:String->Option XZ) (p:Vu) (w:VI) (m:Nat) (ann:Option Vg):Nat->SharedT->Thread->Option SharedT
 | 0,_,_=>none
 | n+1,s,t=>match through t with
   | true=>some s
   | false=>match stepOk m ann t with
     | false=>none
     | true=>match stepT (denote tb) p w s t with
       | some (s',t')=>kq tb p w m ann n s' t'
       | none=>none
theorem kY {tb:String->Option XZ} {p:Vu} {w:VI} {m:Nat} {ann:Option Vg}:∀ {n:Nat} {s s':SharedT} {t:Thread},kq tb p w m ann n s t=some s'->topRun tb p w m ann n s.abs t=some s'.abs
 | 0,_,_,_,h=>by cases h
 | n+1,s,s',t,h=>by
   unfold kq at h;unfold topRun;cases he:through t with
   | true=>rw [he] at h;cases h;rfl
   | false =>
     rw [he] at h;cases hk:stepOk m ann t with
     | false=>rw [hk] at h;cases h
     | true =>
       rw [hk] at h;cases hs:stepT (denote tb) p w s t with
       | none=>rw [hs] at h;cases h
       | some r =>
         obtain ⟨s2,t2⟩:=r;rw [hs] at h;rw [stepT_spec hs];exact kY h
def t8:List Xq->Nat->BT->BT
 | [],_,t=>t
 | o::l,n,t=>t8 l (n+1) (t.ins n o)
def vz:List Xq->Nat->BT->Bool
 | [],_,_=>true
 | o::l,n,t=>((t.ins n o).get n).isSome && vz l (n+1) (t.ins n o)
theorem mC:∀ (l:List Xq) (n:Nat) (t:BT),vz l n t=true->(t8 l n t).list (n+l.length)=t.list n++l
 | [],n,t,_=>by rw [V7];rfl
 | o::l,n,t,h=>by
   obtain ⟨h1,h2⟩:=Bool.and_eq_true_iff.mp h;have e:=absHeap_ins (life:=default) h1
   have e2:(t.ins n o).list (n+1)=t.list n++[o]:=by
    have:=congrArg (fun x:Wx=>x.objs.toList) e;simpa [absHeap,Heap.push] using this
   have ih:=mC l (n+1) (t.ins n o) h2;rw [e2,V8] at ih;rw [Vo,show n+(l.length+1)=n+1+l.length by omega];exact ih
theorem xk {h:Wx} (ok:vz h.objs.toList 0 .nil=true):absHeap (t8 h.objs.toList 0 .nil) h.objs.size h.life=h:=by
 have e:=mC _ _ _ ok;rw [Nat.zero_add] at e;unfold absHeap;rw [<- Wr,e];rfl
noncomputable abbrev nv (p:Vu) (N:Nat) (w:VI) (os:ZK):Option SharedT :=
 kq treeTable p w 11 (some (.ref 6)) N ⟨t8 (X8 w.params).objs.toList 0 .nil,11,(X8 w.params).life,Array.mk [],boot_drawn,boot_toks,os⟩ (topStub p)
theorem vQ (P:Params):(vz (X8 P).objs.toList 0 .nil,(X8 P).isNs VS,(X8 P).objs.size,(X8 P).nsMap VS "__annotations__")=(true,true,11,some (.ref 6)):=by kernel_rfl
theorem map_some {α β:Type} {o:Option α} {a:α} {f:α->β} {b:β} (h:o=some a) (e:o.map f=some b):f a=b:=by rw [h] at e;exact VL e
abbrev Tr0 (p q:Vu) (loose:List VM) (Xt:Vm->Bool) (N:Nat) (g0:Bool):Prop:=∀ (w:VI) (os:ZK),((nv p N w os).map fun s=>(staticsOk (importedModules p.main.body) (X8 w.params) s.abs.heap && namesBound p s.abs.heap && gensDone s.abs && laidKept (X8 w.params) s.abs.heap,s.abs.heap.bltView,pinSeenD q (drecsOf q) s.abs,plainSeenD q loose s.abs,clsSeenW q loose s.abs,(s.abs.heap.accountedOkI (importedModules p.main.body),s.abs.heap.isNs VS,s.abs.heap.isNs builtinsNs,tablesOk q s.abs.heap,Xt s.abs,(if g0 then s.abs.gens.size == 0 else !leftWithCleanup s.abs.gens))))=some (true,bltViewBooted,pinGoodD (drecsOf q),plainGoodD q loose,clsGoodW q loose,(true,true,true,true,true,true))
abbrev Tr1 (p q:Vu) (N:Nat):Prop:=∀ (w:VI) (os:ZK),((nv p N w os).map fun s=>seen ((recsOf q).map (·.name)) (ownsOf q) [] { s.abs with gens:=#[] })=some (expectedOf q)
abbrev Tr2 (p q:Vu) (loose:List VM) (N:Nat):Prop:=∀ (w:VI) (os:ZK),((nv p N w os).map fun s=>s.abs.heap.keysOk (looseW q loose) ((recsOf q).map (·.name)) ((litsOf q).map (·.1)) ((clssOf q (looseW q loose)).map (·.name)))=some true
abbrev Tr3 (p q:Vu) (N:Nat):Prop:=∀ (w:VI) (os:ZK),((nv p N w os).map fun s=>tabsOk q s.abs)=some true
abbrev Tr4 (p q:Vu) (loose:List VM) (N:Nat):Prop:=∀ (w:VI) (os:ZK),((nv p N w os).map fun s=>plainSeenE q (looseW q loose) s.abs)=some (plainGoodE q (looseW q loose))
abbrev Tr5 (p q:Vu) (N:Nat):Prop:=∀ (w:VI) (os:ZK),((nv p N w os).map fun s=>wideSeen q s.abs)=some (wideGood q)
theorem tF {p q:Vu} {loose:List VM} {Xt:Vm->Bool} {α:Type} {Yf:Vm->α} {Ya:VI->α} {N:Nat} {g0:Bool}
 (e:opening p=plainProg p.main.scope.names) (hN:Nat.ble 600 N=true) (f:∀ s,fenceModules? p s=some s)
 (r0:Tr0 p q loose Xt N g0)
 (r1:Tr1 p q N)
 (r2:Tr2 p q loose N)
 (r3:Tr3 p q N)
 (r4:Tr4 p q loose N)
 (r5:Tr5 p q N)
 (rY:∀ (w:VI) (os:ZK),((nv p N w os).map fun s=>Yf s.abs)=some (Ya w)) :
 LeftO p q loose Xt Yf Ya N g0:=fun w=>by
 obtain ⟨⟨h,gs,d,k,os⟩,e1,e'⟩:=Wd.mp (boot_open e hN f w);obtain ⟨rfl,rfl,rfl,rfl⟩:h=X8 w.params/\gs=Array.mk []/\d=boot_drawn/\k=boot_toks:=by simpa using e'
 have J':=vQ w.params;have z0:=congrArg Prod.fst J';have z1:=congrArg (fun x=>x.2.1) J';have z2:=congrArg (fun x=>x.2.2.1) J';have z3:=congrArg (fun x=>x.2.2.2) J';dsimp only at z0 z1 z2 z3;obtain ⟨s1,Fp,hY⟩:=Wd.mp (rY w os);have q0:=map_some Fp (r0 w os);have q1:=map_some Fp (r1 w os);have q2:=map_some Fp (r2 w os);have q3:=map_some Fp (r3 w os);have q4:=map_some Fp (r4 w os);have q5:=map_some Fp (r5 w os);have rr:=kY Fp
 have K5:SharedT.abs ⟨t8 (X8 w.params).objs.toList 0 .nil,11,(X8 w.params).life,Array.mk [],boot_drawn,boot_toks,os⟩=⟨X8 w.params,Array.mk [],boot_drawn,boot_toks,os⟩:=by
  unfold SharedT.abs;dsimp only;rw [<- z2,xk z0]
 rw [K5] at rr;have a0:=congrArg Prod.fst q0;have a1:=congrArg (fun x=>x.2.1) q0;have a2:=congrArg (fun x=>x.2.2.1) q0;have a3:=congrArg (fun x=>x.2.2.2.1) q0;have a4:=congrArg (fun x=>x.2.2.2.2.1) q0;have b0:=congrArg (fun x=>x.2.2.2.2.2.1) q0;have b1:=congrArg (fun x=>x.2.2.2.2.2.2.1) q0;have b2:=congrArg (fun x=>x.2.2.2.2.2.2.2.1) q0;have b3:=congrArg (fun x=>x.2.2.2.2.2.2.2.2.1) q0;have b4:=congrArg (fun x=>x.2.2.2.2.2.2.2.2.2.1) q0;have b5:=congrArg (fun x=>x.2.2.2.2.2.2.2.2.2.2) q0;dsimp only at a0 a1 a2 a3 a4 b0 b1 b2 b3 b4 b5
 have l2:openSeen q loose (importedModules p.main.body) Xt g0 s1.abs=openGood q loose:=by
  unfold openSeen openGood;rw [q1,a1,q2,b0,b1,b2,b3,b4,b5,q3,a2,q4,a3,q5,a4];rfl
 have t:topFrom treeTable p w N ⟨X8 w.params,Array.mk [],boot_drawn,boot_toks,os⟩=some s1.abs:=by
  unfold topFrom;dsimp only;rw [z1,z2,z3,rr];show (match staticsOk (importedModules p.main.body) (X8 w.params) s1.abs.heap && namesBound p s1.abs.heap && gensDone s1.abs && laidKept (X8 w.params) s1.abs.heap with | true=>_ | false=>_)=_;rw [a0]
 unfold openEnds;rw [e1];show (topFrom treeTable p w N _).map _=_;rw [t];exact congrArg some (Prod.ext l2 hY)
def p0:Params:={ strHash:=fun _=>0,shareClass:=fun _=>0,mergeTok:=fun t=>t,idOf:=fun _=>0,idOfShared:=fun _ _=>0,followText:=fun _=>false,idOfImm:=fun _=>0 }
structure Pc (p:Vu) (N:Nat) (as:List Vd) (vs:VI->List (Option Xq)):Prop where
 out:∀ (w:VI) (os:ZK),((nv p N w os).map fun s=>as.map s.abs.heap.get?)=some (vs w)
theorem Pc.cut {p:Vu} {N:Nat} {as:List Vd} {vs:VI->List (Option Xq)} (n:Nat) (h1:Pc p N (as.take n) fun w=>(vs w).take n) (h2:Pc p N (as.drop n) fun w=>(vs w).drop n):Pc p N as vs:=⟨fun w os=>by
 obtain ⟨s,e,a1⟩:=Wd.mp (h1.out w os);have a2:=map_some e (h2.out w os);rw [e];refine congrArg some ?_;have:=congr (congrArg HAppend.hAppend a1) a2;rw [<- Vs,Zb,Zb] at this;exact this⟩
theorem Pc.k {p:Vu} {N:Nat} {as:List Vd} {K:Params->Frag} {e:∀ P,as=(K P).map (·.1)} (h:Pc p N as fun w=>(K w.params).map fun p=>some p.2):∀ (w:VI) (os:ZK),((nv p N w os).map fun s=>(kHook K as e).obs s.abs)=some ((kHook K as e).val w):=h.out
end HD
section
open PySem PySem.W PyProof.Rows
def LAW.vw:Vu:=PySem.W.view PySem.Challenge.pw_boughbook_k69_sure_states_go [1,2,3,4,6,7,8,9,10,11,12,13,14,15,16,18,19,20,21,22,23,24,25,26,27,28,29,30,31,32,34,35,36,37,38,39,40,41,42,43,44,46,47,48,49,50,51,52,53,54,56,57,59,60,61,63,64,65,66,67,68,69,70,71]
def LAW.xt (s:Vm):Bool:=xlAt LAW.vw [] s && recOk (RowW.records (OpenRow.toRowW (OpenLaw.row PySem.Challenge.rw_boughbook_k69_sure_states_go))) s
set_option maxHeartbeats 0 in
theorem LAW.lk0:HD.Tr0 PySem.Challenge.pw_boughbook_k69_sure_states_go LAW.vw [] LAW.xt 90000 true:=fun _ _=>by kernel_rfl
set_option maxHeartbeats 0 in
theorem LAW.lk1:HD.Tr1 PySem.Challenge.pw_boughbook_k69_sure_states_go LAW.vw 90000:=fun _ _=>by kernel_rfl
set_option maxHeartbeats 0 in
theorem LAW.lk2:HD.Tr2 PySem.Challenge.pw_boughbook_k69_sure_states_go LAW.vw [] 90000:=fun _ _=>by kernel_rfl
set_option maxHeartbeats 0 in
theorem LAW.lk3:HD.Tr3 PySem.Challenge.pw_boughbook_k69_sure_states_go LAW.vw 90000:=fun _ _=>by kernel_rfl
set_option maxHeartbeats 0 in
theorem LAW.lk4:HD.Tr4 PySem.Challenge.pw_boughbook_k69_sure_states_go LAW.vw [] 90000:=fun _ _=>by kernel_rfl
set_option maxHeartbeats 0 in
theorem LAW.lk5:HD.Tr5 PySem.Challenge.pw_boughbook_k69_sure_states_go LAW.vw 90000:=fun _ _=>by kernel_rfl
section
local macro_rules | `(tactic| o_head $_H) => `(tactic| assumption)
set_option maxHeartbeats 0 in
theorem LAW.d0 (h:OpenRow.Holds (OpenLaw.row PySem.Challenge.rw_boughbook_k69_sure_states_go)):OpenRow.Holds (OpenLaw.row PySem.Challenge.rw_boughbook_k69_sure_states_go):=by
 k_head
end
noncomputable def LAW.ks:List Vd:=(LAW.d0.heap_1 HD.p0).map (·.1)
theorem LAW.ke:∀ P,LAW.ks=(LAW.d0.heap_1 P).map (·.1):=fun _=>by kernel_rfl
set_option maxHeartbeats 0 in
theorem LAW.kp:HD.Pc PySem.Challenge.pw_boughbook_k69_sure_states_go 90000 LAW.ks fun w=>(LAW.d0.heap_1 w.params).map fun p=>some p.2:=⟨fun _ _=>by kernel_rfl⟩
end
namespace L2
open PySem PySem.Spec PyProof.Rows
abbrev Key:=Sum Int VM
def gQ:Key->Vg->Bool
 | .inl k,v=>Value.isInt k v
 | .inr x,v=>Value.isStrOf x v
def zf (w:VI):Key->Int
 | .inl k=>hashInt k
 | .inr x=>hashStr w x
theorem aY:∀ {k:Key} {v:Vg},gQ k v=true->(∃ i t,k=VR i/\v=Value.int i t)∨(∃ x t,k=YI x/\v=Value.str x t)
 | .inl i,v,h=>by
   obtain ⟨t,e⟩:=Value.isInt_shape (k:=i) (v:=v) h;exact .inl ⟨i,t,rfl,e⟩
 | .inr x,v,h=>by
   obtain ⟨t,e⟩:=Value.isStrOf_shape (x:=x) (v:=v) h;exact .inr ⟨x,t,rfl,e⟩
theorem sR (i:Int) (t:Tok):gQ (.inl i) (.int i t)=true:=by simp [gQ,Value.isInt]
theorem sK (x:VM) (t:Tok):gQ (.inr x) (.str x t)=true:=by simp [gQ,Value.isStrOf]
theorem xB (a b:Int):decide ((VR a:Key)=VR b)=(a == b):=by
 by_cases e:a=b
 · subst e;simp
 · have h:¬ (VR a:Key)=VR b:=fun q=>e (X9 q);rw [decide_eq_false h];exact (beq_eq_false_iff_ne.mpr e).symm
theorem wY (a b:VM):decide ((YI a:Key)=YI b)=decide (a=b):=by
 by_cases e:a=b
 · subst e;simp
 · have h:¬ (YI a:Key)=YI b:=fun q=>e (Sum.inr.inj q);rw [decide_eq_false h,decide_eq_false e]
theorem xi (a:Int) (b:VM):decide ((VR a:Key)=YI b)=false:=decide_eq_false (fun q=>nomatch q)
theorem xu (a:VM) (b:Int):decide ((YI a:Key)=VR b)=false:=decide_eq_false (fun q=>nomatch q)
def ay (prog:Vu) (w:VI):PySem.KeyKind prog w Key where
 is:=gQ
 hash:=zf w
 inj:=fun v a b ha hb=>by
  rcases aY ha with ⟨i,t,rfl,rfl⟩ | ⟨x,t,rfl,rfl⟩
  · rcases aY hb with ⟨j,u,rfl,e⟩ | ⟨y,u,rfl,e⟩
    · injection e with e1 _;rw [e1]
    · exact nomatch e
  · rcases aY hb with ⟨j,u,rfl,e⟩ | ⟨y,u,rfl,e⟩
    · exact nomatch e
    · injection e with e1 _;rw [e1]
 byValue:=fun k v h=>by
  rcases aY h with ⟨i,t,rfl,rfl⟩ | ⟨x,t,rfl,rfl⟩ <;> rfl
 pyHash:=fun hv h=>by
  rcases aY hv with ⟨i,t,rfl,rfl⟩ | ⟨x,t,rfl,rfl⟩
  · exact wpAny_pyHash_int h
  · exact wpAny_pyHash_str h
 eqBool:=fun hu hv h=>by
  rcases aY hu with ⟨i,t,rfl,rfl⟩ | ⟨x,t,rfl,rfl⟩
  · rcases aY hv with ⟨j,u,rfl,rfl⟩ | ⟨y,u,rfl,rfl⟩
    · rw [xB] at h;exact wpAny_eqBool_int h
    · rw [xi] at h;exact SeqAt.EqAt.int_str i t y u _ _ _ _ h
  · rcases aY hv with ⟨j,u,rfl,rfl⟩ | ⟨y,u,rfl,rfl⟩
    · rw [xu] at h;exact SeqAt.EqAt.str_int x t j u _ _ _ _ h
    · rw [wY] at h;exact wpAny_eqBool_str h
 «strs»:=fun k x t v h=>by
  rcases aY h with ⟨i,u,rfl,e⟩ | ⟨y,u,rfl,e⟩
  · exact nomatch e
  · injection e with e1 _;subst e1;cases v <;> rfl
theorem oX (prog:Vu) (w:VI) (i:Int) (t:Tok):(ay prog w).is (.inl i) (.int i t)=true:=sR i t
theorem oK (prog:Vu) (w:VI) (x:VM) (t:Tok):(ay prog w).is (.inr x) (.str x t)=true:=sK x t
end L2
namespace L2
open PySem PySem.Spec PyProof.Rows
set_option genInjectivity true in
inductive V where
 | non | bl (b:Bool) | int (i:Int) | str (x:VM) | byt (b:Array UInt8) | flt (b:UInt64) | ref (a:Vd) | ty (n:String)
 deriving DecidableEq
def RelV:V->Vg->Prop
 | .non,u=>u=WI
 | .bl b,u=>u=Value.bool b
 | .int i,u=>∃ t,u=Value.int i t
 | .str x,u=>∃ t,u=Value.str x t
 | .byt b,u=>∃ t,u=Value.bytes b t
 | .flt b,u=>∃ t,u=Value.float b t
 | .ref a,u=>u=VO a
 | .ty n,u=>u=XD n
abbrev Vals:List V->List Vg->Prop:=VW RelV
theorem Vals.length {xs:List V} {us:List Vg} (r:Vals xs us):xs.length=us.length:=Vv r
theorem Vals.get:∀ {xs:List V} {us:List Vg} {i:Nat} {x:V},Vals xs us->xs[i]?=some x->∃ u,us[i]?=some u/\RelV x u
 | _,_,_,_,.nil,e=>by simp at e
 | _,_,0,_,.cons r _,e=>by simp at e;subst e;exact ⟨_,rfl,r⟩
 | _,_,i+1,x,.cons _ t,e=>by
   obtain ⟨u,h1,h2⟩:=Vals.get (i:=i) (x:=x) t (by simpa using e);exact ⟨u,by simpa using h1,h2⟩
theorem Vals.set {x:V} {u:Vg} (r:RelV x u):∀ {xs:List V} {us:List Vg} (i:Nat),Vals xs us->Vals (xs.set i x) (us.set i u)
 | _,_,_,.nil=>.nil
 | _,_,0,.cons _ t=>.cons r t
 | _,_,i+1,.cons q t=>.cons q (Vals.set r i t)
theorem Vals.append:∀ {xs ys:List V} {us ws:List Vg},Vals xs us->Vals ys ws->Vals (xs++ys) (us++ws)
 | _,_,_,_,.nil,s=>s
 | _,_,_,_,.cons r t,s=>.cons r (Vals.append t s)
theorem Vals.take:∀ {xs:List V} {us:List Vg} (n:Nat),Vals xs us->Vals (xs.take n) (us.take n)
 | _,_,0,_=>.nil
 | _,_,_+1,.nil=>.nil
 | _,_,n+1,.cons r t=>.cons r (Vals.take n t)
theorem Vals.drop:∀ {xs:List V} {us:List Vg} (n:Nat),Vals xs us->Vals (xs.drop n) (us.drop n)
 | _,_,0,r=>r
 | _,_,_+1,.nil=>.nil
 | _,_,n+1,.cons _ t=>Vals.drop n t
def RelO:Option V->Option Vg->Prop
 | some v,some u=>RelV v u
 | none,none=>True
 | _,_=>False
def KV {κ:Type}:List (κ×V)->List (κ×Vg)->Prop:=VW fun (p:κ×V) (q:κ×Vg)=>p.1=q.1/\RelV p.2 q.2
def kV:Key->V
 | .inl i=>.int i
 | .inr x=>.str x
inductive HO where
 /-- a list -/
 | lst (xs:List V)
 /-- a tuple (never changes) -/
 | tup (xs:List V)
 /-- a dict G1 keys are ints and texts;one G1 keys are tuples of ints and texts (C4 empty one is both) -/
 | dK (f':List (Key×V)) | dT (f':List (List Key×V))
 /-- a set of ints: its members,its size -/
 | set (S:Int->Bool) (n:Nat)
 /-- an instance of C4 class at C,its dict at dx,its attributes -/
 | ins (C dx:Vd) (fs:List (VM×V))
 /-- C4 dict of C4 instance at x -/
 | own (x:Vd)
 /-- C4 dict of an exception -/
 | xd (fs:List (VM×V))
 /-- a bound method,f of x -/
 | met (f x:Vd)
 /-- a range object lo,lo+1,.. below hi -/
 | rng (lo hi:Int)
 /-- a thing QT is known to C4 object (C4 script;a dict while a loop walks it): read,never written while it is so -/
 | frz (o:Xq) (u:HO)
 /-- a code G2 table -/
 | tbl (ps:Array Vg)
 /-- any other thing,by G4 is true of its one object (a def of OP own: QU a S n:=HO.ext fun h=>..) -/
 | ext (φ:Wx->Prop)
abbrev Hp:=Vd->Option HO
def upd (H:Hp) (a:Vd) (o:HO):Hp:=fun b=>if b=a then some o else H b
theorem ab {H:Hp} {a:Vd} {o:HO}:upd H a o a=some o:=by unfold upd;rw [if_pos rfl]
theorem ag {H:Hp} {a b:Vd} {o:HO} (h:b≠a):upd H a o b=H b:=by unfold upd;rw [if_neg h]
theorem ku {H:Hp} {a:Vd} {o u:HO}:upd (upd H a o) a u=upd H a u:=by
 funext b;unfold upd;split <;> rfl
theorem fN {H:Hp} {a b:Vd} {o u:HO} (h:H a=some o) (h':H b=some u) (d:o≠u):a≠b:=by
 intro e;subst e;rw [h] at h';exact d (VL h')
theorem az {H:Hp} {a b:Vd} {o:HO} (h:H a=some o) (h':H b=none):a≠b:=by
 intro e;subst e;rw [h] at h';cases h'
section
variable (P:Vu) (w:VI)
def ObjOk (H:Hp) (h:Wx) (a:Vd):HO->Prop
 | .lst xs=>xs.length<=Vz/\∃ (its:List Vg) (n:Nat),Vals xs its/\h.get? a=some { cls:=.type "list",data:=.seq its.toArray n }
 | .tup xs=>xs.length<=Vz/\∃ (its:List Vg) (n:Nat),Vals xs its/\h.get? a=some { cls:=.type "tuple",data:=.seq its.toArray n }
 | .dK f'=>f'.length<=Vz/\(a == Xc)=false/\∃ vs,KV f' vs/\h.DictOf (ay P w) a vs
 | .dT f'=>f'.length<=Vz/\(a == Xc)=false/\∃ xs:List (List Key×Vd×Vg),
  VW (fun (p:List Key×V) (q:List Key×Vd×Vg)=>p.1=q.1/\H q.2.1=some (.tup (p.1.map kV))/\RelV p.2 q.2.2) f' xs ∧
  ∃ o es ep,h.get? a=some o/\o.ExactDict/\o.data=.dict es ep/\es.toList=xs.map (entryOfKey (tupleKind (ay P w)))/\(xs.map (·.1)).Nodup
 | .set S n=>h.SetOf (intKind P w) a S n
 | .ins C dx fs=>H dx=some (.own a)/\fs.length<=1000/\dx≠a/\h.get? a=some (X1 C dx) ∧
  ∃ mA,h.Ns1 dx mA/\(∀ f,RelO (fs.lookup f) (mA f))/\PySem.Within mA (fs.map (·.1))
 | .own _=>∃ o,h.get? a=some o
 | .xd fs=>∃ mA,h.Ns1 a mA/\∀ f,RelO (fs.lookup f) (mA f)
 | .rng lo hi=>∃ t u v,h.get? a=some { cls:=.type "range",data:=.fields #[.int lo t,.int hi u,.int 1 v] }
 | .frz o u=>h.get? a=some o/\ObjOk H h a u
 | .tbl ps=>h.get? a=some { cls:=.none,data:=.fields ps }
 | .met f x=>h.get? a=some (PySem.W.methodObj (.ref f) (.ref x))
 | .ext φ=>φ h/\(∃ o,h.get? a=some o)/\∀ h1 h2:Wx,φ h1->(∀ o,h1.get? a=some o->h2.get? a=some o)->φ h2
def HOk (H:Hp) (h:Wx):Prop:=∀ a o,H a=some o->ObjOk P w H h a o
end
section
variable {P:Vu} {w:VI} {H H':Hp} {h h':Wx} {a:Vd} {o:HO}
theorem ObjOk.lt (x:ObjOk P w H h a o):a<h.objs.size:=by
 cases o with
 | lst xs=>obtain ⟨_,_,_,_,e⟩:=x;exact Vx e
 | tup xs=>obtain ⟨_,_,_,_,e⟩:=x;exact Vx e
 | dK f'=>obtain ⟨_,_,_,_,o,_,_,e,_⟩:=x;exact Vx e
 | dT f'=>obtain ⟨_,_,_,_,o,_,_,e,_⟩:=x;exact Vx e
 | set S n=>obtain ⟨o,_,_,_,e,_⟩:=x;exact Vx e
 | ins C dx fs=>obtain ⟨_,_,_,e,_⟩:=x;exact Vx e
 | own y=>obtain ⟨_,e⟩:=x;exact Vx e
 | xd fs=>obtain ⟨_,⟨_,_,_,e,_⟩,_⟩:=x;exact Vx e
 | rng lo hi=>obtain ⟨_,_,_,e⟩:=x;exact Vx e
 | frz ob u=>obtain ⟨e,_⟩:=x;exact Vx e
 | tbl ps=>exact Vx (show h.get? a=some _ from x)
 | met f y=>exact Vx (show h.get? a=some _ from x)
 | ext φ=>obtain ⟨_,⟨_,e⟩,_⟩:=x;exact Vx e
theorem VW.mapP {α β:Type} {F G:α->β->Prop}:∀ {G5:List α} {G7:List β},VW F G5 G7->(∀ a b,F a b->G a b)->VW G G5 G7
 | _,_,.nil,_=>.nil
 | _,_,.cons r t,f=>.cons (f _ _ r) (VW.mapP t f)
theorem ObjOk.stay (x:ObjOk P w H h a o) (k:∀ b u,(b=a∨H b=some (.own a))->h.get? b=some u->h'.get? b=some u)
 (ho:∀ b,H b=some (.own a)->H' b=some (.own a)) (ht:∀ b xs,H b=some (.tup xs)->H' b=some (.tup xs)):ObjOk P w H' h' a o:=by
 induction o with
 | lst xs=>obtain ⟨z,its,n,r,e⟩:=x;exact ⟨z,its,n,r,k _ _ (.inl rfl) e⟩
 | tup xs=>obtain ⟨z,its,n,r,e⟩:=x;exact ⟨z,its,n,r,k _ _ (.inl rfl) e⟩
 | dK f'=>obtain ⟨z,y,vs,r,ob,es,ep,e,c⟩:=x;exact ⟨z,y,vs,r,ob,es,ep,k _ _ (.inl rfl) e,c⟩
 | dT f' =>
   obtain ⟨z,y,xs,r,ob,es,ep,e,c⟩:=x;exact ⟨z,y,xs,VW.mapP r fun p q z=>⟨z.1,ht _ _ z.2.1,z.2.2⟩,ob,es,ep,k _ _ (.inl rfl) e,c⟩
 | set S n=>obtain ⟨ob,es,ep,t,e,c⟩:=x;exact ⟨ob,es,ep,t,k _ _ (.inl rfl) e,c⟩
 | ins C dx fs =>
   obtain ⟨d,z,ne,e,mA,⟨od,es,ep,e2,c⟩,r⟩:=x;exact ⟨ho _ d,z,ne,k _ _ (.inl rfl) e,mA,⟨od,es,ep,k _ _ (.inr d) e2,c⟩,r⟩
 | own y=>obtain ⟨ob,e⟩:=x;exact ⟨ob,k _ _ (.inl rfl) e⟩
 | xd fs=>obtain ⟨mA,⟨od,es,ep,e,c⟩,r⟩:=x;exact ⟨mA,⟨od,es,ep,k _ _ (.inl rfl) e,c⟩,r⟩
 | rng lo hi=>obtain ⟨t,u,v,e⟩:=x;exact ⟨t,u,v,k _ _ (.inl rfl) e⟩
 | frz ob u ih=>obtain ⟨e,q⟩:=x;exact ⟨k _ _ (.inl rfl) e,ih q⟩
 | tbl ps =>
   have e:h.get? a=some { cls:=.none,data:=.fields ps }:=x;show h'.get? a=some { cls:=.none,data:=.fields ps };exact k a _ (.inl rfl) e
 | met f y =>
   have e:h.get? a=some (PySem.W.methodObj (.ref f) (.ref y)):=x;show h'.get? a=some (PySem.W.methodObj (.ref f) (.ref y));exact k a _ (.inl rfl) e
 | ext φ=>obtain ⟨p,⟨o,e⟩,st⟩:=x;exact ⟨st _ _ p fun o q=>k _ _ (.inl rfl) q,⟨o,k _ _ (.inl rfl) e⟩,st⟩
theorem HOk.lt (x:HOk P w H h) (e:H a=some o):a<h.objs.size:=(x a o e).lt
theorem HOk.fresh (x:HOk P w H h) (e:h.objs.size<=a):H a=none:=by
 cases q:H a with
 | none=>rfl
 | some u=>exact absurd (Wb (x.lt q) e) (WN _)
theorem HOk.kept (x:HOk P w H h) (k:∀ b u,h.get? b=some u->h'.get? b=some u):HOk P w H h':=fun a o e =>
 (x a o e).stay (fun b u _ q=>k b u q) (fun _ q=>q) fun _ _ q=>q
theorem HOk.laid (x:HOk P w H h) (k:∀ b u,h.get? b=some u->h'.get? b=some u) (hp:h.objs.size<=a) (new:ObjOk P w (upd H a o) h' a o):HOk P w (upd H a o) h':=fun b u e=>by
 have hn:=x.fresh hp;by_cases hb:b=a
 · subst hb;rw [ab] at e;cases e;exact new
 · rw [ag hb] at e;exact (x b u e).stay (fun c v _ q=>k c v q) (fun c q=>by rw [ag (az q hn)];exact q) fun c xs q=>by rw [ag (az q hn)];exact q
end
def Rd (H:Hp) (a:Vd) (u:HO):Prop:=H a=some u∨∃ o,H a=some (.frz o u)
theorem Rd.ok {P:Vu} {w:VI} {H:Hp} {h:Wx} {a:Vd} {u:HO} (r:Rd H a u) (x:HOk P w H h):ObjOk P w H h a u:=by
 rcases r with r | ⟨o,r⟩
 · exact x a u r
 · obtain ⟨_,q⟩:=x a _ r;exact q
def Mut:Option HO->Prop
 | some (.lst _)=>True
 | some (.dK _)=>True
 | some (.dT _)=>True
 | some (.set _ _)=>True
 | some (.ins _ _ _)=>True
 | some (.ext _)=>True
 | _=>False
section
variable {P:Vu} {w:VI} {H:Hp} {h h':Wx} {x e:Vd} {o':HO}
theorem HOk.write (ok:HOk P w H h) (mu:Mut (H x)) (he:e=x∨H e=some (.own x)) (k:∀ b u,b≠e->h.get? b=some u->h'.get? b=some u) (Gs:∃ u,h'.get? e=some u)
 (new:ObjOk P w (upd H x o') h' x o'):HOk P w (upd H x o') h':=fun b u q=>by
 have G9:∀ c y,H c=some (.own y)->c≠x:=fun c y r z=>by subst z;rw [r] at mu;exact mu
 have K6:∀ c xs,H c=some (.tup xs)->c≠x:=fun c xs r z=>by subst z;rw [r] at mu;exact mu
 by_cases hb:b=x
 · subst hb;rw [ab] at q;cases q;exact new
 · rw [ag hb] at q;by_cases CB:b=e
   · have q':H b=some (.own x):=by
      rcases he with z | z
      · exact absurd (CB.trans z) hb
      · rw [CB];exact z
     rw [q] at q';cases q';obtain ⟨v,hv⟩:=Gs;exact ⟨v,by rw [CB];exact hv⟩
   · refine (ok b u q).stay (fun c v hc r=>k c v ?_ r) (fun c r=>by rw [ag (G9 c b r)];exact r) fun c xs r=>by rw [ag (K6 c xs r)];exact r
     rcases hc with rfl | hc
     · exact CB
     · rintro rfl;rcases he with z | z
       · exact G9 c b hc z
       · rw [hc] at z;cases z;exact hb rfl
end
structure Un (fs ex:List Vd) (H H':Hp) (h h':Wx):Prop where
 keep:∀ b o,h.get? b=some o->H b=none->b∉fs->b∉ex->h'.get? b=some o
 slot:∀ b o,h.get? b=some o->H b=none->b∈fs->b∉ex->∃ sl,h'.get? b=some { o with slots:=sl }
 free:∀ b o,h.get? b=some o->H b=none->b∉ex->H' b=none
 there:∀ b o,h.get? b=some o->b∉ex->∃ o',h'.get? b=some o'
 tups:∀ b xs,H b=some (.tup xs)->H' b=some (.tup xs)
 frzs:∀ b o u,H b=some (.frz o u)->H' b=some (.frz o u)
 tbls:∀ b ps,H b=some (.tbl ps)->∃ more,H' b=some (.tbl (ps++more))
section
variable {fs Gu ex Ka:List Vd} {H H1 H2:Hp} {h h1 h2 h':Wx} {a x e:Vd} {o:HO}
theorem Un.any (u:Un fs ex H H1 h h1) {b:Vd} {ob:Xq} (q:h.get? b=some ob) (n:H b=none) (hx:b∉ex):∃ sl,h1.get? b=some { ob with slots:=sl }:=by
 by_cases hb:b∈fs
 · exact u.slot b ob q n hb hx
 · exact ⟨ob.slots,u.keep b ob q n hb hx⟩
theorem Un.kept (k:∀ b u,h.get? b=some u->h'.get? b=some u):Un fs ex H H h h' :=
 ⟨fun b ob q _ _ _=>k b ob q,fun b ob q _ _ _=>⟨ob.slots,k b ob q⟩,fun _ _ _ n _=>n,fun b ob q _=>⟨ob,k b ob q⟩,fun _ _ q=>q,fun _ _ _ q=>q,fun _ ps q=>⟨#[],by rw [q];simp⟩⟩
theorem Un.refl:Un fs ex H H h h:=Un.kept fun _ _ q=>q
theorem Un.laid (k:∀ b u,h.get? b=some u->h'.get? b=some u) (hp:h.objs.size<=a) (hn:H a=none):Un fs ex H (upd H a o) h h' where
 keep:=fun b u q _ _ _=>k b u q
 slot:=fun b u q _ _ _=>⟨u.slots,k b u q⟩
 free:=fun b u q n _=>by rw [ag (VU (Wb (Vx q) hp))];exact n
 there:=fun b u q _=>⟨u,k b u q⟩
 tups:=fun b xs q=>by rw [ag (az q hn)];exact q
 frzs:=fun b u xs q=>by rw [ag (az q hn)];exact q
 tbls:=fun b ps q=>⟨#[],by rw [ag (az q hn),q];simp⟩
theorem Un.write (mu:Mut (H x)) (he:e=x∨H e=some (.own x)) (k:∀ b u,b≠e->h.get? b=some u->h'.get? b=some u) (Gs:∃ u,h'.get? e=some u):Un fs ex H (upd H x o) h h':=by
 have hx:∀ b,H b=none->b≠x:=fun b n z=>by subst z;rw [n] at mu;exact mu
 have hb:∀ b,H b=none->b≠e:=fun b n z=>by
  subst z;rcases he with r | r
  · exact hx b n r
  · rw [n] at r;cases r
 have hm:∀ b u,H b=some u->¬ Mut (some u)->b≠x:=fun b u q nm z=>by subst z;rw [q] at mu;exact nm mu
 refine ⟨fun b u q n _ _=>k b u (hb b n) q,fun b u q n _ _=>⟨u.slots,k b u (hb b n) q⟩,fun b u q n _=>by rw [ag (hx b n)];exact n,fun b u q _=>?_,
  fun b xs q=>by rw [ag (hm b _ q fun z=>z)];exact q,fun b u xs q=>by rw [ag (hm b _ q fun z=>z)];exact q,fun b ps q=>⟨#[],by rw [ag (hm b _ q fun z=>z),q];simp⟩⟩
 by_cases CB:b=e
 · subst CB;exact Gs
 · exact ⟨u,k b u CB q⟩
end
def trk (h:Wx) (H:Hp):List Vd:=(V9 h.objs.size).filter fun a=>(H a).isSome
def mm (h:Wx) (H:Hp):Wx:=PySem.W.hideAll h (trk h H)
theorem sP (h:Wx) (H:Hp):(mm h H).objs.size=h.objs.size:=PySem.W.hideAll_size _ _
theorem ub {h:Wx} {H:Hp} {b:Vd} {o:Xq} (e:h.get? b=some o) (n:H b=none):(mm h H).get? b=some o :=
 PySem.W.hideAll_get _ e fun hm=>by
  have q:(H b).isSome=true:=(WV.mp hm).2;rw [n] at q;simp at q
theorem vX {h:Wx} {H:Hp} {b:Vd} {o:Xq} (e:(mm h H).get? b=some o):h.get? b=some o/\H b=none:=by
 have e':h.get? b=some o:=PySem.W.of_hideAll (trk h H) e;refine ⟨e',?_⟩;cases q:H b with
 | none=>rfl
 | some x =>
   have hm:b∈trk h H:=WV.mpr ⟨XC.mpr (Vx e'),by simp [q]⟩;have z:(mm h H).get? b=none:=PySem.W.hideAll_none (trk h H) hm;rw [z] at e;cases e
end L2
namespace L2
open PySem PySem.Spec PyProof.Rows
structure Mod (K:Vc) (mg:VM->Option Vg) (base:Wx):Prop where
 kin:K.In base
 glob:base.Ns VS mg
 blt:∃ mb,base.Ns builtinsNs mb/\∀ x:VM,x≠"__name__"->mb x=bootBuiltins x
 nolimit:base.NoLimit
set_option genInjectivity true in
structure Cx where
 prog:Vu
 w:VI
 K:Vc
 mg:VM->Option Vg
 base:Wx
 A:V2
 N:List VM
 s₀:Vm
 H₀:Hp
 env:Env
 outer:List Env
 stack:List Env
 ex:List Vd
 fn:VM->Bool
 calm:Bool
 pn:List (Vd×Xq)
 xe:Vg->Vm->Prop
def frs (l:List Env):List Vd:=l.filterMap (·.frame)
abbrev Cx.fs (X:Cx):List Vd:=frs X.outer
def Vis (sc:YN) (x:VM):Prop:=sc.names.lookup x=some .local∨sc.names.lookup x=some .cell∨sc.names.lookup x=some .free
def Loc (sc:YN) (x:VM):Prop:=sc.names.lookup x=some .local∨sc.names.lookup x=some .cell
def Look (env:Env) (h:Wx) (m:VM->Option Vg) (x:VM) (u:Vg):Prop :=
 (env.kindOf x=some .local/\m x=some u)∨((env.kindOf x=some .cell∨env.kindOf x=some .free)/\∃ c,env.cells.lookup x=some c/\h.IsCell c (some u))
structure Cx.Ok (X:Cx):Prop where
 mod:Mod X.K X.mg X.base
 kind:X.env.scope.kind=.function
 glob:X.env.globals=VS
 blt:X.env.builtins=builtinsNs
 above:X.s₀.heap.objs.size<=X.env.locals
 inj:∀ x y c,X.env.cells.lookup x=some c->X.env.cells.lookup y=some c->x=y
 has:∀ x,(X.env.kindOf x=some .cell∨X.env.kindOf x=some .free)->∃ c,X.env.cells.lookup x=some c
 cab:∀ x c,X.fn x=true->X.env.cells.lookup x=some c->X.s₀.heap.objs.size<=c
 hd:X.calm=true->X.A.handled=none
 frames:X.A.frames=some X.stack
 stk:X.stack=X.outer∨(X.stack=X.env::X.outer/\X.env.frame=some X.env.locals)
 exf:∀ b∈X.ex,b≠X.env.locals/\∀ x c,X.env.cells.lookup x=some c->c≠b
 bs:∀ b o,X.base.get? b=some o->X.s₀.heap.get? b=some o/\X.H₀ b=none
 bsz:X.base.objs.size<=X.s₀.heap.objs.size
 noex:∀ b o,X.base.get? b=some o->b∉X.ex
 exfs:∀ b∈X.ex,b∉X.fs
 funs:X.s₀.heap.FunFrames X.base X.outer
 frf:∀ b∈X.fs,X.H₀ b=none
structure Inv (X:Cx) (pins:List (Vd×Xq)) (σ:List (Option V)) (H:Hp) (s:Vm):Prop where
 ok:X.Ok
 os:s.os=X.s₀.os
 bare:AllBare s.gens
 base:Un X.fs X.ex X.H₀ H X.s₀.heap s.heap
 loc:∃ m,s.heap.Ns X.env.locals m/\∀ (i:Nat) (x:VM) (v:V),X.N[i]?=some x->σ[i]?=some (some v)->Vis X.env.scope x->∃ u,RelV v u/\Look X.env s.heap m x u
 cell:∀ x c,X.env.cells.lookup x=some c->∃ v,s.heap.IsCell c v
 free:H X.env.locals=none
 freeC:∀ x c,X.env.cells.lookup x=some c->H c=none
 pin:∀ p∈X.pn++pins,s.heap.get? p.1=some p.2/\H p.1=none/\p.1≠X.env.locals/\p.1∉X.fs/\∀ v,p.2.data≠.cell v
 hok:HOk X.prog X.w H s.heap
 len:σ.length=X.N.length
section
variable {X:Cx} {pins:List (Vd×Xq)} {σ:List (Option V)} {H H':Hp} {s:Vm} {h':Wx}
theorem Cx.Ok.nofr (ok:X.Ok) {b:Vd} {o:Xq} (e:X.base.get? b=some o):b∉X.fs:=fun hb=>by
 have:=(ok.funs.mem hb).1;rw [e] at this;cases this
theorem Inv.bs (I:Inv X pins σ H s):∀ b o,X.base.get? b=some o->s.heap.get? b=some o/\H b=none:=fun b o e =>
 ⟨I.base.keep b o (I.ok.bs b o e).1 (I.ok.bs b o e).2 (I.ok.nofr e) (I.ok.noex b o e),I.base.free b o (I.ok.bs b o e).1 (I.ok.bs b o e).2 (I.ok.noex b o e)⟩
theorem Inv.bk (I:Inv X pins σ H s):∀ b o,X.base.get? b=some o->s.heap.get? b=some o:=fun b o e=>(I.bs b o e).1
theorem Inv.mod (I:Inv X pins σ H s):Mod X.K X.mg X.base:=I.ok.mod
theorem Inv.kIn (I:Inv X pins σ H s):X.K.In s.heap:=I.ok.mod.kin.keeps I.bk
theorem Inv.lt (I:Inv X pins σ H s):X.env.locals<s.heap.objs.size:=let ⟨_,hn,_⟩:=I.loc;hn.lt
theorem Inv.sz (I:Inv X pins σ H s):X.s₀.heap.objs.size<=s.heap.objs.size:=WZ I.ok.above (Yb I.lt)
theorem Inv.nofs (I:Inv X pins σ H s) {a:Vd} (h:s.heap.objs.size<=a):a∉X.fs:=fun hb=>by
 obtain ⟨_,o,ho,_⟩:=I.ok.funs.mem hb;exact absurd (Wb (Vx ho) (WZ I.sz h)) (WN _)
theorem Inv.cne (I:Inv X pins σ H s):∀ x c,X.env.cells.lookup x=some c->c≠X.env.locals:=fun x c e z=>by
 obtain ⟨v,o,ho,hd⟩:=I.cell x c e;obtain ⟨m,⟨o',es,ep,Bd,AR,_⟩,_⟩:=I.loc;rw [z,Bd] at ho;cases ho;rw [AR] at hd;cases hd
theorem Inv.funs (I:Inv X pins σ H s):s.heap.FunFrames X.base X.outer:=by
 have all:∀ (l:List Env),(∀ b∈frs l,b∈X.fs)->X.s₀.heap.FunFrames X.base l->s.heap.FunFrames X.base l:=by
  intro l;induction l with
  | nil=>intro _ _;trivial
  | cons env r ih =>
    intro hs hl;obtain ⟨hk,⟨L,o,hf,hn,ho,hd⟩,hr⟩:=hl;have hL:L∈X.fs:=hs L (by unfold frs;rw [YQ,hf];exact VC);obtain ⟨sl,e⟩:=I.base.slot L o ho (I.ok.frf L hL) hL fun z=>I.ok.exfs L z hL;exact ⟨hk,⟨L,_,hf,hn,e,hd⟩,ih (fun b hb=>hs b (by unfold frs;rw [YQ,hf];exact VB _ hb)) hr⟩
 exact all X.outer (fun _ hb=>hb) I.ok.funs
theorem Inv.stack (I:Inv X pins σ H s):s.heap.FunFrames X.base X.stack:=by
 rcases I.ok.stk with e | ⟨e,hf⟩
 · rw [e];exact I.funs
 · rw [e];obtain ⟨m,hn,_⟩:=I.loc;refine .cons (by rw [I.ok.kind];decide) hf hn ?_ I.funs;exact Heap.get?_none_of_le (WZ I.ok.bsz I.ok.above)
theorem Inv.stkSub (I:Inv X pins σ H s):∀ b∈frs X.stack,b∈X.env.locals::X.fs:=fun b hb=>by
 rcases I.ok.stk with e | ⟨e,hf⟩
 · rw [e] at hb;exact VB _ hb
 · rw [e] at hb;unfold frs at hb;rw [YQ,hf] at hb;exact hb
theorem Inv.stkFree (I:Inv X pins σ H s):∀ b∈frs X.stack,H b=none:=fun b hb=>by
 rcases VA.mp (I.stkSub b hb) with e | hb
 · rw [e];exact I.free
 · obtain ⟨_,o,ho,_⟩:=I.ok.funs.mem hb;exact I.base.free b o ho (I.ok.frf b hb) fun z=>I.ok.exfs b z hb
theorem Inv.step {g':Array GenState} {t':Nat} {d':Drawn} {ch:List Vd} (I:Inv X pins σ H s)
 (DS:∀ b∈ch,(b∈X.ex∨X.s₀.heap.objs.size<=b)/\b≠X.env.locals/\(∀ x c,X.env.cells.lookup x=some c->c≠b)/\∀ p∈X.pn++pins,p.1≠b)
 (keep:∀ b o,b≠X.env.locals->b∉X.fs->b∉ch->s.heap.get? b=some o->H b=none->h'.get? b=some o)
 (slot:∀ b o,b≠X.env.locals->b∈X.fs->b∉ch->s.heap.get? b=some o->H b=none->∃ sl,h'.get? b=some { o with slots:=sl }) (free:∀ b o,b∉ch->s.heap.get? b=some o->H b=none->H' b=none)
 (there:∀ b o,b∉ch->s.heap.get? b=some o->∃ o',h'.get? b=some o')
 (tups:∀ b xs,H b=some (.tup xs)->H' b=some (.tup xs)) (frzs:∀ b o u,H b=some (.frz o u)->H' b=some (.frz o u)) (tbls:∀ b ps,H b=some (.tbl ps)->∃ more,H' b=some (.tbl (ps++more)))
 (ns:∀ m,s.heap.Ns X.env.locals m->h'.Ns X.env.locals m) (hok:HOk X.prog X.w H' h') (hg:AllBare g') :
 Inv X pins σ H' { s with heap:=h',gens:=g',drawn:=d',toks:=t' }:=by
 have OQ:∀ b o,X.s₀.heap.get? b=some o->b≠X.env.locals:=fun b o e=>VU (Wb (Vx e) I.ok.above)
 have Kb:∀ b o,X.s₀.heap.get? b=some o->b∉X.ex->b∉ch:=fun b o e hx hb=>by
  rcases (DS b hb).1 with z | z
  · exact hx z
  · exact absurd (Wb (Vx e) z) (WN _)
 have cellK:∀ x c,X.env.cells.lookup x=some c->∀ v,s.heap.IsCell c v->h'.IsCell c v:=fun x c e v ⟨o,ho,hd⟩=>by
  have Ha:c∉ch:=fun z=>(DS c z).2.2.1 x c e rfl;by_cases hc:c∈X.fs
  · obtain ⟨sl,q⟩:=slot c o (I.cne x c e) hc Ha ho (I.freeC x c e);exact ⟨_,q,hd⟩
  · exact ⟨o,keep c o (I.cne x c e) hc Ha ho (I.freeC x c e),hd⟩
 refine ⟨I.ok,I.os,hg,⟨fun b o e n hb hx=>?_,fun b o e n hb hx=>?_,fun b o e n hx=>?_,fun b o e hx=>?_,fun b xs e=>tups b xs (I.base.tups b xs e),fun b o xs e=>frzs b o xs (I.base.frzs b o xs e),fun b ps e=>?_⟩,?_,fun x c e=>?_,?_,fun x c e=>?_,fun p hp=>?_,hok,I.len⟩
 · exact keep b o (OQ b o e) hb (Kb b o e hx) (I.base.keep b o e n hb hx) (I.base.free b o e n hx)
 · obtain ⟨sl,e1⟩:=I.base.slot b o e n hb hx;obtain ⟨QV,e2⟩:=slot b _ (OQ b o e) hb (Kb b o e hx) e1 (I.base.free b o e n hx);exact ⟨QV,e2⟩
 · obtain ⟨o',e1⟩:=I.base.there b o e hx;exact free b o' (Kb b o e hx) e1 (I.base.free b o e n hx)
 · obtain ⟨o',e1⟩:=I.base.there b o e hx;exact there b o' (Kb b o e hx) e1
 · obtain ⟨m1,e1⟩:=I.base.tbls b ps e;obtain ⟨m2,e2⟩:=tbls b _ e1;exact ⟨m1++m2,by rw [e2,Array.append_assoc]⟩
 · obtain ⟨m,hn,hl⟩:=I.loc;refine ⟨m,ns m hn,fun i x v e1 e2 e3=>?_⟩;obtain ⟨u,r,l⟩:=hl i x v e1 e2 e3;refine ⟨u,r,?_⟩;rcases l with l | ⟨k,c,e,z⟩
   · exact .inl l
   · exact .inr ⟨k,c,e,cellK x c e _ z⟩
 · obtain ⟨v,z⟩:=I.cell x c e;exact ⟨v,cellK x c e v z⟩
 · obtain ⟨m,⟨o,_,_,ho,_⟩,_⟩:=I.loc;exact free _ o (fun z=>(DS _ z).2.1 rfl) ho I.free
 · obtain ⟨v,o,ho,hd⟩:=I.cell x c e;exact free c o (fun z=>(DS c z).2.2.1 x c e rfl) ho (I.freeC x c e)
 · obtain ⟨e,n,ne,nf,d⟩:=I.pin p hp;have Ha:p.1∉ch:=fun z=>(DS p.1 z).2.2.2 p hp rfl;exact ⟨keep p.1 p.2 ne nf Ha e n,free p.1 p.2 Ha e n,ne,nf,d⟩
theorem Inv.un {t':Nat} (I:Inv X pins σ H s) (u:Un X.fs [] H H' s.heap h') (hok:HOk X.prog X.w H' h'):Inv X pins σ H' { s with heap:=h',toks:=t' }:=by
 obtain ⟨m,⟨o,es,ep,ho,r⟩,_⟩:=id I.loc;obtain ⟨sl,hL⟩:=u.any ho I.free (by simp)
 exact I.step (g':=s.gens) (d':=s.drawn) (ch:=[]) (fun _ z=>nomatch z) (fun b o _ hb _ e n=>u.keep b o e n hb (by simp)) (fun b o _ hb _ e n=>u.slot b o e n hb (by simp)) (fun b o _ e n=>u.free b o e n (by simp)) (fun b o _ e=>u.there b o e (by simp)) u.tups u.frzs u.tbls (fun m' hm=>by
  obtain ⟨o',K7,K8,Bd,r'⟩:=hm;rw [ho] at Bd;cases Bd;exact ⟨_,K7,K8,hL,r'⟩) hok I.bare
theorem Inv.call {g':Array GenState} {t':Nat} {d':Drawn} {ch:List Vd} (I:Inv X pins σ H s) (u:Un (frs X.stack) ch H H' s.heap h') (hok:HOk X.prog X.w H' h') (hg:AllBare g')
 (DS:∀ b∈ch,(b∈X.ex∨X.s₀.heap.objs.size<=b)/\b≠X.env.locals/\(∀ x c,X.env.cells.lookup x=some c->c≠b)/\∀ p∈X.pn++pins,p.1≠b) :
 Inv X pins σ H' { s with heap:=h',gens:=g',drawn:=d',toks:=t' }:=by
 obtain ⟨m,⟨o,es,ep,ho,r⟩,_⟩:=id I.loc;obtain ⟨sl,hL⟩:=u.any ho I.free fun z=>(DS _ z).2.1 rfl
 exact I.step (ch:=ch) DS (fun b o hL hb hc e n=>u.keep b o e n (fun z=>(VA.mp (I.stkSub b z)).elim hL hb) hc) (fun b o _ _ hc e n=>u.any e n hc) (fun b o hc e n=>u.free b o e n hc) (fun b o hc e=>u.there b o e hc) u.tups u.frzs u.tbls (fun m' hm=>by
  obtain ⟨o',K7,K8,Bd,r'⟩:=hm;rw [ho] at Bd;cases Bd;exact ⟨_,K7,K8,hL,r'⟩) hok hg
theorem Inv.turned {t':Nat} {it:Vd} (I:Inv X pins σ H s) (k:∀ b o,b≠it->s.heap.get? b=some o->h'.get? b=some o) (hn:H it=none) (hL:it≠X.env.locals)
 (h1:it∈X.ex∨X.s₀.heap.objs.size<=it) (h2:∀ x c,X.env.cells.lookup x=some c->c≠it) (h3:∀ p∈X.pn++pins,p.1≠it):Inv X pins σ H { s with heap:=h',toks:=t' }:=by
 have Hf:∀ b u,H b=some u->b≠it:=fun b u e z=>by rw [z,hn] at e;cases e
 refine I.step (g':=s.gens) (d':=s.drawn) (ch:=[it]) (fun b hb=>?_) (fun b o _ _ hc e _=>k b o (fun z=>hc (by simp [z])) e) (fun b o _ _ hc e _=>⟨o.slots,k b o (fun z=>hc (by simp [z])) e⟩) (fun _ _ _ _ n=>n)
  (fun b o hc e=>⟨o,k b o (fun z=>hc (by simp [z])) e⟩) (fun _ _ e=>e) (fun _ _ _ e=>e) (fun b ps e=>⟨#[],by rw [e];simp⟩) (fun m hm=>?_) (fun b u e=>?_) I.bare
 · have e:b=it:=by simpa using hb
   subst e;exact ⟨h1,hL,h2,h3⟩
 · obtain ⟨o,es,ep,ho,r⟩:=hm;exact ⟨o,es,ep,k _ o (W4 hL) ho,r⟩
 · refine (I.hok b u e).stay (fun c v hc q=>k c v ?_ q) (fun _ q=>q) fun _ _ q=>q;rcases hc with z | z
   · rw [z];exact Hf b u e
   · exact Hf c _ z
theorem Inv.tok (I:Inv X pins σ H s) (t:Nat):Inv X pins σ H { s with toks:=t }:=I.un (h':=s.heap) (t':=t) Un.refl I.hok
theorem Inv.kept {t':Nat} (I:Inv X pins σ H s) (k:∀ b u,s.heap.get? b=some u->h'.get? b=some u):Inv X pins σ H { s with heap:=h',toks:=t' }:=I.un (Un.kept k) (I.hok.kept k)
theorem Inv.laid {a:Vd} {o:HO} {t':Nat} (I:Inv X pins σ H s) (k:∀ b u,s.heap.get? b=some u->h'.get? b=some u) (hp:s.heap.objs.size<=a) (new:ObjOk X.prog X.w (upd H a o) h' a o) :
 Inv X pins σ (upd H a o) { s with heap:=h',toks:=t' }:=I.un (Un.laid k hp (I.hok.fresh hp)) (I.hok.laid k hp new)
theorem Inv.write {x e:Vd} {o:HO} {t':Nat} (I:Inv X pins σ H s) (mu:Mut (H x)) (he:e=x∨H e=some (.own x)) (k:∀ b u,b≠e->s.heap.get? b=some u->h'.get? b=some u) (Gs:∃ u,h'.get? e=some u)
 (new:ObjOk X.prog X.w (upd H x o) h' x o):Inv X pins σ (upd H x o) { s with heap:=h',toks:=t' }:=I.un (Un.write mu he k Gs) (I.hok.write mu he k Gs new)
theorem Inv.weak {zu:List (Option V)} (I:Inv X pins σ H s) (hl:zu.length=σ.length) (w:∀ (i:Nat) v,zu[i]?=some (some v)->σ[i]?=some (some v)):Inv X pins zu H s :=
 ⟨I.ok,I.os,I.bare,I.base,let ⟨m,hn,K9⟩:=I.loc;⟨m,hn,fun i x v e1 e2 e3=>K9 i x v e1 (w i v e2) e3⟩,I.cell,I.free,I.freeC,I.pin,I.hok,hl.trans I.len⟩
theorem Inv.pins_of {EK:List (Vd×Xq)} (I:Inv X pins σ H s) (h:∀ p∈EK,s.heap.get? p.1=some p.2/\H p.1=none/\p.1≠X.env.locals/\p.1∉X.fs/\∀ v,p.2.data≠.cell v):Inv X EK σ H s :=
 ⟨I.ok,I.os,I.bare,I.base,I.loc,I.cell,I.free,I.freeC,fun p hp=>(VX.mp hp).elim (fun z=>I.pin p (V6 _ z)) (h p),I.hok,I.len⟩
theorem o8 {N:List VM} (hN:N.Nodup) {i j:Nat} {x:VM} (a:N[i]?=some x) (b:N[j]?=some x):i=j:=by
 obtain ⟨h1,e1⟩:=Vn.mp a;obtain ⟨h2,e2⟩:=Vn.mp b;exact (List.getElem_inj hN).mp (e1.trans e2.symm)
theorem mH {M:Model} {A:V2} {E:Vg->Vm->Prop} {i:Nat} {x:VM} {v:V} {u:Vg} {Q:Unit->Vm->Prop} (I:Inv X pins σ H s) (hN:X.N.Nodup) (hi:X.N[i]?=some x) (hx:Loc X.env.scope x) (r:RelV v u)
 (h:∀ s',Inv X pins (σ.set i (some v)) H s'->(∃ a,W3 a s.heap s'.heap/\(a=X.env.locals∨X.env.cells.lookup x=some a))->Q () s') (hf:X.fn x=true∨X.env.scope.names.lookup x=some .local:=by first | exact .inl rfl | exact .inr rfl | assumption):Vw M A (storeName X.env x u) Q E s:=by
 obtain ⟨m,hn,hl⟩:=id I.loc;have K':(X.env.scope.kind == .class || (X.env.scope.kind == .module && X.env.locals != X.env.globals))=false:=by rw [I.ok.kind];rfl
 have Hh:i<σ.length:=by rw [I.len];exact (Vn.mp hi).1
 have cne:=I.cne
 have tracked:∀ {a:Vd} {h':Wx},(∃ o,s.heap.get? a=some o/\H a=none)->W3 a s.heap h'->HOk X.prog X.w H h':=fun {a h'} ha hs b ob e=>by
  obtain ⟨_,_,EL⟩:=ha;refine (I.hok b ob e).stay (fun c w' hc q=>(hs.2 c ?_).trans q) (fun _ q=>q) fun _ _ q=>q;rintro rfl;rcases hc with rfl | hc
  · rw [EL] at e;cases e
  · rw [EL] at hc;cases hc
 rcases hx with hk | hk
 · refine wpAny_storeName_local hk hn (fun h' QW hs=>?_) K';obtain ⟨oL,_,_,QX,_⟩:=id hn;refine h _ ⟨I.ok,I.os,I.bare,⟨fun b o e n hb hx=>?_,fun b o e n hb hx=>?_,I.base.free,fun b o e hx=>?_,I.base.tups,I.base.frzs,I.base.tbls⟩,⟨_,QW,fun j y v' e1 e2 e3=>?_⟩,fun y c e=>?_,I.free,I.freeC,fun p hp=>?_,tracked ⟨oL,QX,I.free⟩ hs,by simpa using I.len⟩ ⟨_,hs,.inl rfl⟩
   · exact (hs.2 b (VU (Wb (Vx e) I.ok.above))).trans (I.base.keep b o e n hb hx)
   · obtain ⟨sl,e1⟩:=I.base.slot b o e n hb hx;exact ⟨sl,(hs.2 b (VU (Wb (Vx e) I.ok.above))).trans e1⟩
   · obtain ⟨o',e1⟩:=I.base.there b o e hx;exact ⟨o',(hs.2 b (VU (Wb (Vx e) I.ok.above))).trans e1⟩
   · by_cases hj:j=i
     · subst hj;rw [hi] at e1;cases e1;rw [List.getElem?_set_self Hh] at e2;cases e2;exact ⟨u,r,.inl ⟨hk,by simp⟩⟩
     · rw [List.getElem?_set_ne (W4 hj)] at e2;obtain ⟨u',r',q⟩:=hl j y v' e1 e2 e3;refine ⟨u',r',?_⟩;rcases q with ⟨k,e⟩ | ⟨k,c,e,z⟩
       · refine .inl ⟨k,?_⟩;have:y≠x:=fun e=>hj (o8 hN e1 (e ▸ hi));simp [this,e]
       · exact .inr ⟨k,c,e,z.sameBut hs (cne y c e)⟩
   · obtain ⟨w',z⟩:=I.cell y c e;exact ⟨w',z.sameBut hs (cne y c e)⟩
   · obtain ⟨e,n,ne,nf,d⟩:=I.pin p hp;exact ⟨(hs.2 p.1 ne).trans e,n,ne,nf,d⟩
 · have La:X.fn x=true:=by
    rcases hf with z | z
    · exact z
    · rw [z] at hk;cases hk
   obtain ⟨c,hc⟩:=I.ok.has x (.inl hk);obtain ⟨w',z⟩:=I.cell x c hc;refine wpAny_storeName_cell I.ok.kind hk hc z (fun h' Ao hs=>?_);obtain ⟨oc,OR,Lb⟩:=id z;refine h { s with heap:=h' } ⟨I.ok,I.os,I.bare,⟨fun b o e n hb hx=>?_,fun b o e n hb hx=>?_,I.base.free,fun b o e hx=>?_,I.base.tups,I.base.frzs,I.base.tbls⟩,⟨m,hn.sameBut hs (W4 (cne x c hc)),fun j y v' e1 e2 e3=>?_⟩,fun y c' e=>?_,I.free,I.freeC,fun p hp=>?_,tracked ⟨oc,OR,I.freeC x c hc⟩ hs,by simpa using I.len⟩ ⟨c,hs,.inr hc⟩
   · exact (hs.2 b (VU (Wb (Vx e) (I.ok.cab x c La hc)))).trans (I.base.keep b o e n hb hx)
   · obtain ⟨sl,e1⟩:=I.base.slot b o e n hb hx;exact ⟨sl,(hs.2 b (VU (Wb (Vx e) (I.ok.cab x c La hc)))).trans e1⟩
   · obtain ⟨o',e1⟩:=I.base.there b o e hx;exact ⟨o',(hs.2 b (VU (Wb (Vx e) (I.ok.cab x c La hc)))).trans e1⟩
   · by_cases hj:j=i
     · subst hj;rw [hi] at e1;cases e1;rw [List.getElem?_set_self Hh] at e2;cases e2;exact ⟨u,r,.inr ⟨.inl hk,c,hc,Ao⟩⟩
     · rw [List.getElem?_set_ne (W4 hj)] at e2;obtain ⟨u',r',q⟩:=hl j y v' e1 e2 e3;refine ⟨u',r',?_⟩;rcases q with q | ⟨k,c',e,z'⟩
       · exact .inl q
       · refine .inr ⟨k,c',e,z'.sameBut hs ?_⟩;rintro rfl;exact hj (o8 hN e1 (I.ok.inj _ _ _ e hc ▸ hi))
   · by_cases Kc:c'=c
     · subst Kc;exact ⟨_,Ao⟩
     · obtain ⟨w2,z2⟩:=I.cell y c' e;exact ⟨w2,z2.sameBut hs Kc⟩
   · obtain ⟨e,n,ne,nf,d⟩:=I.pin p hp;refine ⟨(hs.2 p.1 ?_).trans e,n,ne,nf,d⟩;intro q;rw [q,OR] at e;have q':oc=p.2:=VL e;exact d w' (by rw [<- q'];exact Lb)
theorem fY {M:Model} {A:V2} {E:Vg->Vm->Prop} {i:Nat} {x:VM} {v:V} {u:Vg} {Q:Unit->Vm->Prop} (I:Inv X pins σ H s) (hN:X.N.Nodup) (hi:X.N[i]?=some x) (hx:Loc X.env.scope x) (r:RelV v u)
 (h:∀ s',Inv X pins (σ.set i (some v)) H s'->Q () s') (hf:X.fn x=true∨X.env.scope.names.lookup x=some .local:=by first | exact .inl rfl | exact .inr rfl | assumption):Vw M A (storeName X.env x u) Q E s :=
 mH I hN hi hx r (fun s' I' _=>h s' I') hf
theorem Inv.call' {s':Vm} {ch:List Vd} (I:Inv X pins σ H s) (ho:s'.os=s.os) (u:Un (frs X.stack) ch H H' s.heap s'.heap) (hok:HOk X.prog X.w H' s'.heap) (hg:AllBare s'.gens)
 (DS:∀ b∈ch,(b∈X.ex∨X.s₀.heap.objs.size<=b)/\b≠X.env.locals/\(∀ x c,X.env.cells.lookup x=some c->c≠b)/\∀ p∈X.pn++pins,p.1≠b):Inv X pins σ H' s':=by
 obtain ⟨h',g',d',t',o'⟩:=s';have e:o'=s.os:=ho;subst e;exact I.call (g':=g') (t':=t') (d':=d') u hok hg DS
end
abbrev XK:=Vg->Option Vd->Hp->Prop
abbrev St:=List (Option V)
abbrev VK:=V->Hp->Prop
abbrev TE:=St->Hp->VK->Prop
abbrev TT:=St->Hp->(Bool->Hp->Prop)->Prop
abbrev TA:=St->Hp->(List V->Hp->Prop)->Prop
structure Ends where
 nx:St->Hp->Prop
 rt:VK
 bk:St->Hp->Prop:=fun _ _=>False
 ct:St->Hp->Prop:=fun _ _=>False
abbrev TS:=Ends->St->Hp->Prop
def EP (X:Cx) (pins:List (Vd×Xq)) (σ:St) (Q:VK) (u:Vg) (s':Vm):Prop:=∃ v H',Inv X pins σ H' s'/\RelV v u/\Q v H'
def TP (X:Cx) (pins:List (Vd×Xq)) (σ:St) (Q:Bool->Hp->Prop) (b:Bool) (s':Vm):Prop:=∃ H',Inv X pins σ H' s'/\Q b H'
def AP (X:Cx) (pins:List (Vd×Xq)) (σ:St) (Q:List V->Hp->Prop) (us:List Vg) (s':Vm):Prop:=∃ vs H',Inv X pins σ H' s'/\Vals vs us/\Q vs H'
def SP (X:Cx) (pins:List (Vd×Xq)) (D:Ends) (f:Flow) (s':Vm):Prop :=
 match f with
 | .next=>∃ zu H',Inv X pins zu H' s'/\D.nx zu H'
 | .brk=>∃ zu H',Inv X pins zu H' s'/\D.bk zu H'
 | .cont=>∃ zu H',Inv X pins zu H' s'/\D.ct zu H'
 | .ret u=>∃ v zu H',Inv X pins zu H' s'/\RelV v u/\D.rt v H'
def PE (X:Cx) (e:Wq) (t:TE):Prop :=
 ∀ (pins:List (Vd×Xq)) (s:Vm) (σ:St) (H:Hp) (Q:VK),Inv X pins σ H s->t σ H Q->Vw (VN X.prog X.w) X.A (Xh e X.env) (EP X pins σ Q) X.xe s
def PT (X:Cx) (e:Wq) (t:TT):Prop :=
 ∀ (pins:List (Vd×Xq)) (s:Vm) (σ:St) (H:Hp) (Q:Bool->Hp->Prop),Inv X pins σ H s->t σ H Q->Vw (VN X.prog X.w) X.A (isTrue e X.env (Xh e X.env)) (TP X pins σ Q) X.xe s
def PW (X:Cx) (e:Wq) (t:TT):Prop :=
 ∀ (whole:Sem Vg) (pins:List (Vd×Xq)) (s:Vm) (σ:St) (H:Hp) (Q:Bool->Hp->Prop),Inv X pins σ H s->t σ H Q->Vw (VN X.prog X.w) X.A (isTrue e X.env whole) (TP X pins σ Q) X.xe s
theorem PW.pt {X:Cx} {e:Wq} {t:TT} (h:PW X e t):PT X e t:=h _
def PA (X:Cx) (es:List Wq) (t:TA):Prop :=
 ∀ (pos:Yr) (pins:List (Vd×Xq)) (s:Vm) (σ:St) (H:Hp) (Q:List V->Hp->Prop),Inv X pins σ H s->t σ H Q->Vw (VN X.prog X.w) X.A (spliced (Yn pos (V0 es X.env))) (AP X pins σ Q) X.xe s
def PS (X:Cx) (st:WL) (t:TS):Prop :=
 ∀ (pins:List (Vd×Xq)) (s:Vm) (σ:St) (H:Hp) (D:Ends),Inv X pins σ H s->t D σ H->Vw (VN X.prog X.w) X.A (exec st X.env) (SP X pins D) X.xe s
def PSs (X:Cx) (st:List WL) (t:TS):Prop :=
 ∀ (pins:List (Vd×Xq)) (s:Vm) (σ:St) (H:Hp) (D:Ends),Inv X pins σ H s->t D σ H->Vw (VN X.prog X.w) X.A (execs st X.env) (SP X pins D) X.xe s
theorem thn {α:Type} {t:Sem α} {Q Q':α->Vm->Prop} {M:Model} {A:V2} {E:Vg->Vm->Prop} {s:Vm} (h:Vw M A t Q E s) (hQ:∀ a s,Q a s->Q' a s):Vw M A t Q' E s:=Xu h hQ fun _ _ x=>x
end L2
namespace L2
open PySem PySem.Spec PyProof.Rows
section
variable {X:Cx}
inductive wF (i:Nat) (σ:St) (H:Hp) (Q:VK):Prop
 | mk (v:_) (zI:σ[i]?=some (some v)) (zJ:Q v H):wF i σ H Q
def bc (i:Nat):TE:=wF i
def tC (v:V):TE:=fun _ H Q=>Q v H
theorem uy {i:Nat} {x:VM} {pos:Yr} (hN:X.N[i]?=some x) (hv:Vis X.env.scope x) (hd:(x == ("__debug__":VM))=false:=by decide) (BH:(x == ("__classdict__":VM))=false:=by decide):PE X (.Name x pos) (bc i):=by
 intro pins s σ H Q I h;obtain ⟨v,e,h⟩:=h;obtain ⟨m,hn,hl⟩:=I.loc;obtain ⟨u,r,l⟩:=hl i x v hN e hv;have fin:EP X pins σ Q u s:=⟨v,H,I,r,h⟩;rcases l with ⟨hk,hm⟩ | ⟨hk,c,hc,Cs⟩
 · exact wpAny_Name (wpAny_loadName_local I.ok.kind hk hn hm fin) hd
 · rcases hk with hk | hk
   · exact wpAny_Name (wpAny_loadName_cell I.ok.kind hk hc Cs fin) hd
   · exact wpAny_Name (wpAny_loadName_free I.ok.kind hk hc Cs fin BH) hd
theorem am {i j pos}:PE X (.Constant (.int i) j pos) (tC (.int i)):=fun _ _ _ H _ I h=>wpAny_Constant_int ⟨.int i,H,I.tok _,⟨_,rfl⟩,h⟩
theorem wO {b j pos}:PE X (.Constant (.bool b) j pos) (tC (.bl b)):=fun _ _ _ H _ I h=>Constant_bool ⟨.bl b,H,I,rfl,h⟩
theorem ju {x j pos}:PE X (.Constant (.str x) j pos) (tC (.str x)):=fun _ _ _ H _ I h=>Calls.Constant_str ⟨.str x,H,I.tok _,⟨_,rfl⟩,h⟩
def Gl (X:Cx) (x:VM):Prop:=X.env.kindOf x=some .globalImplicit
theorem n9 {E:Vg->Vm->Prop} {pins:List (Vd×Xq)} {s:Vm} {σ:St} {H:Hp} {x:VM} {u:Vg} {pos:Yr} {Q:Vg->Vm->Prop} (I:Inv X pins σ H s) (hg:Gl X x) (hm:X.mg x=some u) (h:Q u s)
 (hd:(x == ("__debug__":VM))=false:=by decide):Vw (VN X.prog X.w) X.A (Xh (.Name x pos) X.env) Q E s :=
 Calls.Name_function_global I.ok.kind hg (Calls.loadGlobal_global (by rw [I.ok.glob];exact I.mod.glob.keeps I.bk) hm h) hd
theorem cU {E:Vg->Vm->Prop} {pins:List (Vd×Xq)} {s:Vm} {σ:St} {H:Hp} {x:VM} {u:Vg} {pos:Yr} {Q:Vg->Vm->Prop} (I:Inv X pins σ H s) (hg:Gl X x) (hm:X.mg x=none) (hv:bootBuiltins x=some u) (h:Q u s)
 (hn:x≠"__name__":=by decide) (hd:(x == ("__debug__":VM))=false:=by decide):Vw (VN X.prog X.w) X.A (Xh (.Name x pos) X.env) Q E s:=by
 obtain ⟨mb,h1,h2⟩:=I.mod.blt;exact Calls.Name_function_global I.ok.kind hg (Calls.loadGlobal_builtin (by rw [I.ok.glob];exact I.mod.glob.keeps I.bk) hm (by rw [I.ok.blt];exact h1.keeps I.bk) ((h2 x hn).trans hv) h) hd
theorem b9 {x:VM} {v:V} {u:Vg} {pos:Yr} (hg:Gl X x) (hm:X.mg x=some u) (r:RelV v u) (hd:(x == ("__debug__":VM))=false:=by decide):PE X (.Name x pos) (tC v) :=
 fun _ _ _ H _ I h=>n9 I hg hm ⟨v,H,I,r,h⟩ hd
variable {a b:Wq} {ta tb:TE} {pos:Yr}
def PC (X:Cx) (op:CmpOp) (a b:Wq) (t:TE):Prop :=
 ∀ (pins:List (Vd×Xq)) (s:Vm) (σ:St) (H:Hp) (Q:VK),Inv X pins σ H s->t σ H Q →
   Vw (VN X.prog X.w) X.A (Xh a X.env) (fun v zt=>Vw (VN X.prog X.w) X.A (Xh b X.env) (fun u Ad=>Vw (VN X.prog X.w) X.A (Za op v u) (EP X pins σ Q) X.xe Ad) X.xe zt) X.xe s
def tB (t:TE):TT:=fun σ H Q=>t σ H fun x H1=>∃ c,x=.bl c/\Q c H1
theorem qe {op:CmpOp} {t:TE} (h:PC X op a b t) (h1:Z7 op b=false:=by first | exact Hi _ (by decide) (by decide) | rfl):PT X (.Compare a [op] [b] pos) (tB t):=by
 intro pins s σ H Q I hw;refine wpAny_isTrue_Compare1 (thn (h pins s σ H _ I hw) fun v s1 h1=>thn h1 fun u s2 h2=>thn h2 fun c s3 ⟨x,H1,I1,r1,q1⟩=>?_) h1;obtain ⟨d,rfl,q⟩:=q1;cases r1;exact Zh ⟨H1,I1,q⟩
variable {tA Kd:TT} {rest:List Wq}
def yZ (t u:TT):TT:=fun σ H Q=>t σ H fun c H1=>if c=true then u σ H1 Q else Q false H1
def tOr (t u:TT):TT:=fun σ H Q=>t σ H fun c H1=>if c=true then Q true H1 else u σ H1 Q
def zp (t:TT):TT:=fun σ H Q=>t σ H fun c H1=>Q (!c) H1
theorem vG (ha:PT X a tA):PW X (.BoolOp .And [a] pos) tA:=by
 intro wh pins s σ H Q I h;refine isTrue_and (thn (ha pins s σ H Q I h) fun c s1 e=>?_);cases c with
 | true=>exact isTrue_and_nil e
 | false=>exact e
theorem tO (ha:PT X a tA):PW X (.BoolOp .Or [a] pos) tA:=by
 intro wh pins s σ H Q I h;refine isTrue_or (thn (ha pins s σ H Q I h) fun c s1 e=>?_);cases c with
 | false=>exact isTrue_or_nil e
 | true=>exact e
theorem tT (ha:PT X a tA) (hb:PW X (.BoolOp .And (b::rest) pos) Kd):PW X (.BoolOp .And (a::b::rest) pos) (yZ tA Kd):=by
 intro wh pins s σ H Q I h;refine isTrue_and (thn (ha pins s σ H _ I h) fun c s1 ⟨H1,I1,q1⟩=>?_);cases c with
 | true=>exact hb wh pins s1 σ H1 Q I1 q1
 | false=>exact ⟨H1,I1,q1⟩
theorem wP (ha:PT X a tA) (hb:PW X (.BoolOp .Or (b::rest) pos) Kd):PW X (.BoolOp .Or (a::b::rest) pos) (tOr tA Kd):=by
 intro wh pins s σ H Q I h;refine isTrue_or (thn (ha pins s σ H _ I h) fun c s1 ⟨H1,I1,q1⟩=>?_);cases c with
 | true=>exact ⟨H1,I1,q1⟩
 | false=>exact hb wh pins s1 σ H1 Q I1 q1
theorem uo (ha:PT X a tA):PT X (.UnaryOp .Not a pos) (zp tA):=by
 intro pins s σ H Q I h;exact isTrue_not (ha pins s σ H (fun c H1=>Q (!c) H1) I h)
def yl (ta tb:TE):TE:=fun σ H Q=>ta σ H fun x H1=>∃ c,x=.bl c/\if c=true then tb σ H1 Q else Q (.bl false) H1
def xP (ta:TE):TE:=fun σ H Q=>ta σ H fun x H1=>∃ c,x=.bl c/\Q (.bl (!c)) H1
theorem qz {op} {t:TE} (h:PE X a t):PE X (.BoolOp op [a] pos) t:=fun pins s σ H Q I hw=>BoolOp_one (h pins s σ H Q I hw)
theorem lw (ha:PE X a ta) (hb:PE X (.BoolOp .And (b::rest) pos) tb):PE X (.BoolOp .And (a::b::rest) pos) (yl ta tb):=by
 intro pins s σ H Q I h;refine BoolOp_and (thn (ha pins s σ H _ I h) fun v s1 ⟨x,H1,I1,r1,q1⟩=>?_);obtain ⟨c,rfl,q1⟩:=q1;cases r1;refine Zh ?_;cases c with
 | true=>exact hb pins s1 σ H1 Q I1 q1
 | false=>exact ⟨.bl false,H1,I1,rfl,q1⟩
theorem tZ (ha:PE X a ta):PE X (.UnaryOp .Not a pos) (xP ta):=by
 intro pins s σ H Q I h;refine UnaryOp_ (thn (ha pins s σ H _ I h) fun v s1 ⟨x,H1,I1,r1,q1⟩=>?_);obtain ⟨c,rfl,q1⟩:=q1;cases r1;exact not_of (Zh ⟨.bl (!c),H1,I1,rfl,q1⟩)
end
end L2
namespace L2
open PySem PySem.Spec PyProof.Rows
def SqL (K:Vc) (H:Hp) (a:Vd) (xs:List V):Prop :=
 Rd H a (.lst xs) ∨
  ∃ (o:Xq) (its:Array Vg) (n:Nat),K.lookup a=some o/\o.cls=.type "list"/\o.dict=none/\o.data=.seq its n/\its.size<=Vz/\Vals xs its.toList
def SqT (K:Vc) (H:Hp) (a:Vd) (xs:List V):Prop :=
 Rd H a (.tup xs) ∨
  ∃ (o:Xq) (its:Array Vg) (n:Nat),K.lookup a=some o/\o.cls=.type "tuple"/\o.data=.seq its n/\its.size<=Vz/\Vals xs its.toList
def yP:Vg->Option V
 | .none=>some .non
 | .bool b=>some (.bl b)
 | .int i _=>some (.int i)
 | .str x _=>some (.str x)
 | .bytes b _=>some (.byt b)
 | .float b _=>some (.flt b)
 | .ref a=>some (.ref a)
 | .type n=>some (.ty n)
 | _=>none
theorem RelV.abs {x:V} {u:Vg} (r:RelV x u):yP u=some x:=by
 cases x with
 | non=>cases r;rfl
 | bl _=>cases r;rfl
 | int _=>obtain ⟨t,rfl⟩:=r;rfl
 | str _=>obtain ⟨t,rfl⟩:=r;rfl
 | byt _=>obtain ⟨t,rfl⟩:=r;rfl
 | flt _=>obtain ⟨t,rfl⟩:=r;rfl
 | ref _=>cases r;rfl
 | ty _=>cases r;rfl
theorem RelV.inj {x y:V} {u:Vg} (r:RelV x u) (q:RelV y u):x=y:=VL (r.abs.symm.trans q.abs)
theorem Vals.inj:∀ {xs ys:List V} {us:List Vg},Vals xs us->Vals ys us->xs=ys
 | _,_,_,.nil,.nil=>rfl
 | _,_,_,.cons r t,.cons r' t'=>by rw [r.inj r',Vals.inj t t']
section
variable {X:Cx} {pins:List (Vd×Xq)} {σ:St} {H:Hp} {s:Vm} {a:Vd} {xs ys:List V}
theorem SqL.of {K:Vc} (h:H a=some (.lst xs)):SqL K H a xs:=.inl (.inl h)
theorem SqT.of {K:Vc} (h:H a=some (.tup xs)):SqT K H a xs:=.inl (.inl h)
theorem Inv.list (I:Inv X pins σ H s) (h:SqL X.K H a xs):∃ its:List Vg,Vals xs its/\PlainL s.heap a its.toArray/\xs.length<=Vz:=by
 rcases h with h | ⟨o,its,n,hk,hc,hd,hs,hz,r⟩
 · obtain ⟨z,its,n,r,e⟩:=h.ok I.hok;exact ⟨its,r,⟨_,n,e,rfl,rfl,rfl⟩,z⟩
 · refine ⟨its.toList,r,⟨o,n,I.kIn a o hk,hc,hd,by simpa using hs⟩,?_⟩;have e:=r.length;simp only [Wr] at e;omega
theorem Inv.tuple (I:Inv X pins σ H s) (h:SqT X.K H a xs):∃ its:List Vg,Vals xs its/\IsTup s.heap a its.toArray/\xs.length<=Vz:=by
 rcases h with h | ⟨o,its,n,hk,hc,hs,hz,r⟩
 · obtain ⟨z,its,n,r,p⟩:=h.ok I.hok;exact ⟨its,r,⟨_,p,rfl,n,rfl⟩,z⟩
 · refine ⟨its.toList,r,⟨o,I.kIn a o hk,hc,n,by simpa using hs⟩,?_⟩;have e:=r.length;simp only [Wr] at e;omega
theorem Inv.list_inj (I:Inv X pins σ H s) (h:SqL X.K H a xs) (h':SqL X.K H a ys):xs=ys:=by
 obtain ⟨its,r,⟨o,n,e,_,_,d⟩,_⟩:=I.list h;obtain ⟨its',r',⟨o',n',e',_,_,d'⟩,_⟩:=I.list h';rw [e] at e';cases e';rw [d] at d';injection d' with d1 _;have:its=its':=by simpa using congrArg Array.toList d1
 subst this;exact r.inj r'
theorem Inv.tuple_inj (I:Inv X pins σ H s) (h:SqT X.K H a xs) (h':SqT X.K H a ys):xs=ys:=by
 obtain ⟨its,r,⟨o,e,_,n,d⟩,_⟩:=I.tuple h;obtain ⟨its',r',⟨o',e',_,n',d'⟩,_⟩:=I.tuple h';rw [e] at e';cases e';rw [d] at d';injection d' with d1 _;have:its=its':=by simpa using congrArg Array.toList d1
 subst this;exact r.inj r'
end
abbrev Cx.wish (X:Cx) (E:Vg->Vm->Prop):Cx:={ X with xe:=E }
abbrev Cx.nox (X:Cx):Cx:=X.wish fun _ _=>False
theorem Cx.Ok.wish {X:Cx} (ok:X.Ok) (E:Vg->Vm->Prop):(X.wish E).Ok :=
 ⟨ok.mod,ok.kind,ok.glob,ok.blt,ok.above,ok.inj,ok.has,ok.cab,ok.hd,ok.frames,ok.stk,ok.exf,ok.bs,ok.bsz,ok.noex,ok.exfs,ok.funs,ok.frf⟩
theorem Cx.Ok.unwish {X:Cx} {E:Vg->Vm->Prop} (ok:(X.wish E).Ok):X.Ok :=
 ⟨ok.mod,ok.kind,ok.glob,ok.blt,ok.above,ok.inj,ok.has,ok.cab,ok.hd,ok.frames,ok.stk,ok.exf,ok.bs,ok.bsz,ok.noex,ok.exfs,ok.funs,ok.frf⟩
section
variable {X:Cx} {pins:List (Vd×Xq)} {σ:St} {H:Hp} {s:Vm} {E:Vg->Vm->Prop}
theorem Inv.wish (I:Inv X pins σ H s) (E:Vg->Vm->Prop):Inv (X.wish E) pins σ H s:=⟨I.ok.wish E,I.os,I.bare,I.base,I.loc,I.cell,I.free,I.freeC,I.pin,I.hok,I.len⟩
theorem Inv.unwish (I:Inv (X.wish E) pins σ H s):Inv X pins σ H s:=⟨I.ok.unwish,I.os,I.bare,I.base,I.loc,I.cell,I.free,I.freeC,I.pin,I.hok,I.len⟩
theorem SP.unwish {D:Ends} {f:Flow} {s':Vm} (h:SP (X.wish E) pins D f s'):SP X pins D f s':=by
 cases f with
 | next=>obtain ⟨zu,H',I,q⟩:=h;exact ⟨zu,H',I.unwish,q⟩
 | brk=>obtain ⟨zu,H',I,q⟩:=h;exact ⟨zu,H',I.unwish,q⟩
 | cont=>obtain ⟨zu,H',I,q⟩:=h;exact ⟨zu,H',I.unwish,q⟩
 | ret u=>obtain ⟨v,zu,H',I,r,q⟩:=h;exact ⟨v,zu,H',I.unwish,r,q⟩
theorem PSs.nox {st:List WL} {t:TS} (h:PSs X.nox st t):PSs X st t:=fun pins s σ H D I hw =>
 Xu (h pins s σ H D (I.wish _) hw) (fun _ _ q=>q.unwish) fun _ _ z=>Xm z
end
section
variable {X:Cx} {st:WL} {rest:List WL} {t u:TS} {e:Wq} {te:TE} {pos:Yr}
def u8:TS:=fun D σ H=>D.nx σ H
def yF (t u:TS):TS:=fun D σ H=>t { D with nx:=u D } σ H
theorem cX:PSs X [] u8:=fun _ _ σ H _ I h=>wpAny_execs_nil ⟨σ,H,I,h⟩
theorem ae (h1:PS X st t) (h2:PSs X rest u):PSs X (st::rest) (yF t u):=by
 intro pins s σ H D I h;refine wpAny_execs_cons (thn (h1 pins s σ H { D with nx:=u D } I h) fun f s1 q=>?_);cases f with
 | next =>
   obtain ⟨zu,H',I',q⟩:=q;exact h2 pins s1 zu H' D I' q
 | ret v=>exact q
 | brk=>exact q
 | cont=>exact q
theorem af (h1:PS X st t):PSs X [st] t:=by
 intro pins s σ H D I h;refine wpAny_execs_cons (thn (h1 pins s σ H D I h) fun f s1 q=>?_);cases f with
 | next=>exact wpAny_execs_nil q
 | ret v=>exact q
 | brk=>exact q
 | cont=>exact q
theorem Inv.quiet {pins:List (Vd×Xq)} {σ:St} {H:Hp} {s:Vm} (I:Inv X pins σ H s):interactive X.env=false:=by simp [interactive,I.ok.kind]
def yC (te:TE):TS:=fun D σ H=>te σ H fun _ H1=>D.nx σ H1
theorem aP (he:PE X e te) (hs:swapsWith e none pos.line X.env=pure false:=by rfl):PS X (.Expr e pos) (yC te):=by
 intro pins s σ H D I h;exact wpAny_Expr_any (thn (he pins s σ H _ I h) fun v s1 ⟨x,H1,I1,r1,q1⟩=>⟨σ,H1,I1,q1⟩) I.quiet hs
def yW (te:TE):TS:=fun D σ H=>te σ H D.rt
theorem aC (he:PE X e te):PS X (.Return (some e) pos) (yW te):=by
 intro pins s σ H D I h;exact wpAny_Return_some (thn (he pins s σ H _ I h) fun v s1 ⟨x,H1,I1,r1,q1⟩=>⟨x,σ,H1,I1,r1,q1⟩)
def yz (c:TT) (t u:TS):TS:=fun D σ H=>c σ H fun b H1=>if b=true then t D σ H1 else u D σ H1
theorem dF {c:Wq} {a b:List WL} {tc:TT} (hc:PT X c tc) (ha:PSs X a t) (hb:PSs X b u):PS X (.If c a b pos) (yz tc t u):=by
 intro pins s σ H D I h;refine wpAny_If (thn (hc pins s σ H _ I h) fun d s1 ⟨H1,I1,q1⟩=>?_);cases d with
 | true=>exact ha pins s1 σ H1 D I1 q1
 | false=>exact hb pins s1 σ H1 D I1 q1
def xL:TS:=fun _ _ _=>False
theorem pY:PS X st xL:=fun _ _ _ _ _ _ h=>h.elim
end
abbrev TG:=V->St->Hp->(St->Hp->Prop)->Prop
abbrev TGs:=List V->St->Hp->(St->Hp->Prop)->Prop
def PG (X:Cx) (target:Wq) (t:TG):Prop :=
 ∀ (pins:List (Vd×Xq)) (s:Vm) (σ:St) (H:Hp) (v:V) (u:Vg) (Q:St->Hp->Prop),Inv X pins σ H s->RelV v u->t v σ H Q →
   Vw (VN X.prog X.w) X.A (assign target X.env u) (fun _ s'=>∃ zu H',Inv X pins zu H' s'/\Q zu H') X.xe s
def PGs (X:Cx) (ts:List Wq) (t:TGs):Prop :=
 ∀ (pins:List (Vd×Xq)) (s:Vm) (σ:St) (H:Hp) (vs:List V) (us:List Vg) (Q:St->Hp->Prop),Inv X pins σ H s->Vals vs us->t vs σ H Q →
   Vw (VN X.prog X.w) X.A (assignInOrder ((assignEach ts X.env).map (·.2)) us) (fun _ s'=>∃ zu H',Inv X pins zu H' s'/\Q zu H') X.xe s
abbrev xM:=V->V->V->Hp->(Hp->Prop)->Prop
def xW (X:Cx) (t:xM):Prop :=
 ∀ (pins:List (Vd×Xq)) (s:Vm) (σ:St) (H:Hp) (o i v:V) (ov iv u:Vg) (Q:Hp->Prop),Inv X pins σ H s->RelV o ov->RelV i iv->RelV v u->t o i v H Q →
   Vw (VN X.prog X.w) X.A (setItem ov iv u) (fun _ s'=>∃ H',Inv X pins σ H' s'/\Q H') X.xe s
abbrev TIp:=V->V->Hp->VK->Prop
def PIp (X:Cx) (op:Operator) (t:TIp):Prop :=
 ∀ (pins:List (Vd×Xq)) (s:Vm) (σ:St) (H:Hp) (x y:V) (v u:Vg) (Q:VK),Inv X pins σ H s->RelV x v->RelV y u->t x y H Q →
   Vw (VN X.prog X.w) X.A (inplaceOp op v u) (EP X pins σ Q) X.xe s
section
variable {X:Cx} {pos:Yr}
def ax (i:Nat):TG:=fun v σ H Q=>Q (σ.set i (some v)) H
theorem aj {i:Nat} {x:VM} (hN:X.N.Nodup) (hi:X.N[i]?=some x) (hx:Loc X.env.scope x) (hf:X.fn x=true∨X.env.scope.names.lookup x=some .local:=by first | exact .inl rfl | exact .inr rfl | assumption):PG X (.Name x pos) (ax i):=by
 intro pins s σ H v u Q I r h;exact wpAny_assign_Name (fY I hN hi hx r (fun s' I'=>⟨_,H,I',h⟩) hf)
def mi:TGs:=fun vs σ H Q=>vs=[]/\Q σ H
def cD (t:TG) (u:TGs):TGs:=fun vs σ H Q=>∃ v r,vs=v::r/\t v σ H fun zu H'=>u r zu H' Q
theorem aN:PGs X [] mi:=by
 intro pins s σ H vs us Q I r h;obtain ⟨e,h⟩:=h;subst e;cases r;exact assignInOrder_nil ⟨σ,H,I,h⟩
theorem aq {e:Wq} {es:List Wq} {t:TG} {u:TGs} (h1:PG X e t) (h2:PGs X es u)
 (hs:(assignEach (e::es) X.env).map (·.2)=assign e X.env::(assignEach es X.env).map (·.2):=by rfl):PGs X (e::es) (cD t u):=by
 intro pins s σ H vs us Q I r h;obtain ⟨v,vr,e1,h⟩:=h;subst e1;cases r with
 | cons r rr =>
   rw [hs];refine assignInOrder_cons (thn (h1 pins s σ H _ _ _ I r h) fun _ s1 ⟨Bm,H1,I1,q1⟩=>?_);exact h2 pins s1 Bm H1 _ _ Q I1 rr q1
def mh (K:Vc) (n:Nat) (t:TGs):TG:=fun v σ H Q=>∃ a xs,v=.ref a/\SqT K H a xs/\xs.length=n/\t xs σ H Q
theorem ba {es:List Wq} {k:Nat} {t:TGs} {n:Nat} (hc:X.calm=true) (h:PGs X es t)
 (hn:(assignEach es X.env).length=n:=by rfl) (AB:(assignEach es X.env).findIdx? (·.1)=none:=by rfl):PG X (.Tuple es k pos) (mh X.K n t):=by
 intro pins s σ H v u Q I r hw;obtain ⟨a,xs,e1,hq,hl,hw⟩:=hw;subst e1;cases r;obtain ⟨its,rv,ht,hz⟩:=I.tuple hq;refine assign_Tuple_tuple (I.ok.hd hc) ht (by simp [hn,<- hl,rv.length]) AB fun h' hx=>?_;have I1:Inv X pins σ H { s with heap:=h' }:=I.kept (t':=s.toks) fun b o e=>hx b o (VU (Vx e)) e;exact h pins _ σ H xs _ Q I1 (by simpa using rv) hw
def zr (to ti:TE) (t:xM):TG:=fun v σ H Q=>to σ H fun o H1=>ti σ H1 fun i H2=>t o i v H2 fun H3=>Q σ H3
theorem xh {o i:Wq} {to ti:TE} {t:xM} (ho:PE X o to) (hi:PE X i ti) (hs:xW X t)
 (ha:∀ v,assign (.Subscript o i pos) X.env v=(do
  let ov ← holding [v] (Xh o X.env)
  let iv ← holding [v,ov] (Xh i X.env)
  standAt pos
  holding [v,ov,iv] (setItem ov iv v)
  release [v,ov,iv] []):=by intro _;rfl):PG X (.Subscript o i pos) (zr to ti t):=by
 intro pins s σ H v u Q I r h;rw [ha];refine Va (WH (thn (ho pins s σ H _ I h) fun ov s1 ⟨x,H1,I1,r1,q1⟩=>?_));refine Va (WH (thn (hi pins s1 σ H1 _ I1 q1) fun iv s2 ⟨y,H2,I2,r2,q2⟩=>?_));refine Va (wpAny_standAt (Va (WH (thn (hs pins s2 σ H2 x y v ov iv u _ I2 r1 r2 r q2) fun _ s3 ⟨H3,I3,q3⟩=>?_))));exact wpAny_release ⟨σ,H3,I3,q3⟩
def wg (te:TE) (g:TG):TS:=fun D σ H=>te σ H fun x H1=>g x σ H1 D.nx
theorem fE {tg e:Wq} {te:TE} {g:TG} (he:PE X e te) (hg:PG X tg g) (hs:swapsWithSole [tg] e pos.line X.env=pure false:=by rfl) (hw:swappedStores [tg] e X.env=pure none:=by rfl)
 (h1:(assignEach [tg] X.env).map (·.2)=[assign tg X.env]:=by rfl):PS X (.Assign [tg] e pos) (wg te g):=by
 intro pins s σ H D I h;refine wpAny_Assign_stores (thn (he pins s σ H _ I h) fun v s1 ⟨x,H1,I1,r1,q1⟩=>?_) hs hw;rw [h1];exact thn (hg pins s1 σ H1 x v _ I1 r1 q1) fun _ s2 q=>q
theorem aA {i:Nat} {x:VM} {e:Wq} {te:TE} {pos':Yr} (hN:X.N.Nodup) (hi:X.N[i]?=some x) (hx:Loc X.env.scope x) (he:PE X e te) (hs:swapsWith e (some (.Name x pos')) pos.line X.env=pure false:=by rfl) (hf:X.fn x=true∨X.env.scope.names.lookup x=some .local:=by first | exact .inl rfl | exact .inr rfl | assumption) :
 PS X (.Assign [.Name x pos'] e pos) (wg te (ax i)):=by
 intro pins s σ H D I h;refine wpAny_Assign_Name (thn (he pins s σ H _ I h) fun v s1 ⟨y,H1,I1,r1,q1⟩=>?_) hs;exact fY I1 hN hi hx r1 (fun s2 I2=>⟨_,H1,I2,q1⟩) hf
def yJ (i:Nat) (te:TE) (ti:TIp):TS:=fun D σ H=>∃ x,σ[i]?=some (some x)/\te σ H fun y H1=>ti x y H1 fun z H2=>D.nx (σ.set i (some z)) H2
theorem ud {i:Nat} {x:VM} {e:Wq} {te:TE} {op:Operator} {ti:TIp} {pos':Yr} (hN:X.N.Nodup) (hi:X.N[i]?=some x) (hx:Loc X.env.scope x) (he:PE X e te) (ho:PIp X op ti) (hf:X.fn x=true∨X.env.scope.names.lookup x=some .local:=by first | exact .inl rfl | exact .inr rfl | assumption) :
 PS X (.AugAssign (.Name x pos') op e pos) (yJ i te ti):=by
 intro pins s σ H D I h;obtain ⟨v,e1,h⟩:=h;obtain ⟨m,hn,hl⟩:=I.loc;have OS:Vis X.env.scope x:=by rcases hx with k | k;exact .inl k;exact .inr (.inl k)
 obtain ⟨u,r,l⟩:=hl i x v hi e1 OS;refine wpAny_AugAssign_Name ?_
 have go:Vw (VN X.prog X.w) X.A (Xh e X.env) (fun w Ad=>Vw (VN X.prog X.w) X.A (inplaceOp op u w) (fun r Bp=>Vw (VN X.prog X.w) X.A (storeName X.env x r) (fun _=>SP X pins D .next) X.xe Bp) X.xe Ad) X.xe s:=by
  refine thn (he pins s σ H _ I h) fun w s1 ⟨y,H1,I1,r1,q1⟩=>?_;refine thn (ho pins s1 σ H1 v y u w _ I1 r r1 q1) fun z s2 ⟨zv,H2,I2,r2,q2⟩=>?_;exact fY I2 hN hi hx r2 (fun s3 I3=>⟨_,H2,I3,q2⟩) hf
 rcases l with ⟨hk,hm⟩ | ⟨hk,c,hc,Cs⟩
 · exact wpAny_loadName_local I.ok.kind hk hn hm go
 · rcases hk with hk | hk
   · exact wpAny_loadName_cell I.ok.kind hk hc Cs go
   · rcases hx with k | k
     · have:X.env.scope.names.lookup x=some .free:=hk;rw [k] at this;cases this
     · have:X.env.scope.names.lookup x=some .free:=hk;rw [k] at this;cases this
def ipI (f:Int->Int->Int):TIp:=fun x y H Q=>∃ i j,x=.int i/\y=.int j/\Q (.int (f i j)) H
theorem vd:PIp X .Add (ipI fun i j=>i+j):=by
 intro pins s σ H x y v u Q I r1 r2 h;obtain ⟨i,j,e1,e2,q⟩:=h;subst e1;subst e2;obtain ⟨t,rfl⟩:=r1;obtain ⟨t',rfl⟩:=r2;exact iadd_int ⟨.int _,H,I.tok _,⟨_,rfl⟩,q⟩
end
section
variable {X:Cx} {pos:Yr}
def xI (c:TT) (tb:TS):TS:=fun D σ H=>∃ W:Nat->St->Hp->Prop,(∃ m,W m σ H)/\∀ m σ H,W m σ H →
 c σ H fun b H1=>if b=true then ∃ N:St->Hp->Prop,(∀ zu H',N zu H'->∃ m',m'<m/\W m' zu H')/\tb { D with nx:=N,ct:=N,bk:=D.nx } σ H1 else D.nx σ H1
theorem dB {c:Wq} {body:List WL} {tc:TT} {tb:TS} (hp:PassesOwn (VN X.prog X.w) X.A X.env X.xe) (hc:PT X c tc) (hb:PSs X body tb):PS X (.While c body [] pos) (xI tc tb):=by
 intro pins s σ H D I h;obtain ⟨W,⟨m0,w0⟩,turn⟩:=h;refine wpAny_While (codeAny_whileLoop (fun n s'=>∃ zu H',Inv X pins zu H' s'/\W n zu H') ?_ m0 ⟨σ,H,I,w0⟩);rintro n s1 ⟨Bm,H1,I1,w1⟩;refine YC hp (thn (hc pins s1 Bm H1 _ I1 (turn n Bm H1 w1)) fun b s2 ⟨H2,I2,q2⟩=>?_);cases b with
 | true =>
   obtain ⟨N,hN,q2⟩:=q2;rw [if_pos rfl];refine YC hp (thn (hb pins s2 Bm H2 _ I2 q2) fun f s3 q3=>?_);cases f with
   | next =>
     obtain ⟨Dd,H3,I3,n3⟩:=q3;obtain ⟨m',hm,w3⟩:=hN Dd H3 n3;exact ⟨m',hm,Dd,H3,I3,w3⟩
   | cont =>
     obtain ⟨Dd,H3,I3,n3⟩:=q3;obtain ⟨m',hm,w3⟩:=hN Dd H3 n3;exact ⟨m',hm,Dd,H3,I3,w3⟩
   | brk=>exact q3
   | ret v=>exact q3
 | false =>
   rw [if_neg VG];exact wpAny_execs_nil ⟨Bm,H2,I2,q2⟩
end
structure It where
 go:Nat->Hp->Prop
 yld:Nat->Hp->V->Hp->Prop
 stop:Nat->Hp->Prop
def jb (X:Cx) (pins:List (Vd×Xq)) (H:Hp) (b:Vd):Prop :=
 H b=none/\b≠X.env.locals/\b∉X.fs/\(b∈X.ex∨X.s₀.heap.objs.size<=b)/\(∀ x c,X.env.cells.lookup x=some c->c≠b)/\∀ p∈X.pn++pins,p.1≠b
theorem Inv.fpOk {X:Cx} {pins:List (Vd×Xq)} {σ:St} {H H':Hp} {s:Vm} {b:Vd} (I:Inv X pins σ H s) (hb:s.heap.objs.size<=b) (hn:H' b=none):jb X pins H' b:=by
 refine ⟨hn,YJ (Wb I.lt hb),I.nofs hb,.inr (WZ I.sz hb),fun x c e z=>?_,fun p hp z=>?_⟩
 · obtain ⟨v,q⟩:=I.cell x c e;exact absurd (Wb q.lt (by rw [z];exact hb)) (WN _)
 · exact absurd (Wb (Vx (I.pin p hp).1) (by rw [z];exact hb)) (WN _)
structure Turn (P:Vu) (w:VI) (K:Vc) (tg:Wq) (J:It) (fp:List Vd) (it:Vd) (tn:Nat->Wx->Prop):Prop where
 mem:it∈fp
 obj:∀ i h,tn i h->∀ b∈fp,∃ o,h.get? b=some o/\∀ v,o.data≠.cell v
 keep:∀ i h h',tn i h->(∀ b∈fp,∀ o,h.get? b=some o->h'.get? b=some o)->tn i h'
 item:∀ (X:Cx),X.prog=P->X.w=w->X.K=K->X.calm=true->∀ (i:Nat) (pins:List (Vd×Xq)) (s:Vm) (σ:St) (H:Hp) (E:Vg->Vm->Prop),Inv X pins σ H s->(∀ b∈fp,jb X pins H b)->tn i s.heap->J.go i H →
  Vw (VN P w) X.A (Yl (.ref it)) (fun r s1=>∃ u,r=some u ∧
   Vw (VN P w) X.A (letOwnedTupleGo tg (.ref it) u) (fun _ s2=>∃ x H',Inv X pins σ H' s2/\RelV x u/\J.yld i H x H'/\tn (i+1) s2.heap/\∀ b∈fp,H' b=none) E s1) E s
 done:∀ (X:Cx),X.prog=P->X.w=w->X.K=K->X.calm=true->∀ (i:Nat) (pins:List (Vd×Xq)) (s:Vm) (σ:St) (H:Hp) (E:Vg->Vm->Prop),Inv X pins σ H s->(∀ b∈fp,jb X pins H b)->tn i s.heap->J.stop i H →
  Vw (VN P w) X.A (Yl (.ref it)) (fun r s1=>r=none/\Inv X pins σ H s1) E s
 self:∀ (A:V2) (i:Nat) (s:Vm) (Q:Vg->Vm->Prop) (E:Vg->Vm->Prop),tn i s.heap->Q (.ref it) s->Vw (VN P w) A (pyIter (.ref it)) Q E s
abbrev TI:=St->Hp->(It->Hp->Prop)->Prop
def PIE (X:Cx) (pins:List (Vd×Xq)) (σ:St) (tg:Wq) (R:It->Hp->Prop) (Ke:Vg) (s2:Vm):Prop :=
 ∃ (it:Vd) (fp:List Vd) (tn:Nat->Wx->Prop) (J:It) (H':Hp),Ke=.ref it/\Inv X pins σ H' s2/\Turn X.prog X.w X.K tg J fp it tn/\tn 0 s2.heap/\(∀ b∈fp,jb X pins H' b)/\R J H'
def PI (X:Cx) (tg iter:Wq) (wi:TI):Prop :=
 ∀ (pins:List (Vd×Xq)) (s:Vm) (σ:St) (H:Hp) (R:It->Hp->Prop),Inv X pins σ H s->wi σ H R →
   Vw (VN X.prog X.w) X.A (Xh iter X.env) (fun v s1=>Vw (VN X.prog X.w) X.A (pyIter v) (PIE X pins σ tg R) X.xe s1) X.xe s
theorem rW {M:Model} {A:V2} {E:Vg->Vm->Prop} {s:Vm} {tg:Wq} {it:Vd} {u:Vg} {o:Xq} {n:String} {vs:Array Vg} {Q:Unit->Vm->Prop} (ho:s.heap.get? it=some o) (hc:o.cls=.type n) (hd:o.data=.fields vs)
 (hn:["enumerate","zip","dict_itemiterator","dict_reverseitemiterator","odict_iterator","itertools.zip_longest","itertools.pairwise"].contains n=false) (hQ:Q () s):Vw M A (letOwnedTupleGo tg (.ref it) u) Q E s:=by
 unfold letOwnedTupleGo
 cases tg <;> first
  | exact Vk hQ
  | (cases u <;> first
   | exact Vk hQ
   | (refine Va (wpAny_load ho ?_)
      rw [hc,hd];show Vw M A (if (["enumerate","zip","dict_itemiterator","dict_reverseitemiterator","odict_iterator","itertools.zip_longest","itertools.pairwise"].contains n && vs[0]? == some (Xi _))=true then _ else _) Q E s;rw [if_neg (by intro h;rw [hn,Bool.false_and] at h;cases h)];exact Vk hQ))
def Itl (K:Vc) (a:Vd):It :=
 ⟨fun i H=>∃ xs x,SqL K H a xs/\xs[i]?=some x,fun i H x H'=>H'=H/\∀ xs,SqL K H a xs->xs[i]?=some x,fun i H=>∃ xs,SqL K H a xs/\xs.length<=i⟩
def Itt (K:Vc) (a:Vd):It :=
 ⟨fun i H=>∃ xs x,SqT K H a xs/\xs[i]?=some x,fun i H x H'=>H'=H/\∀ xs,SqT K H a xs->xs[i]?=some x,fun i H=>∃ xs,SqT K H a xs/\xs.length<=i⟩
def Itr (lo:Int) (n:Nat):It:=⟨fun i _=>i<n,fun i H x H'=>H'=H/\x=.int (lo+i),fun i _=>n<=i⟩
theorem m4 {P:Vu} {w:VI} {K:Vc} {tg:Wq} (a it:Vd):Turn P w K tg (Itl K a) [it] it (fun i h=>h.IsListIter it a i) where
 mem:=by simp
 obj:=fun i h st b hb=>by
  have e:b=it:=by simpa using hb
  subst e;obtain ⟨o,e,c,d⟩:=st;exact ⟨o,e,fun v z=>by rw [d] at z;cases z⟩
 keep:=fun i h h' st k=>st.at fun o e=>k it (by simp) o e
 item:=by
  intro X hP hw hK hc i pins s σ H E I hf st hg;subst hP hw hK;obtain ⟨xs,x,hq,hx⟩:=hg;obtain ⟨its,rv,p,hz⟩:=I.list hq;obtain ⟨u,hu,ru⟩:=rv.get hx;obtain ⟨f0,f1,f2,f3,f4,f5⟩:=hf it (by simp);refine wpAny_pyNext_list_item st p.isList (x:=u) (by simpa using hu) fun h' C5 sb=>?_;have I1:Inv X pins σ H { s with heap:=h' }:=I.turned (t':=s.toks) (fun b o hb e=>(sb.2 b hb).trans e) f0 f1 f3 f4 f5;obtain ⟨o,e,c,d⟩:=id C5;exact ⟨u,rfl,rW (s:={ s with heap:=h' }) e c d (by decide) ⟨x,H,I1,ru,⟨rfl,fun ys hy=>by rw [I.list_inj hy hq];exact hx⟩,C5,fun b hb=>(hf b hb).1⟩⟩
 done:=by
  intro X hP hw hK hc i pins s σ H E I hf st hg;subst hP hw hK;obtain ⟨xs,hq,hx⟩:=hg;obtain ⟨its,rv,p,hz⟩:=I.list hq;obtain ⟨f0,f1,f2,f3,f4,f5⟩:=hf it (by simp);have hl:=rv.length;exact wpAny_pyNext_list_end (I.ok.hd hc) st p.isList (by simp;omega) fun h' eb=>⟨rfl,I.turned (t':=s.toks) (fun b o hb e=>eb b o hb e) f0 f1 f3 f4 f5⟩
 self:=fun _ _ _ _ _ st h=>wpAny_pyIter_listiter st h
theorem lz {P:Vu} {w:VI} {K:Vc} {tg:Wq} (a it:Vd):Turn P w K tg (Itt K a) [it] it (fun i h=>h.IsTupleIter it a i) where
 mem:=by simp
 obj:=fun i h st b hb=>by
  have e:b=it:=by simpa using hb
  subst e;obtain ⟨o,e,c,d⟩:=st;exact ⟨o,e,fun v z=>by rw [d] at z;cases z⟩
 keep:=fun i h h' st k=>st.at fun o e=>k it (by simp) o e
 item:=by
  intro X hP hw hK hc i pins s σ H E I hf st hg;subst hP hw hK;obtain ⟨xs,x,hq,hx⟩:=hg;obtain ⟨its,rv,p,hz⟩:=I.tuple hq;obtain ⟨u,hu,ru⟩:=rv.get hx;obtain ⟨f0,f1,f2,f3,f4,f5⟩:=hf it (by simp);refine wpAny_pyNext_tuple_item st (show s.heap.IsTuple a its.toArray from p) (x:=u) (by simpa using hu) fun h' C5 sb=>?_;have I1:Inv X pins σ H { s with heap:=h' }:=I.turned (t':=s.toks) (fun b o hb e=>(sb.2 b hb).trans e) f0 f1 f3 f4 f5;obtain ⟨o,e,c,d⟩:=id C5;exact ⟨u,rfl,rW (s:={ s with heap:=h' }) e c d (by decide) ⟨x,H,I1,ru,⟨rfl,fun ys hy=>by rw [I.tuple_inj hy hq];exact hx⟩,C5,fun b hb=>(hf b hb).1⟩⟩
 done:=by
  intro X hP hw hK hc i pins s σ H E I hf st hg;subst hP hw hK;obtain ⟨xs,hq,hx⟩:=hg;obtain ⟨its,rv,p,hz⟩:=I.tuple hq;obtain ⟨f0,f1,f2,f3,f4,f5⟩:=hf it (by simp);have hl:=rv.length;exact wpAny_pyNext_tuple_end (I.ok.hd hc) st (show s.heap.IsTuple a its.toArray from p) (by simp;omega) fun h' eb=>⟨rfl,I.turned (t':=s.toks) (fun b o hb e=>eb b o hb e) f0 f1 f3 f4 f5⟩
 self:=fun _ _ _ _ _ st h=>wpAny_pyIter_tupleiter st h
theorem qb {P:Vu} {w:VI} {K:Vc} {tg:Wq} (it:Vd) (lo:Int) (n:Nat):Turn P w K tg (Itr lo n) [it] it (fun i h=>IsRangeIter h it (lo+(i:Nat) * 1) ((n:Int) - (i:Nat)) 1) where
 mem:=by simp
 obj:=fun i h st b hb=>by
  have e:b=it:=by simpa using hb
  subst e
  exact ⟨_,st,fun v z=>by
   have z':Data.fields _=Data.cell v:=z;cases z'⟩
 keep:=fun i h h' st k=>k it (by simp) _ st
 item:=by
  intro X hP hw hK hc i pins s σ H E I hf st hg;subst hP hw hK;obtain ⟨f0,f1,f2,f3,f4,f5⟩:=hf it (by simp);have W:=Walks.range (prog:=X.prog) (w:=X.w) (I.ok.hd hc) it lo 1 n;refine W.item i s _ _ hg st fun v h' tk hv C5 kk=>?_;obtain ⟨t,rfl⟩:=hv;have I1:Inv X pins σ H { s with heap:=h',toks:=tk }:=I.turned (fun b o hb e=>kk b o (by simpa using hb) e) f0 f1 f3 f4 f5;refine ⟨_,rfl,rW (s:={ s with heap:=h',toks:=tk }) (n:="range_iterator") C5 rfl rfl (by decide) ⟨.int (lo+i),H,I1,⟨t,?_⟩,⟨rfl,rfl⟩,C5,fun b hb=>(hf b hb).1⟩⟩;rw [Int.mul_one]
 done:=by
  intro X hP hw hK hc i pins s σ H E I hf st hg;subst hP hw hK;obtain ⟨f0,f1,f2,f3,f4,f5⟩:=hf it (by simp);exact wpAny_pyNext_range_end (I.ok.hd hc) st (by have:n<=i:=hg;omega) fun h' eb=>⟨rfl,I.turned (t':=s.toks) (fun b o hb e=>eb b o hb e) f0 f1 f3 f4 f5⟩
 self:=fun _ _ _ _ _ st h=>wpAny_pyIter_rangeiter st h
end L2
namespace L2
open PySem PySem.Spec PyProof.Rows
section
variable {X:Cx} {tg:Wq}
def yv (K:Vc) (tl:TE):TI:=fun σ H R=>tl σ H fun x H1=>∃ a,x=.ref a/\(∃ xs,SqL K H1 a xs)/\R (Itl K a) H1
def zd (K:Vc) (tl:TE):TI:=fun σ H R=>tl σ H fun x H1=>∃ a,x=.ref a/\(∃ xs,SqT K H1 a xs)/\R (Itt K a) H1
theorem cf {l:Wq} {tl:TE} (hl:PE X l tl):PI X tg l (yv X.K tl):=by
 intro pins s σ H R I h;refine thn (hl pins s σ H _ I h) fun v s1 ⟨x,H1,I1,r1,q1⟩=>?_;obtain ⟨a,e,⟨xs,hq⟩,q⟩:=q1;subst e;cases r1;obtain ⟨its,rv,p,hz⟩:=I1.list hq;refine wpAny_pyIter_list p.isList ?_;refine ⟨s1.heap.objs.size,[s1.heap.objs.size],_,_,H1,rfl,I1.kept (t':=s1.toks) fun b o e=>Vi _ e,m4 a _,⟨_,Vq _ rfl,rfl,rfl⟩,fun b hb=>?_,q⟩;have e:b=s1.heap.objs.size:=by simpa using hb
 subst e;exact I1.fpOk (Vj _) (I1.hok.fresh (Vj _))
theorem l6 {l:Wq} {tl:TE} (hl:PE X l tl):PI X tg l (zd X.K tl):=by
 intro pins s σ H R I h;refine thn (hl pins s σ H _ I h) fun v s1 ⟨x,H1,I1,r1,q1⟩=>?_;obtain ⟨a,e,⟨xs,hq⟩,q⟩:=q1;subst e;cases r1;obtain ⟨its,rv,p,hz⟩:=I1.tuple hq;refine X7 (show s1.heap.IsTuple a its.toArray from p) ?_;refine ⟨s1.heap.objs.size,[s1.heap.objs.size],_,_,H1,rfl,I1.kept (t':=s1.toks) fun b o e=>Vi _ e,lz a _,⟨_,Vq _ rfl,rfl,rfl⟩,fun b hb=>?_,q⟩;have e:b=s1.heap.objs.size:=by simpa using hb
 subst e;exact I1.fpOk (Vj _) (I1.hok.fresh (Vj _))
theorem pF {pins:List (Vd×Xq)} {σ:St} {H:Hp} {s:Vm} {R:It->Hp->Prop} {E:Vg->Vm->Prop} {lo hi:Int} {t u v:Tok} {tk:Nat} (I:Inv X pins σ H s) (h1:-(2 ^ 62)<=lo) (h2:lo<2 ^ 62) (h3:-(2 ^ 62)<=hi) (h4:hi<2 ^ 62)
 (q:R (Itr lo (hi - lo).toNat) H):Vw (VN X.prog X.w) X.A (pyIter (.ref s.heap.objs.size)) (PIE X pins σ tg R) E { s with heap:=s.heap.push { cls:=.type "range",data:=.fields #[.int lo t,.int hi u,.int 1 v] },toks:=tk }:=by
 refine wpAny_pyIter_range (IsRange.new ..) (small_one h1 h2 h3 h4) ?_;have I1:Inv X pins σ H { s with heap:=s.heap.push { cls:=.type "range",data:=.fields #[.int lo t,.int hi u,.int 1 v] },toks:=tk }:=I.kept fun b o e=>Vi _ e
 refine ⟨(s.heap.push { cls:=.type "range",data:=.fields #[.int lo t,.int hi u,.int 1 v] }).objs.size,[(s.heap.push { cls:=.type "range",data:=.fields #[.int lo t,.int hi u,.int 1 v] }).objs.size],_,_,H,rfl,
  I1.kept (t':=tk) fun b o e=>Vi _ e,qb _ lo (hi - lo).toNat,?_,fun b hb=>?_,q⟩
 · have e1:lo+((0:Nat):Int) * 1=lo:=by simp
   have e2:(((hi - lo).toNat:Nat):Int) - ((0:Nat):Int)=Builtin.Range.rangeSize lo hi 1:=by rw [rangeSize_one];split <;> omega
   show IsRangeIter _ _ (lo+((0:Nat):Int) * 1) ((((hi - lo).toNat:Nat):Int) - ((0:Nat):Int)) 1;rw [e1,e2];exact Vq _ rfl
 · have e:b=(s.heap.push { cls:=.type "range",data:=.fields #[.int lo t,.int hi u,.int 1 v] }).objs.size:=by simpa using hb
   subst e;exact I1.fpOk (Vj _) (I1.hok.fresh (Vj _))
def ya (ta:TA):TI:=fun σ H R=>ta σ H fun vs H1=>∃ j:Int,vs=[.int j]/\-(2 ^ 62)<=j/\j<2 ^ 62/\R (Itr 0 j.toNat) H1
def xT (ta:TA):TI:=fun σ H R=>ta σ H fun vs H1=>∃ i j:Int,vs=[.int i,.int j]/\(-(2 ^ 62)<=i/\i<2 ^ 62/\-(2 ^ 62)<=j/\j<2 ^ 62)/\R (Itr i (j - i).toNat) H1
theorem bp {a:Wq} {ta:TA} {p pos:Yr} (hg:Gl X "range") (hm:X.mg "range"=none) (ha:PA X [a] ta) (hs:V0 [a] X.env=[(false,Xh a X.env)]:=by rfl):PI X tg (.Call (.Name "range" p) [a] [] pos) (ya ta):=by
 intro pins s σ H R I h;refine Call_ (cU I hg hm boot_range (We (thn (ha pos pins s σ H _ I h) fun us s1 ⟨vs,H1,I1,r1,q1⟩=>?_) hs rfl));obtain ⟨j,e,q1,q2,q⟩:=q1;subst e;cases r1 with
 | cons r rr =>
   cases rr;obtain ⟨t,rfl⟩:=r;exact call_range_1 (pF I1 (by omega) (by omega) q1 q2 (by simpa using q))
theorem sH {a b:Wq} {ta:TA} {p pos:Yr} (hg:Gl X "range") (hm:X.mg "range"=none) (ha:PA X [a,b] ta) (hs:V0 [a,b] X.env=[(false,Xh a X.env),(false,Xh b X.env)]:=by rfl) (Hj:V0 [b] X.env=[(false,Xh b X.env)]:=by rfl) :
 PI X tg (.Call (.Name "range" p) [a,b] [] pos) (xT ta):=by
 intro pins s σ H R I h;refine Call_ (cU I hg hm boot_range (We (thn (ha pos pins s σ H _ I h) fun us s1 ⟨vs,H1,I1,r1,q1⟩=>?_) (by rw [hs,Hj]) (by rw [Hj];rfl)));obtain ⟨i,j,e,⟨q1,q2,q3,q4⟩,q⟩:=q1;subst e;cases r1 with
 | cons r rr =>
   cases rr with
   | cons r' rr =>
     cases rr;obtain ⟨t,rfl⟩:=r;obtain ⟨t',rfl⟩:=r';exact call_range_2 (pF I1 q1 q2 q3 q4 q)
def yU (wi:TI) (g:TG) (tb:TS):TS:=fun D σ H=>wi σ H fun J H1=>∃ W:Nat->Nat->St->Hp->Prop,(∃ m,W 0 m σ H1)/\∀ i m σ H,W i m σ H →
 (J.stop i H/\D.nx σ H)∨(J.go i H/\∃ N:St->Hp->Prop,(∀ zu H',N zu H'->∃ m',m'<m/\W (i+1) m' zu H')/\∀ x H',J.yld i H x H'->g x σ H' fun zU H2=>tb { D with nx:=N,ct:=N,bk:=D.nx } zU H2)
def kO (fp:List Vd) (h:Wx):List (Vd×Xq):=fp.filterMap fun b=>(h.get? b).map fun o=>(b,o)
theorem fx {fp:List Vd} {h:Wx} {b:Vd} {o:Xq} (hb:b∈fp) (e:h.get? b=some o):(b,o)∈kO fp h:=List.mem_filterMap.mpr ⟨b,hb,by rw [e];rfl⟩
theorem tJ {fp:List Vd} {h:Wx} {p:Vd×Xq} (hp:p∈kO fp h):p.1∈fp/\h.get? p.1=some p.2:=by
 obtain ⟨b,hb,e⟩:=List.mem_filterMap.mp hp;cases q:h.get? b with
 | none=>rw [q] at e;cases e
 | some o =>
   rw [q] at e;have e':(b,o)=p:=VL e;subst e';exact ⟨hb,q⟩
theorem Inv.pinned {pins:List (Vd×Xq)} {σ:St} {H:Hp} {s:Vm} {fp:List Vd} (I:Inv X pins σ H s) (hf:∀ b∈fp,jb X pins H b) (ho:∀ b∈fp,∃ o,s.heap.get? b=some o/\∀ v,o.data≠.cell v):Inv X (pins++kO fp s.heap) σ H s :=
 I.pins_of fun p hp=>(VX.mp hp).elim (fun z=>I.pin p (VY _ z)) fun z=>by
  obtain ⟨hb,e⟩:=tJ z;obtain ⟨f0,f1,f2,_⟩:=hf p.1 hb;obtain ⟨o,e',d⟩:=ho p.1 hb;rw [e] at e';cases e';exact ⟨e,f0,f1,f2,d⟩
theorem Inv.unpinned {pins pl:List (Vd×Xq)} {σ:St} {H:Hp} {s:Vm} (I:Inv X (pins++pl) σ H s):Inv X pins σ H s:=I.pins_of fun p hp=>I.pin p (VY _ (V6 _ hp))
theorem bw {iter:Wq} {body:List WL} {wi:TI} {g:TG} {tb:TS} {pos:Yr} (hp:PassesOwn (VN X.prog X.w) X.A X.env X.xe) (hc:X.calm=true) (hi:PI X tg iter wi) (hg:PG X tg g) (hb:PSs X body tb)
 (hs:∀ x,foldedSetIterable iter X.env x=pure x:=by intro _;rfl):PS X (.For tg iter body [] pos) (yU wi g tb):=by
 intro pins s σ H D I h;refine wpAny_For (thn (hi pins s σ H _ I h) fun v s1 h1=>thn h1 fun Ke s2 h2=>?_) hs;obtain ⟨it,fp,tn,J,H2,e,I2,T,B8,f2,W,⟨m0,w0⟩,turn⟩:=h2;subst e
 -- G4 stays true of C4 Fq objects through C4 loop
 have B9:∀ {H':Hp},(∀ b∈fp,H' b=none)->∀ b∈fp,jb X pins H' b:=fun hn b hb=>⟨hn b hb,(f2 b hb).2⟩;refine codeAny_forLoop_any (fun n s'=>∃ i zu H',Inv X pins zu H' s'/\tn i s'.heap/\(∀ b∈fp,H' b=none)/\W i n zu H') ?_ m0 ⟨0,σ,H2,I2,B8,fun b hb=>(f2 b hb).1,w0⟩;rintro n s3 ⟨i,Dd,H3,I3,OT,OU,w3⟩;rcases turn i n Dd H3 w3 with ⟨stop,qn⟩ | ⟨go,N,hN,step⟩
 · refine YC hp (thn (T.done X rfl rfl rfl hc i pins s3 Dd H3 X.xe I3 (B9 OU) OT stop) fun r s4 ⟨hr,I4⟩=>?_);subst hr;exact wpAny_execs_nil ⟨Dd,H3,I4,qn⟩
 · refine YC hp (thn (T.item X rfl rfl rfl hc i pins s3 Dd H3 X.xe I3 (B9 OU) OT go) fun r s4 ⟨u,hr,h4⟩=>?_);subst hr;refine YC hp (thn h4 fun _ s5 ⟨x,H5,I5,r5,y5,Gv,Kf⟩=>?_);have QY:=I5.pinned (B9 Kf) (T.obj _ _ Gv);refine YC hp (thn (hg _ s5 Dd H5 x u _ QY r5 (step x H5 y5)) fun _ s6 ⟨QZ,H6,I6,q6⟩=>?_);refine YC hp (thn (hb _ s6 QZ H6 _ I6 q6) fun f s7 q7=>?_)
   have again:∀ {De:St} {H7:Hp},Inv X (pins++kO fp s5.heap) De H7 s7->N De H7->∃ m,m<n/\∃ i zu H',Inv X pins zu H' s7/\tn i s7.heap/\(∀ b∈fp,H' b=none)/\W i m zu H':=fun {De H7} I7 n7=>by
    obtain ⟨m',hm,w7⟩:=hN De H7 n7;refine ⟨m',hm,i+1,De,H7,I7.unpinned,T.keep _ _ _ Gv fun b hb o e=>(I7.pin (b,o) (VY _ (VY _ (fx hb e)))).1,fun b hb=>?_,w7⟩;obtain ⟨o,e,d⟩:=T.obj _ _ Gv b hb;exact (I7.pin (b,o) (VY _ (VY _ (fx hb e)))).2.1
   cases f with
   | next=>obtain ⟨De,H7,I7,n7⟩:=q7;exact again I7 n7
   | cont=>obtain ⟨De,H7,I7,n7⟩:=q7;exact again I7 n7
   | brk=>obtain ⟨De,H7,I7,q7⟩:=q7;exact ⟨De,H7,I7.unpinned,q7⟩
   | ret v=>obtain ⟨x7,De,H7,I7,r7,q7⟩:=q7;exact ⟨x7,De,H7,I7.unpinned,r7,q7⟩
end
theorem cz {K:Vc} {a:Vd} {xs:List V} {g:TG} {tb:TS} {D:Ends} {σ:St} {H:Hp} (Pv:Nat->St->Hp->Prop) (h0:Pv 0 σ H) (hl:∀ i σ H,i<=xs.length->Pv i σ H->SqL K H a xs)
 (hs:∀ i x σ H,xs[i]?=some x->Pv i σ H->g x σ H fun zU H2=>tb { D with nx:=Pv (i+1),ct:=Pv (i+1),bk:=D.nx } zU H2) (hd:∀ σ H,Pv xs.length σ H->D.nx σ H) :
 ∃ W:Nat->Nat->St->Hp->Prop,(∃ m,W 0 m σ H)/\∀ i m σ H,W i m σ H →
   ((Itl K a).stop i H/\D.nx σ H)∨((Itl K a).go i H/\∃ N:St->Hp->Prop,(∀ zu H',N zu H'->∃ m',m'<m/\W (i+1) m' zu H')/\∀ x H',(Itl K a).yld i H x H'->g x σ H' fun zU H2=>tb { D with nx:=N,ct:=N,bk:=D.nx } zU H2):=by
 refine ⟨fun i m σ H=>m=xs.length - i/\i<=xs.length/\Pv i σ H,⟨xs.length,by simp,VJ _,h0⟩,?_⟩;rintro i m σ H ⟨rfl,hi,p⟩;have q:=hl i σ H hi p;by_cases zK:i<xs.length
 · refine .inr ⟨⟨xs,xs[i],q,by simp [zK]⟩,Pv (i+1),fun zu H' p'=>⟨xs.length - (i+1),by omega,rfl,zK,p'⟩,fun x H' y=>?_⟩;obtain ⟨e,y⟩:=y;subst e;exact hs i x σ _ (y xs q) p
 · have e:i=xs.length:=by omega
   subst e;exact .inl ⟨⟨xs,q,Vj _⟩,hd σ H p⟩
theorem wf {K:Vc} {a:Vd} {xs:List V} {g:TG} {tb:TS} {D:Ends} {σ:St} {H:Hp} (Pv:Nat->St->Hp->Prop) (h0:Pv 0 σ H) (hl:∀ i σ H,i<=xs.length->Pv i σ H->SqT K H a xs)
 (hs:∀ i x σ H,xs[i]?=some x->Pv i σ H->g x σ H fun zU H2=>tb { D with nx:=Pv (i+1),ct:=Pv (i+1),bk:=D.nx } zU H2) (hd:∀ σ H,Pv xs.length σ H->D.nx σ H) :
 ∃ W:Nat->Nat->St->Hp->Prop,(∃ m,W 0 m σ H)/\∀ i m σ H,W i m σ H →
   ((Itt K a).stop i H/\D.nx σ H)∨((Itt K a).go i H/\∃ N:St->Hp->Prop,(∀ zu H',N zu H'->∃ m',m'<m/\W (i+1) m' zu H')/\∀ x H',(Itt K a).yld i H x H'->g x σ H' fun zU H2=>tb { D with nx:=N,ct:=N,bk:=D.nx } zU H2):=by
 refine ⟨fun i m σ H=>m=xs.length - i/\i<=xs.length/\Pv i σ H,⟨xs.length,by simp,VJ _,h0⟩,?_⟩;rintro i m σ H ⟨rfl,hi,p⟩;have q:=hl i σ H hi p;by_cases zK:i<xs.length
 · refine .inr ⟨⟨xs,xs[i],q,by simp [zK]⟩,Pv (i+1),fun zu H' p'=>⟨xs.length - (i+1),by omega,rfl,zK,p'⟩,fun x H' y=>?_⟩;obtain ⟨e,y⟩:=y;subst e;exact hs i x σ _ (y xs q) p
 · have e:i=xs.length:=by omega
   subst e;exact .inl ⟨⟨xs,q,Vj _⟩,hd σ H p⟩
theorem dg {lo:Int} {n:Nat} {g:TG} {tb:TS} {D:Ends} {σ:St} {H:Hp} (Pv:Nat->St->Hp->Prop) (h0:Pv 0 σ H)
 (hs:∀ i σ H,i<n->Pv i σ H->g (.int (lo+i)) σ H fun zU H2=>tb { D with nx:=Pv (i+1),ct:=Pv (i+1),bk:=D.nx } zU H2) (hd:∀ σ H,Pv n σ H->D.nx σ H) :
 ∃ W:Nat->Nat->St->Hp->Prop,(∃ m,W 0 m σ H)/\∀ i m σ H,W i m σ H →
   ((Itr lo n).stop i H/\D.nx σ H)∨((Itr lo n).go i H/\∃ N:St->Hp->Prop,(∀ zu H',N zu H'->∃ m',m'<m/\W (i+1) m' zu H')/\∀ x H',(Itr lo n).yld i H x H'->g x σ H' fun zU H2=>tb { D with nx:=N,ct:=N,bk:=D.nx } zU H2):=by
 refine ⟨fun i m σ H=>m=n - i/\i<=n/\Pv i σ H,⟨n,by simp,VJ _,h0⟩,?_⟩;rintro i m σ H ⟨rfl,hi,p⟩;by_cases zK:i<n
 · refine .inr ⟨zK,Pv (i+1),fun zu H' p'=>⟨n - (i+1),by omega,rfl,zK,p'⟩,fun x H' y=>?_⟩;obtain ⟨e,y⟩:=y;subst e y;exact hs i σ _ zK p
 · have e:i=n:=by omega
   subst e;exact .inl ⟨Vj _,hd σ H p⟩
end L2
namespace L2
open PySem PySem.Spec PyProof.Rows
abbrev R2:=V->V->Hp->VK->Prop
def OpR (X:Cx) (f:Vg->Vg->Sem Vg) (r:R2):Prop :=
 ∀ (pins:List (Vd×Xq)) (s:Vm) (σ:St) (H:Hp) (x y:V) (v u:Vg) (Q:VK),Inv X pins σ H s->RelV x v->RelV y u->r x y H Q →
   Vw (VN X.prog X.w) X.A (f v u) (EP X pins σ Q) X.xe s
def UnR (X:Cx) (f:Vg->Sem Vg) (r:V->Hp->VK->Prop):Prop :=
 ∀ (pins:List (Vd×Xq)) (s:Vm) (σ:St) (H:Hp) (x:V) (v:Vg) (Q:VK),Inv X pins σ H s->RelV x v->r x H Q →
   Vw (VN X.prog X.w) X.A (f v) (EP X pins σ Q) X.xe s
def jI (X:Cx) (f:Vg) (r:List V->Hp->VK->Prop):Prop :=
 ∀ (pins:List (Vd×Xq)) (s:Vm) (σ:St) (H:Hp) (xs:List V) (us:List Vg) (Q:VK),Inv X pins σ H s->Vals xs us->r xs H Q →
   Vw (VN X.prog X.w) X.A (call f us) (EP X pins σ Q) X.xe s
def yX (X:Cx) (r:V->Hp->(Bool->Hp->Prop)->Prop):Prop :=
 ∀ (pins:List (Vd×Xq)) (s:Vm) (σ:St) (H:Hp) (x:V) (v:Vg) (Q:Bool->Hp->Prop),Inv X pins σ H s->RelV x v->r x H Q →
   Vw (VN X.prog X.w) X.A (truthy v) (TP X pins σ Q) X.xe s
def tOp (r:R2) (ta tb:TE):TE:=fun σ H Q=>ta σ H fun x H1=>tb σ H1 fun y H2=>r x y H2 Q
def tUn (r:V->Hp->VK->Prop) (ta:TE):TE:=fun σ H Q=>ta σ H fun x H1=>r x H1 Q
inductive IrI (C:Int->Int->Prop) (g:Int->Int->V) (x:V) (y:V) (H:Hp) (Q:VK):Prop
 | mk (i:_) (j:_) (zI:x=.int i) (zJ:y=.int j) (zP:C i j) (zZ:Q (g i j) H):IrI C g x y H Q
def rI (C:Int->Int->Prop) (g:Int->Int->V):R2:=IrI C g
inductive x9 (g:Int->Int->V) (x:V) (y:V) (H:Hp) (Q:VK):Prop
 | mk (i:_) (j:_) (zI:x=.int i) (zJ:y=.int j) (zP:Q (g i j) H):x9 g x y H Q
def rI0 (g:Int->Int->V):R2:=x9 g
inductive IrU (g:Int->V) (x:V) (H:Hp) (Q:VK):Prop
 | mk (i:_) (zI:x=.int i) (zJ:Q (g i) H):IrU g x H Q
def rU (g:Int->V):V->Hp->VK->Prop:=IrU g
section
variable {X:Cx} {a b c:Wq} {ta tb tc:TE} {pos:Yr}
theorem xH (ha:PE X a ta) (hb:PE X b tb) {pins:List (Vd×Xq)} {s:Vm} {σ:St} {H:Hp} {R:V->V->Hp->Prop} (I:Inv X pins σ H s)
 (h:ta σ H fun x H1=>tb σ H1 fun y H2=>R x y H2) {Q:Vg->Vm->Prop} {f:Vg->Vg->Sem Vg}
 (hf:∀ v u s2 x y H2,Inv X pins σ H2 s2->RelV x v->RelV y u->R x y H2->Vw (VN X.prog X.w) X.A (f v u) Q X.xe s2) :
 Vw (VN X.prog X.w) X.A (Xh a X.env) (fun v zt=>Vw (VN X.prog X.w) X.A (Xh b X.env) (fun u Ad=>Vw (VN X.prog X.w) X.A (f v u) Q X.xe Ad) X.xe zt) X.xe s:=by
 refine thn (ha pins s σ H _ I h) fun v s1 ⟨x,H1,I1,r1,q1⟩=>?_;refine thn (hb pins s1 σ H1 _ I1 q1) fun u s2 ⟨y,H2,I2,r2,q2⟩=>?_;exact hf v u s2 x y H2 I2 r1 r2 q2
theorem aH {op:Operator} {r:R2} (ho:OpR X (Zl op) r) (ha:PE X a ta) (hb:PE X b tb):PE X (.BinOp a op b pos) (tOp r ta tb):=by
 intro pins s σ H Q I h;exact wpAny_BinOp (xH ha hb I h fun v u s2 x y H2 I2 rx ry q=>ho pins s2 σ H2 x y v u Q I2 rx ry q)
theorem yp {op:UnaryOp} {r:V->Hp->VK->Prop} (ho:UnR X (unaryOp op) r) (ha:PE X a ta):PE X (.UnaryOp op a pos) (tUn r ta):=by
 intro pins s σ H Q I h;exact UnaryOp_ (thn (ha pins s σ H _ I h) fun v s1 ⟨x,H1,I1,r1,q1⟩=>ho pins s1 σ H1 x v Q I1 r1 q1)
theorem opI {f:Vg->Vg->Sem Vg} {C:Int->Int->Prop} {g:Int->Int->Int}
 (rule:∀ (i j:Int) (t u:Tok) (s:Vm) (Q:Vg->Vm->Prop) (E:Vg->Vm->Prop),C i j->Q (.int (g i j) s.toks) { s with toks:=s.toks+1 }->Vw (VN X.prog X.w) X.A (f (.int i t) (.int j u)) Q E s) :
 OpR X f (rI C fun i j=>.int (g i j)):=by
 intro pins s σ H x y v u Q I rx ry h;obtain ⟨i,j,rfl,rfl,hc,q⟩:=h;obtain ⟨t,rfl⟩:=rx;obtain ⟨t',rfl⟩:=ry;exact rule i j t t' s _ _ hc ⟨.int (g i j),H,I.tok _,⟨_,rfl⟩,q⟩
theorem yI {f:Vg->Vg->Sem Vg} {g:Int->Int->Int}
 (rule:∀ (i j:Int) (t u:Tok) (s:Vm) (Q:Vg->Vm->Prop) (E:Vg->Vm->Prop),Q (.int (g i j) s.toks) { s with toks:=s.toks+1 }->Vw (VN X.prog X.w) X.A (f (.int i t) (.int j u)) Q E s) :
 OpR X f (rI0 fun i j=>.int (g i j)):=by
 intro pins s σ H x y v u Q I rx ry h;obtain ⟨i,j,rfl,rfl,q⟩:=h;obtain ⟨t,rfl⟩:=rx;obtain ⟨t',rfl⟩:=ry;exact rule i j t t' s _ _ ⟨.int (g i j),H,I.tok _,⟨_,rfl⟩,q⟩
theorem xv {f:Vg->Vg->Sem Vg} {g:Int->Int->Bool}
 (rule:∀ (i j:Int) (t u:Tok) (s:Vm) (Q:Vg->Vm->Prop) (E:Vg->Vm->Prop),Q (.bool (g i j)) s->Vw (VN X.prog X.w) X.A (f (.int i t) (.int j u)) Q E s) :
 OpR X f (rI0 fun i j=>.bl (g i j)):=by
 intro pins s σ H x y v u Q I rx ry h;obtain ⟨i,j,rfl,rfl,q⟩:=h;obtain ⟨t,rfl⟩:=rx;obtain ⟨t',rfl⟩:=ry;exact rule i j t t' s _ _ ⟨.bl (g i j),H,I,rfl,q⟩
def yQ (i j:Int):Prop:=0<j/\j<1073741824
def CMul (i j:Int):Prop:=(-(2 ^ 64)<i/\i<2 ^ 64)∨(-(2 ^ 64)<j/\j<2 ^ 64)
theorem CMul.ok {i j:Int} (h:CMul i j):IntMulOk i j:=by
 rcases h with ⟨h1,h2⟩ | ⟨h1,h2⟩
 · exact .of_left (intBits_le_64 h1 h2)
 · exact .of_right (intBits_le_64 h1 h2)
theorem eF:OpR X (Zl .Add) (rI0 fun i j=>.int (i+j)):=yI fun _ _ _ _ _ _ _ q=>add_int q
theorem qZ:OpR X (Zl .Sub) (rI0 fun i j=>.int (i - j)):=yI fun _ _ _ _ _ _ _ q=>sub_int q
theorem ga:OpR X (Zl .Mult) (rI CMul fun i j=>.int (i * j)):=opI fun _ _ _ _ _ _ _ hc q=>mul_int q hc.ok
theorem dH:OpR X (Zl .FloorDiv) (rI yQ fun i j=>.int (i / j)):=opI fun i j _ _ _ _ _ hc q=>by
 have h1:(0:Int)<j:=hc.1;have h2:j<1073741824:=hc.2;exact floordiv_int (by omega) (by rw [Int.fdiv_eq_ediv_of_nonneg i (by omega)];exact q) (.inl (PyProof.noPylong_small (by omega)))
theorem cq:OpR X (Zl .Mod) (rI (fun _ j=>0<j) fun i j=>.int (i%j)):=opI fun i j _ _ _ _ _ hc q=>by
 have h1:(0:Int)<j:=hc;exact mod_int' (by omega) (by rw [Int.fmod_eq_emod_of_nonneg i (by omega)];exact q)
theorem unI {f:Vg->Sem Vg} {g:Int->Int}
 (rule:∀ (i:Int) (t:Tok) (s:Vm) (Q:Vg->Vm->Prop) (E:Vg->Vm->Prop),Q (.int (g i) s.toks) { s with toks:=s.toks+1 }->Vw (VN X.prog X.w) X.A (f (.int i t)) Q E s) :
 UnR X f (rU fun i=>.int (g i)):=by
 intro pins s σ H x v Q I rx h;obtain ⟨i,rfl,q⟩:=h;obtain ⟨t,rfl⟩:=rx;exact rule i t s _ _ ⟨.int (g i),H,I.tok _,⟨_,rfl⟩,q⟩
theorem wX:UnR X (unaryOp .USub) (rU fun i=>.int (-i)):=unI fun _ _ _ _ _ q=>neg_int q
end
def zm:V->V->Bool
 | .non,.non=>true | .non,.int _=>true | .int _,.non=>true | .non,.bl _=>true | .bl _,.non=>true | .non,.str _=>true | .str _,.non=>true
 | .int _,.int _=>true | .bl _,.bl _=>true | .str _,.str _=>true | .byt _,.byt _=>true
 | .int _,.str _=>true | .str _,.int _=>true | .bl _,.str _=>true | .str _,.bl _=>true
 | _,_=>false
inductive xY (x:V) (y:V) (H:Hp) (Q:VK):Prop
 | mk  (zI:zm x y=true) (zJ:Q (.bl (decide (x=y))) H):xY  x y H Q
def rEq:R2:=xY
theorem v8 {i j:Int}:decide (V.int i=V.int j)=(i == j):=by
 rw [Zq];simp
theorem xg {i j:Bool}:decide (V.bl i=V.bl j)=(i == j):=by
 rw [Zq];simp
theorem vV {i j:VM}:decide (V.str i=V.str j)=(i == j):=by
 rw [Zq];simp
theorem vK {i j:Array UInt8}:decide (V.byt i=V.byt j)=(i.toList == j.toList):=by
 rw [Zq];cases i;cases j;simp
section
variable {X:Cx} {a b c:Wq} {ta tb tc:TE} {pos:Yr}
theorem cn {pins:List (Vd×Xq)} {σ:St} {H:Hp} {s:Vm} {Q:VK} {k k':Bool} (I:Inv X pins σ H s) (q:Q (.bl k) H) (e:k=k'):EP X pins σ Q (.bool k') s:=by
 subst e;exact ⟨.bl k,H,I,rfl,q⟩
theorem mF:OpR X (Za .Eq) rEq:=by
 intro pins s σ H x y v u Q I rx ry h;obtain ⟨hs,q⟩:=h;cases x with
 | non =>
   cases rx;cases y with
   | non=>cases ry;exact PySem.EqNone.eq_none_none (cn I q (by simp))
   | bl j=>cases ry;exact PySem.EqNone.eq_none_bool (cn I q (by simp))
   | int j=>obtain ⟨t',rfl⟩:=ry;exact PySem.EqNone.eq_none_int (cn I q (by simp))
   | str j=>obtain ⟨t',rfl⟩:=ry;exact PySem.EqNone.eq_none_str (cn I q (by simp))
   | _=>exact absurd (show false=true from hs) VG
 | bl i =>
   cases rx;cases y with
   | non=>cases ry;exact PySem.EqNone.eq_bool_none (cn I q (by simp))
   | bl j=>cases ry;exact eq_bool (cn I q xg)
   | str j=>obtain ⟨t',rfl⟩:=ry;exact PySem.EqMixed.eq_bool_str (cn I q (by simp))
   | _=>exact absurd (show false=true from hs) VG
 | int i =>
   obtain ⟨t,rfl⟩:=rx;cases y with
   | non=>cases ry;exact PySem.EqNone.eq_int_none (cn I q (by simp))
   | int j=>obtain ⟨t',rfl⟩:=ry;exact eq_int (cn I q v8)
   | str j=>obtain ⟨t',rfl⟩:=ry;exact PySem.EqMixed.eq_int_str (cn I q (by simp))
   | _=>exact absurd (show false=true from hs) VG
 | str i =>
   obtain ⟨t,rfl⟩:=rx;cases y with
   | non=>cases ry;exact PySem.EqNone.eq_str_none (cn I q (by simp))
   | bl j=>cases ry;exact PySem.EqMixed.eq_str_bool (cn I q (by simp))
   | int j=>obtain ⟨t',rfl⟩:=ry;exact PySem.EqMixed.eq_str_int (cn I q (by simp))
   | str j=>obtain ⟨t',rfl⟩:=ry;exact eq_str (cn I q vV)
   | _=>exact absurd (show false=true from hs) VG
 | byt i =>
   obtain ⟨t,rfl⟩:=rx;cases y with
   | byt j=>obtain ⟨t',rfl⟩:=ry;exact PySem.W.eq_bytes (cn I q vK)
   | _=>exact absurd (show false=true from hs) VG
 | _=>cases y <;> exact absurd (show false=true from hs) VG
theorem uA:OpR X (Za .Lt) (rI0 fun i j=>.bl (decide (i<j))):=xv fun _ _ _ _ _ _ _ q=>lt_int q
theorem u6:OpR X (Za .LtE) (rI0 fun i j=>.bl (decide (i<=j))):=xv fun _ _ _ _ _ _ _ q=>le_int q
theorem pq:OpR X (Za .Gt) (rI0 fun i j=>.bl (decide (j<i))):=xv fun _ _ _ _ _ _ _ q=>gt_int q
theorem bP (b:Wq) {op:CmpOp} (h:op≠.In:=by decide) (h2:op≠.NotIn:=by decide):Z7 op b=false:=by
 have e1:(op == CmpOp.In)=false:=by cases op <;> first | rfl | exact absurd rfl h
 have e2:(op == CmpOp.NotIn)=false:=by cases op <;> first | rfl | exact absurd rfl h2
 cases b <;> simp [Z7,e1,e2]
theorem dS {op:CmpOp} {r:R2} (ho:OpR X (Za op) r) (ha:PE X a ta) (hb:PE X b tb) (hm:Z7 op b=false):PE X (.Compare a [op] [b] pos) (tOp r ta tb):=by
 intro pins s σ H Q I h;exact wpAny_Compare1 (xH ha hb I h fun v u s2 x y H2 I2 rx ry q=>ho pins s2 σ H2 x y v u Q I2 rx ry q) hm
inductive wQ (x:V) (Q:Bool->Hp->Prop) (H':Hp):Prop
 | mk (k:Bool) (zI:x=.bl k) (zJ:Q k H'):wQ x Q H'
def re (t:TE):TT:=fun σ H Q=>t σ H fun x H'=>wQ x Q H'
theorem ci {op:CmpOp} {r:R2} (ho:OpR X (Za op) r) (ha:PE X a ta) (hb:PE X b tb) (hm:Z7 op b=false):PT X (.Compare a [op] [b] pos) (re (tOp r ta tb)):=by
 intro pins s σ H Q I h
 refine wpAny_isTrue_Compare1 (thn (ha pins s σ H _ I h) fun v s1 ⟨x,H1,I1,r1,q1⟩=>thn (hb pins s1 σ H1 _ I1 q1) fun u s2 ⟨y,H2,I2,r2,q2⟩ =>
  thn (ho pins s2 σ H2 x y v u _ I2 r1 r2 q2) fun c s3 ⟨z,H3,I3,r3,k,e,q3⟩=>?_) hm
 subst e;cases r3;exact Zh ⟨H3,I3,q3⟩
def tS (K:Vc) (x:V) (H:Hp) (k:Bool):Prop :=
 match x with
 | .non=>k=false
 | .bl b=>k=b
 | .int i=>k=(i != 0)
 | .str y=>y.length<=Vz/\k=((y.length:Int) != 0)
 | .byt y=>y.size<=Vz/\k=((y.size:Int) != 0)
 | .ref p=>(∃ xs,SqL K H p xs/\k=!xs.isEmpty)∨(∃ xs,SqT K H p xs/\k=!xs.isEmpty)∨∃ f',H p=some (.dK f')/\k=!f'.isEmpty
 | _=>False
theorem qP {κ:Type} {f':List (κ×V)} {vs:List (κ×Vg)} (r:KV f' vs):(!vs.isEmpty)=!f'.isEmpty:=by
 cases r <;> rfl
theorem l3 {xs:List V} {its:List Vg} (r:Vals xs its):(!its.toArray.isEmpty)=!xs.isEmpty:=by
 cases r <;> simp
theorem fD:(Vz:Nat)<2 ^ 63:=by rw [YA];decide
theorem xG:yX X (fun x H Q=>∃ k,tS X.K x H k/\Q k H):=by
 intro pins s σ H x v Q I rx h;obtain ⟨k,e,q⟩:=h;have hl:=fD;have hs:Vz=16777216:=YA;cases x with
 | non =>
   cases rx;have e':k=false:=e;subst e';exact truthy_none ⟨H,I,q⟩
 | bl b =>
   cases rx;have e':k=b:=e;subst e';exact Zh ⟨H,I,q⟩
 | int i =>
   obtain ⟨t,rfl⟩:=rx;have e':k=(i != 0):=e;subst e';exact PySem.P.truthy_int ⟨H,I,q⟩
 | str y =>
   obtain ⟨t,rfl⟩:=rx;obtain ⟨hy,e'⟩:y.length<=Vz/\k=((y.length:Int) != 0):=e;subst e';exact PySem.P.truthy_str (by omega) ⟨H,I.tok _,q⟩
 | byt y =>
   obtain ⟨t,rfl⟩:=rx;obtain ⟨hy,e'⟩:y.size<=Vz/\k=((y.size:Int) != 0):=e;subst e';exact PySem.W.truthy_bytes (by omega) ⟨H,I.tok _,q⟩
 | ref p =>
   cases rx;have e':(∃ xs,SqL X.K H p xs/\k=!xs.isEmpty)∨(∃ xs,SqT X.K H p xs/\k=!xs.isEmpty)∨∃ f',H p=some (.dK f')/\k=!f'.isEmpty:=e;rcases e' with ⟨xs,hx,e'⟩ | ⟨xs,hx,e'⟩ | ⟨f',hx,e'⟩
   · subst e';obtain ⟨its,r,pl,hz⟩:=I.list hx;have hlen:=r.length;exact wpAny_truthy_list pl.isList (by simp only [Vr];omega) ⟨H,I.tok _,by rw [l3 r];exact q⟩
   · subst e';obtain ⟨its,r,pl,hz⟩:=I.tuple hx;have hlen:=r.length;exact truthy_tuple pl (by simp only [Vr];omega) ⟨H,I.tok _,by rw [l3 r];exact q⟩
   · subst e';obtain ⟨hz,hS,vs,r,m⟩:f'.length<=Vz/\(p == Xc)=false/\∃ vs,KV f' vs/\s.heap.DictOf (ay X.prog X.w) p vs:=I.hok p _ hx;have hlen:f'.length=vs.length:=Vv r;exact wpAny_truthy_dict hS m (by omega) ⟨H,I.tok _,by rw [qP r];exact q⟩
 | _=>exact (show False from e).elim
theorem bi (ha:PE X a ta) (he:∀ whole,isTrue a X.env whole=(do let v ← whole;standAt a.pos;holding [v] (truthy v))) :
 PT X a (fun σ H Q=>ta σ H fun x H'=>∃ k,tS X.K x H' k/\Q k H'):=by
 intro pins s σ H Q I h;exact isTrue_plain (thn (ha pins s σ H _ I h) fun v s1 ⟨x,H1,I1,r1,q1⟩=>xG pins s1 σ H1 x v Q I1 r1 q1) (he _)
theorem qY:OpR X (Zl .Add) (fun x y H Q=>∃ i j,x=.str i/\y=.str j/\i.length+j.length<=Vz/\Q (.str (i++j)) H):=by
 intro pins s σ H x y v u Q I rx ry h;obtain ⟨i,j,rfl,rfl,hz,q⟩:=h;obtain ⟨t,rfl⟩:=rx;obtain ⟨t',rfl⟩:=ry;exact add_str (fun t' tk=>⟨.str (i++j),H,I.tok _,⟨_,rfl⟩,q⟩) hz
theorem vals1 {x:V} {us:List Vg} (r:Vals [x] us):∃ u,us=[u]/\RelV x u:=by
 cases r with
 | cons r1 r2=>cases r2;exact ⟨_,rfl,r1⟩
theorem vals2 {x y:V} {us:List Vg} (r:Vals [x,y] us):∃ u w',us=[u,w']/\RelV x u/\RelV y w':=by
 cases r with
 | cons r1 r2 =>
   cases r2 with
   | cons r3 r4=>cases r4;exact ⟨_,_,rfl,r1,r3⟩
end
end L2
namespace L2
open PySem PySem.Spec PyProof.Rows
structure ObjM (h:Wx) (x dx C:Vd) (mA:VM->Option Vg):Prop where
 obj:h.get? x=some (X1 C dx)
 ns:h.Ns1 dx mA
 ne:dx≠x
theorem sQ {h:Wx} {dx:Vd} {mA:VM->Option Vg} (n:h.Ns1 dx mA):∃ od,h.get? dx=some od/\∀ name,PySem.W.lookIn name od=some (mA name):=by
 obtain ⟨o,es,ep,ho,hd,hk,_,hm⟩:=n;refine ⟨o,ho,fun name=>?_⟩;have e:=hm name;unfold nsFind findBy at e;rw [<- Array.find?_toList] at e;unfold PySem.W.lookIn;rw [hd];dsimp only;split
 · rename_i y q
   rw [q] at e;exact congrArg some e
 · rename_i q
   rw [q] at e
   have a:es.toList.any (·.refKey)=false:=by
    rw [List.any_eq_false];intro y hy;obtain ⟨z,t,Ca⟩:=hk y (Array.mem_toList_iff.mp hy);simp [DictEntry.refKey,Ca]
   have a':¬ es.toList.any (·.refKey)=true:=by rw [a];exact VG
   rw [if_neg a'];exact congrArg some e
theorem ObjM.look {h:Wx} {x dx C:Vd} {mA:VM->Option Vg} (I:ObjM h x dx C mA):∃ od,PySem.W.InstAt h x (X1 C dx) C (some od)/\∀ name,PySem.W.lookIn name od=some (mA name) :=
 let ⟨od,ho,hl⟩:=sQ I.ns
 ⟨od,⟨I.obj,rfl,rfl,ho⟩,hl⟩
section
variable {prog:Vu} {w:VI} {A:V2} {E:Vg->Vm->Prop} {s:Vm} {K:Vc} {x dx C f:Vd} {mA:VM->Option Vg} {name:VM} {v:Vg}
theorem get_map {expr:Bool} {Q:Vg->Vm->Prop} (X:K.In s.heap) (I:ObjM s.heap x dx C mA) (hg:Zd K C name=true) (hh:ZF K C=true)
 (ha:WU K (.ref C) name=some none) (hv:mA name=some v) (AK:PySem.W.handedIn v=true) (h:Q v { s with toks:=s.toks+1 }) :
 Vw (VN prog w) A (getAttr (.ref x) name expr) Q E s:=by
 obtain ⟨od,J,hl⟩:=I.look;exact PySem.W.get_value X J (PySem.W.plainGet_of hg).1 (PySem.W.findObj_own hh ha rfl (by rw [hl,hv])) AK h
theorem uq {pl:Sem Bool} {Q:Vg×List Vg->Vm->Prop} (X:K.In s.heap) (I:ObjM s.heap x dx C mA) (hg:Zd K C name=true)
 (hf:WU K (.ref C) name=some (some (.ref f))) (ht:ZU K (.ref f)=true) (hv:mA name=none) (h:Q (.ref f,[.ref x]) s) :
 Vw (VN prog w) A (getMethod (.ref x) name pl) Q E s:=by
 obtain ⟨od,J,hl⟩:=I.look;exact PySem.W.method_fn X J (PySem.W.plainGet_of hg).1 (PySem.W.plainGet_of hg).2 hf (beq_iff_eq.mp ht) (by show (PySem.W.lookIn name od).map (·.isSome)=some false;rw [hl,hv];rfl) h
theorem wo {ns:List VM} {Q:Unit->Vm->Prop} (X:K.In s.heap) (I:ObjM s.heap x dx C mA)
 (hs:WU K (.ref C) "__setattr__"=some (some (.builtin "object.__setattr__"))) (hp:PySem.W.plainOver K C=true) (ht:PySem.W.takerIn K C name=some none) (hh:ZF K C=true)
 (hw:PySem.Within mA ns) (hsz:ns.length<=Vz)
 (h:∀ h',ObjM h' x dx C (fun y=>if y=name then some v else mA y)->W3 dx s.heap h'->Q () { s with heap:=h',toks:=s.toks+2 }) :
 Vw (VN prog w) A (setAttr (.ref x) name v) Q E s:=by
 obtain ⟨od,J,hl⟩:=I.look;refine PySem.W.set_plain X J hs (PySem.W.osa_open (s:={ s with toks:=s.toks+1 }) (r:=none) X J hp ht fun b=>?_);obtain ⟨cd,hc,AR⟩:=PySem.W.any_some hh;have hx:s.heap.get? x=some ⟨.ref C,some dx,.plain,#[]⟩:=I.obj;refine Va (Vk (Va (Va (wpAny_loadPart hx (Va (PySem.W.Looks.here (s:={ s with toks:=s.toks+1 }) (PySem.W.looks_clsIn X hc) ?_))))));rw [AR];refine Vk (a:=some dx) (Va (Vk (Va ?_)));refine wpAny_nsSet1 (s:={ s with toks:=s.toks+1 }) I.ns fun h' Hk Hj=>?_;obtain ⟨oD,Ui,Uj,Q0,Q1,Q2⟩:=Hk.count (PySem.Within.cons name v hw);refine Va (wpAny_lookBehind Q0 (by rw [Q1];exact pastItsLine_dict (WZ Q2 (by rw [Vo];omega))) ?_);exact Vk (h _ ⟨(Hj.2 _ (W4 I.ne)).trans I.obj,Hk,I.ne⟩ Hj)
theorem ue {R:Result->Vm->Prop} {vs:List Vg} {kw:List (VM×Vg)} (X:K.In s.heap) (hm:PySem.W.makesIn K C=true)
 (hi:WU K (.ref C) "__init__"=some (some (.ref f))) (hf:PySem.W.typeIn K (.ref f)=some (.type "function"))
 (h:YM (VN prog w) (A.under (.builtin "type.__call__" ⟨.ref C::vs,kw⟩)) (.call (.ref f) ⟨.ref (s.heap.objs.size+1)::vs,kw⟩) (PySem.W.InitBack (s.heap.objs.size+1) R)
  { s with heap:=(s.heap.push Xk).push (X1 C s.heap.objs.size) }) :
 YM (VN prog w) A (.call (.ref C) ⟨vs,kw⟩) R s:=by
 obtain ⟨hh,g,d,t,os⟩:=s;exact PySem.W.make_core (PySem.W.makes_of X hm) (PySem.W.looks_findIn X hi) (fun self=>PySem.W.bind_fn X self hf) (.inl rfl) h
end
def cO (f:VM) (v:V):List (VM×V)->List (VM×V)
 | []=>[(f,v)]
 | (g,x)::r=>if g=f then (g,v)::r else (g,x)::cO f v r
theorem jS (f g:VM) (v:V):∀ fs:List (VM×V),(cO f v fs).lookup g=if g=f then some v else fs.lookup g
 | []=>by
   show Yc g [(f,v)]=_;by_cases h:g=f
   · have hb:(g == f)=true:=beq_iff_eq.mpr h;simp only [Yc,hb,if_pos h]
   · have hb:(g == f)=false:=beq_eq_false_iff_ne.mpr h;simp only [Yc,hb,if_neg h]
 | (k,x)::r=>by
   have ih:=jS f g v r;rw [show cO f v ((k,x)::r)=(if k=f then (k,v)::r else (k,x)::cO f v r) from rfl];by_cases hk:k=f
   · rw [if_pos hk];by_cases h:g=k
     · have hb:(g == k)=true:=beq_iff_eq.mpr h;simp only [Yc,hb,if_pos (h.trans hk)]
     · have hb:(g == k)=false:=beq_eq_false_iff_ne.mpr h;simp only [Yc,hb,if_neg (fun e:g=f=>h (e.trans hk.symm))]
   · rw [if_neg hk];by_cases h:g=k
     · have hb:(g == k)=true:=beq_iff_eq.mpr h;simp only [Yc,hb,if_neg (fun e:g=f=>hk (h.symm.trans e))]
     · have hb:(g == k)=false:=beq_eq_false_iff_ne.mpr h;simp only [Yc,hb];exact ih
theorem i9 (f:VM) (v:V):∀ fs:List (VM×V),f∈(cO f v fs).map (·.1)/\∀ g,g∈fs.map (·.1)->g∈(cO f v fs).map (·.1)
 | []=>⟨by simp [cO],fun g h=>by simp at h⟩
 | (k,x)::r=>by
   obtain ⟨i1,i2⟩:=i9 f v r;rw [show cO f v ((k,x)::r)=(if k=f then (k,v)::r else (k,x)::cO f v r) from rfl];by_cases hk:k=f
   · rw [if_pos hk];subst hk;exact ⟨by simp,fun g h=>by simpa using h⟩
   · rw [if_neg hk];refine ⟨?_,fun g h=>?_⟩
     · rw [V3];exact VB _ i1
     · rw [V3] at h ⊢;rcases VA.mp h with e | e
       · exact VA.mpr (.inl e)
       · exact VB _ (i2 g e)
theorem jT (f:VM) (v:V):∀ fs:List (VM×V),(cO f v fs).length<=fs.length+1
 | []=>by simp [cO]
 | (k,x)::r=>by
   have ih:=jT f v r;rw [show cO f v ((k,x)::r)=(if k=f then (k,v)::r else (k,x)::cO f v r) from rfl];by_cases hk:k=f
   · rw [if_pos hk,Vo,Vo];omega
   · rw [if_neg hk,Vo,Vo];omega
theorem RelO.some_of {v:V} {o:Option Vg} (r:RelO (some v) o):∃ u,o=some u/\RelV v u:=by
 cases o with
 | none=>exact (show False from r).elim
 | some u=>exact ⟨u,rfl,r⟩
theorem RelO.none_of {o:Option Vg} (r:RelO none o):o=none:=by
 cases o with
 | none=>rfl
 | some u=>exact (show False from r).elim
theorem tz {v:V} {u:Vg} (r:RelV v u):PySem.W.handedIn u=true:=by
 cases v with
 | non=>cases (show u=WI from r);rfl
 | bl b=>cases (show u=Value.bool b from r);rfl
 | int i=>obtain ⟨t,e⟩:=(show ∃ t,u=Value.int i t from r);cases e;rfl
 | str x=>obtain ⟨t,e⟩:=(show ∃ t,u=Value.str x t from r);cases e;rfl
 | byt b=>obtain ⟨t,e⟩:=(show ∃ t,u=Value.bytes b t from r);cases e;rfl
 | flt b=>obtain ⟨t,e⟩:=(show ∃ t,u=Value.float b t from r);cases e;rfl
 | ref a=>cases (show u=VO a from r);rfl
 | ty n=>cases (show u=XD n from r);rfl
section
variable {P:Vu} {w:VI} {H H':Hp} {h h':Wx} {a C dx:Vd} {fs Gu:List (VM×V)}
theorem nW (hok:HOk P w H h) (e:H a=some (.ins C dx fs)):∃ mA,ObjM h a dx C mA/\(∀ f,RelO (fs.lookup f) (mA f))/\PySem.Within mA (fs.map (·.1))/\fs.length<=1000/\H dx=some (.own a):=by
 obtain ⟨d,z,ne,ob,mA,n,r,q⟩:=(show ObjOk P w H h a (.ins C dx fs) from hok a _ e);exact ⟨mA,⟨ob,n,ne⟩,r,q,z,d⟩
end
structure Cls (K:Vc) (C:Vd):Prop where
 pg:Zd K C Str.empty=true
 hd:ZF K C=true
 po:PySem.W.plainOver K C=true
 sa:WU K (.ref C) "__setattr__"=some (some (.builtin "object.__setattr__"))
theorem Cls.get {K:Vc} {C:Vd} (c:Cls K C) (f:VM):Zd K C f=true:=c.pg
def NoAttr (K:Vc) (C:Vd) (f:VM):Prop:=WU K (.ref C) f=some none
theorem NoAttr.taker {K:Vc} {C:Vd} {f:VM} (n:NoAttr K C f):PySem.W.takerIn K C f=some none:=by
 unfold PySem.W.takerIn;rw [show WU K (.ref C) f=some none from n];rfl
structure Meth (K:Vc) (C:Vd) (m:VM) (f:Vd):Prop where
 at_:WU K (.ref C) m=some (some (.ref f))
 fn:ZU K (.ref f)=true
 kp:XB K (.ref f)=true
section
variable {X:Cx} {pins:List (Vd×Xq)} {σ:St} {H:Hp} {s:Vm} {a C dx:Vd} {fs:List (VM×V)} {f:VM} {v:V} {A:V2} {E:Vg->Vm->Prop}
theorem kU {b:Bool} {Q:Vg->Vm->Prop} (I:Inv X pins σ H s) (e:H a=some (.ins C dx fs)) (c:Cls X.K C) (n:NoAttr X.K C f) (l:fs.lookup f=some v)
 (h:∀ u s',Inv X pins σ H s'->RelV v u->Q u s'):Vw (VN X.prog X.w) A (getAttr (.ref a) f b) Q E s:=by
 obtain ⟨mA,O,r,_,_,_⟩:=nW I.hok e;obtain ⟨u,hu,ru⟩:=RelO.some_of (v:=v) (o:=mA f) (by rw [<- l];exact r f);exact get_map I.kIn O (c.get f) c.hd n hu (tz ru) (h u _ (I.tok _) ru)
theorem qy {m:VM} {g:Vd} {pl:Sem Bool} {Q:Vg×List Vg->Vm->Prop} (I:Inv X pins σ H s) (e:H a=some (.ins C dx fs)) (c:Cls X.K C) (k:Meth X.K C m g) (l:fs.lookup m=none)
 (h:Q (.ref g,[.ref a]) s):Vw (VN X.prog X.w) A (getMethod (.ref a) m pl) Q E s:=by
 obtain ⟨mA,O,r,_,_,_⟩:=nW I.hok e;have hn:mA m=none:=RelO.none_of (by rw [<- l];exact r m);exact uq I.kIn O (c.get m) k.at_ k.fn hn h
theorem lF {y:V} {u:Vg} {Q:Unit->Vm->Prop} (I:Inv X pins σ H s) (e:H a=some (.ins C dx fs)) (c:Cls X.K C) (n:NoAttr X.K C f) (hl:fs.length<1000) (ry:RelV y u)
 (h:∀ s',Inv X pins σ (upd H a (.ins C dx (cO f y fs))) s'->Q () s'):Vw (VN X.prog X.w) A (setAttr (.ref a) f u) Q E s:=by
 obtain ⟨mA,O,r,wi,_,ho⟩:=nW I.hok e;have hz:(fs.map (·.1)).length<=Vz:=by rw [Vb,YA];omega
 refine wo I.kIn O c.sa c.po n.taker c.hd wi hz fun h' O' sb=>h _ ?_;have hd:∃ o,h'.get? dx=some o:=let ⟨o,_,_,e',_⟩:=O'.ns;⟨o,e'⟩
 refine I.write (x:=a) (e:=dx) (by rw [e];exact XR) (.inr ho) (fun b q hb z=>(sb.2 b hb).trans z) hd ?_;refine ⟨by rw [ag O.ne];exact ho,?_,O.ne,O'.obj,_,O'.ns,fun g=>?_,fun g hg=>?_⟩
 · have:=jT f y fs;omega
 · show RelO ((cO f y fs).lookup g) (if g=f then some u else mA g);rw [jS];by_cases q:g=f
   · rw [if_pos q,if_pos q];exact ry
   · rw [if_neg q,if_neg q];exact r g
 · by_cases q:g=f
   · rw [q];exact (i9 f y fs).1
   · refine (i9 f y fs).2 g (wi g fun z=>hg ?_);show (if g=f then some u else mA g)=none;rw [if_neg q];exact z
theorem Inv.made (I:Inv X pins σ H s):Inv X pins σ (upd (upd H s.heap.objs.size (.own (s.heap.objs.size+1))) (s.heap.objs.size+1) (.ins C s.heap.objs.size []))
 { s with heap:=(s.heap.push Xk).push (X1 C s.heap.objs.size) }:=by
 have e1:(s.heap.push Xk).get? s.heap.objs.size=some Xk:=Vq s.heap rfl
 have e2:((s.heap.push Xk).push (X1 C s.heap.objs.size)).get? (s.heap.objs.size+1)=some (X1 C s.heap.objs.size):=by
  have:=Vq (s.heap.push Xk) (o:=X1 C s.heap.objs.size) rfl
  rwa [Wo] at this
 have e3:(s.heap.push Xk).Ns s.heap.objs.size (fun _=>none):=⟨Xk,#[],_,e1,rfl,(fun e he=>absurd he (by simp)),fun _=>rfl⟩;have I1:=I.laid (a:=s.heap.objs.size) (o:=.own (s.heap.objs.size+1)) (h':=s.heap.push Xk) (t':=s.toks) (fun b u q=>Vi _ q) (Vj _) ⟨_,e1⟩;refine I1.laid (a:=s.heap.objs.size+1) (o:=.ins C s.heap.objs.size []) (t':=s.toks) (fun b u q=>Vi _ q) (ZY (Wo _ _)) ?_;have ne:s.heap.objs.size≠s.heap.objs.size+1:=VU (ZR _);refine ⟨by rw [ag ne,ab],VJ _,ne,e2,fun _=>none,(Heap.Ns1.of_empty e3).at fun o q=>Vi _ q,fun _=>XR,fun y hy=>absurd rfl hy⟩
theorem wk {prog:Vu} {w:VI} {env:Env} {e:Wq} {f:VM} {pos:Yr} {s:Vm} {Q:Vg->Vm->Prop} (hb:Zt e f env (Xh e env)=Xh e env)
 (h:Vw (VN prog w) A (Xh e env) (fun o zt=>Vw (VN prog w) A (getAttr o f true) Q E zt) E s):Vw (VN prog w) A (Xh (.Attribute e f pos) env) Q E s :=
 Attribute_any_ h (by rw [arm_eval_Attribute,hb])
end
def ze (K:Vc) (ta:TE) (f:VM):TE:=fun σ H Q=>ta σ H fun x H1=>∃ a C dx fs v,x=.ref a/\H1 a=some (.ins C dx fs)/\Cls K C/\NoAttr K C f/\fs.lookup f=some v/\Q v H1
def yO (K:Vc) (ta tv:TE) (f:VM):TS:=fun D σ H=>tv σ H fun y H1=>ta σ H1 fun x H2=>∃ a C dx fs,x=.ref a/\H2 a=some (.ins C dx fs)/\Cls K C/\NoAttr K C f/\fs.length<1000 ∧
 D.nx σ (upd H2 a (.ins C dx (cO f y fs)))
def yx (X:Cx) (op:Operator) (rd:V->V->Hp->VK->Prop):Prop :=
 ∀ (pins:List (Vd×Xq)) (s:Vm) (σ:St) (H:Hp) (x y:V) (u v:Vg) (Q:VK),Inv X pins σ H s->RelV x u->RelV y v->rd x y H Q->Vw (VN X.prog X.w) X.A (inplaceOp op u v) (EP X pins σ Q) X.xe s
def wm (K:Vc) (ta tv:TE) (rd:V->V->Hp->VK->Prop) (f:VM):TS:=fun D σ H=>ta σ H fun x H1=>∃ a C dx fs v,x=.ref a/\H1 a=some (.ins C dx fs)/\Cls K C/\NoAttr K C f/\fs.lookup f=some v ∧
 tv σ H1 fun y H2=>rd v y H2 fun z H3=>∃ Lc Gu,H3 a=some (.ins C Lc Gu)/\Gu.length<1000/\D.nx σ (upd H3 a (.ins C Lc (cO f z Gu)))
section
variable {X:Cx} {o e value:Wq} {f:VM} {pos pos' Hl:Yr} {ta tv:TE}
theorem u4 (he:PE X e ta) (hb:Zt e f X.env (Xh e X.env)=Xh e X.env):PE X (.Attribute e f pos) (ze X.K ta f):=by
 intro pins s σ H Q I h;refine wk hb (thn (he pins s σ H _ I h) fun u s1 ⟨x,H1,I1,rx,a,C,dx,fs,v,ex,ea,c,n,l,q⟩=>?_);subst ex;obtain rfl:u=VO a:=rx;exact kU I1 ea c n l fun u' s2 I2 ru=>⟨v,H1,I2,ru,q⟩
theorem uR (ha:PE X o ta) (hv:PE X value tv) (hs:swapsWith value (some (.Attribute o f pos')) pos.line X.env=pure false):PS X (.Assign [.Attribute o f pos'] value pos) (yO X.K ta tv f):=by
 intro pins s σ H D I h;refine plainObj_wpAny_Assign_Attribute (thn (hv pins s σ H _ I h) fun u s1 ⟨y,H1,I1,ry,q⟩=>thn (ha pins s1 σ H1 _ I1 q) fun ov s2 ⟨x,H2,I2,rx,a,C,dx,fs,ex,ea,c,n,l,q2⟩=>?_) hs;subst ex;obtain rfl:ov=VO a:=rx;exact lF I2 ea c n l ry fun s3 I3=>⟨σ,_,I3,q2⟩
theorem mK {op:Operator} {rd:V->V->Hp->VK->Prop} (ha:PE X o ta) (hv:PE X value tv) (Q3:yx X op rd):PS X (.AugAssign (.Attribute o f Hl) op value pos) (wm X.K ta tv rd f):=by
 intro pins s σ H D I h;refine wpAny_AugAssign_AttributeAny (thn (ha pins s σ H _ I h) fun ov s1 ⟨x,H1,I1,rx,a,C,dx,fs,v,ex,ea,c,n,l,q⟩=>?_);subst ex;obtain rfl:ov=VO a:=rx;refine kU I1 ea c n l fun u s2 I2 ru=>thn (hv pins s2 σ H1 _ I2 q) fun w3 s3 ⟨y,H2,I3,ry,q3⟩=>thn (Q3 pins s3 σ H2 v y u w3 _ I3 ru ry q3) fun w4 s4 ⟨z,H3,I4,rz,Lc,Gu,Ld,l',q4⟩=>?_;exact lF I4 Ld c n l' rz fun s5 I5=>⟨σ,_,I5,q4⟩
def yM:V->V->Hp->VK->Prop:=fun x y H Q=>∃ i j,x=.int i/\y=.int j/\Q (.int (i+j)) H
theorem vc:yx X .Add yM:=by
 rintro pins s σ H x y u v Q I rx ry ⟨i,j,rfl,rfl,q⟩;obtain ⟨t,rfl⟩:=(show ∃ t,u=Value.int i t from rx);obtain ⟨t',rfl⟩:=(show ∃ t',v=Value.int j t' from ry);exact PyProof.Rows.iadd_int ⟨.int (i+j),H,I.tok _,⟨_,rfl⟩,q⟩
end
section
variable {X:Cx} {pins:List (Vd×Xq)} {σ:St} {H:Hp} {s:Vm} {A:V2} {E:Vg->Vm->Prop} {Q:Vg->Vm->Prop} {c:Vg} {b:Bool}
end
end L2
namespace L2
open PySem PySem.Spec PyProof.Rows
structure Room (k:Nat) (A:V2):Prop where
 hd:A.handled=none
 dp:A.depth+3 * k+5<recursionLimit
 un:A.units+16 * k+200<W7
theorem Room.mono {j k:Nat} {A:V2} (r:Room k A) (h:j<=k):Room j A:=⟨r.hd,by have:=r.dp;omega,by have:=r.un;omega⟩
theorem Room.deeper {k:Nat} {A:V2} (r:Room (k+1) A) (env:Env):Room k (A.deeper env) :=
 ⟨r.hd,by have:=r.dp;show A.depth+1+3 * k+5<_;omega,by have:=r.un;show A.units+3+16 * k+200<_;omega⟩
theorem qL {A:V2} {C:Vd} {us:List Vg} {kw:List (VM×Vg)}:(A.under (.builtin "type.__call__" ⟨.ref C::us,kw⟩)).depth=A.depth+1:=by
 first | rfl | simp [Around.under,Code.weight,Code.isCreation,Code.isGuard,Code.isCaller,Code.frames,Code.isFrame,guardIds]
theorem qi {A:V2} {C:Vd} {us:List Vg} {kw:List (VM×Vg)}:(A.under (.builtin "type.__call__" ⟨.ref C::us,kw⟩)).units=A.units+1:=by
 first | rfl | simp [Around.under,Code.cUnits,Code.frames,Code.isFrame]
theorem Room.make {k:Nat} {A:V2} (r:Room (k+1) A) (C:Vd) (us:List Vg) (kw:List (VM×Vg)):Room k (A.under (.builtin "type.__call__" ⟨.ref C::us,kw⟩)) :=
 ⟨r.hd,by have:=r.dp;rw [qL];omega,by have:=r.un;rw [qi];omega⟩
theorem Room.depth {k:Nat} {A:V2} (r:Room k A):A.depth<recursionLimit:=by have:=r.dp;omega
theorem Room.units {k:Nat} {A:V2} (r:Room k A):A.units+64<W7:=by have:=r.un;omega
def cy:TA:=fun _ H Q=>Q [] H
def aJ (ta:TE) (tr:TA):TA:=fun σ H Q=>ta σ H fun x H1=>tr σ H1 fun xs H2=>Q (x::xs) H2
section
variable {X:Cx} {e:Wq} {es:List Wq} {te:TE} {t:TA} {pos:Yr}
theorem ac:PA X [] cy:=fun _ _ _ _ H Q I h=>Xv ⟨[],H,I,.nil,h⟩
theorem aa (ha:PE X e te) (hr:PA X es t) (hs:V0 (e::es) X.env=(false,Xh e X.env)::V0 es X.env:=by rfl):PA X (e::es) (aJ te t):=by
 intro pos pins s σ H Q I h;rw [hs];show Vw _ _ (spliced ((false,Xh e X.env)::Yn pos (V0 es X.env))) _ _ s;refine WX (thn (ha pins s σ H _ I h) fun u s1 ⟨x,H1,I1,r1,q1⟩=>?_);exact thn (hr pos pins s1 σ H1 _ I1 q1) fun us s2 ⟨xs,H2,I2,r2,q2⟩=>⟨x::xs,H2,I2,.cons r1 r2,q2⟩
def kb (t:TA):TE:=fun σ H Q=>t σ H fun xs H1=>xs.length<=Vz/\∀ p,H1 p=none->Q (.ref p) (upd H1 p (.tup xs))
def tQ (t:TA):TE:=fun σ H Q=>t σ H fun xs H1=>xs.length<=Vz/\∀ p,H1 p=none->Q (.ref p) (upd H1 p (.lst xs))
theorem aB {x1} (h:PA X es t):PE X (.Tuple es x1 pos) (kb t):=by
 intro pins s σ H Q I hq;refine wpAny_Tuple_spliced (thn (h pos pins s σ H _ I hq) fun us s1 ⟨xs,H1,I1,r,z,q⟩=>⟨by rw [<- r.length];exact z,?_⟩);have hf:H1 s1.heap.objs.size=none:=I1.hok.fresh (Vj _);refine ⟨.ref s1.heap.objs.size,upd H1 s1.heap.objs.size (.tup xs),I1.laid (t':=s1.toks) (fun b u e=>Vi _ e) (Vj _) ?_,rfl,q _ hf⟩;exact ⟨z,us,0,r,Vq _ rfl⟩
theorem bq (h:PA X es t):PE X (.List es pos) (tQ t):=by
 intro pins s σ H Q I hq;refine wpAny_List_spliced (thn (h pos pins s σ H _ I hq) fun us s1 ⟨xs,H1,I1,r,z,q⟩=>⟨by rw [<- r.length];exact z,?_⟩);have hf:H1 s1.heap.objs.size=none:=I1.hok.fresh (Vj _);refine ⟨.ref s1.heap.objs.size,upd H1 s1.heap.objs.size (.lst xs),I1.laid (t':=s1.toks) (fun b u e=>Vi _ e) (Vj _) ?_,rfl,q _ hf⟩;exact ⟨z,us,0,r,Vq _ rfl⟩
end
abbrev Sp:=List V->Hp->VK->XK->Prop
abbrev CXT:=List Env->Hp->Vm->XK->Vg->Vm->Prop
structure Env0 (P:Vu) (w:VI) (K:Vc) (mg:VM->Option Vg) (base:Wx) (A:V2) (outer:List Env) (s:Vm) (H:Hp):Prop where
 frames:A.frames=some outer
 mod:Mod K mg base
 bs:∀ b o,base.get? b=some o->s.heap.get? b=some o/\H b=none
 bsz:base.objs.size<=s.heap.objs.size
 funs:s.heap.FunFrames base outer
 frf:∀ b∈frs outer,H b=none
 hok:HOk P w H s.heap
 bare:AllBare s.gens
def CE (outer:List Env) (P:Vu) (w:VI) (H:Hp) (s:Vm) (Q:VK) (u:Vg) (s':Vm):Prop :=
 ∃ v H',s'.os=s.os/\AllBare s'.gens/\Un (frs outer) [] H H' s.heap s'.heap/\HOk P w H' s'.heap/\RelV v u/\Q v H'
def CR (CX:CXT) (outer:List Env) (P:Vu) (w:VI) (H:Hp) (s:Vm) (Q:VK) (E:XK) (r:Result) (s':Vm):Prop :=
 match r with
 | .ok (.ret u)=>CE outer P w H s Q u s'
 | .ok _=>False
 | .error e=>CX outer H s E e s'
structure aW (P:Vu) (w:VI) (K:Vc) (mg:VM->Option Vg) (base:Wx) (CX:CXT) (k:Nat) (f:Vd) (fd:XJ) (ps:List VM) (sp:Sp):Prop where
 len:∀ vs H Q E,sp vs H Q E->vs.length=ps.length
 run:∀ (A:V2) (outer:List Env) (s:Vm) (H:Hp) (args:Args) (us:List Vg) (vs:List V) (Q:VK) (E:XK),Room k A->Env0 P w K mg base A outer s H->BindsTo s fd args (ps.zip us)->Vals vs us->sp vs H Q E →
  YM (VN P w) A (.call (.ref f) args) (CR CX outer P w H s Q E) s
theorem Env0.make {P:Vu} {w:VI} {K:Vc} {mg:VM->Option Vg} {base:Wx} {A:V2} {outer:List Env} {s:Vm} {H:Hp} (e:Env0 P w K mg base A outer s H) (C:Vd) (us:List Vg) (kw:List (VM×Vg)) :
 Env0 P w K mg base (A.under (.builtin "type.__call__" ⟨.ref C::us,kw⟩)) outer s H:=⟨by first | exact e.frames | (simpa [Around.under,Code.envs,Code.isFrame,pushEnvs] using e.frames),e.mod,e.bs,e.bsz,e.funs,e.frf,e.hok,e.bare⟩
section
variable {X:Cx} {pins:List (Vd×Xq)} {σ:St} {H:Hp} {s s':Vm}
theorem Inv.env0 (I:Inv X pins σ H s):Env0 X.prog X.w X.K X.mg X.base X.A X.stack s H :=
 ⟨I.ok.frames,I.ok.mod,I.bs,WZ I.ok.bsz I.sz,I.stack,I.stkFree,I.hok,I.bare⟩
theorem Inv.after {Q:VK} {u:Vg} (I:Inv X pins σ H s) (h:CE X.stack X.prog X.w H s Q u s'):EP X pins σ Q u s':=by
 obtain ⟨v,H',os,bare,un,hok,r,q⟩:=h;obtain ⟨hh,g,d,t,Q4⟩:=s';obtain rfl:Q4=s.os:=os;exact ⟨v,H',I.call (h':=hh) (g':=g) (d':=d) (t':=t) (ch:=[]) un hok bare (fun b z=>absurd z (by simp)),r,q⟩
end
def cW (sp:Sp) (dvs:List V) (E:XK) (t:TA):TE:=fun σ H Q=>t σ H fun vs H1=>sp (vs++dvs) H1 Q E
def ym (C:Vd) (m:VM) (sp:Sp) (dvs:List V) (E:XK) (ta:TE) (t:TA):TE:=fun σ H Q=>ta σ H fun x H1=>∃ a dx fs,x=.ref a/\H1 a=some (.ins C dx fs)/\fs.lookup m=none ∧
 t σ H1 fun vs H2=>sp (x::(vs++dvs)) H2 Q E
def yk (C:Vd) (sp:Sp) (dvs:List V) (E:XK) (t:TA):TE:=fun σ H Q=>t σ H fun vs H1=>∀ x dx,H1 x=none->H1 dx=none->dx≠x →
 sp (.ref x::(vs++dvs)) (upd (upd H1 dx (.own x)) x (.ins C dx [])) (fun v H2=>v=.non/\Q (.ref x) H2) E
def Binds (K:Vc) (fd:XJ) (ps:List VM) (ds:List Vg):Prop :=
 ∀ (s:Vm) (us:List Vg),K.In s.heap->(us++ds).length=ps.length->BindsTo s fd ⟨us,[]⟩ (ps.zip (us++ds))
theorem Binds.all {K:Vc} {fd:XJ} {ps:List VM} (h:∀ us:List Vg,us.length=ps.length->bindArgs fd ⟨us,[]⟩=pure (ps.zip us)):Binds K fd ps []:=fun s us _ hl=>by
 rw [V7] at hl ⊢;exact .of_eq (h us hl)
def Passes (CX:CXT) (X:Cx) (E:XK):Prop:=∀ (pins:List (Vd×Xq)) (σ:St) (H:Hp) (s:Vm) (e:Vg) (s':Vm),Inv X pins σ H s->CX X.stack H s E e s'->X.xe e s'
section
variable {X:Cx} {CX:CXT} {k:Nat} {f C:Vd} {fd:XJ} {ps:List VM} {sp:Sp} {dvs:List V} {ds:List Vg} {E:XK} {x m:VM} {p pos apos:Yr} {e o:Wq} {es:List Wq} {ta:TE} {t:TA}
theorem uM {pins:List (Vd×Xq)} {σ:St} {H:Hp} {s:Vm} {Q:VK} {us:List Vg} {vs:List V} (F:aW X.prog X.w X.K X.mg X.base CX k f fd ps sp) (hr:Room k X.A) (hb:Binds X.K fd ps ds) (hd:Vals dvs ds) (hx:Passes CX X E)
 (I:Inv X pins σ H s) (r:Vals vs us) (h:sp (vs++dvs) H Q E):Vw (VN X.prog X.w) X.A (call (.ref f) us) (EP X pins σ Q) X.xe s:=by
 have r2:Vals (vs++dvs) (us++ds):=r.append hd;have hl:(us++ds).length=ps.length:=by rw [<- r2.length];exact F.len _ _ _ _ h
 refine wpAny_call (codeAny_mono (F.run X.A X.stack s H ⟨us,[]⟩ (us++ds) (vs++dvs) Q E hr I.env0 (hb s us I.kIn hl) r2 h) fun r s' hq=>?_);cases r with
 | error e=>exact hx pins σ H s e s' I hq
 | ok fl =>
   cases fl with
   | ret u=>exact I.after hq
   | next=>exact Xm hq
   | brk=>exact Xm hq
   | cont=>exact Xm hq
theorem kj (F:aW X.prog X.w X.K X.mg X.base CX k f fd ps sp) (hr:Room k X.A) (hg:Gl X x) (hm:X.mg x=some (.ref f)) (hk:XB X.K (.ref f)=true) (hb:Binds X.K fd ps ds) (hd:Vals dvs ds) (hx:Passes CX X E)
 (ha:PA X (e::es) t) (Df:(x == ("__debug__":VM))=false:=by decide) (he:V0 (e::es) X.env=(false,Xh e X.env)::V0 es X.env:=by rfl) (Av:(Yn pos (V0 es X.env)).any (·.1)=false:=by rfl) :
 PE X (.Call (.Name x p) (e::es) [] pos) (cW sp dvs E t):=by
 intro pins s σ H Q I h;refine WC (n9 I hg hm ?_ Df);refine PySem.W.callWith_K (h₀:=X.base) I.ok.mod.kin hk (thn (ha pos pins s σ H _ I h) fun us s1 ⟨vs,H1,I1,r,q⟩=>⟨I1.kIn,?_⟩) he Av;exact uM F hr hb hd hx I1 r q
theorem vF {pl:Sem Bool} (he:PE X o ta) (c:Cls X.K C) (hm:Meth X.K C m f) (F:aW X.prog X.w X.K X.mg X.base CX k f fd ps sp) (hr:Room k X.A) (hb:Binds X.K fd ps ds) (hd:Vals dvs ds) (hx:Passes CX X E) (ha:PA X (e::es) t)
 (AB:V0 (e::es) X.env=(false,Xh e X.env)::V0 es X.env:=by rfl) (Av:(Yn pos (V0 es X.env)).any (·.1)=false:=by rfl)
 (ht:Xh (.Call (.Attribute o m apos) (e::es) [] pos) X.env=(do
  let ov ← Xh o X.env
  standAt apos.atName
  let (f,first) ← holding [ov] (getMethod ov m pl)
  callWith pos f first (Yn pos (V0 (e::es) X.env)) (backToKw pos (keywordEach [] X.env))):=by rfl) :
 PE X (.Call (.Attribute o m apos) (e::es) [] pos) (ym C m sp dvs E ta t):=by
 intro pins s σ H Q I h;refine PySem.W.methodCall_KW (pl:=pl) (thn (he pins s σ H _ I h) fun u s1 ⟨x,H1,I1,rx,a,dx,fs,ex,ea,l,q⟩=>?_) ht;subst ex;obtain rfl:u=VO a:=rx;refine qy I1 ea c hm l ?_;refine PySem.W.callWith_K (first:=[.ref a]) (h₀:=X.base) I.ok.mod.kin hm.kp (thn (ha pos pins s1 σ H1 _ I1 q) fun us s2 ⟨vs,H2,I2,r,q2⟩=>⟨I2.kIn,?_⟩) AB Av;exact uM (us:=.ref a::us) (vs:=.ref a::vs) F hr hb hd hx I2 (.cons rfl r) q2
structure Mk (K:Vc) (C f:Vd):Prop where
 makes:PySem.W.makesIn K C=true
 init:WU K (.ref C) "__init__"=some (some (.ref f))
 fn:ZU K (.ref f)=true
 kp:XB K (.ref C)=true
theorem uZ {pins:List (Vd×Xq)} {σ:St} {H:Hp} {s:Vm} {Q:VK} {us:List Vg} {vs:List V} (M:Mk X.K C f) (F:aW X.prog X.w X.K X.mg X.base CX k f fd ps sp) (hr:Room (k+1) X.A) (hb:Binds X.K fd ps ds) (hd:Vals dvs ds)
 (hx:Passes CX X E) (I:Inv X pins σ H s) (r:Vals vs us)
 (h:∀ x dx,H x=none->H dx=none->dx≠x->sp (.ref x::(vs++dvs)) (upd (upd H dx (.own x)) x (.ins C dx [])) (fun v H2=>v=.non/\Q (.ref x) H2) E) :
 Vw (VN X.prog X.w) X.A (call (.ref C) us) (EP X pins σ Q) X.xe s:=by
 have hq:=h (s.heap.objs.size+1) s.heap.objs.size (I.hok.fresh (Nat.le_succ _)) (I.hok.fresh (Vj _)) (VU (ZR _));have I2:=Inv.made (C:=C) I;have r2:Vals (V.ref (s.heap.objs.size+1)::(vs++dvs)) (VO (s.heap.objs.size+1)::(us++ds)):=.cons rfl (r.append hd)
 have hl:(VO (s.heap.objs.size+1)::us++ds).length=ps.length:=by
  have e:=r2.length;rw [F.len _ _ _ _ hq] at e;exact e.symm
 refine wpAny_call (ue (f:=f) I.kIn M.makes M.init (beq_iff_eq.mp M.fn) (codeAny_mono (F.run _ X.stack _ _ ⟨VO (s.heap.objs.size+1)::us,[]⟩ (VO (s.heap.objs.size+1)::(us++ds)) _ _ E (hr.make C us [])
  (I2.env0.make C us []) (hb _ (VO (s.heap.objs.size+1)::us) I2.kIn hl) r2 hq) fun r s' D'=>?_))
 cases r with
 | error e=>exact hx pins σ _ _ e s' I2 D'
 | ok fl =>
   cases fl with
   | ret u =>
     obtain ⟨v,H',I3,rv,ev,q3⟩:=I2.after D';subst ev;exact ⟨rv,⟨V.ref (s.heap.objs.size+1),H',I3,rfl,q3⟩⟩
   | next=>exact Xm D'
   | brk=>exact Xm D'
   | cont=>exact Xm D'
theorem um (M:Mk X.K C f) (F:aW X.prog X.w X.K X.mg X.base CX k f fd ps sp) (hr:Room (k+1) X.A) (hg:Gl X x) (hm:X.mg x=some (.ref C)) (hb:Binds X.K fd ps ds) (hd:Vals dvs ds) (hx:Passes CX X E)
 (Df:(x == ("__debug__":VM))=false:=by decide):PE X (.Call (.Name x p) [] [] pos) (yk C sp dvs E cy):=by
 intro pins s σ H Q I h;refine WC (n9 I hg hm ?_ Df);exact PySem.W.callWith_K0 I.kIn M.kp (uZ (us:=[]) M F hr hb hd hx I .nil h)
end
section
variable {X:Cx} {CX:CXT} {k:Nat} {f C:Vd} {fd:XJ} {ps ks:List VM} {sp:Sp} {E:XK} {x m:VM} {p pos apos Q5:Yr} {e o:Wq} {es:List Wq} {Uk:List Keyword} {te ta:TE} {t tk:TA} {nm:Option VM}
variable {g:List Vg->List Vg->List Vg} {gV:List V->List V->List V}
end
structure av (N P:List VM) (sc:YN):Prop where
 kind:sc.kind=.function
 co:sc.isCoroutine=false
 gen:sc.isGenerator=false
 nd:N.Nodup
 pre:N.take P.length=P
 par:∀ x∈P,sc.names.lookup x=some .local∨sc.names.lookup x=some .cell
 nofree:∀ y∈sc.names,y.2≠.free
theorem m9 {kindOf:VM->Option XS} {x:VM}:∀ {binds:List (VM×Vg)} {m:VM->Option Vg},(∀ v,(x,v)∉binds)->bindL kindOf binds m x=m x
 | [],_,_=>rfl
 | (n,v)::r,m,h=>by
   unfold bindL;rw [m9 fun w hw=>h w (VB _ hw)];split
   · have:x≠n:=by rintro rfl;exact h v VC
     simp [this]
   · rfl
theorem nj {kindOf:VM->Option XS} {x:VM}:∀ {binds:List (VM×Vg)} {m:VM->Option Vg},(∀ v,(x,v)∉binds)->bindC kindOf binds m x=m x
 | [],_,_=>rfl
 | (n,v)::r,m,h=>by
   unfold bindC;rw [nj fun w hw=>h w (VB _ hw)];split
   · rfl
   · have:x≠n:=by rintro rfl;exact h v VC
     simp [this]
theorem no {kindOf:VM->Option XS} {x:VM} {v:Vg}:∀ {P:List VM} {vs:List Vg} {i:Nat} {m:VM->Option Vg},P.Nodup->P[i]?=some x->vs[i]?=some v->kindOf x=some .local →
 bindL kindOf (P.zip vs) m x=some v
 | [],_,_,_,_,h,_,_=>by simp at h
 | _::_,[],_,_,_,_,h,_=>by simp at h
 | p::P,w::vs,0,m,nd,h1,h2,hk=>by
   simp at h1 h2;subst h1;subst h2;show bindL kindOf ((p,w)::P.zip vs) m p=_;unfold bindL;rw [m9 fun v hv=>(Y0.mp nd).1 (YZ hv).1,if_pos hk];simp
 | p::P,w::vs,i+1,m,nd,h1,h2,hk=>by
   show bindL kindOf ((p,w)::P.zip vs) m x=_;unfold bindL;exact no (i:=i) (Y0.mp nd).2 (by simpa using h1) (by simpa using h2) hk
theorem mE {kindOf:VM->Option XS} {x:VM} {v:Vg}:∀ {P:List VM} {vs:List Vg} {i:Nat} {m:VM->Option Vg},P.Nodup->P[i]?=some x->vs[i]?=some v->kindOf x≠some .local →
 bindC kindOf (P.zip vs) m x=some v
 | [],_,_,_,_,h,_,_=>by simp at h
 | _::_,[],_,_,_,_,h,_=>by simp at h
 | p::P,w::vs,0,m,nd,h1,h2,hk=>by
   simp at h1 h2;subst h1;subst h2;show bindC kindOf ((p,w)::P.zip vs) m p=_;unfold bindC;rw [nj fun v hv=>(Y0.mp nd).1 (YZ hv).1,if_neg hk];simp
 | p::P,w::vs,i+1,m,nd,h1,h2,hk=>by
   show bindC kindOf ((p,w)::P.zip vs) m x=_;unfold bindC;exact mE (i:=i) (Y0.mp nd).2 (by simpa using h1) (by simpa using h2) hk
def start (N:List VM) (vs:List V):St:=vs.map some++YE (N.length - vs.length) none
def qq (CX:CXT) (P:Vu) (w:VI) (K:Vc) (mg:VM->Option Vg) (base:Wx) (N:List VM) (qual:VM) (scope:YN) (f:Vd) (cd:Vg) (A:V2) (outer:List Env) (s:Vm) (H:Hp) (E:XK):Cx where
 prog:=P
 w:=w
 K:=K
 mg:=mg
 base:=base
 A:=A.deeper (envOfC qual scope s.heap.objs.size f cd)
 N:=N
 s₀:=s
 H₀:=H
 env:=envOfC qual scope s.heap.objs.size f cd
 outer:=outer
 stack:=envOfC qual scope s.heap.objs.size f cd::outer
 ex:=[]
 calm:=true
 fn:=fun _=>true
 pn:=[]
 xe:=fun e s'=>Vw (VN P w) (A.deeper (envOfC qual scope s.heap.objs.size f cd)) (leaving (envOfC qual scope s.heap.objs.size f cd) e) (fun _ Le=>CX outer H s E e Le) (fun e' Le=>CX outer H s E e' Le) s'
theorem oY {sc:YN} {n:Nat} {x:VM} (h:sc.names.lookup x=some .cell):∃ c,(cellsFrom n sc.names []).lookup x=some c:=by
 have q:=PySem.W.cellsFrom_some sc.names n [] (.inl h);exact YV.mp q
theorem tj {CX:CXT} {P:Vu} {w:VI} {K:Vc} {mg:VM->Option Vg} {base:Wx} {N ps:List VM} {qual:VM} {scope:YN} {f:Vd} {cd:Vg} {A:V2} {outer:List Env} {s s1:Vm} {H:Hp} {E:XK} {us:List Vg} {vs:List V}
 (S:av N ps scope) (hd:A.handled=none) (e0:Env0 P w K mg base A outer s H) (hl:vs.length=ps.length) (r:Vals vs us)
 (x:InCallC s s.heap.objs.size (bindL (envOfC qual scope s.heap.objs.size f cd).kindOf (ps.zip us) fun _=>none) (cellsFrom (s.heap.objs.size+1) scope.names []) (bindC (envOfC qual scope s.heap.objs.size f cd).kindOf (ps.zip us) fun _=>none) s1) :
 Inv (qq CX P w K mg base N qual scope f cd A outer s H E) [] (start N vs) H s1:=by
 have Av:ps.length<=N.length:=by have:=congrArg Y4 S.pre;rw [Wl] at this;omega
 obtain ⟨h1,tk,rfl,hk⟩:=x.done;have Lf:∀ b:Vd,b∉(qq CX P w K mg base N qual scope f cd A outer s H E).ex:=fun b z=>absurd (show b∈([]:List Vd) from z) (by simp)
 refine ⟨⟨e0.mod,S.kind,rfl,rfl,Vj _,fun y z c h1 h2=>?_,fun y hy=>?_,fun y c _ h=>?_,fun _=>hd,Around.frames_deeper e0.frames,.inr ⟨rfl,rfl⟩,fun b z=>absurd z (Lf b),e0.bs,e0.bsz,fun b _ _=>Lf b,fun b z=>absurd z (Lf b),e0.funs,e0.frf⟩,
  rfl,e0.bare,Un.kept hk,⟨_,x.toInCall.ns,fun i y v h1 h2 h3=>?_⟩,fun y c h=>⟨_,x.cell y c h⟩,e0.hok.fresh (Vj _),fun y c h=>?_,fun p hp=>absurd (show p∈([]:List (Vd×Xq)) from hp) (by simp),e0.hok.kept hk,?_⟩
 · exact name_of_addr x.apart (YO h1) (YO h2)
 · have hy:scope.names.lookup y=some .cell∨scope.names.lookup y=some .free:=hy;rcases hy with hy | hy
   · exact oY hy
   · exact absurd rfl (S.nofree _ (YO hy))
 · exact Yb (x.above y c (YO h))
 · have hi:i<vs.length:=by
    unfold start at h2;by_cases hi:i<vs.length
    · exact hi
    · rw [YF (by simpa using hi)] at h2;rw [List.getElem?_replicate] at h2;split at h2 <;> cases h2
   have ha:vs[i]?=some v:=by
    unfold start at h2;rw [Xr (by simpa using hi),Vp] at h2;cases e:vs[i]? with
    | none=>rw [e] at h2;cases h2
    | some a=>rw [e] at h2;cases h2;rfl
   obtain ⟨u,hu,rv⟩:=r.get ha
   have hp:ps[i]?=some y:=by
    rw [<- S.pre,List.getElem?_take_of_lt (by omega)];exact h1
   have ndP:ps.Nodup:=by rw [<- S.pre];exact S.nd.sublist (List.take_sublist _ _)
   refine ⟨u,rv,?_⟩;rcases S.par y (Vh hp) with k | k
   · exact .inl ⟨k,no ndP hp hu k⟩
   · obtain ⟨c,e⟩:=oY (n:=s.heap.objs.size+1) k;refine .inr ⟨.inl k,c,e,?_⟩;have q:=x.cell y c e;rw [mE ndP hp hu (by show scope.names.lookup y≠_;rw [k];decide)] at q;exact q
 · exact e0.hok.fresh (Yb (x.above y c (YO h)))
 · unfold start;show _=N.length;rw [VD,Vb,Z9];omega
theorem wE {CX:CXT} {P:Vu} {w:VI} {K:Vc} {mg:VM->Option Vg} {base:Wx} {k:Nat} {f:Vd} {name qual:VM} {params:Arguments} {body:List WL} {scope:YN} {dV kV doc pm zG ct oc:Vg} {an od:Option Vd}
 {DT:Array (Option Vg)} {N ps:List VM} {sp:Sp} (lk:K.lookup f=some ⟨oc,od,.func (Xj name qual params body scope dV kV doc pm an zG ct),DT⟩) (BH:YD K zG qual=true) (S:av N ps scope)
 (len:∀ vs H Q E,sp vs H Q E->vs.length=ps.length)
 (BI:∀ (A:V2) (outer:List Env) (s:Vm) (H:Hp) (vs:List V) (Q:VK) (E:XK),Room k (A.deeper (envOfC qual scope s.heap.objs.size f zG))->sp vs H Q E →
  ∃ t,PSs (qq CX P w K mg base N qual scope f zG A outer s H E) body t/\t { nx:=fun _ H'=>Q .non H',rt:=Q } (start N vs) H) :
 aW P w K mg base CX (k+1) f (Xj name qual params body scope dV kV doc pm an zG ct) ps sp:=by
 refine ⟨len,fun A outer s H args us vs Q E hr e0 hb r DU=>?_⟩;have hl:=len _ _ _ _ DU;have KX:K.In s.heap:=e0.mod.kin.keeps fun b o e=>(e0.bs b o e).1;have lim:s.heap.NoLimit:=e0.mod.nolimit.keeps fun b o e=>(e0.bs b o e).1
 have Hm:∀ y∈ps.zip us,scope.names.lookup y.1=some .local∨(scope.names.lookup y.1=some .cell/\((cellsFrom (s.heap.objs.size+1) scope.names []).lookup y.1).isSome=true):=fun ⟨n,v⟩ hy=>by
  rcases S.par n (YZ hy).1 with q | q
  · exact .inl q
  · exact .inr ⟨q,PySem.W.cellsFrom_some _ _ _ (.inl q)⟩
 refine codeAny_call_function hr.depth (KX _ _ lk) rfl S.co S.gen rfl (PySem.W.codeRec_of KX BH) (hb _ _ _ _ ?_);refine wpAny_newFunctionEnv_cells S.kind Hm fun env he s1 x=>?_;subst he;refine ⟨lim.keeps x.toInCall.keep,codeAny_func ?_⟩;obtain ⟨t,ht,hq⟩:=BI A outer s H vs Q E (hr.deeper _) DU;have I:Inv (qq CX P w K mg base N qual scope f zG A outer s H E) [] (start N vs) H s1:=tj S hr.hd e0 hl r x;refine Xu (ht [] s1 (start N vs) H _ I hq) (fun fl s' hs=>?_) fun e s' hs=>hs
 have fin:∀ {zu:St} {H':Hp} {v:V} {u:Vg},Inv (qq CX P w K mg base N qual scope f zG A outer s H E) [] zu H' s'->RelV v u->Q v H'->CE outer P w H s Q u s' :=
  fun {zu H' v u} J rv q=>⟨v,H',J.os,J.bare,J.base,J.hok,rv,q⟩
 cases fl with
 | ret u =>
   obtain ⟨v,zu,H',J,rv,q⟩:=hs;exact fin J rv q
 | next =>
   obtain ⟨zu,H',J,q⟩:=hs;exact fin (v:=V.non) (u:=WI) J rfl q
 | brk =>
   obtain ⟨_,_,_,q⟩:=hs;exact Xm q
 | cont =>
   obtain ⟨_,_,_,q⟩:=hs;exact Xm q
end L2
namespace L2
open PySem PySem.Spec PyProof.Rows
section
variable {X:Cx} {x:VM} {p pos:Yr} {e:Wq} {es:List Wq} {t:TA} {id T:String} {r:List V->Hp->VK->Prop}
def tCB (r:List V->Hp->VK->Prop) (t:TA):TE:=fun σ H Q=>t σ H fun vs H1=>r vs H1 Q
theorem aX (hc:jI X (.builtin id) r) (hg:Gl X x) (hm:X.mg x=none) (hv:bootBuiltins x=some (.builtin id)) (ha:PA X (e::es) t) (hn:x≠"__name__":=by decide) (Df:(x == ("__debug__":VM))=false:=by decide)
 (he:V0 (e::es) X.env=(false,Xh e X.env)::V0 es X.env:=by rfl) (Av:(Yn pos (V0 es X.env)).any (·.1)=false:=by rfl):PE X (.Call (.Name x p) (e::es) [] pos) (tCB r t):=by
 intro pins s σ H Q I h;refine WC (cU I hg hm hv ?_ hn Df);exact PyProof.Rows.callWith_builtin1 (thn (ha pos pins s σ H _ I h) fun us s1 ⟨vs,H1,I1,r1,q1⟩=>hc pins s1 σ H1 vs us Q I1 r1 q1) he Av
theorem bz (hc:jI X (.type T) r) (hg:Gl X x) (hm:X.mg x=none) (hv:bootBuiltins x=some (.type T)) (ha:PA X (e::es) t) (hn:x≠"__name__":=by decide) (Df:(x == ("__debug__":VM))=false:=by decide)
 (he:V0 (e::es) X.env=(false,Xh e X.env)::V0 es X.env:=by rfl) (Av:(Yn pos (V0 es X.env)).any (·.1)=false:=by rfl):PE X (.Call (.Name x p) (e::es) [] pos) (tCB r t):=by
 intro pins s σ H Q I h;refine WC (cU I hg hm hv ?_ hn Df);exact We (thn (ha pos pins s σ H _ I h) fun us s1 ⟨vs,H1,I1,r1,q1⟩=>hc pins s1 σ H1 vs us Q I1 r1 q1) he Av
end
end L2
namespace HT
open PySem PyProof.Rows
section
open PySem.SeqAt
open PySem.AutoSeq1 (wpAny_loadPart')
open PySem.MeetsSeq PySem.MeetsSeq2 PySem.MeetsSeq3
end
section
variable {prog:Vu} {w:VI} {A:V2} {E:Vg->Vm->Prop} {s:Vm}
theorem cat_tup {t b:Vd} {vs ws:List Vg} {Q:Vg->Vm->Prop} (ht:IsTup s.heap t vs.toArray) (hb:IsTup s.heap b ws.toArray) (hv:vs≠[])
 (h1:ws=[]->Q (.ref t) s) (h2:ws≠[]->Q (.ref s.heap.objs.size) { s with heap:=s.heap.push { cls:=.type "tuple",data:=.seq (vs++ws).toArray } })
 (hsz:vs.length+ws.length<=Vz):Vw (VN prog w) A (Zl .Add (.ref t) (.ref b)) Q E s:=by
 obtain ⟨⟨cls,dd,data,sl⟩,ho,hc,n,hd⟩:=id ht;obtain ⟨⟨Hn,Gw,data2,Gx⟩,Ea,Dg,n2,hd2⟩:=id hb;simp only at hc hd Dg hd2;subst hc hd Dg hd2;have e:vs.toArray++ws.toArray=(vs++ws).toArray:=by simp
 by_cases hw:ws=[]
 · exact concat_meets ⟨_,ho,rfl⟩ ⟨_,Ea,rfl⟩ noFill_tuple_add seq_tuple_add ZV ZP (ZJ _ _)
    (tuple_addW1 t b vs.toArray ws.toArray n n2 dd Gw sl Gx (by simpa using hv) (by simp [hw])) ⟨ho,Ea,h1 hw⟩
 · refine concat_meets ⟨_,ho,rfl⟩ ⟨_,Ea,rfl⟩ noFill_tuple_add seq_tuple_add ZV ZP (ZJ _ _)
    (tuple_addW2 t b vs.toArray ws.toArray n n2 dd Gw sl Gx (by simpa using hv) (by simpa using hw) (by rw [Vr,Vr];exact hsz)) ⟨ho,Ea,?_⟩
   rw [e];exact h2 hw
def sIx (n d:Nat):Option Int->Nat
 | none=>d
 | some v=>if v<0 then (v+(n:Int)).toNat else min v.toNat n
theorem sIx_none (n d:Nat):sIx n d none=d:=rfl
theorem sIx_nat (n d k:Nat):sIx n d (some (k:Int))=min k n:=by
 show (if (k:Int)<0 then ((k:Int)+(n:Int)).toNat else min (k:Int).toNat n)=min k n;rw [if_neg (by omega),Wg]
theorem sIx_le (n d:Nat) (hd:d<=n) (o:Option Int):sIx n d o<=n:=by
 cases o with
 | none=>exact hd
 | some v =>
   show (if v<0 then (v+(n:Int)).toNat else min v.toNat n)<=n;by_cases hv:v<0
   · rw [if_pos hv];omega
   · rw [if_neg hv];exact Nat.min_le_right _ _
theorem clip_eq (v:Int) (n d:Nat):(if v<0 then max (v+(n:Int)) 0 else min v (n:Int))=((sIx n d (some v):Nat):Int):=by
 show (if v<0 then max (v+(n:Int)) 0 else min v (n:Int))=(((if v<0 then (v+(n:Int)).toNat else min v.toNat n):Nat):Int);by_cases hv:v<0
 · simp only [if_pos hv];omega
 · simp only [if_neg hv];omega
theorem adjust_gen (lo hi:Option Int) (n:Nat):Yh lo hi 1 (n:Int)=(((sIx n 0 lo:Nat):Int),((sIx n n hi:Nat):Int)):=by
 have h1:¬ ((1:Int)<0):=by omega
 unfold Yh;simp only [h1,if_false];refine Prod.ext ?_ ?_
 · cases lo with
   | none=>rfl
   | some v=>exact clip_eq v n 0
 · cases hi with
   | none=>rfl
   | some v=>exact clip_eq v n n
theorem places_gen (i j:Nat):WW (i:Int) (j:Int) 1=j - i:=by
 unfold WW;have h1:(1:Int) > 0:=by omega
 simp only [h1,if_true,Int.ediv_one];split <;> omega
theorem slicePart_ {v:Vg} {o:Option Int} {Q:Option Int->Vm->Prop} (p:IsPart v o) (h:Q o s):Vw (VN prog w) A (Builtin.Slice.slicePartIndex v) Q E s:=by
 cases p with
 | none=>exact slicePart_none h
 | int i t=>exact slicePart_int h
theorem sliceApplied_gen {sl:Vd} {vl vu:Vg} {lo hi:Option Int} {n:Nat} {Q:Int×Int×Nat->Vm->Prop} (hs:s.heap.IsSliceOf sl vl vu .none) (pl:IsPart vl lo) (pu:IsPart vu hi)
 (h:Q (((sIx n 0 lo:Nat):Int),1,sIx n n hi - sIx n 0 lo) s):Vw (VN prog w) A (YY (.ref sl) (pure (n:Int))) Q E s:=by
 obtain ⟨os,CC,DV,BC⟩:=id hs;unfold YY Builtin.Slice.sliceFields;refine Va (Va (Wc CC BC (x:=vl) rfl (Va (Wc CC BC (x:=vu) rfl (Va (Wc CC BC (x:=.none) rfl (Vk ?_)))))));refine Va (slicePart_none ?_);show Vw _ _ (if ((1:Int) == 0)=true then _ else _) _ _ s;rw [if_neg (by decide)];refine Va (slicePart_ pl (Va (slicePart_ pu (Va (Vk ?_)))));show Vw _ _ (match Yh lo hi 1 (n:Int) with | (lo,hi)=>pure (lo,(1:Int),WW lo hi 1)) _ _ s;rw [adjust_gen lo hi n];show Vw _ _ (pure (((sIx n 0 lo:Nat):Int),(1:Int),WW ((sIx n 0 lo:Nat):Int) ((sIx n n hi:Nat):Int) 1)) _ _ s;rw [places_gen];exact Vk h
theorem pick_gen (xs:Array Vg) (i k:Nat):((V9 k).filterMap fun (m:Nat)=>xs[((i:Int)+(m:Int) * 1).toNat]?).toArray=((xs.toList.drop i).take k).toArray:=by
 have e:(fun (m:Nat)=>xs[((i:Int)+(m:Int) * 1).toNat]?)=fun m=>xs[i+m]?:=by
  funext m;have:((i:Int)+(m:Int) * 1).toNat=i+m:=by omega
  rw [this]
 rw [e];have:=pick_run xs i k;rw [List.filterMap_map] at this;have e2:((fun x=>xs[x]?) ∘ fun x=>i+x)=fun m=>xs[i+m]?:=rfl;rw [e2] at this;rw [this]
theorem getItem_tuple_cut {t sl:Vd} {items:Array Vg} {vl vu:Vg} {lo hi:Option Int} {Q:Vg->Vm->Prop} (ht:IsTup s.heap t items) (hs:s.heap.IsSliceOf sl vl vu .none) (pl:IsPart vl lo) (pu:IsPart vu hi)
 (hw:¬ (sIx items.size 0 lo=0/\sIx items.size items.size hi=items.size))
 (h:Q (.ref s.heap.objs.size) { s with heap:=s.heap.push { cls:=.type "tuple",data:=.seq ((items.toList.drop (sIx items.size 0 lo)).take (sIx items.size items.size hi - sIx items.size 0 lo)).toArray } })
 (hsz:items.size<=Vz):Vw (VN prog w) A (Zj (.ref t) (.ref sl)) Q E s:=by
 have Aw:sizeOk (.seq ((items.toList.drop (sIx items.size 0 lo)).take (sIx items.size items.size hi - sIx items.size 0 lo)).toArray):=by
  show ((items.toList.drop (sIx items.size 0 lo)).take (sIx items.size items.size hi - sIx items.size 0 lo)).toArray.size<=Vz;rw [Vr,Wl,Ze,Wr];omega
 have hj:sIx items.size items.size hi<=items.size:=sIx_le _ _ (Vj _) hi;obtain ⟨os,CC,DV,BC⟩:=id hs;have Ho:s.TypeIs (.ref sl) "slice":=⟨os,CC,DV⟩;unfold Zj
 try with_reducible refine WH ?_
 first | refine Va (Vk ?_) | skip
 refine Va (wpAny_sequenceKey ht.typeIs (by decide) ?_)
 refine Va (Wi (name:=Vf "__getitem__") ht.typeIs V5
  (Wu V5 ht.typeIs entry_tuple_getitem ?_ (args_tuple_getitem _ _)))
 show Vw _ _ (YX (.ref t) >>= _) _ _ s;refine Va (tupleItemsOf_ ht ?_);refine Va (XW Ho ?_);rw [if_pos (by decide)];refine Va (sliceApplied_gen hs pl pu ?_)
 have Cb:¬ ((((sIx items.size 0 lo:Nat):Int) == 0 && (1:Int) == 1 && (sIx items.size items.size hi - sIx items.size 0 lo) == items.size)=true):=by
  intro q;rw [WY,WY] at q;have q1:((sIx items.size 0 lo:Nat):Int)=0:=eq_of_beq q.1.1;have q2:sIx items.size items.size hi - sIx items.size 0 lo=items.size:=eq_of_beq q.2;exact hw ⟨by omega,by omega⟩
 show Vw _ _ (if (((sIx items.size 0 lo:Nat):Int) == 0 && (1:Int) == 1 && (sIx items.size items.size hi - sIx items.size 0 lo) == items.size)=true then _ else _) _ _ s;rw [if_neg Cb,pick_gen]
 first
  | exact Va (m:=W0 _) (Wt (Vk ⟨_,rfl,Vk h⟩) Aw)
  | exact Va (m:=W0 _) (Wt (Va (Vk (Vk ⟨_,rfl,Vk h⟩))) Aw)
  | exact Va (Va (m:=W0 _) (Wt (Vk (Vk ⟨_,rfl,Vk h⟩)) Aw))
  | exact Va (Va (m:=W0 _) (Wt (Vk ⟨_,rfl,Vk h⟩) Aw))
end
end HT
namespace L2
open PySem PySem.Spec PyProof.Rows
abbrev TO:=St->Hp->(Option Int->Hp->Prop)->Prop
def PO (X:Cx) (e:Option Wq) (t:TO):Prop :=
 ∀ (pins:List (Vd×Xq)) (s:Vm) (σ:St) (H:Hp) (Q:Option Int->Hp->Prop),Inv X pins σ H s->t σ H Q →
   Vw (VN X.prog X.w) X.A (evalPart e X.env) (fun u s'=>∃ o H',Inv X pins σ H' s'/\IsPart u o/\Q o H') X.xe s
def vA:TO:=fun _ H Q=>Q none H
inductive ww (x:V) (Q:Option Int->Hp->Prop) (H1:Hp):Prop
 | mk (i:Int) (zI:x=.int i) (zJ:Q (some i) H1):ww x Q H1
def wC (t:TE):TO:=fun σ H Q=>t σ H fun x H1=>ww x Q H1
section
variable {X:Cx} {e:Wq} {te:TE} {lo hi:Option Wq} {tl th:TO} {pos p2:Yr}
theorem ft:PO X none vA:=by
 intro pins s σ H Q I h;rw [evalPart_none];exact Vk ⟨none,H,I,.none,h⟩
theorem dJ (h:PE X e te):PO X (some e) (wC te):=by
 intro pins s σ H Q I hw;rw [evalPart_some];refine thn (h pins s σ H _ I hw) fun u s1 ⟨x,H1,I1,r1,q1⟩=>?_;obtain ⟨i,rfl,q⟩:=q1;obtain ⟨t,rfl⟩:=r1;exact ⟨some i,H1,I1,.int i t,q⟩
def SlR (X:Cx) (r:V->Option Int->Option Int->Hp->VK->Prop):Prop :=
 ∀ (pins:List (Vd×Xq)) (s:Vm) (σ:St) (H:Hp) (x:V) (v vl vu:Vg) (lo hi:Option Int) (sl:Vd) (Q:VK),Inv X pins σ H s->RelV x v->s.heap.IsSliceOf sl vl vu .none->IsPart vl lo->IsPart vu hi->r x lo hi H Q →
   ∃ T id,YS (.type T) "__getitem__"=pure (some (.builtin id))/\s.TypeIs v T/\Vw (VN X.prog X.w) X.A (Zj v (.ref sl)) (EP X pins σ Q) X.xe s
def tSl (r:V->Option Int->Option Int->Hp->VK->Prop) (te:TE) (tl th:TO):TE:=fun σ H Q=>te σ H fun x H1=>tl σ H1 fun l H2=>th σ H2 fun u H3=>r x l u H3 Q
theorem dw {r:V->Option Int->Option Int->Hp->VK->Prop} (hr:SlR X r) (he:PE X e te) (hl:PO X lo tl) (hu:PO X hi th):PE X (.Subscript e (.Slice lo hi none p2) pos) (tSl r te tl th):=by
 intro pins s σ H Q I h;refine Subscript_ (thn (he pins s σ H _ I h) fun v s1 ⟨x,H1,I1,r1,q1⟩=>?_);refine wpAny_Slice (thn (hl pins s1 σ H1 _ I1 q1) fun vl s2 ⟨l,H2,I2,pl,q2⟩=>thn (hu pins s2 σ H2 _ I2 q2) fun vu s3 ⟨u,H3,I3,pu,q3⟩=>?_);rw [evalPart_none];refine Vk ?_;have I4:Inv X pins σ H3 { s3 with heap:=s3.heap.push { cls:=.type "slice",data:=.fields #[vl,vu,.none] } }:=I3.kept (t':=s3.toks) fun b ob q=>Vi _ q;obtain ⟨T,id,hT,ht,hg⟩:=hr pins { s3 with heap:=s3.heap.push { cls:=.type "slice",data:=.fields #[vl,vu,.none] } } σ H3 x v vl vu l u s3.heap.objs.size Q I4 r1 (Heap.IsSliceOf.new ..) pl pu q3;show Vw (VN X.prog X.w) X.A (subscriptTail e (.Slice lo hi none p2) v (.ref s3.heap.objs.size)) (EP X pins σ Q) X.xe { s3 with heap:=s3.heap.push { cls:=.type "slice",data:=.fields #[vl,vu,.none] } };exact tail_any (ops:=[.ref s3.heap.objs.size,v]) ht hT hg (by with_unfolding_all rfl)
def iM (xs:List V) (lo hi:Option Int):List V:=(xs.drop (HT.sIx xs.length 0 lo)).take (HT.sIx xs.length xs.length hi - HT.sIx xs.length 0 lo)
theorem oz (xs:List V) (lo hi:Option Int):(iM xs lo hi).length<=xs.length:=by
 unfold iM;rw [Wl,Ze];omega
inductive wR (K:Vc) (x:V) (lo:Option Int) (hi:Option Int) (H:Hp) (Q:VK):Prop
 | mk (a:_) (xs:_) (zI:x=.ref a) (zJ:SqT K H a xs) (zP:¬ (HT.sIx xs.length 0 lo=0/\HT.sIx xs.length xs.length hi=xs.length)) (zZ:∀ p,H p=none->Q (.ref p) (upd H p (.tup (iM xs lo hi)))):wR K x lo hi H Q
def zh (K:Vc):V->Option Int->Option Int->Hp->VK->Prop:=wR K
theorem jz:SlR X (zh X.K):=by
 intro pins s σ H x v vl vu lo hi sl Q I rx hs pl pu h;obtain ⟨a,xs,rfl,hx,hw,q⟩:=h;cases rx;obtain ⟨its,r,ht,hz⟩:=I.tuple hx;have hlen:its.toArray.size=xs.length:=by rw [Vr];exact r.length.symm
 refine ⟨"tuple",_,V5.lookup,ht.typeIs,?_⟩;refine HT.getItem_tuple_cut ht hs pl pu (by rw [hlen];exact hw) ?_ (by rw [hlen];exact hz);rw [hlen];refine ⟨.ref s.heap.objs.size,_,I.laid (t':=s.toks) (o:=.tup (iM xs lo hi)) (fun b ob q=>Vi _ q) (Vj _) ?_,rfl,q _ (I.hok.fresh (Vj _))⟩;exact ⟨WZ (oz xs lo hi) hz,_,0,(r.drop (HT.sIx xs.length 0 lo)).take (HT.sIx xs.length xs.length hi - HT.sIx xs.length 0 lo),Vq _ rfl⟩
def yG (K:Vc):R2:=fun x y H Q=>∃ a b xs ys,x=.ref a/\y=.ref b/\SqT K H a xs/\SqT K H b ys/\xs≠[]/\xs.length+ys.length<=Vz ∧
 (ys=[]->Q (.ref a) H)/\(ys≠[]->∀ p,H p=none->Q (.ref p) (upd H p (.tup (xs++ys))))
theorem Vals.nil_iff {xs:List V} {us:List Vg} (r:Vals xs us):us=[]↔xs=[]:=by
 cases r with
 | nil=>simp
 | cons _ _=>simp
theorem v5:OpR X (Zl .Add) (yG X.K):=by
 intro pins s σ H x y v u Q I rx ry h;obtain ⟨a,b,xs,ys,rfl,rfl,ha,hb,hx,hz,q1,q2⟩:=h;cases rx;cases ry;obtain ⟨its,r1,p1,_⟩:=I.tuple ha;obtain ⟨zD,r2,p2,_⟩:=I.tuple hb;refine HT.cat_tup p1 p2 (fun z=>hx (r1.nil_iff.mp z)) (fun z=>⟨.ref a,H,I,rfl,q1 (r2.nil_iff.mp z)⟩) (fun z=>?_) (by rw [<- r1.length,<- r2.length];exact hz);refine ⟨.ref s.heap.objs.size,_,I.laid (t':=s.toks) (o:=.tup (xs++ys)) (fun b ob q=>Vi _ q) (Vj _) ?_,rfl,q2 (fun w=>z (r2.nil_iff.mpr w)) _ (I.hok.fresh (Vj _))⟩;exact ⟨by rw [VD];exact hz,_,0,r1.append r2,Vq _ rfl⟩
end
end L2
namespace L2
open PySem PySem.Spec PyProof.Rows
def ixN (n:Nat) (i:Int):Option Nat:=if 0<=i then (if i<n then some i.toNat else none) else if -(n:Int)<=i then some (i+n).toNat else none
def atI {α:Type} (xs:List α) (i:Int):Option α:=(ixN xs.length i).bind fun j=>xs[j]?
theorem nS {n:Nat} {i:Int} {j:Nat} (h:ixN n i=some j):seqIndex? i n=some j/\j<n/\-(n:Int)<=i/\i<n:=by
 unfold ixN at h;by_cases h0:0<=i
 · rw [if_pos h0] at h;by_cases h1:i<n
   · rw [if_pos h1] at h;have e:i.toNat=j:=VL h;exact ⟨by rw [seqIndex_of h0 h1,e],by omega,by omega,h1⟩
   · rw [if_neg h1] at h;cases h
 · rw [if_neg h0] at h;by_cases h1:-(n:Int)<=i
   · rw [if_pos h1] at h;have e:(i+n).toNat=j:=VL h;exact ⟨by rw [seqIndex_neg (by omega) h1,e],by omega,h1,by omega⟩
   · rw [if_neg h1] at h;cases h
theorem n5 {α:Type} {xs:List α} {i:Int} {v:α} (h:atI xs i=some v):∃ j,seqIndex? i xs.length=some j/\xs[j]?=some v/\j<xs.length/\-(xs.length:Int)<=i/\i<xs.length:=by
 unfold atI at h;cases e:ixN xs.length i with
 | none=>rw [e] at h;cases h
 | some j =>
   rw [e] at h;obtain ⟨h1,h2,h3,h4⟩:=nS e;exact ⟨j,h1,h,h2,h3,h4⟩
theorem cx {α:Type} {xs:List α} {j:Nat} {v:α} (h:xs[j]?=some v):atI xs (j:Int)=some v:=by
 have hj:j<xs.length:=(Vn.mp h).1
 have e:ixN xs.length (j:Int)=some j:=by
  unfold ixN;rw [if_pos (by omega),if_pos (by omega)];simp
 unfold atI;rw [e];exact h
def rq (b:Wq):Prop:=∀ o i,subscripted b false o i=operate [o,i] (Zj o i)
def IxR (X:Cx) (r:R2):Prop :=
 ∀ (value slice:Wq) (pins:List (Vd×Xq)) (s:Vm) (σ:St) (H:Hp) (x y:V) (v u:Vg) (Q:VK),Inv X pins σ H s->RelV x v->RelV y u->r x y H Q →
   subscripted slice false v u=operate [v,u] (Zj v u)->Vw (VN X.prog X.w) X.A (subscriptTail value slice v u) (EP X pins σ Q) X.xe s
def MtR (X:Cx) (id:String) (r:V->List V->Hp->VK->Prop):Prop :=
 ∀ (pins:List (Vd×Xq)) (s:Vm) (σ:St) (H:Hp) (x:V) (xs:List V) (v:Vg) (us:List Vg) (Q:VK),Inv X pins σ H s->RelV x v->Vals xs us->r x xs H Q →
   Vw (VN X.prog X.w) X.A (call (.builtin id) (v::us)) (EP X pins σ Q) X.xe s
section
variable {X:Cx} {a b:Wq} {ta tb:TE} {pos:Yr}
theorem aZ {r:R2} (hr:IxR X r) (ha:PE X a ta) (hb:PE X b tb) (hs:rq b):PE X (.Subscript a b pos) (tOp r ta tb):=by
 intro pins s σ H Q I h;exact Subscript_ (xH ha hb I h fun v u s2 x y H2 I2 rx ry q=>hr a b pins s2 σ H2 x y v u Q I2 rx ry q (hs _ _))
inductive wM (K:Vc) (x:V) (y:V) (H:Hp) (Q:VK):Prop
 | mk (p:_) (xs:_) (i:_) (v:_) (zI:x=.ref p) (zJ:y=.int i) (zP:SqL K H p xs) (zZ:atI xs i=some v) (Ai:Q v H):wM K x y H Q
def uK (K:Vc):R2:=wM K
inductive wJ (K:Vc) (x:V) (y:V) (H:Hp) (Q:VK):Prop
 | mk (p:_) (xs:_) (i:_) (v:_) (zI:x=.ref p) (zJ:y=.int i) (zP:SqT K H p xs) (zZ:atI xs i=some v) (Ai:Q v H):wJ K x y H Q
def xO (K:Vc):R2:=wJ K
inductive wB (x:V) (y:V) (H:Hp) (Q:VK):Prop
 | mk (z:_) (i:_) (c:_) (zI:x=.str z) (zJ:y=.int i) (zP:z.length<=Vz) (zZ:atI z.cps.toList i=some c) (Ai:Q (.str ⟨#[c]⟩) H):wB  x y H Q
def y8:R2:=wB
theorem bu:IxR X (uK X.K):=by
 intro value slice pins s σ H x y v u Q I rx ry h hs;obtain ⟨p,xs,i,z,rfl,rfl,hq,he,q⟩:=h;cases rx;obtain ⟨t,rfl⟩:=ry;obtain ⟨its,r,pl,hz⟩:=I.list hq;obtain ⟨j,h1,h2,h3,h4,h5⟩:=n5 he;obtain ⟨w,ew,CD⟩:=r.get h2;have hl:=r.length;have hn:=fD;have fin:EP X pins σ Q w s:=⟨z,H,I,CD,q⟩;by_cases h0:0<=i
 · have hj:i.toNat=j:=by
    rw [seqIndex_of h0 h5] at h1;exact VL h1
   exact item_listR pl.isList h0 (by omega) (by rw [hj];simpa using ew) fin hs
 · have hj:(i+(its.toArray.size:Int)).toNat=j:=by
    rw [seqIndex_neg (by omega) h4] at h1;rw [Vr,<- hl];exact VL h1
   exact subscriptTail_builtinR (x:=w) pl.isList.typeIs slot_list_getitem.lookup
    (wpAny_getItem_list_neg (Q:=fun r s'=>r=w/\EP X pins σ Q r s') pl.isList (by omega) (by rw [Vr] <;> omega) (by omega) (by rw [hj];simpa using ew) ⟨rfl,fin⟩) hs
theorem bL:IxR X (xO X.K):=by
 intro value slice pins s σ H x y v u Q I rx ry h hs;obtain ⟨p,xs,i,z,rfl,rfl,hq,he,q⟩:=h;cases rx;obtain ⟨t,rfl⟩:=ry;obtain ⟨its,r,pl,hz⟩:=I.tuple hq;obtain ⟨j,h1,h2,h3,h4,h5⟩:=n5 he;obtain ⟨w,ew,CD⟩:=r.get h2;have hl:=r.length;have hn:=fD;have fin:EP X pins σ Q w s:=⟨z,H,I,CD,q⟩
 exact subscriptTail_builtinR (x:=w) pl.typeIs slot_tuple_getitem.lookup
  (getItem_tuple (j:=j) (Q:=fun r s'=>r=w/\EP X pins σ Q r s') pl (by omega) (by omega) (by rw [Vr,<- hl];exact h1) (by simpa using ew) ⟨rfl,fin⟩) hs
theorem xc:IxR X y8:=by
 intro value slice pins s σ H x y v u Q I rx ry h hs;obtain ⟨z,i,c,rfl,rfl,hz,he,q⟩:=h;obtain ⟨t,rfl⟩:=rx;obtain ⟨t',rfl⟩:=ry;obtain ⟨j,h1,h2,h3,h4,h5⟩:=n5 he;have hl:z.cps.toList.length=z.length:=by simp [Str.length]
 rw [hl] at h1 h4 h5;have hn:=fD
 exact tail_any (typeIs_str s z t) slot_str_getitem.lookup (getItem_str (c:=c) (by
  have e1:decide (i < -(2 ^ 63:Int))=false:=decide_eq_false (by omega);have e2:decide (i ≥ 2 ^ 63)=false:=decide_eq_false (by omega);rw [e1,e2,Bool.or_false]) (by rw [h1];simpa using h2) ⟨.str ⟨#[c]⟩,H,I.tok _,⟨_,rfl⟩,q⟩) hs
theorem qg (its:List Vg) (n j:Nat) (u:Vg):Wv (·.setIfInBounds j u) { cls:=.type "list",data:=.seq its.toArray n }={ cls:=.type "list",data:=.seq (its.set j u).toArray n }:=by
 simp [Wv]
theorem Inv.lst {pins:List (Vd×Xq)} {σ:St} {H:Hp} {s:Vm} {p:Vd} {xs:List V} (I:Inv X pins σ H s) (h:H p=some (.lst xs)) :
 ∃ (its:List Vg) (n:Nat),Vals xs its/\s.heap.get? p=some { cls:=.type "list",data:=.seq its.toArray n }/\xs.length<=Vz:=by
 obtain ⟨z,its,n,r,e⟩:=I.hok p _ h;exact ⟨its,n,r,e,z⟩
theorem Inv.lstUpd {pins:List (Vd×Xq)} {σ:St} {H:Hp} {s:Vm} {p:Vd} {xs ys:List V} {its its':List Vg} {n n':Nat} {f:Xq->Xq} (I:Inv X pins σ H s) (h:H p=some (.lst xs))
 (ho:s.heap.get? p=some { cls:=.type "list",data:=.seq its.toArray n }) (hf:f { cls:=.type "list",data:=.seq its.toArray n }={ cls:=.type "list",data:=.seq its'.toArray n' }) (r:Vals ys its') (hz:ys.length<=Vz) (t:Nat) :
 Inv X pins σ (upd H p (.lst ys)) { s with heap:=s.heap.update p f,toks:=t }:=by
 have e:(s.heap.update p f).get? p=some { cls:=.type "list",data:=.seq its'.toArray n' }:=by
  rw [V4 f ho (by rw [hf] <;> rfl),hf]
 refine I.write (x:=p) (e:=p) (by rw [h];trivial) (.inl rfl) (fun b u hb q=>(Wa _ _ (W4 hb)).trans q) ⟨_,e⟩ ?_;exact ⟨hz,its',n',r,e⟩
def yo:V->V->V->Hp->(Hp->Prop)->Prop:=fun o i v H Q=>∃ p xs k j,o=.ref p/\i=.int k/\H p=some (.lst xs)/\ixN xs.length k=some j/\Q (upd H p (.lst (xs.set j v)))
theorem set_list:xW X yo:=by
 intro pins s σ H o i v ov iv u Q I ro ri rv h;obtain ⟨p,xs,k,j,rfl,rfl,hp,hj,q⟩:=h;cases ro;obtain ⟨t,rfl⟩:=ri;obtain ⟨its,n,r,ho,hz⟩:=I.lst hp;obtain ⟨h1,h2,h3,h4⟩:=nS hj;have hl:=r.length;have hn:=fD
 have I':Inv X pins σ (upd H p (.lst (xs.set j v))) { s with heap:=s.heap.update p (Wv (·.setIfInBounds j u)) } :=
  I.lstUpd hp ho (qg its n j u) (r.set rv j) (by rw [List.length_set];exact hz) s.toks
 by_cases h0:0<=k
 · have hk:k.toNat=j:=by
    rw [seqIndex_of h0 h4] at h1;exact VL h1
   exact PySem.W.ki_setAt ho h0 (by omega) (by rw [Vr,<- hl];exact h4) (by rw [hk];exact ⟨_,I',q⟩)
 · have hk:(k+(its.toArray.size:Int)).toNat=j:=by
    rw [seqIndex_neg (by omega) h3] at h1;rw [Vr,<- hl];exact VL h1
   exact PySem.W.ki_setBack ho (by omega) (by rw [Vr,<- hl];exact h3) (by omega) (by rw [hk];exact ⟨_,I',q⟩)
inductive wL (K:Vc) (xs:List V) (H:Hp) (Q:VK):Prop
 | mk (p:Vd) (ys:List V) (zI:xs=[.ref p]) (zJ:SqL K H p ys∨SqT K H p ys) (zP:Q (.int ys.length) H):wL K xs H Q
theorem aF:jI X (.builtin "len") (wL X.K):=by
 intro pins s σ H xs us Q I r h;obtain ⟨p,ys,rfl,hq,q⟩:=h;obtain ⟨u,rfl,rx⟩:=vals1 r;cases rx;have hn:=fD;rcases hq with hq | hq
 · obtain ⟨its,r',pl,hz⟩:=I.list hq;have hlen:=r'.length;exact Calls.call_len_list pl.isList (by simp only [Vr] <;> omega) ⟨.int ys.length,H,I.tok _,⟨s.toks+1,by rw [Vr,hlen]⟩,q⟩
 · obtain ⟨its,r',pl,hz⟩:=I.tuple hq;have hlen:=r'.length;exact len_tuple pl (by simp only [Vr] <;> omega) ⟨.int ys.length,H,I.tok _,⟨s.toks+1,by rw [Vr,hlen]⟩,q⟩
theorem be:jI X (.type "tuple") (fun xs H Q=>∃ p ys,xs=[.ref p]/\((SqL X.K H p ys/\∀ l,H l=none->Q (.ref l) (upd H l (.tup ys)))∨(SqT X.K H p ys/\Q (.ref p) H))):=by
 intro pins s σ H xs us Q I r h;obtain ⟨p,ys,rfl,h⟩:=h;obtain ⟨u,rfl,rx⟩:=vals1 r;cases rx;rcases h with ⟨hq,q⟩ | ⟨hq,q⟩
 · obtain ⟨its,r',pl,hz⟩:=I.list hq;have hlen:=r'.length;refine call_tuple_list pl.isList (fun h' kp=>?_) (by simp only [Vr] <;> omega);have I1:Inv X pins σ H { s with heap:=h' }:=I.kept (t':=s.toks) kp
   have I2:Inv X pins σ (upd H h'.objs.size (.tup ys)) { s with heap:=h'.push { cls:=.type "tuple",data:=.seq its.toArray } } :=
    I1.laid (t':=s.toks) (fun b o e=>Vi _ e) (Vj _) (show ObjOk X.prog X.w _ _ _ (.tup ys) from ⟨hz,its,0,r',Vq _ rfl⟩)
   exact ⟨.ref h'.objs.size,_,I2,rfl,q _ (I1.hok.fresh (Vj _))⟩
 · obtain ⟨its,r',pl,hz⟩:=I.tuple hq;exact call_tuple_same pl ⟨.ref p,H,I,rfl,q⟩
def tyV (K:Vc) (T:String) (x:V) (H:Hp):Prop:=match x with
 | .str _=>T="str"
 | .int _=>T="int"
 | .ref p=>(T="list"/\∃ xs,SqL K H p xs)∨(T="tuple"/\∃ o,K.lookup p=some o/\o.cls=.type "tuple"/\o.dict=none) ∨
  (T="dict"/\((∃ f',H p=some (.dK f'))∨∃ f',H p=some (.dT f')))∨(T="set"/\∃ S n,H p=some (.set S n))
 | _=>False
theorem vb {pins:List (Vd×Xq)} {σ:St} {H:Hp} {s:Vm} {T:String} {x:V} {v:Vg} (I:Inv X pins σ H s) (r:RelV x v) (ty:tyV X.K T x H) :
 s.TypeIs v T/\∀ a,v=.ref a->∃ ob,s.heap.get? a=some ob/\ob.dict=none:=by
 cases x with
 | str z =>
   obtain ⟨t,rfl⟩:=r;cases (show T="str" from ty);exact ⟨typeIs_str s z t,fun _ e=>nomatch e⟩
 | int i =>
   obtain ⟨t,rfl⟩:=r;cases (show T="int" from ty);exact ⟨typeIs_int s i t,fun _ e=>nomatch e⟩
 | ref p =>
   cases r;rcases ty with ⟨rfl,xs,hq⟩ | ⟨rfl,o,hk,hc,hd⟩ | ⟨rfl,hk⟩ | ⟨rfl,S,n,hk⟩
   · obtain ⟨its,_,pl,_⟩:=I.list hq;refine ⟨pl.isList.typeIs,fun a e=>?_⟩;cases e;obtain ⟨o,n,e,c,hd,_⟩:=pl;exact ⟨o,e,hd⟩
   · refine ⟨⟨o,I.kIn p o hk,hc⟩,fun a e=>?_⟩;cases e;exact ⟨o,I.kIn _ o hk,hd⟩
   · have z:∃ o,s.heap.get? p=some o/\o.ExactDict:=by
      rcases hk with ⟨f',hk⟩ | ⟨f',hk⟩
      · obtain ⟨_,_,_,_,o,_,_,e,ex,_⟩:=I.hok p _ hk;exact ⟨o,e,ex⟩
      · obtain ⟨_,_,_,_,o,_,_,e,ex,_⟩:=I.hok p _ hk;exact ⟨o,e,ex⟩
     obtain ⟨o,e,ex⟩:=z;refine ⟨⟨o,e,ex.1⟩,fun a e2=>?_⟩;cases e2;exact ⟨o,e,ex.2.1⟩
   · obtain ⟨o,_,_,_,e,ex,_⟩:=I.hok p _ hk;refine ⟨⟨o,e,ex.1⟩,fun a e2=>?_⟩;cases e2;exact ⟨o,e,ex.2.1⟩
 | _=>exact Xm ty
def x8 (K:Vc) (T:String) (r:V->List V->Hp->VK->Prop) (to:TE):TE:=fun σ H Q=>to σ H fun x H1=>tyV K T x H1/\r x [] H1 Q
def tBM (K:Vc) (T:String) (r:V->List V->Hp->VK->Prop) (to:TE) (t:TA):TE:=fun σ H Q=>to σ H fun x H1=>tyV K T x H1/\t σ H1 fun xs H2=>r x xs H2 Q
variable {o e:Wq} {es:List Wq} {to:TE} {t:TA} {name:VM} {apos zL:Yr} {T id:String} {r:V->List V->Hp->VK->Prop}
theorem jm (pa:PlainAttrs T) (slot:Slot T name id) (Hq:typeOf (.builtin id)=pure (.type "method_descriptor")) (hm:MtR X id r) (ho:PE X o to)
 (BJ:Zt o name X.env (Xh o X.env)=Xh o X.env:=by rfl) (BK:(apos.endLine == zL.line)=true:=by rfl):PE X (.Call (.Attribute o name apos) [] [] zL) (x8 X.K T r to):=by
 intro pins s σ H Q I h;refine wpAny_Call_method0_late BJ BK (thn (ho pins s σ H _ I h) fun v s1 ⟨x,H1,I1,r1,ty,q1⟩=>?_);obtain ⟨h1,h2⟩:=vb I1 r1 ty;exact ⟨T,id,pa,slot,Hq,h1,h2,YB rfl (PySem.evalArgs_none (hm pins s1 σ H1 x [] v [] Q I1 r1 .nil q1))⟩
theorem bK (pa:PlainAttrs T) (slot:Slot T name id) (Hq:typeOf (.builtin id)=pure (.type "method_descriptor")) (hm:MtR X id r) (ho:PE X o to) (ha:PA X (e::es) t)
 (BJ:Zt o name X.env (Xh o X.env)=Xh o X.env:=by rfl)
 (Fs:((Yn zL (V0 (e::es) X.env)).all (fun x=>!x.1) && (backToKw zL (keywordEach [] X.env)).all (fun x=>x.1.isSome)
  && decide ((e::es).length+([]:List Keyword).length+(if ([]:List Keyword).isEmpty then 0 else 1)<30))=true:=by rfl)
 (BK:(apos.endLine == zL.line)=true:=by rfl) (hs:V0 (e::es) X.env=(false,Xh e X.env)::V0 es X.env:=by rfl) (AW:(Yn zL (V0 es X.env)).any (·.1)=false:=by rfl) :
 PE X (.Call (.Attribute o name apos) (e::es) [] zL) (tBM X.K T r to t):=by
 intro pins s σ H Q I h;refine wpAny_Call_method_late BJ Fs BK rfl (thn (ho pins s σ H _ I h) fun v s1 ⟨x,H1,I1,r1,ty,q1⟩=>?_);obtain ⟨h1,h2⟩:=vb I1 r1 ty;refine ⟨T,id,pa,slot,Hq,h1,h2,?_⟩;have hA:=ha zL pins s1 σ H1 _ I1 q1;rw [hs] at hA ⊢;refine YB (by show (false || (Yn zL (V0 es X.env)).any (·.1))=false;rw [AW] <;> rfl) (ZA ?_);exact thn hA fun us s2 ⟨vs,H2,I2,r2,q2⟩=>hm pins s2 σ H2 x vs v us Q I2 r1 r2 q2
end
end L2
namespace L2
open PySem PySem.Spec PyProof.Rows
def MtM (X:Cx) (id:String) (r:V->List V->Hp->VK->Prop):Prop :=
 ∀ (pins:List (Vd×Xq)) (s:Vm) (σ:St) (H:Hp) (x:V) (xs:List V) (v:Vg) (us:List Vg) (Q:VK),Inv X pins σ H s->RelV x v->Vals xs us->r x xs H Q →
   Vw (VN X.prog X.w) X.A (call (.builtin id) (v::us)) (EP X pins σ Q) X.xe s
theorem Vals.one:∀ {x:V} {us:List Vg},Vals [x] us->∃ u,us=[u]/\RelV x u
 | _,_,.cons r .nil=>⟨_,rfl,r⟩
theorem Vals.zero:∀ {us:List Vg},Vals [] us->us=[]
 | _,.nil=>rfl
theorem Vals.dropLast {xs:List V} {us:List Vg} (h:Vals xs us):Vals xs.dropLast us.dropLast:=by
 induction h with
 | nil=>exact .nil
 | cons r t ih =>
   cases t with
   | nil=>exact .nil
   | cons q t'=>exact .cons r ih
theorem Vals.reverse {xs:List V} {us:List Vg} (h:Vals xs us):Vals xs.reverse us.reverse:=by
 induction h with
 | nil=>exact .nil
 | cons r t ih=>rw [Wj,Wj];exact Vals.append ih (.cons r .nil)
theorem qT {α:Type} (l:List α):l.eraseIdx (l.length - 1)=l.dropLast:=by
 induction l with
 | nil=>rfl
 | cons a r ih =>
   cases r with
   | nil=>rfl
   | cons b r =>
     have e:(a::b::r).length - 1=((b::r).length - 1)+1:=by
      have h1:(a::b::r).length=r.length+2:=rfl;have h2:(b::r).length=r.length+1:=rfl;omega
     rw [e,List.eraseIdx_cons_succ,ih]
     all_goals rfl
section
variable {X:Cx} {pins:List (Vd×Xq)} {σ:St} {H:Hp} {s:Vm} {l b:Vd} {xs ys zs:List V}
theorem Inv.lset {its its':List Vg} {n:Nat} {f:Array Vg->Array Vg} {t':Nat} (I:Inv X pins σ H s) (hH:H l=some (.lst xs))
 (e:s.heap.get? l=some { cls:=.type "list",data:=.seq its.toArray n }) (hf:f its.toArray=its'.toArray) (hv:Vals ys its') (hz:ys.length<=Vz) :
 Inv X pins σ (upd H l (.lst ys)) { s with heap:=s.heap.update l (Wv f),toks:=t' }:=by
 have q:=PySem.IsL.update e f;rw [hf] at q;refine I.write (x:=l) (e:=l) (by rw [hH];exact trivial) (.inl rfl) (fun b' u hb hu=>(Wa s.heap (Wv f) (W4 hb)).trans hu) ⟨_,q⟩ ?_;exact ⟨hz,its',_,hv,q⟩
theorem Inv.lnew {its:List Vg} {t':Nat} (I:Inv X pins σ H s) (hv:Vals ys its) (hz:ys.length<=Vz) :
 Inv X pins σ (upd H s.heap.objs.size (.lst ys)) { s with heap:=s.heap.push { cls:=.type "list",data:=.seq its.toArray },toks:=t' } :=
 I.laid (fun _ _ q=>Vi _ q) (Vj _) ⟨hz,its,0,hv,Vq _ rfl⟩
theorem Inv.fresh (I:Inv X pins σ H s):H s.heap.objs.size=none:=I.hok.fresh (Vj _)
theorem Inv.lstM (I:Inv X pins σ H s) (hH:H l=some (.lst xs)):xs.length<=Vz/\∃ (its:List Vg) (n:Nat),Vals xs its/\xs.length=its.length/\s.heap.get? l=some { cls:=.type "list",data:=.seq its.toArray n }:=by
 obtain ⟨z,its,n,r,e⟩:=I.hok l _ hH;exact ⟨z,its,n,r,r.length,e⟩
theorem lK {n:Nat} (h:n<=Vz):XG n=false:=by
 unfold XG;exact decide_eq_false (by omega)
end
section
variable {X:Cx}
inductive o9 (x:V) (vs:List V) (H:Hp) (Q:VK):Prop
 | mk (l:_) (xs:_) (y:_) (zI:x=.ref l) (zJ:vs=[y]) (zP:H l=some (.lst xs)) (zZ:xs.length<Vz) (Ai:Q .non (upd H l (.lst (xs++[y])))):o9  x vs H Q
def rN:V->List V->Hp->VK->Prop:=o9
theorem aL:MtM X "list.append" rN:=by
 intro pins s σ H x vs v us Q I rx rv h;obtain ⟨l,xs,y,rfl,rfl,hH,hz,q⟩:=h;cases rx;obtain ⟨u,rfl,ru⟩:=rv.one;obtain ⟨z,its,n,r,hl,e⟩:=I.lstM hH;refine call_meets F.slot_list_append ⟨_,e,rfl⟩ F.entry_list_append (F.args_list_append_2 _ _) (PySem.list_append l its.toArray n u (by rw [Vr];omega)) ⟨e,?_⟩;refine ⟨.non,_,I.lset (its':=its++[u]) hH e (by simp) (r.append (.cons ru .nil)) ?_,rfl,q⟩;rw [VD,Z8];omega
inductive pS (x:V) (vs:List V) (H:Hp) (Q:VK):Prop
 | mk (l:_) (b:_) (xs:_) (zs:_) (zI:x=.ref l) (zJ:vs=[.ref b]) (zP:H l=some (.lst xs)) (zZ:H b=some (.lst zs)) (Ai:xs.length+zs.length<=Vz) (AX:Q .non (upd H l (.lst (xs++zs)))):pS  x vs H Q
def v9:V->List V->Hp->VK->Prop:=pS
theorem gj:MtM X "list.extend" v9:=by
 intro pins s σ H x vs v us Q I rx rv h;obtain ⟨l,b,xs,zs,rfl,rfl,hH,hB,hz,q⟩:=h;cases rx;obtain ⟨u,rfl,ru⟩:=rv.one;cases ru;obtain ⟨z,its,n,r,hl,e⟩:=I.lstM hH;obtain ⟨z2,zD,n2,r2,AL,e2⟩:=I.lstM hB;have hsz:its.toArray.size+zD.toArray.size<=Vz:=by rw [Vr,Vr];omega
 have Dh:¬ (!its.toArray.isEmpty && XG (its.toArray.size+zD.toArray.size))=true:=by
  rw [lK hsz,ZC];exact VG
 refine call_meets F.slot_list_extend ⟨_,e,rfl⟩ F.entry_list_extend (F.args_list_extend_2 _ _)
  (AutoSeq1.list_extend_list_list_0 l its.toArray n b zD.toArray n2 Dh (by rw [Vr];omega) (by omega)) ⟨e,e2,?_⟩
 refine ⟨.non,_,I.lset (its':=its++zD) hH e (by simp) (r.append r2) ?_,rfl,q⟩;rw [VD];omega
inductive wI (x:V) (vs:List V) (H:Hp) (Q:VK):Prop
 | mk (l:_) (xs:_) (y:_) (zI:x=.ref l) (zJ:vs=[]) (zP:H l=some (.lst xs)) (zZ:xs[xs.length - 1]?=some y) (Ai:Q y (upd H l (.lst xs.dropLast))):wI  x vs H Q
def yE:V->List V->Hp->VK->Prop:=wI
theorem jx:MtM X "list.pop" yE:=by
 intro pins s σ H x vs v us Q I rx rv h;obtain ⟨l,xs,y,rfl,rfl,hH,hy,q⟩:=h;cases rx;have Hr:=rv.zero;subst Hr;obtain ⟨z,its,n,r,hl,e⟩:=I.lstM hH;obtain ⟨u,hu,ru⟩:=r.get hy
 have Di:its.toArray[its.toArray.size - 1]?=some u:=by
  show its.toArray[its.length - 1]?=some u;rw [<- Zc,<- hl];exact hu
 refine call_meets F.slot_list_pop ⟨_,e,rfl⟩ F.entry_list_pop (F.args_list_pop_1 _) (MeetsSeq.list_pop_last l its.toArray n u Di (by rw [Vr];omega)) ⟨e,?_⟩;refine ⟨y,_,I.lset (its':=its.dropLast) hH e ?_ r.dropLast ?_,ru,q⟩
 · show its.toArray.eraseIdxIfInBounds (its.toArray.size - 1)=its.dropLast.toArray;rw [Vr,List.eraseIdxIfInBounds_toArray,qT]
 · rw [List.length_dropLast];omega
inductive wD (x:V) (y:V) (H:Hp) (Q:VK):Prop
 | mk (l:_) (b:_) (xs:_) (zs:_) (zI:x=.ref l) (zJ:y=.ref b) (zP:H l=some (.lst xs)) (zZ:H b=some (.lst zs)) (Ai:xs.length+zs.length<=Vz) (AX:∀ p,H p=none->Q (.ref p) (upd H p (.lst (xs++zs)))):wD  x y H Q
def yS:R2:=wD
theorem wT:OpR X (Zl .Add) yS:=by
 intro pins s σ H x y v u Q I rx ry h;obtain ⟨l,b,xs,zs,rfl,rfl,hH,hB,hz,q⟩:=h;cases rx;cases ry;obtain ⟨z,its,n,r,hl,e⟩:=I.lstM hH;obtain ⟨z2,zD,n2,r2,AL,e2⟩:=I.lstM hB;refine PySem.P.add_list e e2 ?_ (by rw [Vr,Vr];omega);have ea:its.toArray++zD.toArray=(its++zD).toArray:=by simp
 rw [ea];exact ⟨.ref _,_,I.lnew (t':=s.toks) (r.append r2) (by rw [VD];omega),rfl,q _ I.fresh⟩
end
section
variable {prog:Vu} {w:VI} {A:V2} {E:Vg->Vm->Prop} {s:Vm}
end
section
variable {X:Cx}
end
end L2
namespace Att
open PySem PySem.W PySem.Calls PyProof.Rows
theorem ints_of_wellAll {P:Params} {h:Wx}:∀ (ns:List Int) (vs:List Vg),WellAll P h vs (ns.map WData.int)->IntsAre vs ns:=by
 intro ns;induction ns with
 | nil =>
   intro vs w;rw [Xd] at w;cases w;exact .nil
 | cons n ns ih =>
   intro vs w;rw [V3] at w;cases w with
   | cons a b =>
     cases a;exact .cons _ _ (ih _ b)
theorem script_of {l:OpenLaw} {n:Nat} (hn:l.most=some n) {P:Params} {h:Wx} {args:List WData} {vals:List Vg}
 (Eb:l.row.toRowW.claim.pre args=true) (DW:WellAll P h vals args) :
 ∃ a vs ns,vals=[VO a]/\args=[WData.list (ns.map WData.int)]/\h.get? a=some { cls:=.type "list",data:=.seq vs.toArray }/\IntsAre vs ns/\ns.length<=n:=by
 have Q6:WShape.hasAll [] args [.list .int]=true:=(pre_splitW Eb).1;have hc:l.pre.holds [] { args:=args }=true:=(pre_splitW Eb).2;obtain ⟨d,r,rfl,h1,h2⟩:=hasAllW_cons Q6;obtain rfl:=hasAllW_nil h2;obtain ⟨xs,rfl,h3⟩:=hasW_list h1;obtain ⟨ns,rfl⟩:=items_int h3
 have hlen:ns.length<=n:=by
  unfold OpenLaw.pre at hc
  have h4:(WTm.not (.lt (.lit (.int (n:Int))) (.len (.arg 0)))).holds [] { args:=[.list (ns.map .int)] }=true:=by
   have h4:=(holds_andW hc).1;rw [hn] at h4;exact h4
  have h5:=condW_of h4 (w_not (w_lt w_lit (w_len_list (w_arg rfl))));rw [Vb] at h5;refine Nat.le_of_not_lt fun q=>?_;have q':(n:Int)<((ns.length:Nat):Int):=by omega
  first
   | (rw [decide_eq_true q'] at h5;exact absurd h5 (by decide))
   | (simp at h5;omega)
 cases DW with
 | cons w1 w2 =>
   cases w2;cases w1 with
   | list ho zE=>exact ⟨_,_,ns,rfl,rfl,ho,ints_of_wellAll ns _ zE,hlen⟩
theorem post_true (l:OpenLaw) (args:List WData):l.row.toRowW.claim.post args (.bool true) args=true :=
 postW_of (r:=l.row.toRowW) (X:=(true == true))
  (show WShape.has [] (.bool true) .bool=true by first | rfl | decide | simp [WShape.has,WShape.arms,WShape.armsAll])
  (show (WTm.eq .res (.lit (.bool true))).value [] { args:=args,res:=some (.bool true),after:=args }=some (.bool (true == true)) from w_eq_bool (w_res rfl) w_lit) rfl
theorem attach_call {l:OpenLaw} {n:Nat} {q:Vu} {loose:List VM} {XP:(VM->Option Vg)->Wx->Prop} {YP:VI->Wx->Prop} {d:DefRec}
 (hn:l.most=some n) (Ht:d.params.defaults=[])
 (call:∀ (w:VI) (s₀ zt:Vm) (mg mb:VM->Option Vg) (fa:Vd) (o:Xq) (pm cd doc:Vg) (a:Vd) (vs:List Vg) (ns:List Int),
  Ground q loose [] XP w s₀ mg mb zt.heap->YP w zt.heap →
  zt.heap.get? fa=some o->o.data=.func (docDef d.name d.params d.body d.scope pm cd doc)->zt.heap.CodeRec cd d.name->mg d.name=some (.ref fa) →
  zt.heap.get? a=some { cls:=.type "list",data:=.seq vs.toArray }->IntsAre vs ns->ns.length<=n->zt.gens=#[] →
  YM (VN l.prog w) callerA (.call (.ref fa) ⟨[.ref a],[]⟩) (fun r s'=>r=.ok (.ret (.bool true))/\OldK zt.heap s'.heap/\s'.os=zt.os/\AllBare s'.gens) zt) :
 WalkO q loose XP YP l.row.toRowW d [] (fun f vs=>PySem.call f vs):=by
 intro w s₀ zt mg mb G Y fa o pm cd doc dV kV ho hd BH hD Hu hg args vals as Eb Q7 OV DW Ul;obtain rfl:dV=.none:=Dflts.none hD Ht;obtain rfl:kV=.none:=Dflts.noKw hD;obtain ⟨a,vs,ns,rfl,rfl,Ft,hints,hlen⟩:=script_of hn Eb DW;refine enter_call (codeAny_mono (call w s₀ zt mg mb fa o pm cd doc a vs ns G Y ho (fd_plain hd) BH Hu Ft hints hlen hg) fun r s' hq=>?_);obtain ⟨rfl,h2,h3,h4⟩:=hq;exact ⟨.inl ⟨.bool true,.bool true,[],rfl,fun _=>rfl,.bool true,post_true l _,fun _=>⟨List.Pairwise.nil,fun _ hm=>(nomatch hm)⟩⟩,h2,h3,h4⟩
section
variable {prog:Vu} {w:VI} {A:V2} {E:Vg->Vm->Prop} {s:Vm} {K:Frag}
end
end Att
namespace L2
open PySem PySem.Spec PyProof.Rows
theorem nh:∀ {vs:List Vg} {ns:List Int},IntsAre vs ns->Vals (ns.map V.int) vs
 | _,_,.nil=>.nil
 | _,_,.cons n t h=>.cons ⟨t,rfl⟩ (nh h)
end L2
namespace L2
open PySem PySem.Spec PyProof.Rows
end L2
namespace L2
open PySem PySem.Spec PyProof.Rows
def inClass (s:WL) (j:Nat):WL:=match s with
 | .ClassDef _ _ _ body _ _ _ _ _ _ _=>body.getD j (.Pass ⟨0,0,0,0⟩)
 | _=>.Pass ⟨0,0,0,0⟩
def bv (s:WL):Arguments:=match s with
 | .FunctionDef _ a _ _ _ _ _ _ _ _=>a
 | _=>{ posonlyargs:=[],args:=[],vararg:=none,kwonlyargs:=[],kw_defaults:=[],kwarg:=none,defaults:=[] }
def bg (s:WL):List WL:=match s with
 | .FunctionDef _ _ b _ _ _ _ _ _ _=>b
 | _=>[]
def ai (s:WL):YN:=match s with
 | .FunctionDef _ _ _ _ _ _ sc _ _ _=>sc
 | _=>{ kind:=.function,names:=[],isGenerator:=false,isCoroutine:=false }
abbrev CX0:CXT:=fun _ _ _ _ _ _=>False
abbrev E0:XK:=fun _ _ _=>False
theorem lv {X:Cx}:Passes CX0 X E0:=fun _ _ _ _ _ _ _ h=>h.elim
structure Fun (K:Vc) (x qual:VM) (st:WL) (f:Vd) (fd:XJ):Prop where
 ex:∃ (oc:Vg) (od:Option Vd) (kV doc pm:Vg) (an:Option Vd) (zG ct:Vg) (DT:Array (Option Vg)),
  fd=Xj x qual (bv st) (bg st) (ai st) .none kV doc pm an zG ct/\K.lookup f=some ⟨oc,od,.func fd,DT⟩/\YD K zG qual=true
 kp:XB K (.ref f)=true
section
variable {P:Vu} {w:VI} {K:Vc} {mg:VM->Option Vg} {base:Wx}
theorem Fun.ok {x qual:VM} {st:WL} {f:Vd} {fd:XJ} {N ps:List VM} {k:Nat} {sp:Sp} (F:Fun K x qual st f fd) (S:av N ps (ai st)) (len:∀ vs H Q E,sp vs H Q E->vs.length=ps.length)
 (BI:∀ (zG:Vg) (A:V2) (outer:List Env) (s:Vm) (H:Hp) (vs:List V) (Q:VK) (E:XK),Room k (A.deeper (envOfC qual (ai st) s.heap.objs.size f zG))->sp vs H Q E →
  ∃ t,PSs (qq CX0 P w K mg base N qual (ai st) f zG A outer s H E).nox (bg st) t/\t { nx:=fun _ H'=>Q .non H',rt:=Q } (start N vs) H):aW P w K mg base CX0 (k+1) f fd ps sp:=by
 obtain ⟨oc,od,kV,doc,pm,an,zG,ct,DT,rfl,lk,BH⟩:=F.ex;refine wE lk BH S len fun A outer s H vs Q E hr DU=>?_;obtain ⟨t,h,q⟩:=BI zG A outer s H vs Q E hr DU;exact ⟨t,h.nox,q⟩
theorem Fun.binds {x qual:VM} {st:WL} {f:Vd} {fd:XJ} {ps:List VM} (F:Fun K x qual st f fd)
 (h:∀ (kV doc pm:Vg) (an:Option Vd) (zG ct:Vg) (us:List Vg),us.length=ps.length->bindArgs (Xj x qual (bv st) (bg st) (ai st) .none kV doc pm an zG ct) ⟨us,[]⟩=pure (ps.zip us)):Binds K fd ps []:=by
 obtain ⟨oc,od,kV,doc,pm,an,zG,ct,DT,rfl,lk,BH⟩:=F.ex;exact .all (h kV doc pm an zG ct)
theorem cQ {x qual:VM} {st:WL} {f:Vd} {oc:Vg} {od an:Option Vd} {DT:Array (Option Vg)} {kV doc pm zG ct:Vg} (l:K.lookup f=some ⟨oc,od,.func (Xj x qual (bv st) (bg st) (ai st) .none kV doc pm an zG ct),DT⟩)
 (c:YD K zG qual=true) (k:XB K (.ref f)=true):Fun K x qual st f (Xj x qual (bv st) (bg st) (ai st) .none kV doc pm an zG ct):=⟨⟨oc,od,kV,doc,pm,an,zG,ct,DT,rfl,l,c⟩,k⟩
end
theorem iU {A:V2} {k:Nat} (hr:Room k A):A.units+1<W7:=Zw (Nat.add_le_add_left (by decide:1<=64) _) hr.units
section
variable {X:Cx}
theorem pv (i:Nat) {x:VM} {pos:Yr} (hN:X.N[i]?=some x:=by rfl) (hv:Vis X.env.scope x:=by first | exact VE rfl | exact Zo (VE rfl) | exact Zo (Zo rfl)) (hd:(x == ("__debug__":VM))=false:=by decide)
 (BH:(x == ("__classdict__":VM))=false:=by decide):PE X (.Name x pos) (bc i):=uy hN hv hd BH
end
theorem tw {A B:Prop} (h:B):if false=true then A else B:=by
 rw [if_neg VG];exact h
theorem wZ {A B:Prop} (h:A):if true=true then A else B:=by
 rw [if_pos rfl];exact h
theorem eK {c A B:Prop} [Decidable c] (h1:c->A) (h2:¬ c->B):if c then A else B:=by
 by_cases h:c
 · rw [if_pos h];exact h1 h
 · rw [if_neg h];exact h2 h
def Same (H H':Hp):Prop:=∀ b o,H b=some o->H' b=some o
theorem Same.refl (H:Hp):Same H H:=fun _ _ h=>h
theorem Same.trans {H H1 H2:Hp} (a:Same H H1) (b:Same H1 H2):Same H H2:=fun c o h=>b c o (a c o h)
theorem Same.free {H H':Hp} (e:Same H H') {l:Vd} (h:H' l=Option.none):H l=Option.none:=by
 cases q:H l with
 | none=>rfl
 | some o =>
   rw [e l o q] at h;cases h
theorem Same.seq {K:Vc} {H H':Hp} {a:Vd} {xs:List V} (e:Same H H') (h:SqL K H a xs):SqL K H' a xs:=by
 rcases h with (h | ⟨o,h⟩) | h
 · exact .inl (.inl (e _ _ h))
 · exact .inl (.inr ⟨o,e _ _ h⟩)
 · exact .inr h
end L2
namespace L2
open PySem PySem.Spec PyProof.Rows
theorem ir (env:Env):∀ (ns:List (VM×XS)) (acc:List (VM×Vd)),(∀ n,(n,WE)∈ns->∃ c,env.cells.lookup n=some c) →
 (∀ x c,acc.lookup x=some c->env.cells.lookup x=some c) →
 ∃ cl,(forIn ns acc fun (x:VM×XS) (cs:List (VM×Vd))=>(if (x.2 == WE)=true then (do let a ← cellOf env x.1;pure (X4 ((x.1,a)::cs))) else pure (X4 cs):Sem _))=pure cl ∧
   (∀ x c,cl.lookup x=some c->env.cells.lookup x=some c)/\(∀ n,(n,WE)∈ns->∃ c,cl.lookup n=some c)/\∀ n c,acc.lookup n=some c->cl.lookup n=some c
 | [],acc,_,ha=>⟨acc,rfl,ha,fun _ h=>by simp at h,fun _ _ h=>h⟩
 | (n,k)::r,acc,hf,ha=>by
   by_cases hk:k=WE
   · subst hk;obtain ⟨c,hc⟩:=hf n VC
     have CF:∀ x c',((n,c)::acc).lookup x=some c'->env.cells.lookup x=some c':=fun x c' e=>by
      rw [XO] at e;cases hx:x == n with
      | true =>
        rw [hx] at e;have e1:x=n:=by simpa using hx
        cases e;rw [e1];exact hc
      | false=>rw [hx] at e;exact ha x c' e
     obtain ⟨cl,h1,h2,h3,h4⟩:=ir env r ((n,c)::acc) (fun m hm=>hf m (VB _ hm)) CF;have up:∀ m c',((n,c)::acc).lookup m=some c'->cl.lookup m=some c':=h4;refine ⟨cl,?_,h2,?_,?_⟩
     · rw [Y1];have e0:cellOf env n=pure c:=by unfold cellOf;rw [hc]
       simp only [beq_self_eq_true,if_true,e0,pure_bind];exact h1
     · intro m hm;rcases VA.mp hm with e | e
       · have:m=n:=by simpa using (Prod.mk.inj e).1
         subst this;exact ⟨c,up m c (by rw [XO];simp)⟩
       · exact h3 m e
     · intro m c' e;by_cases hm:m=n
       · subst hm;have:=ha m c' e;rw [hc] at this;cases this;exact up m c (by rw [XO];simp)
       · have Q8:(m == n)=false:=by simpa using hm
         exact up m c' (by rw [XO,Q8];exact e)
   · have hb:(k == WE)=false:=by simpa using hk
     obtain ⟨cl,h1,h2,h3,h4⟩:=ir env r acc (fun m hm=>hf m (VB _ hm)) ha;refine ⟨cl,?_,h2,?_,h4⟩
     · rw [Y1];simp only [hb,Wy,if_false,pure_bind];exact h1
     · intro m hm;rcases VA.mp hm with e | e
       · exact absurd (Prod.mk.inj e).2.symm hk
       · exact h3 m e
theorem l9 {env:Env} {sc:YN} (hf:∀ n,(n,WE)∈sc.names->∃ c,env.cells.lookup n=some c) :
 ∃ cl,closureFor sc env=pure cl/\(∀ x c,cl.lookup x=some c->env.cells.lookup x=some c)/\∀ n,(n,WE)∈sc.names->∃ c,cl.lookup n=some c:=by
 obtain ⟨cl,h1,h2,h3,_⟩:=ir env sc.names [] hf (fun x c e=>by simp at e);refine ⟨cl,?_,h2,h3⟩;unfold closureFor;have e:(forIn sc.names ([]:List (VM×Vd)) fun (x:VM×XS) (cs:List (VM×Vd))=>(do if (x.2 == WE)=true then (do let a ← cellOf env x.1;pure (X4 ((x.1,a)::cs))) else pure (X4 cs):Sem _))=pure cl:=h1
 first
  | (rw [show (forIn sc.names ([]:List (VM×Vd)) _:Sem _)=pure cl from h1];rfl)
  | (simp only [h1,pure_bind])
theorem lD {f:VM×XS->VM×XS} (hf:∀ p,(f p).1=p.1):∀ {l:List (VM×XS)} {x:VM} {k:XS},l.lookup x=some k->(l.map f).lookup x=some (f (x,k)).2
 | [],_,_,h=>by simp at h
 | (n,k0)::r,x,k,h=>by
   have ih:=@lD f hf r x k;rw [V3];obtain ⟨a,b,e⟩:∃ a b,f (n,k0)=(a,b):=⟨_,_,rfl⟩;have ea:a=n:=by have:=hf (n,k0);rw [e] at this;exact this
   subst ea;rw [e,XO];cases hx:x == a with
   | true =>
     rw [XO,hx] at h;cases h;have:x=a:=by simpa using hx
     subst this;rw [e]
   | false=>rw [XO,hx] at h;exact ih h
theorem eJ {f:VM×XS->VM×XS} (hf:∀ p,(f p).1=p.1):∀ {l:List (VM×XS)} {x:VM} {k:XS},(l.map f).lookup x=some k->∃ k0,(x,k0)∈l/\(f (x,k0)).2=k
 | [],_,_,h=>by simp at h
 | (n,k0)::r,x,k,h=>by
   have ih:=@eJ f hf r x k;rw [V3] at h;obtain ⟨a,b,e⟩:∃ a b,f (n,k0)=(a,b):=⟨_,_,rfl⟩;have ea:a=n:=by have:=hf (n,k0);rw [e] at this;exact this
   subst ea;rw [e,XO] at h;cases hx:x == a with
   | true =>
     rw [hx] at h;cases h;have:x=a:=by simpa using hx
     subst this;exact ⟨k0,VC,by rw [e]⟩
   | false =>
     rw [hx] at h;obtain ⟨k1,h1,h2⟩:=ih h;exact ⟨k1,VB _ h1,h2⟩
def rlb (env:Env) (p:VM×XS):VM×XS:=if (p.2 == WE && env.scope.kind == .function && env.kindOf p.1 == some .cell) then (p.1,Zu) else (p.1,p.2)
theorem oh (env:Env) (p:VM×XS):(rlb env p).1=p.1:=by unfold rlb;split <;> rfl
theorem gK (sc:YN) (env:Env):(relabel sc env).names=sc.names.map (rlb env):=rfl
theorem iL {sc:YN} {env:Env} {x:VM} (h:sc.names.lookup x=some .free):(relabel sc env).names.lookup x=some .cell∨(relabel sc env).names.lookup x=some .free:=by
 rw [gK,lD (oh env) h];unfold rlb;split
 · exact .inl rfl
 · exact .inr rfl
theorem kH {sc:YN} {env:Env} {x:VM} (hn:∀ y∈sc.names,y.2≠Zu) (h:(relabel sc env).names.lookup x=some .cell∨(relabel sc env).names.lookup x=some .free):(x,WE)∈sc.names:=by
 rw [gK] at h
 have:∃ k0,(x,k0)∈sc.names/\((rlb env (x,k0)).2=.cell∨(rlb env (x,k0)).2=.free):=by
  rcases h with h | h
  · obtain ⟨k0,a,b⟩:=eJ (oh env) h;exact ⟨k0,a,.inl b⟩
  · obtain ⟨k0,a,b⟩:=eJ (oh env) h;exact ⟨k0,a,.inr b⟩
 obtain ⟨k0,hm,hk⟩:=this;have nc:=hn _ hm;cases k0 with
 | free=>exact hm
 | cell=>exact absurd rfl nc
 | _=>simp [rlb] at hk
def bQ (X:Cx) (N:List VM) (sc:YN) (cl:List (VM×Vd)) (C:Vd) (s:Vm) (H:Hp) (fp:List Vd) (pins:List (Vd×Xq)):Cx :=
 { X with N:=N,s₀:=s,H₀:=H,env:=compEnvC sc cl C X.env,outer:=X.stack,ex:=fp,fn:=fun _=>false,pn:=X.pn++pins,xe:=fun _ _=>False }
def cσ (js:List (Option Nat)) (σ:St):St:=js.map fun o=>o.bind fun j=>(σ[j]?).join
structure eM (X:Cx) (sc:YN) (N:List VM) (js:List (Option Nat)):Prop where
 kind:sc.kind=.function
 nocell:∀ y∈sc.names,y.2≠Zu
 names:∀ y∈sc.names,y.2=NameKind.local->sc.names.lookup y.1=some .local
 frees:∀ y∈sc.names,y.2=WE->X.env.kindOf y.1=some .cell∨X.env.kindOf y.1=some .free
 len:js.length=N.length
 slots:∀ (i j:Nat) (x:VM),js[i]?=some (some j)->N[i]?=some x->X.N[j]?=some x/\sc.names.lookup x=some .free/\(X.env.kindOf x=some .cell∨X.env.kindOf x=some .free)
theorem cv {X:Cx} {sc:YN} {N:List VM} {js:List (Option Nat)} (k:sc.kind=.function) (nc:∀ y∈sc.names,y.2≠Zu) (nm:∀ y∈sc.names,y.2=NameKind.local->sc.names.lookup y.1=some .local)
 (fr:(sc.names.all fun y=>y.2 != WE || X.env.kindOf y.1 == some Zu || X.env.kindOf y.1 == some WE)=true) (ln:js.length=N.length)
 (sl:((js.zip N).all fun p=>match p.1 with | none=>true | some j=>X.N[j]? == some p.2 && sc.names.lookup p.2 == some WE && (X.env.kindOf p.2 == some Zu || X.env.kindOf p.2 == some WE))=true):eM X sc N js:=by
 refine ⟨k,nc,nm,fun y hy hf=>?_,ln,fun i j x e1 e2=>?_⟩
 · have h:=Zf.mp fr y hy;rw [hf] at h;simpa using h
 · have hm:(some j,x)∈js.zip N:=by
    have:(js.zip N)[i]?=some (some j,x):=by rw [W9];exact ⟨e1,e2⟩
    exact Vh this
   have h:=Zf.mp sl _ hm;simp at h;exact ⟨h.1.1,h.1.2,h.2⟩
def PTs (X:Cx) (ifs:List Wq) (t:TT):Prop :=
 ∀ (pins:List (Vd×Xq)) (s:Vm) (σ:St) (H:Hp) (Q:Bool->Hp->Prop),Inv X pins σ H s->t σ H Q →
   Vw (VN X.prog X.w) X.A (forIn ifs true fun c r=>if r=true then do let ok ← isTrue c X.env (Xh c X.env);pure (X4 ok) else pure (X4 r)) (TP X pins σ Q) X.xe s
def bH:TT:=fun _ H Q=>Q true H
theorem bO {X:Cx}:PTs X [] bH:=fun _ _ _ H _ I h=>wpAny_tests_nil ⟨H,I,h⟩
theorem i5 {X:Cx} {c:Wq} {t:TT} (h:PT X c t):PTs X [c] t:=fun pins s σ H Q I q=>wpAny_tests_one (h pins s σ H Q I q)
def Keep (σ zu:St):Prop:=σ.length=zu.length/\∀ (i:Nat) (v:V),σ[i]?=some (some v)->zu[i]?=some (some v)
def ni (js:List (Option Nat)) (g:TG):Prop:=∀ (σ Bm:St) (x:V) (H:Hp) (Q:St->Hp->Prop),Keep (cσ js σ) Bm->g x Bm H Q->g x Bm H fun zU H2=>Keep (cσ js σ) zU/\Q zU H2
def nO (js:List (Option Nat)) (g:TGs):Prop:=∀ (σ Bm:St) (x:List V) (H:Hp) (Q:St->Hp->Prop),Keep (cσ js σ) Bm->g x Bm H Q->g x Bm H fun zU H2=>Keep (cσ js σ) zU/\Q zU H2
theorem Keep.refl (σ:St):Keep σ σ:=⟨rfl,fun _ _ h=>h⟩
theorem wv {js:List (Option Nat)} {σ:St} {i:Nat} (h:js[i]?=some none):(cσ js σ)[i]?=some none:=by
 unfold cσ;rw [Vp,h];rfl
theorem aO {js:List (Option Nat)} {i:Nat} (h:js[i]?=some none):ni js (ax i):=fun σ Bm x H Q k q=>by
 refine ⟨⟨by rw [List.length_set];exact k.1,fun j v e=>?_⟩,q⟩;by_cases hj:i=j
 · subst hj;rw [wv h] at e;cases e
 · rw [List.getElem?_set_ne hj];exact k.2 j v e
theorem f8 {js:List (Option Nat)}:nO js mi:=fun σ Bm x H Q k ⟨e,q⟩=>⟨e,k,q⟩
theorem bI {js:List (Option Nat)} {t:TG} {u:TGs} (mono:∀ x σ H (Q Q':St->Hp->Prop),(∀ a b,Q a b->Q' a b)->t x σ H Q->t x σ H Q') (h1:ni js t) (h2:nO js u):nO js (cD t u):=fun σ Bm x H Q k ⟨v,r,e,q⟩ =>
 ⟨v,r,e,mono _ _ _ _ _ (fun a b ⟨k',q'⟩=>h2 σ a r b Q k' q') (h1 σ Bm v H _ k q)⟩
theorem aS {i:Nat}:∀ x σ H (Q Q':St->Hp->Prop),(∀ a b,Q a b->Q' a b)->ax i x σ H Q->ax i x σ H Q':=fun _ _ _ _ _ h q=>h _ _ q
theorem gh {js:List (Option Nat)} {K:Vc} {n:Nat} {t:TGs} (h:nO js t):ni js (mh K n t):=fun σ Bm x H Q k ⟨a,xs,e,hs,hl,q⟩=>⟨a,xs,e,hs,hl,h σ Bm xs H Q k q⟩
def gG (js:List (Option Nat)) (g:TG) (tt:TT) (te:TE) (σ:St) (J:It) (D:Vd) (n:Nat) (W:Nat->Hp->Prop) (fin:Hp->Prop):Prop :=
 ∀ i H,W i H->(J.stop i H/\fin H)∨(i<n/\J.go i H/\∀ x H1,J.yld i H x H1->g x (cσ js σ) H1 fun zU H2=>tt zU H2 fun b H3 =>
   if b=true then te zU H3 fun v H4=>∃ ys,H4 D=some (.lst ys)/\ys.length<Vz/\W (i+1) (upd H4 D (.lst (ys++[v]))) else W (i+1) H3)
def wH (js:List (Option Nat)) (wi:TI) (g:TG) (tt:TT) (te:TE):TE:=fun σ H Q=>wi σ H fun J H1=>∀ D,H1 D=none →
 ∃ (n:Nat) (W:Nat->Hp->Prop),W 0 (upd H1 D (.lst []))/\gG js g tt te σ J D n W fun H'=>Q (.ref D) H'
section
variable {X:Cx} {pins:List (Vd×Xq)} {σ:St} {s:Vm} {H:Hp}
theorem uH {sc:YN} {N:List VM} {js:List (Option Nat)} {cl:List (VM×Vd)} {fp:List Vd} {h1:Wx} {t':Nat} (S:eM X sc N js) (I:Inv X pins σ H s)
 (Bq:∀ x c,cl.lookup x=some c->X.env.cells.lookup x=some c) (Cc:∀ n,(n,WE)∈sc.names->∃ c,cl.lookup n=some c)
 (hf:∀ b∈fp,jb X pins H b) (zK:∀ b∈fp,b<s.heap.objs.size) (Fu:h1.Ns s.heap.objs.size fun x=>Yc x ([]:List (VM×Vg)))
 (EM:∀ b o,s.heap.get? b=some o->h1.get? b=some o) :
 Inv (bQ X N sc cl s.heap.objs.size s H fp pins) [] (cσ js σ) H { s with heap:=h1,toks:=t' }:=by
 have hok:(bQ X N sc cl s.heap.objs.size s H fp pins).Ok :=
  { mod:=I.ok.mod
    kind:=S.kind
    glob:=I.ok.glob
    blt:=I.ok.blt
    above:=Vj _
    inj:=fun x y c a b=>I.ok.inj x y c (Bq x c a) (Bq y c b)
    has:=fun x h=>Cc x (kH S.nocell h)
    cab:=fun x c h=>by cases h
    hd:=I.ok.hd
    frames:=I.ok.frames
    stk:=.inl rfl
    exf:=fun b hb=>⟨fun e=>absurd (zK b hb) (by rw [e];exact WN _),fun x c e z=>(hf b hb).2.2.2.2.1 x c (Bq x c e) z⟩
    bs:=I.bs
    bsz:=WZ I.ok.bsz I.sz
    noex:=fun b o e hb=>by
     rcases (hf b hb).2.2.2.1 with h | h
     · exact I.ok.noex b o e h
     · exact absurd (Wb (Wb (Vx e) I.ok.bsz) h) (WN _)
    exfs:=fun b hb hm=>by
     rcases VA.mp (I.stkSub b hm) with e | e
     · exact (hf b hb).2.1 e
     · exact (hf b hb).2.2.1 e
    funs:=I.stack
    frf:=I.stkFree }
 have hC:H s.heap.objs.size=none:=I.hok.fresh (Vj _);obtain ⟨m0,Lg,DX⟩:=I.loc
 exact
  { ok:=hok
    os:=rfl
    bare:=I.bare
    base:=Un.kept EM
    loc:=⟨_,Fu,fun i x v e1 e2 OS=>by
     have BD:∃ j,js[i]?=some (some j)/\σ[j]?=some (some v):=by
      unfold cσ at e2;rw [Vp] at e2;cases q:js[i]? with
      | none=>rw [q] at e2;cases e2
      | some o =>
        rw [q] at e2;cases o with
        | none=>cases e2
        | some j =>
          refine ⟨j,rfl,?_⟩;have e3:(σ[j]?).join=some v:=VL e2;cases r:σ[j]? with
          | none=>rw [r] at e3;cases e3
          | some z=>rw [r] at e3;exact congrArg some e3
     obtain ⟨j,q1,q2⟩:=BD;obtain ⟨n1,n2,n3⟩:=S.slots i j x q1 e1;obtain ⟨u,ru,look⟩:=DX j x v n1 q2 (by rcases n3 with z | z;exact .inr (.inl z);exact .inr (.inr z));refine ⟨u,ru,.inr ⟨iL n2,?_⟩⟩;have hm:(x,WE)∈sc.names:=kH (env:=X.env) S.nocell (iL n2);obtain ⟨c,hc⟩:=Cc x hm;refine ⟨c,hc,?_⟩;rcases look with ⟨k1,_⟩ | ⟨_,c',Ao,ic⟩
     · rcases n3 with z | z <;> (rw [k1] at z;cases z)
     · have:=Bq x c hc;rw [Ao] at this;cases this;exact ic.keeps EM⟩
    cell:=fun x c e=>by
     obtain ⟨v,q⟩:=I.cell x c (Bq x c e);exact ⟨v,q.keeps EM⟩
    free:=hC
    freeC:=fun x c e=>I.freeC x c (Bq x c e)
    pin:=fun p hp=>by
     have AD:p∈X.pn++pins:=by simpa [bQ] using hp
     obtain ⟨a1,a2,a3,a4,a5⟩:=I.pin p AD;refine ⟨EM _ _ a1,a2,fun e=>?_,fun hm=>?_,a5⟩
     · have e':p.1=s.heap.objs.size:=e;exact absurd (Vx a1) (by rw [e'];exact WN _)
     · rcases VA.mp (I.stkSub p.1 hm) with e | e
       · exact a3 e
       · exact a4 e
    hok:=I.hok.kept EM
    len:=by
     show (cσ js σ).length=N.length;unfold cσ;rw [Vb];exact S.len }
theorem sJ {prog:Vu} {w:VI} {A:V2} {R:Result->Vm->Prop} {elt target iter:Wq} {ifs:List Wq} {scope:YN} {pos:Yr} {it acc:Vg} {env:Env} (J:Nat->Vm->Prop)
 (turn:∀ n s,J n s->Vw (VN prog w) A (Yl it) (fun r zt=>(r=none/\R (.ok .next) zt)∨∃ v,r=some v ∧
  Vw (VN prog w) A (letOwnedTupleGo target it v) (fun _ Ad=>Vw (VN prog w) A (assign target env v) (fun _ Bp =>
   Vw (VN prog w) A (forIn ifs true fun c r=>if r=true then do let ok ← isTrue c env (Xh c env);pure (X4 ok) else pure (X4 r)) (fun ok Dj =>
    (ok=false/\∃ m,m<n/\J m Dj)∨(ok=true/\Vw (VN prog w) A (Xh elt env) (fun x Hv=>Vw (VN prog w) A (call (.builtin "list.append") [acc,x]) (fun _ Hw=>∃ m,m<n/\J m Hw) (fun _ _=>False) Hv) (fun _ _=>False) Dj))
    (fun _ _=>False) Bp) (fun _ _=>False) Ad) (fun _ _=>False) zt) (fun _ _=>False) s)
 {s:Vm} (n:Nat) (h:J n s):YM (VN prog w) A (.compLoop (.ListComp elt [⟨target,iter,ifs,0⟩] scope pos) 0 it acc env) R s:=by
 refine codeAny_loop rfl J (fun n s hJ=>?_) n h;show Vw _ A ((compTurn (.ListComp elt [⟨target,iter,ifs,0⟩] scope pos) 0 it acc env).onRaise _) _ _ s;refine wpAny_noted ?_;rw [compTurn_list];have up:∀ {α:Type} {m:Sem α} {Q:α->Vm->Prop} {E:Vg->Vm->Prop} {s:Vm},Vw (VN prog w) A m Q (fun _ _=>False) s->Vw (VN prog w) A m Q E s:=fun q=>Xu q (fun _ _ z=>z) fun _ _ z=>z.elim;refine Va (wpAny_standAt (Va (Xu (up (turn n s hJ)) (fun r zt zM=>?_) fun _ _ z=>z)));rcases zM with ⟨rfl,zM⟩ | ⟨v,rfl,zM⟩
 · exact Vk zM
 · refine Va (Xu (up zM) (fun _ Ad Ap=>?_) fun _ _ z=>z);refine Va (Xu (up Ap) (fun _ Bp BL=>?_) fun _ _ z=>z);refine Va (Xu (up BL) (fun ok Dj Ae=>?_) fun _ _ z=>z);rcases Ae with ⟨rfl,Ae⟩ | ⟨rfl,Ae⟩
   · exact Vk ⟨rfl,Ae⟩
   · exact Va (Va (Xu (up Ae) (fun x Hv Af=>Va (Xu (up Af) (fun _ Hw Lh=>Vk (Vk ⟨rfl,Lh⟩)) fun _ _ z=>z)) fun _ _ z=>z))
theorem kN {elt tg iter:Wq} {ifs:List Wq} {sc:YN} {pos:Yr} {N:List VM} {js:List (Option Nat)} {g:TG} {tt:TT} {te:TE} {cl:List (VM×Vd)} {fp:List Vd} {it:Vd} {tn:Nat->Wx->Prop} {J:It} {n:Nat} {W:Nat->Hp->Prop} {fin:Hp->Prop}
 {R:Vg->Vd->Result->Vm->Prop} (hc:X.calm=true) (S:eM X sc N js) (I:Inv X pins σ H s) (T:Turn X.prog X.w X.K tg J fp it tn) (st:tn 0 s.heap) (hf:∀ b∈fp,jb X pins H b)
 (Bq:∀ x c,cl.lookup x=some c->X.env.cells.lookup x=some c) (Cc:∀ n,(n,WE)∈sc.names->∃ c,cl.lookup n=some c)
 (hg:∀ cl C s H fp pins,PG (bQ X N sc cl C s H fp pins) tg g) (gk:ni js g) (ht:∀ cl C s H fp pins,PTs (bQ X N sc cl C s H fp pins) ifs tt) (he:∀ cl C s H fp pins,PE (bQ X N sc cl C s H fp pins) elt te)
 (w0:W 0 (upd H s.heap.objs.size (.lst []))) (turn:gG js g tt te σ J s.heap.objs.size n W fin)
 (hR:∀ C H' s',C≠X.env.locals->s.heap.objs.size<C->(∃ m,s'.heap.Ns C m)->H' C=none->(∀ h' t',W3 C s'.heap h'->Inv X pins σ H' { s' with heap:=h',toks:=t' })->fin H'->R (.ref s.heap.objs.size) C (.ok .next) s') {E:Vg->Vm->Prop} :
 Vw (VN X.prog X.w) X.A (newList []) (fun acc Bp=>Vw (VN X.prog X.w) X.A (newFunctionEnv sc X.env.globals cl [] X.env.qual none .none (some X.env)) (fun Hz Dj =>
  YM (VN X.prog X.w) X.A (.compStart (.ListComp elt [⟨tg,iter,ifs,0⟩] sc pos) 0 (.ref it) acc { Hz with scope:=relabel sc X.env }) (R acc Hz.locals) Dj) E Bp) E s:=by
 refine Wt (wpAny_newFunctionEnv S.nocell (by intro y hy;simp at hy) (fun zM Cd Ce=>?_) S.kind);dsimp only at Cd Ce ⊢;have I3:Inv X pins σ (upd H s.heap.objs.size (.lst [])) { s with heap:=s.heap.push { cls:=.type "list",dict:=none,data:=.seq ([]:List Vg).toArray } }:=I.lnew (t':=s.toks) (its:=[]) .nil (by decide)
 have zK:∀ b∈fp,b<s.heap.objs.size:=fun b hb=>by
  obtain ⟨o,ho,_⟩:=T.obj _ _ st b hb;exact Vx ho
 have EN:∀ b o,s.heap.get? b=some o->(s.heap.push { cls:=.type "list",dict:=none,data:=.seq ([]:List Vg).toArray }).get? b=some o:=fun b o e=>Vi _ e;have hsz:(s.heap.push { cls:=.type "list",dict:=none,data:=.seq ([]:List Vg).toArray }).objs.size=s.heap.objs.size+1:=Wo ..;generalize OW:({ s with heap:=s.heap.push { cls:=.type "list",dict:=none,data:=.seq ([]:List Vg).toArray } }:Vm)=s3 at I3;have HF:s.heap.push { cls:=.type "list",dict:=none,data:=.seq ([]:List Vg).toArray }=s3.heap:=by rw [<- OW]
 rw [HF] at Cd Ce EN hsz;rw [HF];have Li:∀ t',({ s with heap:=zM,toks:=t' }:Vm)={ s3 with heap:=zM,toks:=t' }:=fun t'=>by rw [<- OW]
 rw [Li];have EM:∀ b o,s3.heap.get? b=some o->zM.get? b=some o:=fun b o e=>Ce.extBut b o (VU (Vx e)) (Vi _ e);have Lj:∀ b∈fp,jb X pins (upd H s.heap.objs.size (.lst [])) b:=fun b hb=>⟨by rw [ag (VU (zK b hb))];exact (hf b hb).1,(hf b hb).2⟩;have I4:=uH (t':=s.toks+([]:List (VM×Vg)).length) S I3 Bq Cc Lj (fun b hb=>by rw [hsz];exact Y6 (zK b hb)) Cd EM;generalize Um:upd H s.heap.objs.size (.lst [])=H3 at I3 I4 Lj w0;have AB:tn 0 zM:=T.keep _ _ _ st fun b hb o e=>EM _ _ (EN _ _ e)
 have B9:∀ {H':Hp},(∀ b∈fp,H' b=none)->∀ b∈fp,jb (bQ X N sc cl s3.heap.objs.size s3 H3 fp pins) [] H' b:=fun {H'} hn b hb=>by
  obtain ⟨f0,f1,f2,f3,f4,f5⟩:=hf b hb;refine ⟨hn b hb,fun e=>?_,fun hm=>?_,.inl hb,fun x c e=>f4 x c (Bq x c e),fun p hp=>f5 p (by simpa [bQ] using hp)⟩
  · have e':b=s3.heap.objs.size:=e;have h9:b<s.heap.objs.size:=zK b hb;rw [e',hsz] at h9;exact absurd h9 (Zv.mpr (Nat.le_succ _))
  · rcases VA.mp (I.stkSub b hm) with e | e
    · exact f1 e
    · exact f2 e
 have loop:YM (VN X.prog X.w) X.A (.compLoop (.ListComp elt [⟨tg,iter,ifs,0⟩] sc pos) 0 (.ref it) (.ref s.heap.objs.size) (compEnvC sc cl s3.heap.objs.size X.env)) (R (.ref s.heap.objs.size) s3.heap.objs.size)
  { s3 with heap:=zM,toks:=s.toks+([]:List (VM×Vg)).length }:=by
  refine sJ (fun k s'=>∃ i H',Inv (bQ X N sc cl s3.heap.objs.size s3 H3 fp pins) [] (cσ js σ) H' s'/\tn i s'.heap/\(∀ b∈fp,H' b=none)/\W i H'/\k=n - i) ?_ n ⟨0,H3,I4,AB,fun b hb=>(Lj b hb).1,w0,rfl⟩;rintro k s5 ⟨i,H5,I5,Gv,Kf,w5,rfl⟩;rcases turn i H5 w5 with ⟨stop,qn⟩ | ⟨Ct,go,step⟩
  · refine thn (T.done (bQ X N sc cl s3.heap.objs.size s3 H3 fp pins) rfl rfl rfl hc i [] s5 (cσ js σ) H5 _ I5 (B9 Kf) Gv stop) fun r s6 ⟨hr,I6⟩=>.inl ⟨hr,?_⟩;have I7:Inv X pins σ H5 s6:=I3.call' (ch:=fp) (I6.os.trans rfl) I6.base I6.hok I6.bare fun b hb=>⟨(hf b hb).2.2.2.1,(hf b hb).2.1,(hf b hb).2.2.2.2.1,(hf b hb).2.2.2.2.2⟩;have OX:H5 s3.heap.objs.size=none:=I6.free;have OY:s3.heap.objs.size≠X.env.locals:=YJ I3.lt;obtain ⟨m6,Q9,_⟩:=I6.loc;refine hR s3.heap.objs.size H5 s6 OY (by omega) ⟨m6,Q9⟩ OX (fun h' t' sb=>?_) qn;refine I7.turned (it:=s3.heap.objs.size) (fun b o hb e=>sb.extBut b o hb e) OX OY (.inr I3.sz) (fun x c e z=>?_) fun p hp z=>?_
    · obtain ⟨v,q⟩:=I3.cell x c e;exact absurd q.lt (by rw [z];exact WN _)
    · exact absurd (Vx (I3.pin p hp).1) (by rw [z];exact WN _)
  · refine thn (T.item (bQ X N sc cl s3.heap.objs.size s3 H3 fp pins) rfl rfl rfl hc i [] s5 (cσ js σ) H5 _ I5 (B9 Kf) Gv go) fun r s6 ⟨u,hr,h6⟩=>.inr ⟨u,hr,?_⟩;refine thn h6 fun _ s7 ⟨x,H7,I7,r7,y7,Ll,Ra⟩=>?_;have Rb:=I7.pinned (B9 Ra) (T.obj _ _ Ll);refine thn (hg cl s3.heap.objs.size s3 H3 fp pins _ s7 (cσ js σ) H7 x u _ Rb r7 (gk σ (cσ js σ) x H7 _ (.refl _) (step x H7 y7))) fun _ s8 ⟨Lm,H8,I8,k8,q8⟩=>?_;refine thn (ht cl s3.heap.objs.size s3 H3 fp pins _ s8 Lm H8 _ I8 q8) fun ok s9 ⟨H9,I9,q9⟩=>?_
    have again:∀ {s':Vm} {zu:St} {H':Hp},Keep (cσ js σ) zu->Inv (bQ X N sc cl s3.heap.objs.size s3 H3 fp pins) ([]++kO fp s7.heap) zu H' s'->W (i+1) H'->∃ m,m<n - i/\∃ i H',Inv (bQ X N sc cl s3.heap.objs.size s3 H3 fp pins) [] (cσ js σ) H' s'/\tn i s'.heap/\(∀ b∈fp,H' b=none)/\W i H'/\m=n - i:=fun {s' zu H'} kp I' w'=>by
     refine ⟨n - (i+1),by omega,i+1,H',(I'.unpinned).weak kp.1 kp.2,T.keep _ _ _ Ll fun b hb o e=>(I'.pin (b,o) (VY _ (VY _ (fx hb e)))).1,fun b hb=>?_,w',rfl⟩;obtain ⟨o,e,d⟩:=T.obj _ _ Ll b hb;exact (I'.pin (b,o) (VY _ (VY _ (fx hb e)))).2.1
    cases ok with
    | false =>
      refine .inl ⟨rfl,again k8 I9 ?_⟩;have OZ:if false=true then _ else W (i+1) H9:=q9
      rw [if_neg VG] at OZ;exact OZ
    | true =>
      refine .inr ⟨rfl,?_⟩;rw [if_pos rfl] at q9;refine thn (he cl s3.heap.objs.size s3 H3 fp pins _ s9 Lm H9 _ I9 q9) fun vv Ag ⟨v,Az,Rc,rv,ys,hD,HH,Rf⟩=>?_;refine thn (aL _ Ag Lm Az (.ref s.heap.objs.size) [v] (.ref s.heap.objs.size) [vv] (fun _ H'=>W (i+1) H') Rc rfl (.cons rv .nil) ⟨_,ys,v,rfl,rfl,hD,HH,Rf⟩) fun _ Be ⟨_,AY,Rg,_,Rh⟩=>?_;exact again k8 Rg Rh
 exact codeAny_compStart_list loop (T.self X.A 0 _ _ _ AB loop)
theorem cj {elt tg iter:Wq} {ifs:List Wq} {sc:YN} {pos:Yr} {N:List VM} {js:List (Option Nat)} {wi:TI} {g:TG} {tt:TT} {te:TE} (hc:X.calm=true) (S:eM X sc N js) (hi:PI X tg iter wi)
 (hg:∀ cl C s H fp pins,PG (bQ X N sc cl C s H fp pins) tg g) (gk:ni js g) (ht:∀ cl C s H fp pins,PTs (bQ X N sc cl C s H fp pins) ifs tt) (he:∀ cl C s H fp pins,PE (bQ X N sc cl C s H fp pins) elt te)
 (hs:∀ x,foldedSetIterable iter X.env x=pure x:=by intro _;rfl):PE X (.ListComp elt [⟨tg,iter,ifs,0⟩] sc pos) (wH js wi g tt te):=by
 intro pins s σ H Q I h;obtain ⟨cl,e1,e2,e3⟩:=l9 (env:=X.env) (sc:=sc) fun n hn=>I.ok.has n (S.frees _ hn rfl);rw [eval_ListComp];refine wpAny_comprehension_free (use:=none) rfl hs e1 S.kind S.names (thn (hi pins s σ H _ I h) fun v s1 h1=>thn h1 fun Ke s2 h2=>?_);obtain ⟨it,fp,tn,J,H2,rfl,I2,T,B8,f2,R2⟩:=h2;obtain ⟨n,W,w0,turn⟩:=R2 s2.heap.objs.size I2.fresh;refine kN (R:=fun acc C=>compPost (VN X.prog X.w) X.A X.xe none (EP X pins σ Q) acc C) hc S I2 T B8 f2 e2 e3 hg gk ht he w0 turn fun C H' s' _ _ hn _ inv fi=>?_;obtain ⟨m,hm⟩:=hn;exact ⟨m,hm,fun h' sb=>⟨.ref s2.heap.objs.size,H',inv h' s'.toks sb,rfl,fi⟩⟩
theorem dM {i:Nat} {y:VM} {elt tg iter:Wq} {ifs:List Wq} {sc:YN} {pos HI py:Yr} {N:List VM} {js:List (Option Nat)} {wi:TI} {g:TG} {tt:TT} {te:TE} (hN:X.N.Nodup) (hy:X.N[i]?=some y) (Ri:Loc X.env.scope y) (hc:X.calm=true) (S:eM X sc N js) (hi:PI X tg iter wi)
 (hg:∀ cl C s H fp pins,PG (bQ X N sc cl C s H fp pins) tg g) (gk:ni js g) (ht:∀ cl C s H fp pins,PTs (bQ X N sc cl C s H fp pins) ifs tt) (he:∀ cl C s H fp pins,PE (bQ X N sc cl C s H fp pins) elt te)
 (Rj:swapsWith (.ListComp elt [⟨tg,iter,ifs,0⟩] sc pos) (some (.Name y py)) HI.line X.env=pure true:=by rfl)
 (hs:∀ x,foldedSetIterable iter X.env x=pure x:=by intro _;rfl) (hf:X.fn y=true∨X.env.scope.names.lookup y=some .local:=by first | exact .inl rfl | exact .inr rfl | assumption) :
 PS X (.Assign [.Name y py] (.ListComp elt [⟨tg,iter,ifs,0⟩] sc pos) HI) (wg (wH js wi g tt te) (ax i)):=by
 intro pins s σ H D I h;obtain ⟨cl,e1,e2,e3⟩:=l9 (env:=X.env) (sc:=sc) fun n hn=>I.ok.has n (S.frees _ hn rfl);rw [exec_Assign_Name_used _ _ _ _ Rj];refine Va (wpAny_standAt (Va ?_));show Vw _ X.A (do let _ ← comprehension (.ListComp elt [⟨tg,iter,ifs,0⟩] sc pos) sc X.env _ (newList []) false (Xh iter X.env) (some (assign (.Name y py) X.env))) _ _ s;refine Va (Xu (wpAny_comprehension_free (use:=some (assign (.Name y py) X.env)) (Q:=fun _ s'=>SP X pins D .next s') rfl hs e1 S.kind S.names (thn (hi pins s σ H _ I h) fun v s1 h1=>thn h1 fun Ke s2 h2=>?_)) (fun _ s' hq=>Vk (Vk hq)) fun _ _ z=>z);obtain ⟨it,fp,tn,J,H2,rfl,I2,T,B8,f2,R2⟩:=h2;obtain ⟨n,W,w0,turn⟩:=R2 s2.heap.objs.size I2.fresh;refine kN (R:=fun acc C=>compPost (VN X.prog X.w) X.A X.xe (some (assign (.Name y py) X.env)) (fun _ s'=>SP X pins D .next s') acc C) hc S I2 T B8 f2 e2 e3 hg gk ht he w0 turn fun C H' s' O0 hC hn Rk inv fi=>?_;obtain ⟨m,hm⟩:=hn
 have I5:Inv X pins σ H' s':=by
  have q:=inv s'.heap s'.toks (.refl ..);exact q
 refine wpAny_assign_Name (mH (v:=.ref s2.heap.objs.size) I5 hN hy Ri rfl (fun s6 I6 ⟨a,sb,ha⟩=>?_) hf)
 have Rl:C≠a:=by
  rcases ha with ha | ha
  · rw [ha];exact O0
  · intro z;obtain ⟨v,q⟩:=I2.cell y a ha;exact absurd (YK q.lt hC) (by rw [z];exact WN _)
 refine ⟨m,hm.sameBut sb Rl,fun h' Rm=>⟨_,H',I6.turned (it:=C) (t':=s6.toks) (fun b o hb e=>Rm.extBut b o hb e) Rk O0 (.inr (WZ I2.sz (Yb hC))) (fun x c e z=>?_) fun p hp z=>?_,fi⟩⟩
 · obtain ⟨v,q⟩:=I2.cell x c e;exact absurd (YK q.lt hC) (by rw [z];exact WN _)
 · exact absurd (YK (Vx (I2.pin p hp).1) hC) (by rw [z];exact WN _)
end
end L2
namespace L2
open PySem PySem.Spec PyProof.Rows
section
variable {X:Cx}
end
end L2
namespace PySem
namespace F
theorem bb_owner_rev:Manifest.owners.lookup (String.ofList ['d','e','s','r','e','v','e','r'].reverse)=some Manifest.sig_reversed:=by kernel_rfl
theorem bb_slot_rev_next:Slot "reversed" "__next__" "reversed.__next__" :=
 .of (owner:="reversed") (n:="__next__") (by rw [Xg,WD];kernel_rfl) (by decide +kernel) (by decide +kernel) (by decide +kernel)
  (by first | exact .inl (by decide +kernel) | exact .inr (by decide +kernel)) (by rw [Ys];kernel_rfl)
theorem bb_entry_rev_next:entryFor table "reversed.__next__"=some XZ.«reversed.__next__»:=entryFor_of_tree (by kernel_rfl)
theorem bb_args_rev_next (a:Vg):argsOk "reversed.__next__" ⟨[a],[]⟩:=by
 unfold argsOk;rw [signature?_of (id:="reversed.__next__") (n:=['_','_','t','x','e','n','_','_']) (o:=['d','e','s','r','e','v','e','r']) (by kernel_rfl) bb_owner_rev];kernel_rfl
theorem bb_slot_rev_iter:Slot "reversed" "__iter__" "reversed.__iter__" :=
 .of (owner:="reversed") (n:="__iter__") (by rw [Xg,WD];kernel_rfl) (by decide +kernel) (by decide +kernel) (by decide +kernel)
  (by first | exact .inl (by decide +kernel) | exact .inr (by decide +kernel)) (by rw [Ys];kernel_rfl)
theorem bb_args_rev_iter (a:Vg):argsOk "reversed.__iter__" ⟨[a],[]⟩:=by
 unfold argsOk;rw [signature?_of (id:="reversed.__iter__") (n:=['_','_','r','e','t','i','_','_']) (o:=['d','e','s','r','e','v','e','r']) (by kernel_rfl) bb_owner_rev];kernel_rfl
theorem bb_entry_rev_iter:entryFor table "reversed.__iter__"=some XZ.«dict_keyiterator.__iter__» :=
 entryFor_alias (id':="dict_keyiterator.__iter__") (by kernel_rfl) (by first | rfl | decide +kernel | (unfold String.splitOn;simp +decide [String.splitOnAux])) (by decide +kernel) (by kernel_rfl)
theorem bb_slot_rev_hint:Slot "reversed" "__length_hint__" "reversed.__length_hint__" :=
 .of (owner:="reversed") (n:="__length_hint__") (by rw [Xg,WD];kernel_rfl) (by decide +kernel) (by decide +kernel) (by decide +kernel)
  (by first | exact .inl (by decide +kernel) | exact .inr (by decide +kernel)) (by rw [Ys];kernel_rfl)
theorem bb_entry_rev_hint:entryFor table "reversed.__length_hint__"=some XZ.«reversed.__length_hint__»:=entryFor_of_tree (by kernel_rfl)
theorem bb_args_rev_hint (a:Vg):argsOk "reversed.__length_hint__" ⟨[a],[]⟩:=by
 unfold argsOk;rw [signature?_of (id:="reversed.__length_hint__") (n:=['_','_','t','n','i','h','_','h','t','g','n','e','l','_','_']) (o:=['d','e','s','r','e','v','e','r']) (by kernel_rfl) bb_owner_rev];kernel_rfl
theorem bb_nolen_rev:YS (.type "reversed") "__len__"=pure none:=by rw [Xg,WD];kernel_rfl
theorem bb_nolen_lri:YS (.type "list_reverseiterator") "__len__"=pure none:=by rw [Xg,WD];kernel_rfl
theorem bb_hint_lri:YS (.type "list_reverseiterator") "__length_hint__"=pure (some (.builtin "list_reverseiterator.__length_hint__")):=by rw [Xg,WD];kernel_rfl
theorem bb_tuple_norev:YS (.type "tuple") "__reversed__"=pure none:=by rw [Xg,WD];kernel_rfl
theorem bb_sub_rev_rev:isSubtype (.type "reversed") (.type "reversed")=pure true:=by rw [Ys];kernel_rfl
theorem bb_sub_tuple_dict:isSubtype (.type "tuple") (.type "dict")=pure false:=by rw [Ys];kernel_rfl
end F
end PySem
namespace PySem
open Sem (wp)
section
variable {prog:Vu} {w:VI} {A:V2} {E:Vg->Vm->Prop} {s:Vm}
theorem bb_slot_rev_init:Slot "reversed" "__init__" "object.__init__" :=
 .of (owner:="object") (n:="__init__") (by rw [Xg,WD];kernel_rfl) (by decide +kernel) (by decide +kernel) (by decide +kernel)
  (by first | exact .inl (by decide +kernel) | exact .inr (by decide +kernel)) (by rw [Ys];kernel_rfl)
theorem bb_called_rev:TypeCalled "reversed" "reversed.__new__" "object.__init__" :=
 ⟨by decide +kernel,by decide +kernel,⟨_,_,F.mro_reversed⟩,F.made_reversed,by decide +kernel,F.bb_sub_rev_rev,bb_slot_rev_init⟩
def revTup (t:Vd) (i:Int):Xq:={ cls:=.type "reversed",data:=.fields #[.ref t,Xi i] }
theorem bb_meets_rev_tuple (t:Vd) (items:Array Vg) (hz:(items.size:Int)<2 ^ 63) :
 Meets (XZ.«reversed.__new__» ⟨[.type "reversed",.ref t],[]⟩) (fun _ R s=>Yo s.heap t items/\∀ tk,R (.ok (.ret (.ref s.heap.objs.size))) { s with heap:=s.heap.push (revTup t ((items.size:Int) - 1)),toks:=tk }):=by
 refine .of_wp fun prog w A R s h=>?_;obtain ⟨ht,h⟩:=h;unfold XZ.«reversed.__new__»;refine Va (Yz (newClass_reversed _) ?_)
 try dsimp only
 refine Va (Yz (a:=()) (by first | rfl | kernel_rfl) ?_);refine Va (Yz (a:=()) (by first | rfl | kernel_rfl) ?_)
 try dsimp only
 refine Va (WR ht.typeIs F.bb_tuple_norev ?_)
 try dsimp only
 have Uo:=F.bb_sub_tuple_dict;have Up:=V5.lookup;have hT:s.TypeIs (.ref t) "tuple":=ht.typeIs
 wp_walk using PyProof.Rows.len_tuple ht hz,XW hT
 exact ⟨_,rfl,h _⟩
theorem bb_call_rev_tuple {t:Vd} {items:Array Vg} {Q:Vg->Vm->Prop} (ht:Yo s.heap t items) (hz:(items.size:Int)<2 ^ 63)
 (h:∀ tk,Q (.ref s.heap.objs.size) { s with heap:=s.heap.push (revTup t ((items.size:Int) - 1)),toks:=tk }):Vw (VN prog w) A (call (.type "reversed") [.ref t]) Q E s :=
 callType_new bb_called_rev (by decide) (F.typeCall_reversed_1 _) (F.newCall_reversed_1 _) (fun obj=>F.args_object_init_2 obj _) F.entry_reversed_new (bb_meets_rev_tuple t items hz)
  ⟨ht,fun tk=>⟨⟨_,Vq _ rfl,rfl⟩,h tk⟩⟩
def IsRevT (h:Wx) (a t:Vd) (i:Int):Prop:=∃ o,h.get? a=some o/\o.cls=.type "reversed"/\o.data=.fields #[.ref t,Xi i]
theorem IsRevT.typeIs {a t:Vd} {i:Int} (x:IsRevT s.heap a t i):s.TypeIs (.ref a) "reversed":=let ⟨o,ho,hc,_⟩:=x;⟨o,ho,hc⟩
theorem IsRevT.at {h h':Wx} {a t:Vd} {i:Int} (x:IsRevT h a t i) (e:∀ o,h.get? a=some o->h'.get? a=some o):IsRevT h' a t i:=let ⟨o,ho,r⟩:=x;⟨o,e _ ho,r⟩
theorem bb_rev_iter {it t:Vd} {i:Int} {Q:Vg->Vm->Prop} (hit:IsRevT s.heap it t i) (h:Q (.ref it) s):Vw (VN prog w) A (pyIter (.ref it)) Q E s:=by
 refine wpAny_pyIter_slot hit.typeIs F.bb_slot_rev_iter (Wu F.bb_slot_rev_iter hit.typeIs F.bb_entry_rev_iter ?_ (F.bb_args_rev_iter _));show Vw _ _ (ret (.ref it)) _ _ s;exact Vk ⟨_,rfl,"reversed",_,hit.typeIs,F.bb_slot_rev_next.lookup,h⟩
theorem bb_rev_next {it t:Vd} {i:Nat} {items:Array Vg} {x:Vg} {Q:Option Vg->Vm->Prop} (hit:IsRevT s.heap it t (i:Int)) (ht:Yo s.heap t items) (hx:items[i]?=some x) (hz:(items.size:Int)<2 ^ 63)
 (hQ:∀ h' tk,IsRevT h' it t ((i:Int) - 1)->W3 it s.heap h'->Q (some x) { s with heap:=h',toks:=tk }):Vw (VN prog w) A (Yl (.ref it)) Q E s:=by
 obtain ⟨o,ho,hc,hd⟩:=id hit;have hi:i<items.size:=(ZD.mp hx).1;unfold Yl
 refine Va (Yk (Wi (name:=Vf "__next__") hit.typeIs F.bb_slot_rev_next
  (Wu F.bb_slot_rev_next hit.typeIs F.bb_entry_rev_next ?_ (F.bb_args_rev_next _))))
 unfold XZ.«reversed.__next__»;refine Va (Yz (a:=(VO it,[])) rfl ?_)
 try dsimp only
 refine Va (Wc ho hd (x:=.ref t) rfl ?_);refine Va (Wc ho hd (x:=Xi (i:Int)) rfl ?_);show Vw _ _ (if (i:Int)<0 then _ else _) _ _ s;rw [if_neg (by omega)];refine Va (WR ht.typeIs V5.lookup ?_)
 try dsimp only
 rw [if_neg (by decide)];refine Va (m:=mkInt (i:Int)) (wpAny_mkInt ?_);refine Va (Yk (PyProof.Rows.getItem_tuple (j:=i) (x:=x) ht (by omega) (by omega) ?_ hx ?_))
 · refine (L2.nS (n:=items.size) (i:=(i:Int)) (j:=i) ?_).1;unfold L2.ixN;rw [if_pos (by omega),if_pos (by omega)];simp
 · try dsimp only
   refine Va (Wc ho hd (x:=Xi (i:Int)) rfl ?_)
   try dsimp only
   refine Va (YR ho hd (by simp) ?_);refine Vk ⟨x,rfl,Vk (hQ _ _ ?_ (Xw ..))⟩;exact ⟨_,V4 _ ho (Zr (XE hd _)),(Obj.cls_mapFields ..).trans hc,by rw [XE hd];simp⟩
theorem bb_rev_end {it t:Vd} {Q:Option Vg->Vm->Prop} (hh:A.handled=none) (hit:IsRevT s.heap it t (-1))
 (hQ:∀ h' tk,Heap.ExtBut it s.heap h'->Q none { s with heap:=h',toks:=tk }):Vw (VN prog w) A (Yl (.ref it)) Q E s:=by
 obtain ⟨o,ho,hc,hd⟩:=id hit;unfold Yl
 refine Va (Yk (Wi (name:=Vf "__next__") hit.typeIs F.bb_slot_rev_next
  (Wu F.bb_slot_rev_next hit.typeIs F.bb_entry_rev_next ?_ (F.bb_args_rev_next _))))
 unfold XZ.«reversed.__next__»;refine Va (Yz (a:=(VO it,[])) rfl ?_)
 try dsimp only
 refine Va (Wc ho hd (x:=.ref t) rfl ?_);refine Va (Wc ho hd (x:=Xi (-1)) rfl ?_);show Vw _ _ (if (-1:Int)<0 then _ else _) _ _ s;rw [if_pos (by decide)];refine Va (X6 ?_);refine Va ?_
 wp_delta
 refine Va (YR ho hd (by simp) ?_);have Ea:=V4 (Obj.mapFields (·.setIfInBounds 1 (Xi (-1)))) ho (Zr (XE hd _));refine YR Ea (XE hd _) (by simp) ?_;refine Va ?_
 wp_delta
 refine Va ?_;simp only [newExc,newTuple];refine Va (Wt ?_ (by size_fits));refine Va (m:=Zk _ _) (Yz (a:=WI) (by first | rfl | (simp only [Zk];rfl)) ?_);refine Wt ?_ (by size_fits);simp only [raiseNew];refine Va (wpAny_handled ?_)
 first | rw [show A.in1.handled=none from hh] | rw [hh]
 refine Va (Vk (wpAny_throw ?_));refine Va (X0 (T:="StopIteration") (b:=true) ⟨_,Vq _ rfl,rfl⟩ isSubtype_stop ?_);refine Vk (hQ _ _ ?_);refine Heap.ExtBut.push (Heap.ExtBut.push ?_ _) _;intro b o' hb e;rw [Wa _ _ (W4 hb),Wa _ _ (W4 hb)];exact e
theorem bb_walk_revT (hh:A.handled=none) (I t:Vd) (zS:t≠I) (items:Array Vg) (hz:(items.size:Int)<2 ^ 63) :
 Walks prog w A I [I,t] [I] items.size (fun i v=>items[items.size - 1 - i]?=some v) (fun i h=>i<=items.size/\IsRevT h I t ((items.size:Int) - 1 - (i:Int))/\Yo h t items) where
 sub:=fun b hb=>by simp at hb;simp [hb]
 frame:=fun _ _ _ x hk=>⟨x.1,x.2.1.at fun o e=>hk I (by simp) o e,by obtain ⟨o,e,r⟩:=x.2.2;exact ⟨o,hk t (by simp) o e,r⟩⟩
 item:=fun i s Q E hi x hQ=>by
  have e:(items.size:Int) - 1 - (i:Int)=((items.size - 1 - i:Nat):Int):=by omega
  have hit:=x.2.1;rw [e] at hit;have hx:items[items.size - 1 - i]?=some (items[items.size - 1 - i]'(by omega)):=Xs (by omega);refine bb_rev_next hit x.2.2 hx hz fun h' tk Ec Cu=>?_;have e2:((items.size - 1 - i:Nat):Int) - 1=(items.size:Int) - 1 - ((i+1:Nat):Int):=by omega
  rw [e2] at Ec;exact hQ _ h' tk hx ⟨hi,Ec,by obtain ⟨o,e,r⟩:=x.2.2;exact ⟨o,(Cu.2 t zS).trans e,r⟩⟩ fun b o hb eo=>Cu.extBut b o (fun h=>hb (by simp [h])) eo
 done:=fun s Q E x hQ=>by
  have e:(items.size:Int) - 1 - (items.size:Int)=-1:=by omega
  have hit:=x.2.1;rw [e] at hit;exact bb_rev_end hh hit fun h' tk Rn=>hQ h' tk fun b o hb eo=>Rn b o (fun h=>hb (by simp [h])) eo
 self:=fun _ _ _ _ x hQ=>bb_rev_iter x.2.1 hQ
def HintOk (prog:Vu) (w:VI) (A:V2) (I:Vd) (St:Nat->Wx->Prop):Prop :=
 ∀ (s:Vm) (Q:Bool->Vm->Prop) (E:Vg->Vm->Prop),St 0 s.heap->(∀ b tk,s.toks<=tk->Q b { s with toks:=tk })->Vw (VN prog w) A (XX (.ref I)) Q E s
theorem bb_hint_lri {I l:Vd} {items:Array Vg}:HintOk prog w A I (fun i h=>i<=items.size/\h.IsRevIter I l ((items.size:Int) - 1 - (i:Int))/\h.IsList l items):=by
 intro s Q E st h;unfold XX;refine Va (WR st.2.1.typeIs F.bb_nolen_lri ?_);show Vw _ A (specialOf (VO I) (Vf "__length_hint__") >>= _) _ _ _;refine Va (WR st.2.1.typeIs F.bb_hint_lri ?_)
 (generalize hid:("list_reverseiterator.__length_hint__":String)=Fv;(fail_if_success (clear hid Fv));wp_delta;rw [show splitId Fv=some ("list_reverseiterator","__length_hint__") from by subst hid;decide +kernel];subst hid)
 refine Va (X0 (b:=true) st.2.1.typeIs (by rw [Ys];kernel_rfl) ?_);exact Vk (h _ _ (Vj _))
theorem bb_len_hint {I t:Vd} {items:Array Vg} {Q:Vg->Vm->Prop} (hit:IsRevT s.heap I t ((items.size:Int) - 1)) (ht:Yo s.heap t items) (hz:(items.size:Int)<2 ^ 63)
 (h:∀ u tk,s.toks<=tk->Q (.int (items.size:Int) u) { s with toks:=tk }):Vw (VN prog w) A (call (.builtin "reversed.__length_hint__") [.ref I]) Q E s:=by
 obtain ⟨o,ho,hc,hd⟩:=id hit;refine Wu F.bb_slot_rev_hint hit.typeIs F.bb_entry_rev_hint ?_ (F.bb_args_rev_hint _);unfold XZ.«reversed.__length_hint__»;refine Va (Yz (a:=VO I) rfl ?_)
 try dsimp only
 refine Va (Wc ho hd (x:=.ref t) rfl ?_);rw [if_neg (show ¬ ((VO t == WI)=true) from VG)];refine Va (PyProof.Rows.len_tuple ht hz ?_);refine Va (m:=asInt? _) (Vk ?_)
 try dsimp only
 refine Va (Wc ho hd (x:=Xi ((items.size:Int) - 1)) rfl ?_);show Vw _ _ (if (items.size:Int)<((items.size:Int) - 1)+1 then _ else _) _ _ _;rw [if_neg (by omega)];have e:((items.size:Int) - 1)+1=(items.size:Int):=by omega
 rw [e];refine Va (wpAny_mkInt (Vk ⟨_,rfl,h _ _ ?_⟩));show s.toks<=s.toks+1+1+1;omega
theorem bb_hint_rev {I t:Vd} {items:Array Vg} (hz:items.size<=Vz):HintOk prog w A I (fun i h=>i<=items.size/\IsRevT h I t ((items.size:Int) - 1 - (i:Int))/\Yo h t items):=by
 intro s Q E st h;unfold XX;refine Va (WR st.2.1.typeIs F.bb_nolen_rev ?_);show Vw _ A (specialOf (VO I) (Vf "__length_hint__") >>= _) _ _ _;refine Va (WR st.2.1.typeIs F.bb_slot_rev_hint.lookup ?_)
 (generalize hid:("reversed.__length_hint__":String)=Fv;(fail_if_success (clear hid Fv));wp_delta;rw [show splitId Fv=some ("reversed","__length_hint__") from by subst hid;decide +kernel];subst hid)
 refine Va (X0 (b:=true) st.2.1.typeIs F.bb_sub_rev_rev ?_)
 have O1:(items.size:Int)<2 ^ 63:=by
  have:=L2.fD;omega
 rw [if_neg (by decide)]
 try dsimp only
 rw [if_neg (by decide +kernel)];refine Va (X6 ?_);refine Va (Yz (F.bb_slot_rev_hint.bind _) ?_)
 try dsimp only
 have hit:=st.2.1;rw [show (items.size:Int) - 1 - ((0:Nat):Int)=(items.size:Int) - 1 by omega] at hit;refine Va (Yk (bb_len_hint hit st.2.2 O1 fun u tk Bf=>?_));have f1:Builtin.List.listFitsIndex (items.size:Int)=true:=fitsIndex_of (Int.natCast_nonneg _) O1;have f2:XG (items.size:Int).toNat=false:=L2.lK (WZ (ZY (Wg _)) hz);have f3:¬ (items.size:Int)<0:=Int.not_lt.mpr (Int.natCast_nonneg _);generalize (items.size:Int)=k at f1 f2 f3 ⊢;have fin:Vw (VN prog w) A (pure (k != 0):Sem Bool) Q E { s with toks:=tk }:=Vk (h _ _ Bf);simp only [asInt?,pure_bind,f1,f2,f3,Zg,Wy,if_false];exact fin
theorem bb_list_walk {T:String} {I:Vd} {fp wr:List Vd} {n:Nat} {P:Nat->Vg->Prop} {St:Nat->Wx->Prop} {Q:Vg->Vm->Prop} (W:Walks prog w A.in1.in1 I fp wr n P St)
 (hT:∀ i (s:Vm),St i s.heap->s.TypeIs (.ref I) T) (h2:(XD T == XD "list")=false) (h3:(XD T == XD "tuple")=false) (hint:HintOk prog w A.in1.in1 I St)
 (AB:St 0 s.heap) (Ro:∀ b∈fp,b<s.heap.objs.size) (hI:I∈fp) (hn:n<=Vz)
 (hQ:∀ h' tk acc c,(∀ b o,b∉wr->s.heap.get? b=some o->h'.get? b=some o)->h'.get? s.heap.objs.size=some { cls:=.type "list",dict:=none,data:=.seq acc c,slots:=#[] }->ItemsOf P acc n->Q (.ref s.heap.objs.size) { s with heap:=h',toks:=tk }) :
 Vw (VN prog w) A (call (.type "list") [.ref I]) Q E s:=by
 have Gy:s.heap.objs.size∉fp:=fun hm=>WN _ (Ro _ hm)
 refine callType_codes (Q₁:=fun obj zt=>obj=.ref s.heap.objs.size/\zt={ s with heap:=s.heap.push { cls:=.type "list",data:=.seq #[] } }) F.called_list (F.typeCall_list_1 _) F.entry_list_init
  (code_list_new _ ⟨rfl,rfl⟩) fun obj zt zM=>?_
 obtain ⟨rfl,rfl⟩:=zM;have hS:(s.heap.push { cls:=.type "list",data:=.seq #[] }).get? s.heap.objs.size=some { cls:=.type "list",data:=.seq #[] }:=Vq _ rfl;have Ln:s.heap.objs.size≠I:=fun e=>Gy (e ▸ hI);refine ⟨⟨_,hS,rfl⟩,F.args_list_init_2 _ _,?_⟩;show Vw _ A.in1.in1 (do let old ← XY (.ref s.heap.objs.size);Builtin.List.listUpdate (.ref s.heap.objs.size) (fun _=>#[]);letGo old.toList.reverse;Xo (.ref s.heap.objs.size) (.ref I) .none) _ _ _;refine Va ?_;unfold XY;refine Va (WG hS rfl (Vk ?_));refine Va (Xa hS rfl ?_);have AF:=V4 (Wv (fun _=>(#[]:Array Vg))) hS rfl;refine Va (Z1 ?_);generalize hH:(s.heap.push { cls:=.type "list",data:=.seq #[] }).update s.heap.objs.size (Wv (fun _=>(#[]:Array Vg)))=H2 at AF ⊢
 have old:∀ b o,s.heap.get? b=some o->H2.get? b=some o:=fun b o e=>by
  rw [<- hH,Wa _ _ (W4 (VU (Vx e)))];exact Vi _ e
 obtain ⟨c2,Ed⟩:∃ c,H2.get? s.heap.objs.size=some { cls:=.type "list",data:=.seq #[] c }:=⟨_,AF⟩;have B8:St 0 H2:=W.frame 0 _ _ AB fun b _ o e=>old b o e;unfold Xo;refine Va (XW (hT 0 _ B8) ?_);have h1:XH (.ref s.heap.objs.size) (.ref I)=false:=by simp [XH,Ln]
 simp only [h1,h2,h3,Bool.or_false,Wy,if_false];refine Va (W.self 0 _ _ _ B8 ?_);refine Va (WH (hint _ _ _ B8 fun b tk _=>?_))
 have key:∀ (h:Wx) (c₁ tk:Nat),St 0 h->(∀ b o,b≠s.heap.objs.size->H2.get? b=some o->h.get? b=some o)->h.get? s.heap.objs.size=some { cls:=.type "list",data:=.seq #[] c₁ } →
  YM (VN prog w) A.in1 (.builtin "list.extend.loop" ⟨[.ref s.heap.objs.size,.ref I,.none],[]⟩) (wants (fun r Ad=>r=.none/\Q (.ref s.heap.objs.size) Ad) E) { s with heap:=h,toks:=tk }:=by
  intro h c₁ tk hs hk BM;refine codeAny_extend_loopS W.toS hn _ Gy .none n 0 _ #[] c₁ rfl (VJ _) hs BM (ItemsOf.nil _) fun s' Aq c' hm C6 zH=>?_;rw [Moved.eq_with hm];refine ⟨rfl,hQ s'.heap s'.toks Aq c' (fun b o hb e=>hm.heap b o (fun Bg=>?_) (hk b o (VU (Vx e)) (old b o e))) C6 zH⟩;rcases VA.mp Bg with e' | Bg
  · exact absurd (Vx e) (by rw [e'];exact WN _)
  · exact hb Bg
 refine wpAny_ite_split (fun _=>?_) (fun _=>Vk ⟨Ym WQ _,key _ c2 _ B8 (fun b o _ e=>e) Ed⟩);refine Va (X6 ?_);refine Va ?_;show Vw _ _ (ZN s.heap.objs.size (·.push .none) >>= fun _=>ZN s.heap.objs.size (·.pop)) _ _ _;refine Va (Xa Ed rfl ?_);have AG:=V4 (Wv (·.push WI)) Ed rfl;refine Xa (hz:=by seq_fits) AG rfl ?_;have BN:=V4 (Wv (·.pop)) AG rfl
 have BO:∀ b o,b≠s.heap.objs.size->H2.get? b=some o->((H2.update s.heap.objs.size (Wv (·.push WI))).update s.heap.objs.size (Wv (·.pop))).get? b=some o :=
  fun b o hb e=>(Wa _ _ (W4 hb)).trans ((Wa _ _ (W4 hb)).trans e)
 exact Vk ⟨Ym WQ _,key _ _ _ (W.frame 0 _ _ B8 fun b hb o e=>BO b o (fun z=>Gy (z ▸ hb)) e) BO BN⟩
end
end PySem
namespace L2
open PySem PySem.Spec PyProof.Rows
def SqB (b:Bool) (K:Vc) (H:Hp) (a:Vd) (xs:List V):Prop:=if b=true then SqL K H a xs else SqT K H a xs
theorem SqB.l {K:Vc} {H:Hp} {a:Vd} {xs:List V} (h:SqL K H a xs):SqB true K H a xs:=h
theorem ux {ys:List V} {its:List Vg} {acc:Array Vg} (rv:Vals ys its) (zH:ItemsOf (fun i v=>its.toArray[its.toArray.size - 1 - i]?=some v) acc its.toArray.size):Vals ys.reverse acc.toList:=by
 have e:acc.toList=its.reverse:=by
  apply Yd;intro i;have hs:acc.size=its.length:=by rw [zH.1,Vr]
  by_cases hi:i<acc.size
  · have h1:acc[i]?=some acc[i]:=Xs hi;have h2:=zH.2 i _ h1;rw [Vr] at h2;rw [Zc,h1,List.getElem?_reverse (by omega),<- h2];simp
  · rw [Zc,Y7 (by omega),Xb (by rw [WB];omega)]
 rw [e];exact rv.reverse
section
variable {X:Cx} {e:Wq} {te:TE} {p p2 pos zW:Yr}
def uL (K:Vc) (te:TE):TE:=fun σ H Q=>te σ H fun x H1=>∃ b a ys,x=.ref a/\SqB b K H1 a ys/\∀ l,H1 l=none->Q (.ref l) (upd H1 l (.lst ys.reverse))
theorem nA {pins:List (Vd×Xq)} {σ:St} {H:Hp} {s:Vm} {Q:VK} {b:Bool} {a:Vd} {ys:List V} (hc:X.calm=true) (I:Inv X pins σ H s) (hq:SqB b X.K H a ys) (q:∀ l,H l=none->Q (.ref l) (upd H l (.lst ys.reverse))) :
 Vw (VN X.prog X.w) X.A (call (.type "reversed") [.ref a]) (fun u s1=>Vw (VN X.prog X.w) X.A (call (.type "list") [u]) (EP X pins σ Q) X.xe s1) X.xe s:=by
 have hn:=fD;have hh:X.A.in1.in1.handled=none:=I.ok.hd hc
 have fin:∀ {its:List Vg} {s1:Vm} {h':Wx} {tk:Nat} {acc:Array Vg} {c:Nat},Vals ys its->ys.length<=Vz->s1.heap.objs.size=s.heap.objs.size+1->s1.os=s.os->s1.gens=s.gens->s1.drawn=s.drawn->(∀ b o,s.heap.get? b=some o->s1.heap.get? b=some o) →
  (∀ b o,b∉[s.heap.objs.size]->s1.heap.get? b=some o->h'.get? b=some o)->h'.get? s1.heap.objs.size=some { cls:=.type "list",dict:=none,data:=.seq acc c,slots:=#[] }->ItemsOf (fun i v=>its.toArray[its.toArray.size - 1 - i]?=some v) acc its.toArray.size →
  EP X pins σ Q (.ref s1.heap.objs.size) { s1 with heap:=h',toks:=tk }:=fun {its s1 h' tk acc c} rv hz es eo eg ed k1 kp hS zH=>by
  have Li:({ s1 with heap:=h',toks:=tk }:Vm)={ s with heap:=h',toks:=tk }:=by
   obtain ⟨a1,a2,a3,a4,a5⟩:=s1;have e1:a5=s.os:=eo;have e2:a2=s.gens:=eg;have e3:a3=s.drawn:=ed;subst e1;subst e2;subst e3;rfl
  have hp:s.heap.objs.size<=s1.heap.objs.size:=by rw [es];exact Nat.le_succ _
  refine ⟨.ref s1.heap.objs.size,upd H s1.heap.objs.size (.lst ys.reverse),?_,rfl,q _ (I.hok.fresh hp)⟩;rw [Li];refine I.laid (t':=tk) (fun b o e=>kp b o (fun z=>?_) (k1 b o e)) hp ⟨by rw [WB];exact hz,acc.toList,c,ux rv zH,hS⟩;exact absurd (Vx e) (by rw [VF.mp z];exact WN _)
 cases b
 · have D':SqT X.K H a ys:=hq;obtain ⟨its,rv,p,hz⟩:=I.tuple D';have hl:=rv.length;refine bb_call_rev_tuple p (by rw [Vr];omega) fun tk=>?_;obtain ⟨oa,CG,ca,da⟩:=id p;have zS:a≠s.heap.objs.size:=VU (Vx CG)
   refine bb_list_walk (T:="reversed") (bb_walk_revT hh s.heap.objs.size a zS its.toArray (by rw [Vr];omega)) (fun i s st=>st.2.1.typeIs) (by decide) (by decide) (bb_hint_rev (by rw [Vr];omega))
    ⟨VJ _,?_,⟨oa,Vi _ CG,ca,da⟩⟩ (fun b hb=>?_) (by simp) (by rw [Vr];omega) fun h' tk acc c kp hS zH=>fin rv hz (Wo ..) rfl rfl rfl (fun b o e=>Vi _ e) kp hS zH
   · rw [show (its.toArray.size:Int) - 1 - ((0:Nat):Int)=(its.toArray.size:Int) - 1 by omega];exact ⟨_,Vq _ rfl,rfl,rfl⟩
   · show b<(s.heap.push _).objs.size;rw [Wo];rcases VA.mp hb with e | e
     · rw [e];exact ZR _
     · rw [VF.mp e];exact Y6 (Vx CG)
 · have D':SqL X.K H a ys:=hq;obtain ⟨its,rv,p,hz⟩:=I.list D';have hl:=rv.length;refine call_reversed_list p.isList ?_;obtain ⟨oa,CG,ca,na,da⟩:=id p.isList;have zS:a≠s.heap.objs.size:=VU (Vx CG)
   refine bb_list_walk (T:="list_reverseiterator") (Walks.listRev hh s.heap.objs.size a zS its.toArray) (fun i s st=>st.2.1.typeIs) (by decide) (by decide) bb_hint_lri
    ⟨VJ _,?_,⟨oa,Vi _ CG,ca,na,da⟩⟩ (fun b hb=>?_) (by simp) (by rw [Vr];omega) fun h' tk acc c kp hS zH=>fin rv hz (Wo ..) rfl rfl rfl (fun b o e=>Vi _ e) kp hS zH
   · rw [show (its.toArray.size:Int) - 1 - ((0:Nat):Int)=(its.toArray.size:Int) - 1 by omega];exact ⟨_,Vq _ rfl,rfl,rfl⟩
   · show b<(s.heap.push _).objs.size;rw [Wo];rcases VA.mp hb with e | e
     · rw [e];exact ZR _
     · rw [VF.mp e];exact Y6 (Vx CG)
theorem ld (hc:X.calm=true) (g1:Gl X "list") (m1:X.mg "list"=none) (g2:Gl X "reversed") (m2:X.mg "reversed"=none) (he:PE X e te)
 (h1:V0 [.Call (.Name "reversed" p2) [e] [] zW] X.env=[(false,Xh (.Call (.Name "reversed" p2) [e] [] zW) X.env)]:=by rfl) (h2:V0 [e] X.env=[(false,Xh e X.env)]:=by rfl) :
 PE X (.Call (.Name "list" p) [.Call (.Name "reversed" p2) [e] [] zW] [] pos) (uL X.K te):=by
 intro pins s σ H Q I h;refine WC (cU I g1 m1 boot_list (We ?_ h1 rfl));rw [h1];show Vw _ _ (spliced ((false,Xh (.Call (.Name "reversed" p2) [e] [] zW) X.env)::[])) _ _ s;refine WX ?_;refine WC (cU I g2 m2 boot_reversed (We ?_ h2 rfl));rw [h2];show Vw _ _ (spliced ((false,Xh e X.env)::[])) _ _ s;refine WX (thn (he pins s σ H _ I h) fun u s1 ⟨x,H1,I1,r1,b,a,ys,ex,hq,q⟩=>?_);subst ex;cases r1;refine Xv ?_;refine thn (nA hc I1 hq q) fun v s2 h2=>Xv ?_;exact h2
def Itv (K:Vc) (a:Vd) (n:Nat):It:=⟨fun i H=>i<n/\∃ xs,SqL K H a xs/\xs.length=n,fun i H x H'=>H'=H/\∀ xs,SqL K H a xs->xs[n - 1 - i]?=some x,fun i _=>i=n⟩
theorem t5 {P:Vu} {w:VI} {K:Vc} {tg:Wq} (a it:Vd) (n:Nat):Turn P w K tg (Itv K a n) [it] it (fun i h=>h.IsRevIter it a ((n:Int) - 1 - (i:Nat))) where
 mem:=by simp
 obj:=fun i h st b hb=>by
  have e:b=it:=by simpa using hb
  subst e;obtain ⟨o,e,c,d⟩:=st;exact ⟨o,e,fun v z=>by rw [d] at z;cases z⟩
 keep:=fun i h h' st k=>st.at fun o e=>k it (by simp) o e
 item:=by
  intro X hP hw hK hc i pins s σ H E I hf st hg;subst hP hw hK;obtain ⟨hi,xs,hq,hx⟩:=hg;obtain ⟨its,rv,p,hz⟩:=I.list hq;have hl:=rv.length;obtain ⟨x,Ee⟩:∃ x,xs[n - 1 - i]?=some x:=⟨_,Ve (by omega)⟩;obtain ⟨u,hu,ru⟩:=rv.get Ee;obtain ⟨f0,f1,f2,f3,f4,f5⟩:=hf it (by simp);have e1:(n:Int) - 1 - (i:Nat)=((n - 1 - i:Nat):Int):=by omega
  rw [e1] at st;refine wpAny_pyNext_rev_item st p.isList (x:=u) (by simpa using hu) fun h' C5 sb=>?_;have I1:Inv X pins σ H { s with heap:=h' }:=I.turned (t':=s.toks) (fun b o hb e=>(sb.2 b hb).trans e) f0 f1 f3 f4 f5;have e2:((n - 1 - i:Nat):Int) - 1=(n:Int) - 1 - ((i+1:Nat):Int):=by omega
  rw [e2] at C5;obtain ⟨o,e,c,d⟩:=id C5;exact ⟨u,rfl,rW (s:={ s with heap:=h' }) e c d (by decide) ⟨x,H,I1,ru,⟨rfl,fun ys hy=>by rw [I.list_inj hy hq];exact Ee⟩,C5,fun b hb=>(hf b hb).1⟩⟩
 done:=by
  intro X hP hw hK hc i pins s σ H E I hf st hg;subst hP hw hK;have Lo:i=n:=hg;subst Lo;obtain ⟨f0,f1,f2,f3,f4,f5⟩:=hf it (by simp);rw [show (i:Int) - 1 - (i:Nat)=-1 by omega] at st;exact wpAny_pyNext_rev_end (I.ok.hd hc) st fun h' eb=>⟨rfl,I.turned (t':=s.toks) (fun b o hb e=>eb b o hb e) f0 f1 f3 f4 f5⟩
 self:=fun _ _ _ _ _ st h=>wpAny_pyIter_revIter st h
def zi (K:Vc) (tl:TE):TI:=fun σ H R=>tl σ H fun x H1=>∃ a xs,x=.ref a/\SqL K H1 a xs/\R (Itv K a xs.length) H1
theorem wV {tg:Wq} (g2:Gl X "reversed") (m2:X.mg "reversed"=none) (he:PE X e te) (h2:V0 [e] X.env=[(false,Xh e X.env)]:=by rfl):PI X tg (.Call (.Name "reversed" p2) [e] [] zW) (zi X.K te):=by
 intro pins s σ H R I h;refine WC (cU I g2 m2 boot_reversed (We ?_ h2 rfl));rw [h2];show Vw _ _ (spliced ((false,Xh e X.env)::[])) _ _ s;refine WX (thn (he pins s σ H _ I h) fun u s1 ⟨x,H1,I1,r1,a,ys,ex,hq,q⟩=>Xv ?_);subst ex;cases r1;obtain ⟨its,rv,p,hz⟩:=I1.list hq;have hl:=rv.length;refine call_reversed_list p.isList ?_
 have hit:(s1.heap.push (revObj a ((its.toArray.size:Int) - 1))).IsRevIter s1.heap.objs.size a ((ys.length:Int) - 1 - ((0:Nat):Int)):=by
  rw [hl,show (its.length:Int) - 1 - ((0:Nat):Int)=(its.toArray.size:Int) - 1 by rw [Vr];omega];exact ⟨_,Vq _ rfl,rfl,rfl⟩
 refine wpAny_pyIter_revIter (s:={ s1 with heap:=s1.heap.push (revObj a ((its.toArray.size:Int) - 1)) }) hit ?_;refine ⟨s1.heap.objs.size,[s1.heap.objs.size],_,_,H1,rfl,I1.kept (t':=s1.toks) fun b o e=>Vi _ e,t5 a _ ys.length,hit,fun b hb=>?_,q⟩;have e:b=s1.heap.objs.size:=by simpa using hb
 subst e;exact I1.fpOk (Vj _) (I1.hok.fresh (Vj _))
theorem wn {K:Vc} {a:Vd} {xs:List V} {g:TG} {tb:TS} {D:Ends} {σ:St} {H:Hp} (Pv:Nat->St->Hp->Prop) (h0:Pv 0 σ H) (hl:∀ i σ H,i<=xs.length->Pv i σ H->SqL K H a xs)
 (hs:∀ i x σ H,i<xs.length->xs[xs.length - 1 - i]?=some x->Pv i σ H->g x σ H fun zU H2=>tb { D with nx:=Pv (i+1),ct:=Pv (i+1),bk:=D.nx } zU H2) (hd:∀ σ H,Pv xs.length σ H->D.nx σ H) :
 ∃ W:Nat->Nat->St->Hp->Prop,(∃ m,W 0 m σ H)/\∀ i m σ H,W i m σ H →
   ((Itv K a xs.length).stop i H/\D.nx σ H)∨((Itv K a xs.length).go i H/\∃ N:St->Hp->Prop,(∀ zu H',N zu H'->∃ m',m'<m/\W (i+1) m' zu H')/\∀ x H',(Itv K a xs.length).yld i H x H'->g x σ H' fun zU H2=>tb { D with nx:=N,ct:=N,bk:=D.nx } zU H2):=by
 refine ⟨fun i m σ H=>i<=xs.length/\m=xs.length - i/\Pv i σ H,⟨xs.length,VJ _,rfl,h0⟩,?_⟩;rintro i m σ H ⟨hi,rfl,p⟩;by_cases h:i=xs.length
 · left;exact ⟨h,hd σ H (by rw [<- h];exact p)⟩
 · right;have Ak:i<xs.length:=by omega
   refine ⟨⟨Ak,xs,hl i σ H hi p,rfl⟩,Pv (i+1),fun zu H' q=>⟨xs.length - (i+1),by omega,by omega,rfl,q⟩,?_⟩;rintro x H' ⟨rfl,hx⟩;exact hs i x σ H' Ak (hx xs (hl i σ H' hi p)) p
end
end L2
namespace BB
open PySem L2
inductive Th where
 | knot (n:VM) (ks:List Th)
 | call (s k:Int)
def q:VM:=Vf "?"
def Th.kids:Th->List Th
 | .knot _ ks=>ks
 | .call _ _=>[]
mutual
def Th.size:Th->Nat
 | .knot _ ks=>ao ks+1
 | .call _ _=>1
def ao:List Th->Nat
 | []=>0
 | t::ts=>t.size+ao ts
end
mutual
def Th.tall:Th->Nat
 | .knot _ ks=>bf ks+1
 | .call _ _=>1
def bf:List Th->Nat
 | []=>0
 | t::ts=>max t.tall (bf ts)
end
mutual
/-- by places Gz -/
def Th.walk:Th->List Th
 | .knot n ks=>.knot n ks::walks ks
 | .call s k=>[.call s k]
def walks:List Th->List Th
 | []=>[]
 | t::ts=>t.walk++walks ts
end
theorem Th.walk_eq (t:Th):t.walk=t::walks t.kids:=by
 cases t with
 | knot n ks=>rw [Th.walk];rfl
 | call s k=>rw [Th.walk];simp [Th.kids,walks]
theorem Th.size_eq (t:Th):t.size=ao t.kids+1:=by
 cases t with
 | knot n ks=>rw [Th.size];rfl
 | call s k=>rw [Th.size];simp [Th.kids,ao]
theorem Th.tall_eq (t:Th):t.tall=bf t.kids+1:=by
 cases t with
 | knot n ks=>rw [Th.tall];rfl
 | call s k=>rw [Th.tall];simp [Th.kids,bf]
theorem iB:∀ a b:List Th,walks (a++b)=walks a++walks b
 | [],b=>by simp [walks]
 | t::a,b=>by rw [Wn,walks,walks,iB a b,V8]
theorem aU:∀ a b:List Th,ao (a++b)=ao a+ao b
 | [],b=>by simp [ao]
 | t::a,b=>by rw [Wn,ao,ao,aU a b,ZL]
mutual
theorem Th.walk_len:∀ t:Th,t.walk.length=t.size
 | .knot n ks=>by rw [Th.walk,Th.size,Vo,de ks]
 | .call s k=>by rw [Th.walk,Th.size];rfl
theorem de:∀ ts:List Th,(walks ts).length=ao ts
 | []=>rfl
 | t::ts=>by rw [walks,ao,VD,t.walk_len,de ts]
end
theorem Th.size_pos (t:Th):1<=t.size:=by rw [t.size_eq];omega
mutual
def At (H:Hp):Th->Vd->Prop
 | .knot n ks,a=>n≠q/\∃ as:List Vd,H a=some (.tup (.str n::as.map V.ref))/\Ats H ks as
 | .call s k,a=>H a=some (.tup [.str q,.int s,.int k])
def Ats (H:Hp):List Th->List Vd->Prop
 | [],as=>as=[]
 | t::ts,as=>∃ a r,as=a::r/\At H t a/\Ats H ts r
end
def KT (H H':Hp):Prop:=∀ b xs,H b=some (.tup xs)->H' b=some (.tup xs)
theorem KT.trans {H H1 H2:Hp} (a:KT H H1) (b:KT H1 H2):KT H H2:=fun c o h=>b c o (a c o h)
theorem Same.kt {H H':Hp} (h:L2.Same H H'):KT H H':=fun b xs e=>h b _ e
theorem cS {H:Hp} {l:Vd} {o:HO} (h:H l=none):KT H (upd H l o):=fun b xs e=>by rw [ag (az e h)];exact e
theorem aK {H:Hp} {l:Vd} {o:HO} {xs:List V} (h:H l=some (.lst xs)):KT H (upd H l o):=fun b ys e=>by rw [ag (fN e h (by intro z;cases z))];exact e
mutual
theorem At.mono {H H':Hp} (k:KT H H'):∀ {t:Th} {a:Vd},At H t a->At H' t a
 | .knot n ks,a,h=>by
   rw [At] at h ⊢;obtain ⟨h0,as,h1,h2⟩:=h;exact ⟨h0,as,k _ _ h1,Ats.mono k h2⟩
 | .call s c,a,h=>by
   rw [At] at h ⊢;exact k _ _ h
theorem Ats.mono {H H':Hp} (k:KT H H'):∀ {ts:List Th} {as:List Vd},Ats H ts as->Ats H' ts as
 | [],as,h=>by rw [Ats] at h ⊢;exact h
 | t::ts,as,h=>by
   rw [Ats] at h ⊢;obtain ⟨a,r,e,h1,h2⟩:=h;exact ⟨a,r,e,At.mono k h1,Ats.mono k h2⟩
end
theorem Ats.nil {H:Hp}:Ats H [] []:=by rw [Ats]
theorem Ats.cons {H:Hp} {t:Th} {ts:List Th} {a:Vd} {as:List Vd} (h1:At H t a) (h2:Ats H ts as):Ats H (t::ts) (a::as):=by rw [Ats];exact ⟨a,as,rfl,h1,h2⟩
theorem Ats.append {H:Hp}:∀ {ts us:List Th} {as bs:List Vd},Ats H ts as->Ats H us bs->Ats H (ts++us) (as++bs)
 | [],us,as,bs,h,g=>by rw [Ats] at h;subst h;exact g
 | t::ts,us,as,bs,h,g=>by
   rw [Ats] at h;obtain ⟨a,r,rfl,h1,h2⟩:=h;exact .cons h1 (h2.append g)
theorem Ats.length {H:Hp}:∀ {ts:List Th} {as:List Vd},Ats H ts as->as.length=ts.length
 | [],as,h=>by rw [Ats] at h;subst h;rfl
 | t::ts,as,h=>by
   rw [Ats] at h;obtain ⟨a,r,rfl,h1,h2⟩:=h;rw [Vo,Vo,h2.length]
theorem Ats.get {H:Hp}:∀ {ts:List Th} {as:List Vd} {i:Nat} {a:Vd},Ats H ts as->as[i]?=some a->∃ t,ts[i]?=some t/\At H t a
 | [],as,i,a,h,e=>by rw [Ats] at h;subst h;simp at e
 | t::ts,as,i,a,h,e=>by
   rw [Ats] at h;obtain ⟨b,r,rfl,h1,h2⟩:=h;cases i with
   | zero=>simp at e;subst e;exact ⟨t,rfl,h1⟩
   | succ i=>exact h2.get (i:=i) (by simpa using e)
theorem Ats.at {H:Hp}:∀ {ts:List Th} {as:List Vd} {i:Nat} {t:Th},Ats H ts as->ts[i]?=some t->∃ a,as[i]?=some a/\At H t a
 | [],as,i,a,h,e=>by simp at e
 | t::ts,as,i,a,h,e=>by
   rw [Ats] at h;obtain ⟨b,r,rfl,h1,h2⟩:=h;cases i with
   | zero=>simp at e;subst e;exact ⟨b,rfl,h1⟩
   | succ i=>exact h2.at (i:=i) (by simpa using e)
end BB
namespace BB
open PySem L2
end BB
namespace BB
open PySem L2
def kx:VM:=Vf "abcdefghijklmnopqrstuvwxyz"
theorem qO:kx.cps.toList=(V9 26).map (97+·):=by decide +kernel
theorem oU:kx.length=26:=by decide +kernel
theorem at_nonneg {α:Type} {xs:List α} {i:Int} {v:α} (h0:0<=i) (h:xs[i.toNat]?=some v):atI xs i=some v:=by
 have e:i=((i.toNat:Nat):Int):=by omega
 rw [e];exact cx h
theorem sM {i:Int} (h0:0<=i) (h1:i<26):atI kx.cps.toList i=some (97+i.toNat):=by
 refine at_nonneg h0 ?_;rw [qO,Vp,Wz (by omega)];rfl
def Low (x:VM):Prop:=∀ c∈x.cps.toList,97<=c/\c<=122
theorem vT {x y:VM} (hx:Low x) (hy:Low y):Low (x++y):=by
 intro c hc;have Ao:c∈(x.cps++y.cps).toList:=hc;rw [Array.toList_append,VX] at Ao;rcases Ao with h | h
 · exact hx c h
 · exact hy c h
theorem v6 {c:Nat} (h1:97<=c) (h2:c<=122):Low ⟨#[c]⟩:=by
 intro d hd;have:d=c:=by simpa using hd
 omega
theorem rC {x:VM} (h:Low x):x≠q:=by
 intro e;subst e;have:=h 63 (by decide +kernel);omega
end BB
namespace L2
open PySem PySem.Spec PyProof.Rows
theorem Same.seqT {K:Vc} {H H':Hp} {a:Vd} {xs:List V} (e:Same H H') (h:SqT K H a xs):SqT K H' a xs:=by
 rcases h with (h | ⟨o,h⟩) | h
 · exact .inl (.inl (e _ _ h))
 · exact .inl (.inr ⟨o,e _ _ h⟩)
 · exact .inr h
theorem ad {H:Hp} {p:Vd} (h:H p=none) (o:HO):Same H (upd H p o):=fun b u q=>by rw [ag (az q h)];exact q
theorem au {H H1:Hp} {l:Vd} {o:HO} (h:Same H H1) (n:H l=none):Same H (upd H1 l o):=fun b u e=>by rw [ag (az e n)];exact h b u e
theorem vD {α:Type} {js:List (Option Nat)} {tt:TT} {te:TE} {σ:St} {J:It} {H:Hp} {xs:List V} {fin:Vd->Hp->Prop} (zs:List α) (p:α->Bool) (f:α->V) (hz:zs.length=xs.length) (hn:xs.length<=1000000)
 (Ef:∀ i H2,Same H H2->i<xs.length->J.go i H2) (Ax:∀ H2,Same H H2->J.stop xs.length H2) (Br:∀ (i:Nat) H2 x H3,Same H H2->i<xs.length->J.yld i H2 x H3->H3=H2/\xs[i]?=some x)
 (EO:∀ (i:Nat) x z H2 (R:Bool->Hp->Prop),xs[i]?=some x->zs[i]?=some z->Same H H2->R (p z) H2->tt ((cσ js σ).set 0 (some x)) H2 R)
 (HJ:∀ (i:Nat) x z H2 (R:VK),xs[i]?=some x->zs[i]?=some z->p z=true->Same H H2->R (f z) H2->te ((cσ js σ).set 0 (some x)) H2 R)
 (q:∀ D,H D=none->fin D (upd H D (.lst ((zs.filter p).map f)))) :
 ∀ D,H D=none->∃ (n:Nat) (W:Nat->Hp->Prop),W 0 (upd H D (.lst []))/\gG js (ax 0) tt te σ J D n W fun H'=>fin D H':=by
 intro D hD;refine ⟨xs.length,fun i H2=>i<=xs.length/\H2=upd H D (.lst (((zs.take i).filter p).map f)),⟨VJ _,by simp⟩,?_⟩;rintro i H2 ⟨hi,rfl⟩;have sm:∀ o,Same H (upd H D o):=fun o=>ad hD o;by_cases h:i=xs.length
 · left;subst h;refine ⟨Ax _ (sm _),?_⟩;rw [<- hz,W6];exact q D hD
 · right;have Ak:i<xs.length:=by omega
   refine ⟨Ak,Ef i _ (sm _) Ak,fun x H1 hy=>?_⟩;obtain ⟨rfl,hx⟩:=Br i _ x H1 (sm _) Ak hy;have Lp:i<zs.length:=by omega
   have e1:zs[i]?=some zs[i]:=Ve Lp
   have e2:(zs.take (i+1)).filter p=(zs.take i).filter p++(if p zs[i]=true then [zs[i]] else []):=by
    rw [Ww,e1,Yq];show _++List.filter p [zs[i]]=_;rw [Wm,Z5]
   refine EO i x zs[i] _ _ hx e1 (sm _) ?_
   have hlen:(((zs.take i).filter p).map f).length<=1000000:=by
    rw [Vb];have:=Yx p (zs.take i);rw [Wl] at this;omega
   by_cases hp:p zs[i]=true
   · rw [if_pos hp];refine HJ i x zs[i] _ _ hx e1 hp (sm _) ⟨_,ab,Zw hlen (by decide),Ak,?_⟩;rw [ku,e2,if_pos hp,Vs];rfl
   · rw [if_neg hp];refine ⟨Ak,?_⟩;rw [e2,if_neg hp,V7]
theorem pw {α:Type} {K:Vc} {a:Vd} {js:List (Option Nat)} {tt:TT} {te:TE} {σ:St} {H:Hp} {xs:List V} {fin:Vd->Hp->Prop} (zs:List α) (p:α->Bool) (f:α->V) (hS:SqT K H a xs) (hz:zs.length=xs.length) (hn:xs.length<=1000000)
 (EO:∀ (i:Nat) x z H2 (R:Bool->Hp->Prop),xs[i]?=some x->zs[i]?=some z->Same H H2->R (p z) H2->tt ((cσ js σ).set 0 (some x)) H2 R)
 (HJ:∀ (i:Nat) x z H2 (R:VK),xs[i]?=some x->zs[i]?=some z->p z=true->Same H H2->R (f z) H2->te ((cσ js σ).set 0 (some x)) H2 R)
 (q:∀ D,H D=none->fin D (upd H D (.lst ((zs.filter p).map f)))) :
 ∀ D,H D=none->∃ (n:Nat) (W:Nat->Hp->Prop),W 0 (upd H D (.lst []))/\gG js (ax 0) tt te σ (Itt K a) D n W fun H'=>fin D H' :=
 vD zs p f hz hn (fun i H2 s hi=>⟨xs,xs[i],s.seqT hS,Ve hi⟩) (fun H2 s=>⟨xs,s.seqT hS,Vj _⟩) (fun i H2 x H3 s hi hy=>⟨hy.1,hy.2 xs (s.seqT hS)⟩) EO HJ q
end L2
namespace BB
open PySem L2
theorem at0 {α:Type} {x:α} {xs:List α}:atI (x::xs) 0=some x:=cx (j:=0) rfl
theorem at1 {α:Type} {x y:α} {xs:List α}:atI (x::y::xs) 1=some y:=cx (j:=1) rfl
theorem at2 {α:Type} {x y z:α} {xs:List α}:atI (x::y::z::xs) 2=some z:=cx (j:=2) rfl
theorem fU (x:V) (xs:List V):iM (x::xs) (some 1) none=xs:=by
 unfold iM;simp [HT.sIx]
theorem bU:∀ ts:List Th,ts.length<=ao ts
 | []=>VJ _
 | t::ts=>by
   have:=t.size_pos;have:=bU ts;rw [Vo,ao];omega
theorem mZ (ts:List Th):ao ts.reverse=ao ts:=by
 induction ts with
 | nil=>rfl
 | cons x xs ih=>rw [Wj,aU,ih,ao,ao,ao];omega
theorem aE {n:Nat} (h:n<=1000000):n<Vz:=Zw h (by decide)
theorem ak {n:Nat} (h:n<=1000000):n<=Vz:=Yb (aE h)
theorem int_at {ns:List Int} {k:Int} (h0:0<=k) (h:k<(ns.length:Int)):atI (ns.map V.int) k=some (.int (ns.getD k.toNat 0)):=by
 refine at_nonneg h0 ?_;have hk:k.toNat<ns.length:=by omega
 rw [Vp,Ve hk,List.getD_eq_getElem?_getD,Ve hk];rfl
end BB
namespace BB
open PySem L2
section
variable {α β:Type} {F G:α->β->Prop}
theorem P2.append:∀ {a c:List α} {b d:List β},VW F a b->VW F c d->VW F (a++c) (b++d)
 | _,_,_,_,.nil,h=>h
 | _,_,_,_,.cons r t,h=>.cons r (P2.append t h)
theorem P2.get:∀ {a:List α} {b:List β} {i:Nat} {x:α},VW F a b->a[i]?=some x->∃ y,b[i]?=some y/\F x y
 | _,_,_,_,.nil,e=>by simp at e
 | _,_,0,_,.cons r _,e=>by simp at e;subst e;exact ⟨_,rfl,r⟩
 | _,_,i+1,x,.cons _ t,e=>by
   obtain ⟨u,h1,h2⟩:=P2.get (i:=i) (x:=x) t (by simpa using e);exact ⟨u,by simpa using h1,h2⟩
theorem P2.get':∀ {a:List α} {b:List β} {i:Nat} {y:β},VW F a b->b[i]?=some y->∃ x,a[i]?=some x/\F x y
 | _,_,_,_,.nil,e=>by simp at e
 | _,_,0,_,.cons r _,e=>by simp at e;subst e;exact ⟨_,rfl,r⟩
 | _,_,i+1,y,.cons _ t,e=>by
   obtain ⟨u,h1,h2⟩:=P2.get' (i:=i) (y:=y) t (by simpa using e);exact ⟨u,by simpa using h1,h2⟩
theorem P2.mp (f:∀ x y,F x y->G x y):∀ {a:List α} {b:List β},VW F a b->VW G a b
 | _,_,.nil=>.nil
 | _,_,.cons r t=>.cons (f _ _ r) (P2.mp f t)
end
def KAt (H:Hp) (k:VM×Int) (a:Vd):Prop:=H a=some (.tup [.str k.1,.int k.2])
def KsAt (H:Hp) (ks:List (VM×Int)) (as:List Vd):Prop:=VW (KAt H) ks as
theorem KsAt.mono {H H':Hp} (k:KT H H') {ks:List (VM×Int)} {as:List Vd} (h:KsAt H ks as):KsAt H' ks as:=P2.mp (fun x y e=>k _ _ e) h
end BB
namespace L2
open PySem
theorem ji {t u:TS} {D:Ends} {σ:St} {H:Hp} (R:St->Hp->Prop) (h1:∀ k:St->Hp->Prop,(∀ zu H',R zu H'->k zu H')->t { D with nx:=k } σ H) (h2:∀ zu H',R zu H'->u D zu H'):yF t u D σ H:=h1 _ h2
theorem dq {c:TT} {t u:TS} {D:Ends} {σ:St} {H:Hp} (R:Bool->Hp->Prop) (h1:∀ k:Bool->Hp->Prop,(∀ b H',R b H'->k b H')->c σ H k) (h2:∀ H',R true H'->t D σ H') (h3:∀ H',R false H'->u D σ H'):yz c t u D σ H :=
 h1 _ fun b H' r=>by
  cases b with
  | true=>rw [if_pos rfl];exact h2 H' r
  | false=>rw [if_neg VG];exact h3 H' r
end L2
namespace BB
open PySem L2
mutual
def Th.Fit (ks:List (VM×Int)):Th->Prop
 | .knot n ts=>(n,(ts.length:Int))∈ks/\Fits ks ts
 | .call _ _=>False
def Fits (ks:List (VM×Int)):List Th->Prop
 | []=>True
 | t::ts=>t.Fit ks/\Fits ks ts
end
section
variable {ext:Th->List V} {H H':Hp} {t:Th} {a:Vd} {ts:List Th} {es:List Vd}
end
theorem filter_tt {α:Type} (xs:List α):xs.filter (fun _=>true)=xs:=by
 induction xs with
 | nil=>rfl
 | cons x xs ih=>rw [Wm,if_pos rfl,ih]
theorem bT:∀ {ts:List Th} {t:Th},t∈ts->t.tall<=bf ts
 | u::ts,t,h=>by
   rw [bf];rcases VA.mp h with rfl | h
   · omega
   · have:=bT h;omega
theorem take_snoc {α:Type} {xs:List α} {n:Nat} {x:α} (h:xs[n]?=some x):xs.take (n+1)=xs.take n++[x]:=by rw [Ww,h];rfl
theorem aV {xs:List Vd} {i:Nat} {x:V} (h:(xs.map V.ref)[i]?=some x):∃ a,x=.ref a/\xs[i]?=some a:=by
 rw [Vp] at h;obtain ⟨a,h1,h2⟩:=Wd.mp h;exact ⟨a,h2.symm,h1⟩
end BB
namespace PySem
open Sem (wp)
section
variable {prog:Vu} {w:VI} {A:V2} {E:Vg->Vm->Prop} {s:Vm}
theorem bb_tupNext {cur tp:Vd} {i:Nat} {items:Array Vg} {x:Vg} {Q:Vg->Vm->Prop} (g:s.heap.IsTupleIter cur tp i) (gt:s.heap.IsTuple tp items) (hx:items[i]?=some x)
 (fin:∀ h',h'.IsTupleIter cur tp (i+1)->W3 cur s.heap h'->Q x { s with heap:=h' }):Vw (VN prog w) A (Wf (.ref cur)) Q E s:=by
 obtain ⟨ob,e1,e2,e3⟩:=id g;obtain ⟨ot,e4,_,nt,e5⟩:=gt;unfold Wf;refine Va (Wi (name:=Vf "__next__") g.typeIs YW (Wu YW g.typeIs F.entry_tuple_iterator_next ?_ (F.args_tuple_iterator_next_1 _)));show Vw _ _ (field (.ref cur) 0 >>= _) _ _ s;refine Va (Wc e1 e3 (x:=.ref tp) rfl ?_);show Vw _ _ (if (VO tp == WI)=true then _ else _) _ _ s;rw [if_neg (show ¬ ((VO tp == WI)=true) from VG)];show Vw _ _ (field (.ref cur) 1 >>= _) _ _ s;refine Va (Wc e1 e3 (x:=.int i 0) rfl ?_);show Vw _ _ (seqItems? (.ref tp) >>= _) _ _ s;refine Va (WG e4 e5 ?_);simp only [Wg,hx];refine Va (YR e1 e3 (by simp) (Vk ⟨x,rfl,Vk (fin _ ?_ (Xw ..))⟩));exact ⟨_,V4 _ e1 (Zr (XE e3 _)),(Obj.cls_mapFields ..).trans e2,by rw [XE e3];simp [Xi]⟩
theorem bb_tupEnd {cur tp:Vd} {i:Nat} {items:Array Vg} {Q:Vg->Vm->Prop} (calm:A.handled=none) (g:s.heap.IsTupleIter cur tp i) (gt:s.heap.IsTuple tp items) (hx:items[i]?=none)
 (fin:∀ h' e,Heap.ExtBut cur s.heap h'->(∃ o,h'.get? e=some o/\o.cls=.type "StopIteration")->E (.ref e) { s with heap:=h' }):Vw (VN prog w) A (Wf (.ref cur)) Q E s:=by
 obtain ⟨ob,e1,e2,e3⟩:=id g;obtain ⟨ot,e4,_,nt,e5⟩:=gt;unfold Wf;refine Va (Wi (name:=Vf "__next__") g.typeIs YW (Wu YW g.typeIs F.entry_tuple_iterator_next ?_ (F.args_tuple_iterator_next_1 _)));show Vw _ _ (field (.ref cur) 0 >>= _) _ _ s;refine Va (Wc e1 e3 (x:=.ref tp) rfl ?_);show Vw _ _ (if (VO tp == WI)=true then _ else _) _ _ s;rw [if_neg (show ¬ ((VO tp == WI)=true) from VG)];show Vw _ _ (field (.ref cur) 1 >>= _) _ _ s;refine Va (Wc e1 e3 (x:=.int i 0) rfl ?_);show Vw _ _ (seqItems? (.ref tp) >>= _) _ _ s;refine Va (WG e4 e5 ?_);simp only [Wg,hx];refine Va (X6 (Va (YR e1 e3 (by simp) ?_)));show Vw _ _ (newExc (.type "StopIteration") [] >>= _) _ _ _;refine Va ?_;simp only [newExc,newTuple];refine Va (Wt ?_ (by size_fits));refine Va (m:=Zk _ _) (Yz (a:=WI) (by first | rfl | (simp only [Zk];rfl)) ?_);refine Wt ?_ (by size_fits);simp only [raiseNew];refine Va (wpAny_handled ?_)
 first | rw [show A.in1.handled=none from calm] | rw [calm]
 refine Va (Vk (wpAny_throw ?_));exact fin _ _ (((Xw ..).extBut.push _).push _) ⟨_,Vq _ rfl,rfl⟩
end
theorem bb_drawsT {prog:Vu} {w:VI} {A:V2} (calm:A.handled=none) (cur tp:Vd) (ne:tp≠cur) (items:Array Vg) :
 Draws prog w A cur [cur,tp] items.size (fun i v=>items[i]?=some v) (fun i h=>h.IsTupleIter cur tp i/\h.IsTuple tp items) where
 live:=fun _ _ st=>let ⟨o,e,_⟩:=st.1;⟨o,e⟩
 frame:=fun _ _ _ st k=>⟨let ⟨o,e,r⟩:=st.1;⟨o,k cur (by simp) o e,r⟩,let ⟨o,e,r⟩:=st.2;⟨o,k tp (by simp) o e,r⟩⟩
 item:=fun i s Q E hi st q=>by
  refine bb_tupNext st.1 st.2 (x:=items[i]) (by simp [hi]) fun h' g' sb=>?_;exact q _ h' s.toks (by simp [hi]) ⟨g',st.2.extBut sb.extBut ne⟩ sb
 done:=fun s Q E st e=>bb_tupEnd calm st.1 st.2 (by simp) e
theorem bb_meetsEnumT (tp:Vd) (items:Array Vg) (n:Nat) (Lq:Option Vd) (sl:Array (Option Vg)) :
 Meets (XZ.«enumerate.__new__» ⟨[.type "enumerate",.ref tp],[]⟩) (fun _ R s=>s.heap.get? tp=some { cls:=.type "tuple",dict:=Lq,data:=.seq items n,slots:=sl } ∧
  R (.ok (.ret (.ref (s.heap.push { cls:=.type "tuple_iterator",data:=.fields #[.ref tp,.int 0 0] }).objs.size)))
    { s with heap:=(s.heap.push { cls:=.type "tuple_iterator",data:=.fields #[.ref tp,.int 0 0] }).push { cls:=.type "enumerate",data:=.fields #[.none,.bool false,.ref s.heap.objs.size,Xi 0,.none,.none] } }) :=
 .of_wp fun prog w A R s h=>by
  obtain ⟨hp,g,d,tk,os⟩:=s;obtain ⟨gt,fin⟩:=h;have su:=sub_enumerate;have gT:Heap.IsTuple (Shared.heap ⟨hp,g,d,tk,os⟩) tp items:=⟨_,gt,rfl,n,rfl⟩
  wp_walk using XI gt
  refine wpAny_stack_any fun st=>Vk ?_;split
  · rename_i c _ _ _ _ _
    cases (c == XD "enumerate")
    · wp_walk using XI gt,X7 gT
      exact ⟨_,rfl,fin⟩
    · wp_walk using XI gt,X7 gT
      exact ⟨_,rfl,fin⟩
  · wp_walk using XI gt,X7 gT
    exact ⟨_,rfl,fin⟩
section
variable {prog:Vu} {w:VI} {A:V2} {E:Vg->Vm->Prop} {s:Vm}
theorem bb_callEnumT {tp:Vd} {items:Array Vg} {Q:Vg->Vm->Prop} (gT:s.heap.IsTuple tp items)
 (fin:∀ h',IsEnum h' (s.heap.objs.size+1) s.heap.objs.size 0 .none->h'.IsTupleIter s.heap.objs.size tp 0->h'.objs.size=s.heap.objs.size+2 →
  (∀ b o,s.heap.get? b=some o->h'.get? b=some o)->Q (.ref (s.heap.objs.size+1)) { s with heap:=h' }):Vw (VN prog w) A (call (.type "enumerate") [.ref tp]) Q E s:=by
 obtain ⟨⟨c,Lq,dt,sl⟩,e1,e2,n,e3⟩:=gT;replace e2:c=.type "tuple":=e2;replace e3:dt=.seq items n:=e3;subst e2 e3;refine callType_new F.called_enumerate (by decide) (F.typeCall_enumerate_1 _) (F.newCall_enumerate_1 _) (fun obj=>F.args_object_init_2 obj _) F.entry_enumerate_new (bb_meetsEnumT tp items n Lq sl) ⟨e1,?_⟩;have z:(s.heap.push { cls:=.type "tuple_iterator",data:=.fields #[.ref tp,.int 0 0] }).objs.size=s.heap.objs.size+1:=Wo ..;show _/\_;rw [z]
 have ge:IsEnum ((s.heap.push { cls:=.type "tuple_iterator",data:=.fields #[.ref tp,.int 0 0] }).push { cls:=.type "enumerate",data:=.fields #[.none,.bool false,.ref s.heap.objs.size,Xi 0,.none,.none] }) (s.heap.objs.size+1) s.heap.objs.size 0 .none:=by
  have t:=Vq (s.heap.push { cls:=.type "tuple_iterator",data:=.fields #[.ref tp,.int 0 0] }) (o:={ cls:=.type "enumerate",data:=.fields #[.none,.bool false,.ref s.heap.objs.size,Xi 0,.none,.none] }) rfl;rw [z] at t;exact t
 exact ⟨⟨_,ge,rfl⟩,fin _ ge ⟨_,Vi _ (Vq _ rfl),rfl,rfl⟩ (by rw [Wo,z]) fun b o x=>Vi _ (Vi _ x)⟩
end
end PySem
namespace L2
open PySem PySem.Spec PyProof.Rows
theorem Inv.turnedL {X:Cx} {pins:List (Vd×Xq)} {σ:St} {H:Hp} {s:Vm} {h':Wx} {t':Nat} {fp:List Vd} (I:Inv X pins σ H s) (k:∀ b o,b∉fp->s.heap.get? b=some o->h'.get? b=some o) (hf:∀ b∈fp,jb X pins H b) :
 Inv X pins σ H { s with heap:=h',toks:=t' }:=by
 have Hf:∀ b u,H b=some u->b∉fp:=fun b u e z=>by rw [(hf b z).1] at e;cases e
 refine I.step (g':=s.gens) (d':=s.drawn) (ch:=fp) (fun b hb=>?_) (fun b o _ _ hc e _=>k b o hc e) (fun b o _ _ hc e _=>⟨o.slots,k b o hc e⟩) (fun _ _ _ _ n=>n)
  (fun b o hc e=>⟨o,k b o hc e⟩) (fun _ _ e=>e) (fun _ _ _ e=>e) (fun b ps e=>⟨#[],by rw [e];simp⟩) (fun m hm=>?_) (fun b u e=>?_) I.bare
 · obtain ⟨f0,f1,f2,f3,f4,f5⟩:=hf b hb;exact ⟨f3,f1,f4,f5⟩
 · obtain ⟨o,es,ep,ho,r⟩:=hm;exact ⟨o,es,ep,k _ o (fun z=>(hf _ z).2.1 rfl) ho,r⟩
 · refine (I.hok b u e).stay (fun c v hc q=>k c v ?_ q) (fun _ q=>q) fun _ _ q=>q;rcases hc with z | z
   · rw [z];exact Hf b u e
   · exact Hf c _ z
def Ite (K:Vc) (a:Vd):It:=⟨fun i H=>∃ xs x,SqT K H a xs/\xs[i]?=some x,fun i H x H'=>∃ p y,H p=none/\x=.ref p/\H'=upd H p (.tup [.int (i:Nat),y])/\∀ xs,SqT K H a xs->xs[i]?=some y,fun i H=>∃ xs,SqT K H a xs/\xs.length=i⟩
theorem sL {P:Vu} {w:VI} {K:Vc} {elts:List Wq} {k1} {pos:Yr} (a e it:Vd):Turn P w K (.Tuple elts k1 pos) (Ite K a) [e,it] e (fun i h=>(∃ old,IsEnum h e it ((i:Nat):Int) old)/\h.IsTupleIter it a i) where
 mem:=by simp
 obj:=fun i h st b hb=>by
  obtain ⟨⟨old,he⟩,o,e1,e2,e3⟩:=st;rcases VA.mp hb with rfl | hb
  · exact ⟨_,he,fun v z=>by cases z⟩
  · have:b=it:=by simpa using hb
    subst this;exact ⟨o,e1,fun v z=>by rw [e3] at z;cases z⟩
 keep:=fun i h h' st k=>by
  obtain ⟨⟨old,he⟩,o,e1,e2⟩:=st;exact ⟨⟨old,k e (by simp) _ he⟩,o,k it (by simp) _ e1,e2⟩
 item:=by
  intro X hP hw hK hc i pins s σ H E I hf st hg;subst hP hw hK;obtain ⟨xs,x,hq,hx⟩:=hg;obtain ⟨its,rv,p,hz⟩:=I.tuple hq;obtain ⟨u,hu,ru⟩:=rv.get hx;obtain ⟨⟨old,he⟩,hi⟩:=st
  have Fw:e≠it:=by
   rintro rfl;obtain ⟨o,e1,e2,_⟩:=hi;rw [he] at e1;cases e1;exact absurd (W8 e2) (by decide)
  have Fx:a≠it:=by
   rintro rfl;obtain ⟨o,e1,e2,_⟩:=hi;obtain ⟨o',BP,BD,_⟩:=p;rw [BP] at e1;cases e1;rw [BD] at e2;exact absurd (W8 e2) (by decide)
  have Lr:a≠e:=by
   rintro rfl;obtain ⟨o',BP,BD,_⟩:=p;rw [he] at BP;cases BP;exact absurd (W8 BD) (by decide)
  have zK:i<its.toArray.size:=by
   have:=(Vn.mp hu).1;simpa using this
  have Lu:e<s.heap.objs.size:=Vx he;have B1:it<s.heap.objs.size:=by obtain ⟨o,e1,_⟩:=hi;exact Vx e1
  refine wpAny_pyNext_enum_itemD (bb_drawsT (A:=X.A.in1) (show X.A.in1.handled=none from I.ok.hd hc) it a Fx its.toArray) he ⟨hi,p⟩ zK Fw (by simp [Fw,Lr.symm]) fun y h1 tk hy ho Lw hT hsz hk=>?_
  have Lx:y=u:=by
   have:its[i]?=some y:=by simpa using hy
   rw [hu] at this;exact (VL this).symm
  subst Lx;refine ⟨_,rfl,wpAny_letOwnedTupleGo_enum ho fun h2 Ly Dn=>?_⟩;replace Dn:W3 e h1 h2:=Dn
  have zS:∀ b∈[e,it],b<s.heap.objs.size:=fun b hb=>by
   rcases VA.mp hb with rfl | hb
   · exact Lu
   · have:b=it:=by simpa using hb
     subst this;exact B1
  have HK:H s.heap.objs.size=none:=I.hok.fresh (Vj _)
  have IA:Inv X pins σ (upd H s.heap.objs.size (.tup [.int (i:Nat),x])) { s with heap:=s.heap.push { cls:=.type "tuple",data:=.seq #[.int (i:Nat) tk,y] },toks:=tk } :=
   I.laid (o:=.tup [.int (i:Nat),x]) (fun b ob q=>Vi _ q) (Vj _) ⟨by show 2<=Vz;decide,[.int (i:Nat) tk,y],0,.cons ⟨tk,rfl⟩ (.cons ru .nil),Vq _ rfl⟩
  refine ⟨.ref s.heap.objs.size,upd H s.heap.objs.size (.tup [.int (i:Nat),x]),?_,rfl,⟨_,x,HK,rfl,rfl,fun ys HH=>by rw [I.tuple_inj HH hq];exact hx⟩,⟨⟨y,by simpa using Ly⟩,?_⟩,fun b hb=>?_⟩
  · have IB:Inv X pins σ (upd H s.heap.objs.size (.tup [.int (i:Nat),x])) { s with heap:=h2,toks:=tk+1 }:=by
     refine Inv.turnedL (s:={ s with heap:=s.heap.push { cls:=.type "tuple",data:=.seq #[.int (i:Nat) tk,y] },toks:=tk }) (h':=h2) (fp:=[e,it]) (t':=tk+1) IA (fun b o hb q=>?_) fun b hb=>?_
     · have CB:b≠e:=fun z=>hb (by simp [z]);have Lz:b≠it:=fun z=>hb (by simp [z]);rw [Dn.2 b CB];by_cases zT:b=s.heap.objs.size
       · subst zT;rw [hT];have q':(s.heap.push { cls:=.type "tuple",data:=.seq #[.int (i:Nat) tk,y] }).get? s.heap.objs.size=some o:=q;rw [Vq _ rfl] at q';exact q'
       · have AM:b<(s.heap.push { cls:=.type "tuple",data:=.seq #[.int (i:Nat) tk,y] }).objs.size:=Vx q;rw [Wo] at AM;refine hk b o CB Lz ?_;have q':(s.heap.push { cls:=.type "tuple",data:=.seq #[.int (i:Nat) tk,y] }).get? b=some o:=q;rw [Heap.get?_push_ne _ _ _ zT] at q';exact q'
     · obtain ⟨f0,f1⟩:=hf b hb;exact ⟨by rw [ag (VU (zS b hb))];exact f0,f1⟩
    exact IB
  · obtain ⟨o,e1,r⟩:=Lw.1;exact ⟨o,(Dn.2 it (W4 Fw)).trans e1,r⟩
  · rw [ag (VU (zS b hb))];exact (hf b hb).1
 done:=by
  intro X hP hw hK hc i pins s σ H E I hf st hg;subst hP hw hK;obtain ⟨xs,hq,hx⟩:=hg;obtain ⟨its,rv,p,hz⟩:=I.tuple hq;obtain ⟨⟨old,he⟩,hi⟩:=st
  have Fx:a≠it:=by
   rintro rfl;obtain ⟨o,e1,e2,_⟩:=hi;obtain ⟨o',BP,BD,_⟩:=p;rw [BP] at e1;cases e1;rw [BD] at e2;exact absurd (W8 e2) (by decide)
  have hn:its.toArray.size=i:=by
   have:=rv.length;rw [Vr];omega
  refine wpAny_pyNext_enum_endD (bb_drawsT (A:=X.A.in1) (show X.A.in1.handled=none from I.ok.hd hc) it a Fx its.toArray) he (by rw [hn];exact ⟨hi,p⟩) fun h' eb=>⟨rfl,?_⟩;exact I.turnedL (fp:=[e,it]) (t':=s.toks) (fun b o hb q=>eb b o (fun z=>hb (by simp [z])) q) hf
 self:=fun _ _ _ _ _ st h=>by
  obtain ⟨⟨old,he⟩,_⟩:=st;exact Z0 he h
section
variable {X:Cx} {e:Wq} {te:TE} {p2 zW:Yr}
def yi (K:Vc) (tl:TE):TI:=fun σ H R=>tl σ H fun x H1=>∃ a,x=.ref a/\(∃ xs,SqT K H1 a xs)/\R (Ite K a) H1
theorem nI {elts:List Wq} {k1} {pos:Yr} (g2:Gl X "enumerate") (m2:X.mg "enumerate"=none) (he:PE X e te) (h2:V0 [e] X.env=[(false,Xh e X.env)]:=by rfl):PI X (.Tuple elts k1 pos) (.Call (.Name "enumerate" p2) [e] [] zW) (yi X.K te):=by
 intro pins s σ H R I h;refine WC (cU I g2 m2 boot_enumerate (We ?_ h2 rfl));rw [h2];show Vw _ _ (spliced ((false,Xh e X.env)::[])) _ _ s;refine WX (thn (he pins s σ H _ I h) fun u s1 ⟨x,H1,I1,r1,a,ex,⟨xs,hq⟩,q⟩=>Xv ?_);subst ex;cases r1;obtain ⟨its,rv,p,hz⟩:=I1.tuple hq;refine bb_callEnumT (show s1.heap.IsTuple a its.toArray from p) fun h' g1 g2 g3 g4=>?_;refine Z0 (s:={ s1 with heap:=h' }) g1 ?_;refine ⟨s1.heap.objs.size+1,[s1.heap.objs.size+1,s1.heap.objs.size],_,_,H1,rfl,I1.kept (t':=s1.toks) g4,sL a _ _,⟨⟨_,g1⟩,g2⟩,fun b hb=>?_,q⟩
 have Aj:s1.heap.objs.size<=b:=by
  rcases VA.mp hb with rfl | hb
  · omega
  · have:b=s1.heap.objs.size:=by simpa using hb
    exact ZY this.symm
 exact I1.fpOk Aj (I1.hok.fresh Aj)
inductive u7 (K:Vc) (x:V) (y:V) (H:Hp) (Q:VK):Prop
 | mk (a:_) (b:_) (xs:_) (ys:_) (zI:x=.ref a) (zJ:y=.ref b) (zP:SqT K H a xs) (zZ:SqT K H b ys) (Ai:xs.length+ys.length<=Vz) (AX:(xs=[]->Q (.ref b) H)) (Eg:(xs≠[]->ys=[]->Q (.ref a) H)) (Fy:(xs≠[]->ys≠[]->∀ p,H p=none->Q (.ref p) (upd H p (.tup (xs++ys))))):u7 K x y H Q
def pZ (K:Vc):R2:=u7 K
theorem eZ:OpR X (Zl .Add) (pZ X.K):=by
 intro pins s σ H x y v u Q I rx ry h;obtain ⟨a,b,xs,ys,e1,e2,ha,hb,hz,q0,q1,q2⟩:=h;by_cases hx:xs=[]
 · subst e1 e2;cases rx;cases ry;obtain ⟨its,r1,p1,_⟩:=I.tuple ha;obtain ⟨zD,r2,p2,_⟩:=I.tuple hb;have hi:its=[]:=r1.nil_iff.mpr hx;obtain ⟨⟨cls,dd,data,sl⟩,ho,hc,n,hd⟩:=p1;obtain ⟨⟨Hn,Gw,data2,Gx⟩,Ea,Dg,n2,hd2⟩:=p2;simp only at hc hd Dg hd2;subst hc hd Dg hd2;exact concat_meets ⟨_,ho,rfl⟩ ⟨_,Ea,rfl⟩ noFill_tuple_add seq_tuple_add ZV ZP (ZJ _ _) (tuple_addW0 a b its.toArray zD.toArray n n2 dd Gw sl Gx (by simp [hi])) ⟨ho,Ea,⟨.ref b,H,I,rfl,q0 hx⟩⟩
 · exact v5 pins s σ H x y v u Q I rx ry ⟨a,b,xs,ys,e1,e2,ha,hb,hx,hz,q1 hx,q2 hx⟩
end
end L2
namespace PySem
open Sem (wp)
abbrev tzH1 (h:Wx) (l1:Vd):Wx:=h.push { cls:=.type "tuple_iterator",data:=.fields #[.ref l1,.int 0 0] }
abbrev tzH2 (h:Wx) (l1 l2:Vd):Wx:=(tzH1 h l1).push { cls:=.type "tuple_iterator",data:=.fields #[.ref l2,.int 0 0] }
abbrev tzH3 (h:Wx) (l1 l2:Vd):Wx:=(tzH2 h l1 l2).push { cls:=.type "tuple",data:=.seq #[.ref h.objs.size,.ref (tzH1 h l1).objs.size] }
abbrev tzH4 (h:Wx) (l1 l2:Vd):Wx:=(tzH3 h l1 l2).push { cls:=.type "tuple",data:=.seq #[.none,.none] }
abbrev tzH5 (h:Wx) (l1 l2:Vd):Wx:=(tzH4 h l1 l2).push { cls:=.type "zip",data:=.fields #[.none,.bool false,.bool false,.ref (tzH2 h l1 l2).objs.size,.ref (tzH3 h l1 l2).objs.size] }
theorem IsTuple.push' {h:Wx} {l:Vd} {xs:Array Vg} (x:h.IsTuple l xs) (o:Xq):(h.push o).IsTuple l xs:=let ⟨ob,e,r⟩:=x;⟨ob,Vi _ e,r⟩
theorem bb_meets_zip (l1 l2:Vd) (xs ys:Array Vg) :
 Meets (XZ.«zip.__new__» ⟨[.type "zip",.ref l1,.ref l2],[]⟩) (fun _ R s=>s.heap.IsTuple l1 xs/\s.heap.IsTuple l2 ys ∧
  R (.ok (.ret (.ref (tzH4 s.heap l1 l2).objs.size))) { s with heap:=tzH5 s.heap l1 l2 }) :=
 .of_wp fun prog w A R s h=>by
  obtain ⟨hp,g,d,tk,os⟩:=s;obtain ⟨Bs,AL,h⟩:=h;have CH:=sub_zip;have Rp:Heap.IsTuple (Shared.heap ⟨hp,g,d,tk,os⟩) l1 xs:=Bs;have Rq:Heap.IsTuple (Shared.heap ⟨hp.push { cls:=.type "tuple_iterator",data:=.fields #[.ref l1,.int 0 0] },g,d,tk,os⟩) l2 ys:=IsTuple.push' AL _
  wp_walk using X7 Rp,X7 Rq
  exact ⟨_,rfl,h⟩
section
variable {prog:Vu} {w:VI} {A:V2} {E:Vg->Vm->Prop} {s:Vm}
theorem bb_call_zip {l1 l2:Vd} {xs ys:Array Vg} {Q:Vg->Vm->Prop} (Bs:s.heap.IsTuple l1 xs) (AL:s.heap.IsTuple l2 ys)
 (h:∀ h',IsZip h' (s.heap.objs.size+4) (s.heap.objs.size+2) (s.heap.objs.size+3) .none->Xz h' (s.heap.objs.size+2) (.ref s.heap.objs.size) (.ref (s.heap.objs.size+1)) →
  Xz h' (s.heap.objs.size+3) .none .none->h'.IsTupleIter s.heap.objs.size l1 0->h'.IsTupleIter (s.heap.objs.size+1) l2 0->h'.objs.size=s.heap.objs.size+5 →
  (∀ c o,s.heap.get? c=some o->h'.get? c=some o)->Q (.ref (s.heap.objs.size+4)) { s with heap:=h' }) :
 Vw (VN prog w) A (call (.type "zip") [.ref l1,.ref l2]) Q E s:=by
 refine callType_new F.called_zip (by decide) (F.typeCall_zip_2 _ _) (F.newCall_zip_2 _ _) (fun obj=>F.args_object_init_3 obj _ _) F.entry_zip_new
  (bb_meets_zip l1 l2 xs ys) ⟨Bs,AL,?_⟩
 have z1:(tzH1 s.heap l1).objs.size=s.heap.objs.size+1:=Wo ..;have z2:(tzH2 s.heap l1 l2).objs.size=s.heap.objs.size+2:=by rw [Wo,z1]
 have z3:(tzH3 s.heap l1 l2).objs.size=s.heap.objs.size+3:=by rw [Wo,z2]
 have z4:(tzH4 s.heap l1 l2).objs.size=s.heap.objs.size+4:=by rw [Wo,z3]
 have z5:(tzH5 s.heap l1 l2).objs.size=s.heap.objs.size+5:=by rw [Wo,z4]
 have g5:(tzH5 s.heap l1 l2).get? (tzH4 s.heap l1 l2).objs.size=some _:=Vq _ rfl;have g4:(tzH5 s.heap l1 l2).get? (tzH3 s.heap l1 l2).objs.size=some _:=Vi _ (Vq _ rfl);have g3:(tzH5 s.heap l1 l2).get? (tzH2 s.heap l1 l2).objs.size=some _:=Vi _ (Vi _ (Vq _ rfl));have g2:(tzH5 s.heap l1 l2).get? (tzH1 s.heap l1).objs.size=some _:=Vi _ (Vi _ (Vi _ (Vq _ rfl)));have g1:(tzH5 s.heap l1 l2).get? s.heap.objs.size=some _:=Vi _ (Vi _ (Vi _ (Vi _ (Vq _ rfl))));show _/\_;rw [z2,z3,z4] at g5;rw [z1,z2] at g3;rw [z3] at g4;rw [z1] at g2;rw [z4]
 exact ⟨⟨_,g5,rfl⟩,h _ g5 g3 g4 ⟨_,g1,rfl,rfl⟩ ⟨_,g2,rfl,rfl⟩ z5 fun c o x =>
  Vi _ (Vi _ (Vi _ (Vi _ (Vi _ x))))⟩
structure ZSt (xs ys:Array Vg) (z TI TO i1 i2 l1 l2:Vd) (k:Nat) (h:Wx):Prop where
 ap:ZipApart z TI TO i1 i2 l1 l2
 zip:IsZip h z TI TO .none∨∃ (T:Vd) (b:Bool) (x y:Vg),h.get? z=some { cls:=.type "zip",data:=.fields #[Xi T,.bool b,.bool false,.ref TI,.ref TO] }/\Xz h T x y/\T≠TO
 hTI:Xz h TI (.ref i1) (.ref i2)
 hTO:∃ a b,Xz h TO a b
 h1:h.IsTupleIter i1 l1 k
 h2:h.IsTupleIter i2 l2 k
 t1:h.IsTuple l1 xs
 t2:h.IsTuple l2 ys
theorem ZSt.typeIs {xs ys:Array Vg} {z TI TO i1 i2 l1 l2:Vd} {k:Nat} (x:ZSt xs ys z TI TO i1 i2 l1 l2 k s.heap):s.TypeIs (.ref z) "zip":=by
 rcases x.zip with e | ⟨T,b,u,v,e,_⟩
 · exact ⟨_,e,rfl⟩
 · exact ⟨_,e,rfl⟩
theorem IsTuple.but {h h':Wx} {c l:Vd} {xs:Array Vg} (x:h.IsTuple l xs) (e:Heap.ExtBut c h h') (n:l≠c):h'.IsTuple l xs:=let ⟨ob,q,r⟩:=x;⟨ob,e _ _ n q,r⟩
theorem IsTupleIter.but {h h':Wx} {c i l:Vd} {k:Nat} (x:h.IsTupleIter i l k) (e:Heap.ExtBut c h h') (n:i≠c):h'.IsTupleIter i l k:=let ⟨ob,q,r⟩:=x;⟨ob,e _ _ n q,r⟩
theorem ZSt.frame {xs ys:Array Vg} {z TI TO i1 i2 l1 l2:Vd} {k:Nat} {h h':Wx} (x:ZSt xs ys z TI TO i1 i2 l1 l2 k h)
 (e:∀ b o,o.cls≠.type "list"->h.get? b=some o->h'.get? b=some o):ZSt xs ys z TI TO i1 i2 l1 l2 k h':=by
 obtain ⟨D,hz,hTI,⟨a,b,hTO⟩,⟨o1,a1,a2,a3⟩,⟨o2,b1,b2,b3⟩,⟨o3,c1,c2,c3⟩,⟨o4,d1,d2,d3⟩⟩:=x;refine ⟨D,?_,e _ _ (by simp) hTI,⟨a,b,e _ _ (by simp) hTO⟩,⟨o1,e _ _ (by rw [a2];simp) a1,a2,a3⟩,⟨o2,e _ _ (by rw [b2];simp) b1,b2,b3⟩,⟨o3,e _ _ (by rw [c2];simp) c1,c2,c3⟩,⟨o4,e _ _ (by rw [d2];simp) d1,d2,d3⟩⟩;rcases hz with g | ⟨T,b,u,v,g,g2,g3⟩
 · exact .inl (e _ _ (by simp) g)
 · exact .inr ⟨T,b,u,v,e _ _ (by simp) g,e _ _ (by simp) g2,g3⟩
end
end PySem
namespace PySem
open Sem (wp)
section
variable {prog:Vu} {w:VI} {A:V2} {E:Vg->Vm->Prop} {s:Vm}
theorem bb_zip_itemA {z TI TO i1 i2 l1 l2:Vd} {k:Nat} {xs ys:Array Vg} {x y a b:Vg} {Q:Vg->Vm->Prop} (D:ZipApart z TI TO i1 i2 l1 l2)
 (hz:IsZip s.heap z TI TO .none) (hTI:Xz s.heap TI (.ref i1) (.ref i2)) (hTO:Xz s.heap TO a b)
 (h1:s.heap.IsTupleIter i1 l1 k) (h2:s.heap.IsTupleIter i2 l2 k) (Bs:s.heap.IsTuple l1 xs) (AL:s.heap.IsTuple l2 ys) (hx:xs[k]?=some x) (hy:ys[k]?=some y)
 (hQ:∀ h',IsZip h' z TI TO (Xi s.heap.objs.size)->Xz h' TO x y->h'.IsTupleIter i1 l1 (k+1)->h'.IsTupleIter i2 l2 (k+1)->Xz h' s.heap.objs.size x y->h'.objs.size=s.heap.objs.size+1 →
  (∀ c o,c≠z->c≠TO->c≠i1->c≠i2->s.heap.get? c=some o->h'.get? c=some o)->Q (.ref s.heap.objs.size) { s with heap:=h' }) :
 Vw (VN prog w) A (XZ.«zip.__next__» ⟨[.ref z],[]⟩) (fun fin s'=>∃ v,fin=.done (.ret v)/\Q v s') E s:=by
 show Vw _ _ (field (.ref z) 2 >>= _) _ _ _;refine Va (Wc hz rfl (x:=.bool false) rfl ?_);show Vw _ _ (field (.ref z) 3 >>= _) _ _ _;refine Va (Wc hz rfl (x:=.ref TI) rfl ?_);refine Va (WG hTI rfl ?_);show Vw _ _ (Wk (.ref z) >>= _) _ _ _;refine Va ?_;unfold Wk;refine Va (Wc hz rfl (x:=.none) rfl (Vk ?_));simp only [if_true];refine Va (X6 ?_);refine Va (Wc hz rfl (x:=.ref TO) rfl ?_);refine Va (X5 hz (by simp) fun zM Ab zx=>?_);replace Ab:IsZip zM z TI TO .ellipsis:=Ab;refine Va ?_;simp only [List.zipIdx_cons,List.zipIdx_nil,Y1,List.forIn_nil];refine Va (Va (wpAny_onRaise ?_));show Vw _ _ (Wf (.ref i1) >>= _) _ _ _;refine Va (bb_tupNext (IsTupleIter.but h1 zx.extBut D.i1z) (IsTuple.but Bs zx.extBut D.l1z) hx fun Ap BQ zF=>Vk ?_);have AZ:Xz Ap TO a b:=zF.extBut _ _ D.TOi1 (zx.extBut _ _ D.TOz hTO);refine Va (WG AZ rfl ?_);refine Va (wpAny_updateSeq_pair AZ fun BL Bt Aa=>?_);replace Bt:Xz BL TO x b:=Bt;refine Va (Z1 (Vk ?_));refine Va (Va (wpAny_onRaise ?_));show Vw _ _ (Wf (.ref i2) >>= _) _ _ _
 refine Va (bb_tupNext (IsTupleIter.but (IsTupleIter.but (IsTupleIter.but h2 zx.extBut D.i2z) zF.extBut D.i12.symm) Aa.extBut D.TOi2.symm)
  (IsTuple.but (IsTuple.but (IsTuple.but AL zx.extBut D.l2z) zF.extBut D.l2i1) Aa.extBut D.l2TO) hy fun Ae Dq zX=>Vk ?_)
 have Dr:Xz Ae TO x b:=zX.extBut _ _ D.TOi2 Bt;refine Va (WG Dr rfl ?_);refine Va (wpAny_updateSeq_pair Dr fun Af Bu AH=>?_);replace Bu:Xz Af TO x y:=Bu;refine Va (Z1 (Vk (Vk ?_)));refine Va (WG Bu rfl ?_);refine Va (wpAny_newTuple ?_);have hsz:Af.objs.size=s.heap.objs.size:=by rw [AH.1,zX.1,Aa.1,zF.1,zx.1]
 have ER:IsZip Af z TI TO .ellipsis:=AH.extBut _ _ D.TOz.symm (zX.extBut _ _ D.i2z.symm (Aa.extBut _ _ D.TOz.symm (zF.extBut _ _ D.i1z.symm Ab)))
 have HL:∀ c o,c≠z->c≠TO->c≠i1->c≠i2->s.heap.get? c=some o->Af.get? c=some o:=fun c o c1 c2 c3 c4 e =>
  AH.extBut _ _ c2 (zX.extBut _ _ c4 (Aa.extBut _ _ c2 (zF.extBut _ _ c3 (zx.extBut _ _ c1 e))))
 have HM:Af.IsTupleIter i1 l1 (k+1):=IsTupleIter.but (IsTupleIter.but (IsTupleIter.but BQ Aa.extBut D.TOi1.symm) zX.extBut D.i12) AH.extBut D.TOi1.symm;have HN:Af.IsTupleIter i2 l2 (k+1):=IsTupleIter.but Dq AH.extBut D.TOi2.symm;have HP:z<Af.objs.size:=Vx ER;show Vw _ _ (Builtin.SmallTypes.ownedTupleHandOut (.ref z) (.ref Af.objs.size) >>= _) _ _ _;refine Va ?_;unfold Builtin.SmallTypes.ownedTupleHandOut;have HQ:IsZip (Af.push { cls:=.type "tuple",data:=.seq #[x,y] }) z TI TO .ellipsis:=Vi _ ER;refine Va (X5 HQ (by simp) fun LA Ds Dt=>?_);replace Ds:IsZip LA z TI TO (Xi Af.objs.size):=Ds;refine X5 Ds (by simp) fun Du Cv Dw=>?_;replace Cv:IsZip Du z TI TO (Xi Af.objs.size):=Cv;have up:∀ c o,c≠z->Af.get? c=some o->Du.get? c=some o:=fun c o c1 e=>Dw.extBut _ _ c1 (Dt.extBut _ _ c1 (Vi _ e));have ES:Xz Du Af.objs.size x y:=Dw.extBut _ _ (YJ HP) (Dt.extBut _ _ (YJ HP) (Vq _ rfl));have O2:Du.objs.size=Af.objs.size+1:=by rw [Dw.1,Dt.1,Wo]
 rw [hsz] at Cv ES O2;refine Vk ⟨_,rfl,?_⟩;show Q (.ref Af.objs.size) _;rw [hsz];refine hQ Du Cv (up _ _ D.TOz Bu) ?_ ?_ ES O2 fun c o c1 c2 c3 c4 e=>up c o c1 (HL c o c1 c2 c3 c4 e)
 · obtain ⟨o,e,r⟩:=HM;exact ⟨o,up _ o D.i1z e,r⟩
 · obtain ⟨o,e,r⟩:=HN;exact ⟨o,up _ o D.i2z e,r⟩
theorem bb_loadIfAlive {a:Vd} {o:Xq} {Q:Option Xq->Vm->Prop} (hQ:∀ u,some o=some u->Q (some u) s) (h:s.heap.get? a=some o):Vw (VN prog w) A (loadIfAlive a) Q E s:=by
 intro Γ p Uq;show Sem.wp _ _ (.loadIfAlive a .pure) _ _ _ _;rw [Sem.wp_loadIfAlive,h];exact hQ o rfl
theorem bb_notfree {z T:Vd} {b:Bool} {f2 TI TO u v:Vg} (hz:s.heap.get? z=some { cls:=.type "zip",data:=.fields #[Xi T,.bool b,f2,TI,TO] }) (hT:Xz s.heap T u v) :
 Vw (VN prog w) A (Wk (.ref z)) (fun a s1=>a=false/\∃ zM,s1={ s with heap:=zM }/\zM.get? z=some { cls:=.type "zip",data:=.fields #[Xi T,.bool true,f2,TI,TO] }/\W3 z s.heap zM) E s:=by
 unfold Wk;refine Va (Wc hz rfl (x:=Xi T) rfl ?_);show Vw _ _ (loadIfAlive (T:Int).toNat >>= _) _ _ _;rw [Wg];refine Va (bb_loadIfAlive (fun o (e:some _=some o)=>?_) hT);cases e;show Vw _ _ (if (some _:Option Xq).isNone=true then _ else _) _ _ _;rw [if_neg (show ¬ ((some _:Option Xq).isNone=true) from VG)];refine Va (Wc hz rfl (x:=.bool b) rfl ?_);cases b with
 | true=>exact Vk ⟨rfl,s.heap,rfl,hz,rfl,fun _ _=>rfl⟩
 | false=>exact Va (X5 hz (by simp) fun zM Ab zx=>Vk ⟨rfl,zM,rfl,Ab,zx⟩)
theorem bb_zip_itemB {z TI TO i1 i2 l1 l2 T:Vd} {k:Nat} {xs ys:Array Vg} {x y u v:Vg} {b:Bool} {Q:Vg->Vm->Prop} (D:ZipApart z TI TO i1 i2 l1 l2)
 (hz:s.heap.get? z=some { cls:=.type "zip",data:=.fields #[Xi T,.bool b,.bool false,.ref TI,.ref TO] }) (hT:Xz s.heap T u v) (hTI:Xz s.heap TI (.ref i1) (.ref i2))
 (h1:s.heap.IsTupleIter i1 l1 k) (h2:s.heap.IsTupleIter i2 l2 k) (Bs:s.heap.IsTuple l1 xs) (AL:s.heap.IsTuple l2 ys) (hx:xs[k]?=some x) (hy:ys[k]?=some y)
 (hQ:∀ h',h'.get? z=some { cls:=.type "zip",data:=.fields #[Xi T,.bool true,.bool false,.ref TI,.ref TO] }->h'.IsTupleIter i1 l1 (k+1)->h'.IsTupleIter i2 l2 (k+1)->Xz h' s.heap.objs.size x y->h'.objs.size=s.heap.objs.size+1 →
  (∀ c o,c≠z->c≠i1->c≠i2->s.heap.get? c=some o->h'.get? c=some o)->Q (.ref s.heap.objs.size) { s with heap:=h' }) :
 Vw (VN prog w) A (XZ.«zip.__next__» ⟨[.ref z],[]⟩) (fun fin s'=>∃ v,fin=.done (.ret v)/\Q v s') E s:=by
 show Vw _ _ (field (.ref z) 2 >>= _) _ _ _;refine Va (Wc hz rfl (x:=.bool false) rfl ?_);show Vw _ _ (field (.ref z) 3 >>= _) _ _ _;refine Va (Wc hz rfl (x:=.ref TI) rfl ?_);refine Va (WG hTI rfl ?_);show Vw _ _ (Wk (.ref z) >>= _) _ _ _;refine Va (Xu (bb_notfree hz hT) (fun a s1 ⟨e1,zM,e2,Ab,zx⟩=>?_) fun _ _ x=>x);subst e1 e2;simp only [Wy,if_false];rw [<- Y2];refine Va ?_;simp only [Y1,List.forIn_nil];refine Va (Va (WH ?_));show Vw _ _ (Wf (.ref i1) >>= _) _ _ _;refine Va (bb_tupNext (IsTupleIter.but h1 zx.extBut D.i1z) (IsTuple.but Bs zx.extBut D.l1z) hx fun Ap BQ zF=>Vk (Vk ?_));refine Va (Va (WH ?_));show Vw _ _ (Wf (.ref i2) >>= _) _ _ _;refine Va (bb_tupNext (IsTupleIter.but (IsTupleIter.but h2 zx.extBut D.i2z) zF.extBut D.i12.symm) (IsTuple.but (IsTuple.but AL zx.extBut D.l2z) zF.extBut D.l2i1) hy fun Ae Dq zX=>Vk (Vk (Vk ?_)));refine Va (wpAny_newTuple (hsz:=by show 2<=Vz;decide) (Vk ⟨_,rfl,?_⟩));have hsz:Ae.objs.size=s.heap.objs.size:=by rw [zX.1,zF.1,zx.1]
 show Q (.ref Ae.objs.size) { s with heap:=Ae.push { cls:=.type "tuple",data:=.seq #[x,y] } };have ET:Xz (Ae.push { cls:=.type "tuple",data:=.seq #[x,y] }) Ae.objs.size x y:=Vq _ rfl;have BE:(Ae.push { cls:=.type "tuple",data:=.seq #[x,y] }).objs.size=Ae.objs.size+1:=Wo ..;have HR:=IsTupleIter.but BQ zX.extBut D.i12;rw [hsz] at ET BE;rw [hsz];refine hQ _ (Vi _ (zX.extBut _ _ D.i2z.symm (zF.extBut _ _ D.i1z.symm Ab))) ?_ ?_ ET BE fun c o c1 c3 c4 e=>Vi _ (zX.extBut _ _ c4 (zF.extBut _ _ c3 (zx.extBut _ _ c1 e)))
 · obtain ⟨o,e,r⟩:=HR;exact ⟨o,Vi _ e,r⟩
 · obtain ⟨o,e,r⟩:=Dq;exact ⟨o,Vi _ e,r⟩
theorem bb_zip_end {z TI TO i1 i2 l1 l2:Vd} {k:Nat} {xs ys:Array Vg} {Q:Fin->Vm->Prop} (hh:A.handled=none)
 (S:ZSt xs ys z TI TO i1 i2 l1 l2 k s.heap) (BR:xs[k]?=none∨ys[k]?=none)
 (hE:∀ h' e,(∀ c o,c≠z->c≠TO->c≠i1->c≠i2->s.heap.get? c=some o->h'.get? c=some o)->(∃ o,h'.get? e=some o/\o.cls=.type "StopIteration")->E (.ref e) { s with heap:=h' }) :
 Vw (VN prog w) A (XZ.«zip.__next__» ⟨[.ref z],[]⟩) Q E s:=by
 obtain ⟨D,hz,hTI,⟨a,b,hTO⟩,h1,h2,Bs,AL⟩:=S;rcases hz with hz | ⟨T,bb,u,v,hz,hT,O3⟩
 · show Vw _ _ (field (.ref z) 2 >>= _) _ _ _;refine Va (Wc hz rfl (x:=.bool false) rfl ?_);show Vw _ _ (field (.ref z) 3 >>= _) _ _ _;refine Va (Wc hz rfl (x:=.ref TI) rfl ?_);refine Va (WG hTI rfl ?_);show Vw _ _ (Wk (.ref z) >>= _) _ _ _;refine Va ?_;unfold Wk;refine Va (Wc hz rfl (x:=.none) rfl (Vk ?_));simp only [if_true];refine Va (X6 ?_);refine Va (Wc hz rfl (x:=.ref TO) rfl ?_);refine Va (X5 hz (by simp) fun zM Ab zx=>?_);replace Ab:IsZip zM z TI TO .ellipsis:=Ab;refine Va ?_;simp only [List.zipIdx_cons,List.zipIdx_nil,Y1,List.forIn_nil];refine Va (Va (wpAny_onRaise ?_));show Vw _ _ (Wf (.ref i1) >>= _) _ _ _;cases hx:xs[k]? with
   | none =>
     refine Va (bb_tupEnd hh (IsTupleIter.but h1 zx.extBut D.i1z) (IsTuple.but Bs zx.extBut D.l1z) hx fun Ap e zF he=>?_);obtain ⟨oe,Fz,HS⟩:=he;have EU:IsZip Ap z TI TO .ellipsis:=zF _ _ D.i1z.symm Ab;have LB:e≠z:=fun x=>by subst x;rw [EU] at Fz;cases Fz;simp at HS
     refine X5 EU (by simp) fun BL _ Aa=>hE BL e (fun c o c1 _ c3 _ x=>Aa.extBut _ _ c1 (zF _ _ c3 (zx.extBut _ _ c1 x))) ⟨oe,Aa.extBut _ _ LB Fz,HS⟩
   | some x =>
     have hy:ys[k]?=none:=by rcases BR with h | h;rw [hx] at h;cases h;exact h
     refine Va (bb_tupNext (IsTupleIter.but h1 zx.extBut D.i1z) (IsTuple.but Bs zx.extBut D.l1z) hx fun Ap BQ zF=>Vk ?_);have AZ:Xz Ap TO a b:=zF.extBut _ _ D.TOi1 (zx.extBut _ _ D.TOz hTO);refine Va (WG AZ rfl ?_);refine Va (wpAny_updateSeq_pair AZ fun BL Bt Aa=>?_);refine Va (Z1 (Vk ?_));refine Va (Va (wpAny_onRaise ?_));show Vw _ _ (Wf (.ref i2) >>= _) _ _ _
     refine Va (bb_tupEnd hh (IsTupleIter.but (IsTupleIter.but (IsTupleIter.but h2 zx.extBut D.i2z) zF.extBut D.i12.symm) Aa.extBut D.TOi2.symm)
      (IsTuple.but (IsTuple.but (IsTuple.but AL zx.extBut D.l2z) zF.extBut D.l2i1) Aa.extBut D.l2TO) hy fun Ae e zX he=>?_)
     obtain ⟨oe,Fz,HS⟩:=he;have EV:IsZip Ae z TI TO .ellipsis:=zX _ _ D.i2z.symm (Aa.extBut _ _ D.TOz.symm (zF.extBut _ _ D.i1z.symm Ab));have LB:e≠z:=fun x=>by subst x;rw [EV] at Fz;cases Fz;simp at HS
     refine X5 EV (by simp) fun Af _ AH=>hE Af e (fun c o c1 c2 c3 c4 x=>AH.extBut _ _ c1 (zX _ _ c4 (Aa.extBut _ _ c2 (zF.extBut _ _ c3 (zx.extBut _ _ c1 x))))) ⟨oe,AH.extBut _ _ LB Fz,HS⟩
 · show Vw _ _ (field (.ref z) 2 >>= _) _ _ _;refine Va (Wc hz rfl (x:=.bool false) rfl ?_);show Vw _ _ (field (.ref z) 3 >>= _) _ _ _;refine Va (Wc hz rfl (x:=.ref TI) rfl ?_);refine Va (WG hTI rfl ?_);show Vw _ _ (Wk (.ref z) >>= _) _ _ _;refine Va (Xu (bb_notfree hz hT) (fun a s1 ⟨e1,zM,e2,Ab,zx⟩=>?_) fun _ _ x=>x);subst e1 e2;simp only [Wy,if_false];rw [<- Y2];refine Va ?_;simp only [Y1,List.forIn_nil];refine Va (Va (WH ?_));show Vw _ _ (Wf (.ref i1) >>= _) _ _ _;cases hx:xs[k]? with
   | none =>
     refine Va (bb_tupEnd hh (IsTupleIter.but h1 zx.extBut D.i1z) (IsTuple.but Bs zx.extBut D.l1z) hx fun Ap e zF he=>?_);exact hE Ap e (fun c o c1 _ c3 _ x=>zF _ _ c3 (zx.extBut _ _ c1 x)) he
   | some x =>
     have hy:ys[k]?=none:=by rcases BR with h | h;rw [hx] at h;cases h;exact h
     refine Va (bb_tupNext (IsTupleIter.but h1 zx.extBut D.i1z) (IsTuple.but Bs zx.extBut D.l1z) hx fun Ap BQ zF=>Vk (Vk ?_));refine Va (Va (WH ?_));show Vw _ _ (Wf (.ref i2) >>= _) _ _ _;refine Va (bb_tupEnd hh (IsTupleIter.but (IsTupleIter.but h2 zx.extBut D.i2z) zF.extBut D.i12.symm) (IsTuple.but (IsTuple.but AL zx.extBut D.l2z) zF.extBut D.l2i1) hy fun Ae e zX he=>?_);exact hE Ae e (fun c o c1 _ c3 c4 x=>zX _ _ c4 (zF.extBut _ _ c3 (zx.extBut _ _ c1 x))) he
theorem bb_zip_next {z TI TO i1 i2 l1 l2:Vd} {k:Nat} {xs ys:Array Vg} {x y:Vg} {Q:Option Vg->Vm->Prop} (S:ZSt xs ys z TI TO i1 i2 l1 l2 k s.heap) (hx:xs[k]?=some x) (hy:ys[k]?=some y)
 (hQ:∀ h',ZSt xs ys z TI TO i1 i2 l1 l2 (k+1) h'->Xz h' s.heap.objs.size x y->h'.objs.size=s.heap.objs.size+1 →
  (∀ c o,c∉[z,TO,i1,i2]->s.heap.get? c=some o->h'.get? c=some o)->Q (some (.ref s.heap.objs.size)) { s with heap:=h' }) :
 Vw (VN prog w) A (Yl (.ref z)) Q E s:=by
 have hT:=S.typeIs;obtain ⟨D,hz,hTI,⟨a,b,hTO⟩,h1,h2,Bs,AL⟩:=S;have n1:s.heap.objs.size≠TO:=YJ (Vx hTO);unfold Yl;refine Va (Yk (Wi (name:=Vf "__next__") hT YH (Wu YH hT F.entry_zip_next ?_ (F.args_zip_next_1 _))));rcases hz with hz | ⟨T,bb,u,v,hz,ET,O3⟩
 · refine bb_zip_itemA D hz hTI hTO h1 h2 Bs AL hx hy fun h' a1 a2 a3 a4 a5 a6 a7=>Vk ?_;refine hQ h' ⟨D,.inr ⟨_,_,_,_,a1,a5,n1⟩,a7 _ _ D.TIz D.TITO D.TIi1 D.TIi2 hTI,⟨_,_,a2⟩,a3,a4,?_,?_⟩ a5 a6 fun c o hc e=>a7 c o (fun q=>hc (by simp [q])) (fun q=>hc (by simp [q])) (fun q=>hc (by simp [q])) (fun q=>hc (by simp [q])) e
   · obtain ⟨o,e,r⟩:=Bs;exact ⟨o,a7 _ _ D.l1z D.l1TO D.l1i1 D.l1i2 e,r⟩
   · obtain ⟨o,e,r⟩:=AL;exact ⟨o,a7 _ _ D.l2z D.l2TO D.l2i1 D.l2i2 e,r⟩
 · refine bb_zip_itemB D hz ET hTI h1 h2 Bs AL hx hy fun h' a1 a3 a4 a5 a6 a7=>Vk ?_;have Rr:T≠z:=by rintro rfl;exact absurd (W8 (congrArg Obj.cls (VL (hz.symm.trans ET)))) (by decide)
   have LC:T≠i1:=by rintro rfl;obtain ⟨o,e,c,_⟩:=h1;have e2:=VL (ET.symm.trans e);rw [<- e2] at c;exact absurd (W8 c) (by decide)
   have LD:T≠i2:=by rintro rfl;obtain ⟨o,e,c,_⟩:=h2;have e2:=VL (ET.symm.trans e);rw [<- e2] at c;exact absurd (W8 c) (by decide)
   refine hQ h' ⟨D,.inr ⟨T,true,u,v,a1,a7 _ _ Rr LC LD ET,O3⟩,a7 _ _ D.TIz D.TIi1 D.TIi2 hTI,⟨a,b,a7 _ _ D.TOz D.TOi1 D.TOi2 hTO⟩,a3,a4,?_,?_⟩ a5 a6 fun c o hc e=>a7 c o (fun q=>hc (by simp [q])) (fun q=>hc (by simp [q])) (fun q=>hc (by simp [q])) e
   · obtain ⟨o,e,r⟩:=Bs;exact ⟨o,a7 _ _ D.l1z D.l1i1 D.l1i2 e,r⟩
   · obtain ⟨o,e,r⟩:=AL;exact ⟨o,a7 _ _ D.l2z D.l2i1 D.l2i2 e,r⟩
theorem bb_zip_done {z TI TO i1 i2 l1 l2:Vd} {k:Nat} {xs ys:Array Vg} {Q:Option Vg->Vm->Prop} (hh:A.handled=none) (S:ZSt xs ys z TI TO i1 i2 l1 l2 k s.heap) (BR:xs[k]?=none∨ys[k]?=none)
 (hQ:∀ h',(∀ c o,c∉[z,TO,i1,i2]->s.heap.get? c=some o->h'.get? c=some o)->Q none { s with heap:=h' }):Vw (VN prog w) A (Yl (.ref z)) Q E s:=by
 have hT:=S.typeIs;unfold Yl
 refine Va (Yk (Wi (name:=Vf "__next__") hT YH
  (Wu YH hT F.entry_zip_next (bb_zip_end hh S BR fun h' e hk he=>?_) (F.args_zip_next_1 _))))
 obtain ⟨o,ho,hc⟩:=he;refine Va (X0 (T:="StopIteration") (b:=true) ⟨o,ho,hc⟩ isSubtype_stop ?_);exact Vk (hQ _ fun c o hc=>hk c o (fun q=>hc (by simp [q])) (fun q=>hc (by simp [q])) (fun q=>hc (by simp [q])) (fun q=>hc (by simp [q])))
theorem bb_zip_iter {z TI TO i1 i2 l1 l2:Vd} {k:Nat} {xs ys:Array Vg} {Q:Vg->Vm->Prop} (S:ZSt xs ys z TI TO i1 i2 l1 l2 k s.heap) (h:Q (.ref z) s):Vw (VN prog w) A (pyIter (.ref z)) Q E s:=by
 have hT:=S.typeIs;refine wpAny_pyIter_slot hT F.slot_zip_iter (Wu F.slot_zip_iter hT F.entry_zip_iter ?_ (F.args_zip_iter_1 _));show Vw _ _ (ret (.ref z)) _ _ s;exact Vk ⟨_,rfl,"zip",_,hT,YH.lookup,h⟩
end
end PySem
namespace PySem
open Sem (wp)
namespace F
theorem bb_nolen_zip:YS (.type "zip") "__len__"=pure none:=by rw [Xg,WD];kernel_rfl
theorem bb_nohint_zip:YS (.type "zip") "__length_hint__"=pure none:=by rw [Xg,WD];kernel_rfl
end F
def ZIt (xs ys:Array Vg) (n0:Nat) (h:Wx) (acc:Array Vg) (k:Nat):Prop:=acc.size=k/\∀ (j:Nat) (v:Vg),acc[j]?=some v->∃ (T:Vd) (x y:Vg),v=VO T/\n0<=T/\Xz h T x y/\xs[j]?=some x/\ys[j]?=some y
section
variable {prog:Vu} {w:VI} {A:V2} {R:Result->Vm->Prop}
theorem bb_zip_loop {z TI TO i1 i2 l1 l2 S:Vd} {xs ys:Array Vg} {n n0:Nat} (hh:A.in1.handled=none) (hn:n=min xs.size ys.size) (hz:n<=Vz) (O4:S∉[z,TO,i1,i2]) (hf:∀ c∈[z,TO,i1,i2],c<n0) (res:Vg) :
 ∀ (k i:Nat) (s:Vm) (acc:Array Vg) (c:Nat),n - i=k->i<=n->ZSt xs ys z TI TO i1 i2 l1 l2 i s.heap->n0<=s.heap.objs.size->s.heap.get? S=some { cls:=.type "list",dict:=none,data:=.seq acc c,slots:=#[] }->ZIt xs ys n0 s.heap acc i →
 (∀ h' Aq c',(∀ b o,b≠S->b∉[z,TO,i1,i2]->s.heap.get? b=some o->h'.get? b=some o)->h'.get? S=some { cls:=.type "list",dict:=none,data:=.seq Aq c',slots:=#[] }->ZIt xs ys n0 h' Aq n->R (.ok (.ret res)) { s with heap:=h' }) →
 YM (VN prog w) A (.builtin "list.extend.loop" ⟨[.ref S,.ref z,res],[]⟩) R s:=by
 intro k;have EW:∀ {T:Vd},n0<=T->T∉[z,TO,i1,i2]:=fun h m=>absurd (hf _ m) (Zv.mpr h);induction k with
 | zero =>
   intro i s acc c hk hi AB h0 hS zH hR;have Ct:i=n:=by omega
   subst Ct;refine Y8 ZI ?_;rw [Yj WQ _];show Vw _ A.in1 (Yl (.ref z) >>= _) _ _ s
   have BR:xs[i]?=none∨ys[i]?=none:=by
    rcases Nat.le_total xs.size ys.size with h | h
    · exact .inl (Y7 (by omega))
    · exact .inr (Y7 (by omega))
   refine Va (bb_zip_done hh AB BR fun h' Ar=>Vk ?_);refine hR h' acc c (fun b o _ hb e=>Ar b o hb e) (Ar _ _ O4 hS) ⟨zH.1,fun j v hv=>?_⟩;obtain ⟨T,x,y,e1,e2,e3,e4⟩:=zH.2 j v hv;exact ⟨T,x,y,e1,e2,Ar _ _ (EW e2) e3,e4⟩
 | succ k ih =>
   intro i s acc c hk hi AB h0 hS zH hR;have zK:i<n:=by omega
   refine Y8 ZI ?_;rw [Yj WQ _];show Vw _ A.in1 (Yl (.ref z) >>= _) _ _ s;have hx:xs[i]?=some xs[i]:=Xs (by omega);have hy:ys[i]?=some ys[i]:=Xs (by omega);refine Va (bb_zip_next AB hx hy fun h' LF hT hsz Ar=>?_);have C6:=Ar S _ O4 hS;have LH:S<s.heap.objs.size:=Vx hS;show Vw _ A.in1 (ZN S (·.push (.ref s.heap.objs.size)) >>= _) _ _ _;refine Va ?_;have BO:∀ b o,b≠S->h'.get? b=some o->(h'.update S (Wv (·.push (VO s.heap.objs.size)))).get? b=some o:=fun b o hb e=>(Wa _ _ (W4 hb)).trans e
   refine Xa C6 rfl (Vk ⟨Ym WQ _,ih (i+1) _ (acc.push (.ref s.heap.objs.size)) _ (by omega) zK (LF.frame fun b o ho e=>BO b o (fun z=>?_) e) ?_ (V4 _ C6 rfl) ?_ fun LI Aq c' FA FC Dx=>?_⟩)
    (by rw [zH.1];omega) (by show (acc.push _).size<=Vz+1;rw [Array.size_push,zH.1];omega)
   · rw [z,C6] at e;cases e;exact ho rfl
   · show n0<=(h'.update S _).objs.size;rw [Zs];omega
   · refine ⟨by rw [Array.size_push,zH.1],fun j v hv=>?_⟩;rw [Array.getElem?_push] at hv;split at hv
     · rename_i e
       rw [zH.1] at e;cases hv;subst e;exact ⟨_,_,_,rfl,h0,BO _ _ (YJ LH) hT,hx,hy⟩
     · obtain ⟨T,x,y,e1,e2,e3,e4⟩:=zH.2 j v hv
       have Rt:T≠S:=by
        rintro rfl;exact absurd (W8 (congrArg Obj.cls (VL (e3.symm.trans hS)))) (by decide)
       exact ⟨T,x,y,e1,e2,BO _ _ Rt (Ar _ _ (EW e2) e3),e4⟩
   · exact hR LI Aq c' (fun b o hb zT e=>FA b o hb zT (BO b o hb (Ar b o zT e))) FC Dx
end
section
variable {prog:Vu} {w:VI} {A:V2} {E:Vg->Vm->Prop} {s:Vm}
theorem bb_list_zip {z TI TO i1 i2 l1 l2:Vd} {xs ys:Array Vg} {n n0:Nat} {Q:Vg->Vm->Prop} (hh:A.in1.in1.handled=none) (AB:ZSt xs ys z TI TO i1 i2 l1 l2 0 s.heap) (hn:n=min xs.size ys.size) (hz:n<=Vz) (h0:n0<=s.heap.objs.size) (hf:∀ c∈[z,TO,i1,i2],c<n0)
 (hQ:∀ h' acc c,(∀ b o,b∉[z,TO,i1,i2]->s.heap.get? b=some o->h'.get? b=some o)->h'.get? s.heap.objs.size=some { cls:=.type "list",dict:=none,data:=.seq acc c,slots:=#[] }->ZIt xs ys n0 h' acc n->Q (.ref s.heap.objs.size) { s with heap:=h' }) :
 Vw (VN prog w) A (call (.type "list") [.ref z]) Q E s:=by
 have Gy:s.heap.objs.size∉[z,TO,i1,i2]:=fun hm=>absurd (hf _ hm) (Zv.mpr h0);have Ln:s.heap.objs.size≠z:=fun e=>Gy (by simp [e])
 refine callType_codes (Q₁:=fun obj zt=>obj=.ref s.heap.objs.size/\zt={ s with heap:=s.heap.push { cls:=.type "list",data:=.seq #[] } }) F.called_list (F.typeCall_list_1 _) F.entry_list_init
  (code_list_new _ ⟨rfl,rfl⟩) fun obj zt zM=>?_
 obtain ⟨rfl,rfl⟩:=zM;have hS:(s.heap.push { cls:=.type "list",data:=.seq #[] }).get? s.heap.objs.size=some { cls:=.type "list",data:=.seq #[] }:=Vq _ rfl;refine ⟨⟨_,hS,rfl⟩,F.args_list_init_2 _ _,?_⟩;show Vw _ A.in1.in1 (do let old ← XY (.ref s.heap.objs.size);Builtin.List.listUpdate (.ref s.heap.objs.size) (fun _=>#[]);letGo old.toList.reverse;Xo (.ref s.heap.objs.size) (.ref z) .none) _ _ _;refine Va ?_;unfold XY;refine Va (WG hS rfl (Vk ?_));refine Va (Xa hS rfl ?_);have AF:=V4 (Wv (fun _=>(#[]:Array Vg))) hS rfl;refine Va (Z1 ?_);have CI:((s.heap.push { cls:=.type "list",data:=.seq #[] }).update s.heap.objs.size (Wv (fun _=>(#[]:Array Vg)))).objs.size=s.heap.objs.size+1:=by rw [Zs,Wo]
 generalize hH:(s.heap.push { cls:=.type "list",data:=.seq #[] }).update s.heap.objs.size (Wv (fun _=>(#[]:Array Vg)))=H2 at AF CI ⊢
 have old:∀ b o,s.heap.get? b=some o->H2.get? b=some o:=fun b o e=>by
  rw [<- hH,Wa _ _ (W4 (VU (Vx e)))];exact Vi _ e
 obtain ⟨c2,Ed⟩:∃ c,H2.get? s.heap.objs.size=some { cls:=.type "list",data:=.seq #[] c }:=⟨_,AF⟩;have B8:ZSt xs ys z TI TO i1 i2 l1 l2 0 H2:=AB.frame fun b o _ e=>old b o e;have HU:({ s with heap:=H2 }:Vm).TypeIs (.ref z) "zip":=B8.typeIs;unfold Xo;refine Va (XW HU ?_);have h1:XH (.ref s.heap.objs.size) (.ref z)=false:=by simp [XH,Ln]
 have h2:(XD "zip" == XD "list")=false:=by decide
 have h3:(XD "zip" == XD "tuple")=false:=by decide
 simp only [h1,h2,h3,Bool.or_false,Wy,if_false];refine Va (bb_zip_iter B8 ?_);refine Va (WH ?_);unfold XX;refine Va (WR HU F.bb_nolen_zip ?_);show Vw _ _ (specialOf (VO z) (Vf "__length_hint__") >>= _) _ _ _;refine Va (WR HU F.bb_nohint_zip ?_);refine Vk ?_
 have key:∀ (h:Wx) (c₁:Nat),ZSt xs ys z TI TO i1 i2 l1 l2 0 h->n0<=h.objs.size->(∀ b o,b≠s.heap.objs.size->H2.get? b=some o->h.get? b=some o)->h.get? s.heap.objs.size=some { cls:=.type "list",data:=.seq #[] c₁ } →
  YM (VN prog w) A.in1 (.builtin "list.extend.loop" ⟨[.ref s.heap.objs.size,.ref z,.none],[]⟩) (wants (fun r Ad=>r=.none/\Q (.ref s.heap.objs.size) Ad) E) { s with heap:=h }:=by
  intro h c₁ hs EX hk BM;refine bb_zip_loop hh hn hz Gy hf .none n 0 _ #[] c₁ rfl (VJ _) hs EX BM ⟨rfl,fun j v e=>by simp at e⟩ fun h' Aq c' hm C6 zH=>?_;exact ⟨rfl,hQ h' Aq c' (fun b o hb e=>hm b o (VU (Vx e)) hb (hk b o (VU (Vx e)) (old b o e))) C6 zH⟩
 show Vw _ _ (rule "list.extend.makes-room" >>= fun _=>Builtin.List.listTouch (.ref s.heap.objs.size) >>= fun _=>again (.builtin "list.extend.loop" ⟨[.ref s.heap.objs.size,.ref z,.none],[]⟩)) _ _ _;refine Va (X6 ?_);refine Va ?_;show Vw _ _ (ZN s.heap.objs.size (·.push .none) >>= fun _=>ZN s.heap.objs.size (·.pop)) _ _ _;refine Va (Xa Ed rfl ?_);have AG:=V4 (Wv (·.push WI)) Ed rfl;refine Xa (hz:=by seq_fits) AG rfl ?_;have BN:=V4 (Wv (·.pop)) AG rfl
 have BO:∀ b o,b≠s.heap.objs.size->H2.get? b=some o->((H2.update s.heap.objs.size (Wv (·.push WI))).update s.heap.objs.size (Wv (·.pop))).get? b=some o :=
  fun b o hb e=>(Wa _ _ (W4 hb)).trans ((Wa _ _ (W4 hb)).trans e)
 refine Vk ⟨Ym WQ _,key _ _ (B8.frame fun b o ho e=>BO b o (fun q=>?_) e) ?_ BO BN⟩
 · rw [q,Ed] at e;cases e;exact ho rfl
 · rw [Zs,Zs];show n0<=H2.objs.size;omega
end
end PySem
namespace L2
open PySem PySem.Spec PyProof.Rows
theorem Inv.laidAll {X:Cx} {pins:List (Vd×Xq)} {σ:St} {H H':Hp} {s:Vm} {h':Wx} {t':Nat} (I:Inv X pins σ H s) (k:∀ b u,s.heap.get? b=some u->h'.get? b=some u)
 (old:∀ b,b<s.heap.objs.size->H' b=H b) (new:∀ b u,s.heap.objs.size<=b->H' b=some u->ObjOk X.prog X.w H' h' b u):Inv X pins σ H' { s with heap:=h',toks:=t' }:=by
 have sm:∀ b u,H b=some u->H' b=some u:=fun b u e=>by rw [old b (I.hok.lt e)];exact e
 refine I.un ⟨fun b u q _ _ _=>k b u q,fun b u q _ _ _=>⟨u.slots,k b u q⟩,fun b u q n _=>by rw [old b (Vx q)];exact n,fun b u q _=>⟨u,k b u q⟩,fun b xs q=>sm _ _ q,fun b u xs q=>sm _ _ q,fun b ps q=>⟨#[],by rw [sm _ _ q];simp⟩⟩ fun b u q=>?_;by_cases hb:b<s.heap.objs.size
 · rw [old b hb] at q;exact (I.hok b u q).stay (fun c v _ e=>k c v e) (fun c e=>sm _ _ e) fun c xs e=>sm _ _ e
 · exact new b u (Zv.mp hb) q
def me (H:Hp):List Vd->List (V×V)->Hp
 | t::ts,p::ps=>upd (me H ts ps) t (.tup [p.1,p.2])
 | _,_=>H
theorem lr {H:Hp} {b:Vd}:∀ {ts:List Vd} {ps:List (V×V)},b∉ts->me H ts ps b=H b
 | [],_,_=>rfl
 | _::_,[],_=>rfl
 | t::ts,p::ps,h=>by
   rw [me,ag (fun e=>h (by simp [e]))];exact lr fun m=>h (VB _ m)
theorem pB {H:Hp}:∀ {ts:List Vd} {ps:List (V×V)} {b:Vd} {u:HO},me H ts ps b=some u->H b=some u∨∃ (j:Nat) (p:V×V),ts[j]?=some b/\ps[j]?=some p/\u=.tup [p.1,p.2]
 | [],_,_,_,h=>.inl h
 | _::_,[],_,_,h=>.inl h
 | t::ts,p::ps,b,u,h=>by
   rw [me] at h;by_cases e:b=t
   · subst e;rw [ab] at h;exact .inr ⟨0,p,rfl,rfl,(VL h).symm⟩
   · rw [ag e] at h;rcases pB h with q | ⟨j,p',q1,q2,q3⟩
     · exact .inl q
     · exact .inr ⟨j+1,p',by simpa using q1,by simpa using q2,q3⟩
theorem pO {H:Hp}:∀ {ts:List Vd} {ps:List (V×V)} {t:Vd},ts.length=ps.length->t∈ts->∃ (i:Nat) (p:V×V),ts[i]?=some t/\ps[i]?=some p/\me H ts ps t=some (.tup [p.1,p.2])
 | [],_,_,_,h=>nomatch h
 | _::_,[],_,hl,_=>by simp at hl
 | u::ts,p::ps,t,hl,h=>by
   by_cases e:t=u
   · subst e;exact ⟨0,p,rfl,rfl,by rw [me,ab]⟩
   · obtain ⟨i,p',q1,q2,q3⟩:=pO (H:=H) (ts:=ts) (ps:=ps) (t:=t) (by simpa using hl) (by
      rcases VA.mp h with h | h
      · exact absurd h e
      · exact h)
     exact ⟨i+1,p',by simpa using q1,by simpa using q2,by rw [me,ag e];exact q3⟩
theorem jy {α β:Type} {F:α->β->Prop}:∀ {ps:List α} {ts:List β},ps.length=ts.length->(∀ (j:Nat) p t,ps[j]?=some p->ts[j]?=some t->F p t)->VW F ps ts
 | [],[],_,_=>.nil
 | [],_::_,h,_=>by simp at h
 | _::_,[],h,_=>by simp at h
 | p::ps,t::ts,h,f=>.cons (f 0 p t rfl rfl) (jy (by simpa using h) fun j p' t' e1 e2=>f (j+1) p' t' (by simpa using e1) (by simpa using e2))
theorem rR {P:Nat->Vd->Prop}:∀ {vs:List Vg} (n:Nat),(∀ (j:Nat) v,vs[j]?=some v->∃ T,v=VO T/\P (n+j) T)->∃ ts:List Vd,vs=ts.map VO/\∀ (j:Nat) T,ts[j]?=some T->P (n+j) T
 | [],n,_=>⟨[],rfl,fun j T h=>by simp at h⟩
 | v::vs,n,h=>by
   obtain ⟨T,e1,e2⟩:=h 0 v rfl
   obtain ⟨ts,q1,q2⟩:=rR (P:=P) (vs:=vs) (n+1) fun j v' hv=>by
    have:=h (j+1) v' (by simpa using hv);rw [show n+1+j=n+(j+1) by omega];exact this
   refine ⟨T::ts,by rw [e1,q1];rfl,fun j T' hT=>?_⟩;cases j with
   | zero=>simp at hT;subst hT;exact e2
   | succ j =>
     have:=q2 j T' (by simpa using hT);rw [show n+1+j=n+(j+1) by omega] at this;exact this
theorem wU {α β:Type} {xs:List α} {ys:List β} {j:Nat} {p:α×β} (h:(xs.zip ys)[j]?=some p):xs[j]?=some p.1/\ys[j]?=some p.2:=by
 rw [W9] at h;exact h
def tR (K:Vc) (t:TA):TE:=fun σ H Q=>t σ H fun vs H2=>∃ a b xs ys,vs=[.ref a,.ref b]/\SqT K H2 a xs/\SqT K H2 b ys ∧
 ∀ (l:Vd) (ts:List Vd) (H':Hp),Same H2 H'->H2 l=none->H' l=some (.lst (ts.map V.ref))->VW (fun (p:V×V) t=>H' t=some (.tup [p.1,p.2])) (xs.zip ys) ts->Q (.ref l) H'
section
variable {X:Cx} {e1 e2:Wq} {t:TA} {p p2 pos zW:Yr}
theorem qS (hc:X.calm=true) (g1:Gl X "list") (m1:X.mg "list"=none) (g2:Gl X "zip") (m2:X.mg "zip"=none) (ha:PA X [e1,e2] t)
 (h1:V0 [.Call (.Name "zip" p2) [e1,e2] [] zW] X.env=[(false,Xh (.Call (.Name "zip" p2) [e1,e2] [] zW) X.env)]:=by rfl) (h2:V0 [e1,e2] X.env=(false,Xh e1 X.env)::V0 [e2] X.env:=by rfl) (h3:(Yn zW (V0 [e2] X.env)).any (·.1)=false:=by rfl) :
 PE X (.Call (.Name "list" p) [.Call (.Name "zip" p2) [e1,e2] [] zW] [] pos) (tR X.K t):=by
 intro pins s σ H Q I h;refine WC (cU I g1 m1 boot_list (We ?_ h1 rfl));rw [h1];show Vw _ _ (spliced ((false,Xh (.Call (.Name "zip" p2) [e1,e2] [] zW) X.env)::[])) _ _ s;refine WX ?_;refine WC (cU I g2 m2 boot_zip ?_);refine We (thn (ha zW pins s σ H _ I h) fun us s2 ⟨vs,H2,I2,r,a,b,xs,ys,ev,EY,EZ,q⟩=>?_) h2 h3;subst ev;obtain ⟨u1,u2,rfl,r1,r2⟩:=vals2 r;cases r1;cases r2;obtain ⟨ia,FD,pa,GA⟩:=I2.tuple EY;obtain ⟨ib,FE,pb,LJ⟩:=I2.tuple EZ;have Eh:=FD.length;have Ru:=FE.length;have AN:a<s2.heap.objs.size:=by obtain ⟨o,e,_⟩:=pa;exact Vx e
 have AM:b<s2.heap.objs.size:=by obtain ⟨o,e,_⟩:=pb;exact Vx e
 have hh:X.A.in1.in1.handled=none:=I2.ok.hd hc;refine bb_call_zip (show s2.heap.IsTuple a ia.toArray from pa) (show s2.heap.IsTuple b ib.toArray from pb) fun h' z1 z2 z3 z4 z5 z6 z7=>Xv ?_;have D:ZipApart (s2.heap.objs.size+4) (s2.heap.objs.size+2) (s2.heap.objs.size+3) s2.heap.objs.size (s2.heap.objs.size+1) a b:=zipApart_new AN AM
 have st:ZSt ia.toArray ib.toArray (s2.heap.objs.size+4) (s2.heap.objs.size+2) (s2.heap.objs.size+3) s2.heap.objs.size (s2.heap.objs.size+1) a b 0 h':=by
  refine ⟨D,.inl z1,z2,⟨_,_,z3⟩,z4,z5,?_,?_⟩
  · obtain ⟨o,e,r⟩:=pa;exact ⟨o,z7 _ _ e,r⟩
  · obtain ⟨o,e,r⟩:=pb;exact ⟨o,z7 _ _ e,r⟩
 have hf:∀ c∈[s2.heap.objs.size+4,s2.heap.objs.size+3,s2.heap.objs.size,s2.heap.objs.size+1],s2.heap.objs.size<=c/\c<h'.objs.size:=fun c hc=>by
  simp at hc;rw [z6];have Ao:(c:Nat)=s2.heap.objs.size+4∨(c:Nat)=s2.heap.objs.size+3∨(c:Nat)=s2.heap.objs.size∨(c:Nat)=s2.heap.objs.size+1:=hc;constructor
  · show (s2.heap.objs.size:Nat)<=(c:Nat);omega
  · show (c:Nat)<s2.heap.objs.size+5;omega
 refine bb_list_zip (s:={ s2 with heap:=h' }) hh st rfl (by rw [Vr,Vr];omega) (Vj _) (fun c hc=>(hf c hc).2) fun h2 acc c kp hS zH=>?_;replace hS:h2.get? h'.objs.size=some { cls:=.type "list",dict:=none,data:=.seq acc c,slots:=#[] }:=hS;have FF:∀ b o,s2.heap.get? b=some o->h2.get? b=some o:=fun b o e=>kp b o (fun m=>absurd (Vx e) (Zv.mpr (hf b m).1)) (z7 b o e);obtain ⟨hsz,hit⟩:=zH
 obtain ⟨ts,et,ht⟩:=rR (P:=fun j T=>h'.objs.size<=T/\∃ x y,Xz h2 T x y/\ia.toArray[j]?=some x/\ib.toArray[j]?=some y) (vs:=acc.toList) 0 (fun j v hv=>by
  obtain ⟨T,x,y,g1,g2,g3,g4,g5⟩:=hit j v (by simpa using hv);rw [Nat.zero_add];exact ⟨T,g1,g2,x,y,g3,g4,g5⟩)
 simp only [Nat.zero_add] at ht
 have zY:ts.length=(xs.zip ys).length:=by
  have e:=congrArg Y4 et;rw [Vb,Wr,hsz,Vr,Vr] at e;rw [Yu];omega
 have rel:∀ (j:Nat) (p:V×V) (T:Vd),(xs.zip ys)[j]?=some p->ts[j]?=some T->∃ x y,Xz h2 T x y/\RelV p.1 x/\RelV p.2 y:=fun j p T hp hT=>by
  obtain ⟨_,x,y,g3,g4,g5⟩:=ht j T hT;obtain ⟨Cw,BS⟩:=wU hp;obtain ⟨x',k1,k2⟩:=FD.get Cw;obtain ⟨y',k3,k4⟩:=FE.get BS
  have e1:x'=x:=by
   have:ia[j]?=some x:=by simpa using g4
   rw [k1] at this;exact VL this
  have e2:y'=y:=by
   have:ib[j]?=some y:=by simpa using g5
   rw [k3] at this;exact VL this
  subst e1 e2;exact ⟨_,_,g3,k2,k4⟩
 have same:∀ (i j:Nat) (p p':V×V) (T:Vd),(xs.zip ys)[i]?=some p->(xs.zip ys)[j]?=some p'->ts[i]?=some T->ts[j]?=some T->p=p':=fun i j p p' T h1 h2 h3 h4=>by
  obtain ⟨x,y,g1,g2,g3⟩:=rel i p T h1 h3;obtain ⟨x',y',k1,k2,k3⟩:=rel j p' T h2 h4;have e:=VL (g1.symm.trans k1);have ed:=congrArg Obj.data e;injection ed with Rv _;have el:=congrArg Array.toList Rv;have ex:x=x':=(List.cons.inj el).1;have ey:y=y':=(List.cons.inj (List.cons.inj el).2).1;subst ex ey;obtain ⟨p1,p2⟩:=p;obtain ⟨q1,q2⟩:=p';have f1:p1=q1:=g2.inj k2;have f2:p2=q2:=g3.inj k3;rw [f1,f2]
 have HV:h'.objs.size∉ts:=fun m=>by
  obtain ⟨j,hj⟩:=List.getElem?_of_mem m;obtain ⟨_,x,y,g3,_⟩:=ht j _ hj;exact absurd (W8 (congrArg Obj.cls (VL (g3.symm.trans hS)))) (by decide)
 have Ei:s2.heap.objs.size<h'.objs.size:=by rw [z6];omega
 have HW:∀ T∈ts,h'.objs.size<=T:=fun T m=>by
  obtain ⟨j,hj⟩:=List.getElem?_of_mem m;exact (ht j _ hj).1
 have E1:∀ b,s2.heap.objs.size<=b->H2 b=none:=fun b hb=>I2.hok.fresh hb;have AL:H2 h'.objs.size=none:=E1 _ (Yb Ei)
 have Rw:∀ (j:Nat) (p:V×V) (T:Vd),(xs.zip ys)[j]?=some p->ts[j]?=some T->me H2 ts (xs.zip ys) T=some (.tup [p.1,p.2]):=fun j p T hp hT=>by
  obtain ⟨i,p',k1,k2,k3⟩:=pO (H:=H2) zY (Vh hT);rw [k3,same i j p' p T k2 hp k1 hT]
 have I3:Inv X pins σ (upd (me H2 ts (xs.zip ys)) h'.objs.size (.lst (ts.map V.ref))) { s2 with heap:=h2,toks:=s2.toks }:=by
  refine I2.laidAll FF (fun b hb=>?_) fun b u hb hu=>?_
  · rw [ag (VU (YK hb Ei)),lr];exact fun m=>absurd (YK hb Ei) (Zv.mpr (HW b m))
  · by_cases e:b=h'.objs.size
    · subst e;rw [ab] at hu;cases hu;refine ⟨by rw [Vb,zY,Yu];omega,ts.map VO,c,?_,by rw [<- et];exact hS⟩
      exact jy (by simp) fun j p t e1 e2=>by
       rw [Vp] at e1 e2;cases q:ts[j]? with
       | none=>rw [q] at e1;cases e1
       | some T=>rw [q] at e1 e2;cases e1;cases e2;rfl
    · rw [ag e] at hu;rcases pB hu with q | ⟨j,p,q1,q2,q3⟩
      · rw [E1 b hb] at q;cases q
      · subst q3;obtain ⟨x,y,g1,g2,g3⟩:=rel j p b q2 q1;exact ⟨by show 2<=Vz;decide,[x,y],0,.cons g2 (.cons g3 .nil),g1⟩
 refine ⟨.ref h'.objs.size,_,I3,rfl,q h'.objs.size ts _ (fun b o e=>?_) AL ab ?_⟩
 · have hb:=I2.hok.lt e;rw [ag (VU (YK hb Ei)),lr]
   · exact e
   · exact fun m=>absurd (YK hb Ei) (Zv.mpr (HW b m))
 · refine jy zY.symm fun j p T hp hT=>?_;rw [ag (show T≠h'.objs.size from fun e=>HV (by rw [<- e];exact Vh hT))];exact Rw j p T hp hT
end
end L2
namespace L2
open PySem PySem.Spec PyProof.Rows
section
variable {κ:Type} [DecidableEq κ]
def aQ (f':List (κ×V)) (k:κ):Option V:=(f'.find? fun kv=>decide (kv.1=k)).map (·.2)
def putK (f':List (κ×V)) (k:κ) (v:V):List (κ×V) :=
 if (f'.any fun kv=>decide (kv.1=k))=true then f'.map (fun kv=>if kv.1=k then (kv.1,v) else kv) else f'++[(k,v)]
theorem bE {p:κ×V} {r:List (κ×V)} {k:κ} (e:p.1=k):aQ (p::r) k=some p.2:=by simp [aQ,X3,e]
theorem bD {p:κ×V} {r:List (κ×V)} {k:κ} (e:¬ p.1=k):aQ (p::r) k=aQ r k:=by simp [aQ,X3,e]
theorem dk (k:κ):∀ f':List (κ×V),(f'.any fun kv=>decide (kv.1=k))=(aQ f' k).isSome
 | []=>rfl
 | p::r=>by
   rw [List.any_cons];by_cases e:p.1=k
   · simp only [bE e,decide_eq_true e,Bool.true_or,Option.isSome_some]
   · rw [bD e,decide_eq_false e,Yv];exact dk k r
theorem oJ (k j:κ) (y:V):∀ f':List (κ×V),aQ (f'.map fun kv=>if kv.1=k then (kv.1,y) else kv) j=(aQ f' j).map fun x=>if j=k then y else x
 | []=>rfl
 | p::r=>by
   have ih:=oJ k j y r;rw [V3];by_cases h:p.1=k
   · rw [if_pos h];by_cases e:p.1=j
     · rw [bE (p:=(p.1,y)) e,bE e,X2,if_pos (e.symm.trans h)]
     · rw [bD (p:=(p.1,y)) e,bD e,ih]
   · rw [if_neg h];by_cases e:p.1=j
     · rw [bE (p:=p) e,bE e,X2,if_neg (fun z=>h (e.trans z))]
     · rw [bD (p:=p) e,bD e,ih]
theorem mD (k j:κ) (y:V):∀ f':List (κ×V),aQ f' k=none->aQ (f'++[(k,y)]) j=if j=k then some y else aQ f' j
 | [],_=>by
   by_cases e:k=j
   · rw [if_pos e.symm];exact bE (p:=(k,y)) e
   · rw [if_neg (fun z=>e z.symm)];exact bD (p:=(k,y)) e
 | p::r,hn=>by
   rw [Wn];have hk:¬ p.1=k:=fun z=>by rw [bE z] at hn;cases hn
   rw [bD hk] at hn;have ih:=mD k j y r hn;by_cases e:p.1=j
   · rw [bE e,bE e,if_neg (fun z=>hk (e.trans z))]
   · rw [bD e,bD e,ih]
theorem fQ (f':List (κ×V)) (k j:κ) (y:V):aQ (putK f' k y) j=if j=k then some y else aQ f' j:=by
 unfold putK;by_cases a:(f'.any fun kv=>decide (kv.1=k))=true
 · rw [if_pos a,oJ];rw [dk] at a;by_cases e:j=k
   · obtain ⟨x,hx⟩:=YV.mp a;rw [if_pos e,e,hx,X2,if_pos rfl]
   · rw [if_neg e];cases aQ f' j with
     | none=>rfl
     | some x=>rw [X2,if_neg e]
 · rw [if_neg a];refine mD k j y f' ?_;rw [dk] at a;cases q:aQ f' k with
   | none=>rfl
   | some x=>rw [q] at a;exact (a rfl).elim
theorem bo (f':List (κ×V)) (k:κ) (v:V):(putK f' k v).length<=f'.length+1:=by
 unfold putK;split
 · rw [Vb];omega
 · rw [VD,Vo,Zp];omega
theorem kE {f':List (κ×V)} {k:κ} (v:V) (h:aQ f' k=none):putK f' k v=f'++[(k,v)]:=by
 unfold putK;rw [dk,h];exact if_neg (by decide)
theorem RelO.isSome_eq {o:Option V} {u:Option Vg} (r:RelO o u):o.isSome=u.isSome:=by
 cases o with
 | none=>cases u with
   | none=>rfl
   | some _=>exact (show False from r).elim
 | some _=>cases u with
   | none=>exact (show False from r).elim
   | some _=>rfl
theorem RelO.getD {o:Option V} {u:Option Vg} {d:V} {d':Vg} (r:RelO o u) (rd:RelV d d'):RelV (o.getD d) (u.getD d'):=by
 cases o with
 | none=>cases u with
   | none=>exact rd
   | some _=>exact (show False from r).elim
 | some _=>cases u with
   | none=>exact (show False from r).elim
   | some _=>exact r
theorem KV.val {f':List (κ×V)} {vs:List (κ×Vg)} (r:KV f' vs) (k:κ):RelO (aQ f' k) (valueAt vs k):=by
 unfold KV at r;induction r with
 | nil=>exact XR
 | @cons p q ps qs h t ih =>
   obtain ⟨h1,h2⟩:=h;by_cases e:p.1=k
   · have e':q.1=k:=h1.symm.trans e;have b:valueAt (q::qs) k=some q.2:=by simp [valueAt,X3,e']
     rw [bE e,b];exact h2
   · have e':¬ q.1=k:=fun z=>e (h1.trans z);have b:valueAt (q::qs) k=valueAt qs k:=by simp [valueAt,X3,e']
     rw [bD e,b];exact ih
theorem KV.any {f':List (κ×V)} {vs:List (κ×Vg)} (r:KV f' vs) (k:κ):(f'.any fun kv=>decide (kv.1=k))=vs.any fun kv=>decide (kv.1=k):=by
 unfold KV at r;induction r with
 | nil=>rfl
 | cons h t ih=>rw [List.any_cons,List.any_cons,ih,h.1]
theorem KV.repl {f':List (κ×V)} {vs:List (κ×Vg)} (r:KV f' vs) (k:κ) {y:V} {u:Vg} (ry:RelV y u) :
 KV (f'.map fun kv=>if kv.1=k then (kv.1,y) else kv) (vs.map fun kv=>if kv.1=k then (kv.1,u) else kv):=by
 unfold KV at r ⊢;induction r with
 | nil=>exact .nil
 | @cons p q ps qs h t ih =>
   rw [V3,V3];refine .cons ?_ ih;obtain ⟨h1,h2⟩:=h;by_cases e:p.1=k
   · rw [if_pos e,if_pos (h1.symm.trans e)];exact ⟨h1,ry⟩
   · rw [if_neg e,if_neg (fun z=>e (h1.trans z))];exact ⟨h1,h2⟩
theorem KV.put {f':List (κ×V)} {vs:List (κ×Vg)} (r:KV f' vs) (k:κ) {y:V} {u:Vg} (ry:RelV y u):KV (putK f' k y) (stored vs k u):=by
 unfold putK stored;rw [r.any k];by_cases e:(vs.any fun kv=>decide (kv.1=k))=true
 · rw [if_pos e,if_pos e];exact r.repl k ry
 · rw [if_neg e,if_neg e];exact Paired.snoc r ⟨rfl,ry⟩
theorem KV.length {f':List (κ×V)} {vs:List (κ×Vg)} (r:KV f' vs):f'.length=vs.length:=Vv r
end
theorem jY {P:Vu} {w:VI} {k:Key} {u:Vg} (r:RelV (kV k) u):(ay P w).is k u=true:=by
 cases k with
 | inl i=>obtain ⟨t,e⟩:=(show ∃ t,u=Value.int i t from r);subst e;exact oX P w i t
 | inr x=>obtain ⟨t,e⟩:=(show ∃ t,u=Value.str x t from r);subst e;exact oK P w x t
theorem m3 {P:Vu} {w:VI}:∀ {ks:List Key} {us:List Vg},Vals (ks.map kV) us->ItemsAre (ay P w) ks us
 | [],_,r=>by rw [Xd] at r;cases r;exact .nil
 | k::ks,_,r=>by
   rw [V3] at r;cases r with
   | cons h t=>exact .cons (jY h) (m3 t)
abbrev KTd (H:Hp):List (List Key×V)->List (List Key×Vd×Vg)->Prop:=VW fun p q=>p.1=q.1/\H q.2.1=some (.tup (p.1.map kV))/\RelV p.2 q.2.2
theorem KTd.val {H:Hp} {f':List (List Key×V)} {xs:List (List Key×Vd×Vg)} (r:KTd H f' xs) (k:List Key):RelO (aQ f' k) ((YT xs k).map (·.2)):=by
 induction r with
 | nil=>exact XR
 | @cons p q ps qs h t ih =>
   obtain ⟨h1,_,h2⟩:=h;by_cases e:p.1=k
   · have e':q.1=k:=h1.symm.trans e;have b:YT (q::qs) k=some q.2:=by simp [YT,X3,e']
     rw [bE e,b];exact h2
   · have e':¬ q.1=k:=fun z=>e (h1.trans z);have b:YT (q::qs) k=YT qs k:=by simp [YT,X3,e']
     rw [bD e,b];exact ih
theorem KTd.repl {H:Hp} {f':List (List Key×V)} {xs:List (List Key×Vd×Vg)} (r:KTd H f' xs) (k:List Key) {y:V} {u:Vg} (ry:RelV y u) :
 KTd H (f'.map fun kv=>if kv.1=k then (kv.1,y) else kv) (xs.map (putAt k u)):=by
 induction r with
 | nil=>exact .nil
 | @cons p q ps qs h t ih =>
   rw [V3,V3];refine .cons ?_ ih;obtain ⟨h1,h2,h3⟩:=h;unfold putAt;by_cases e:p.1=k
   · rw [if_pos e,if_pos (h1.symm.trans e)];exact ⟨h1,h2,ry⟩
   · rw [if_neg e,if_neg (fun z=>e (h1.trans z))];exact ⟨h1,h2,h3⟩
theorem KTd.put {H:Hp} {f':List (List Key×V)} {xs:List (List Key×Vd×Vg)} (r:KTd H f' xs) (k:List Key) {b:Vd} {y:V} {u:Vg} (hb:H b=some (.tup (k.map kV))) (ry:RelV y u) :
 KTd H (putK f' k y) (Z3 xs k b u):=by
 have e:(f'.any fun kv=>decide (kv.1=k))=(YT xs k).isSome:=by
  rw [dk,(r.val k).isSome_eq,Option.isSome_map]
 unfold putK Z3;rw [e];by_cases q:(YT xs k).isSome=true
 · rw [if_pos q,if_pos q];exact r.repl k ry
 · rw [if_neg q,if_neg q];exact Paired.snoc r ⟨rfl,hb,ry⟩
theorem KTd.keeps {H H':Hp} {f':List (List Key×V)} {xs:List (List Key×Vd×Vg)} (r:KTd H f' xs) (ht:∀ b ys,H b=some (.tup ys)->H' b=some (.tup ys)):KTd H' f' xs :=
 VW.mapP r fun _ _ z=>⟨z.1,ht _ _ z.2.1,z.2.2⟩
section
variable {P:Vu} {w:VI} {H:Hp} {h:Wx} {a:Vd}
theorem wA {u:HO} (ok:HOk P w H h) (e:Rd H a u):ObjOk P w H h a u:=e.ok ok
theorem lY {f':List (Key×V)} (ok:HOk P w H h) (e:Rd H a (.dK f')):f'.length<=Vz/\(a == Xc)=false/\∃ vs,KV f' vs/\h.DictOf (ay P w) a vs :=
 show ObjOk P w H h a (.dK f') from wA ok e
theorem rA {f':List (Key×V)} (ok:HOk P w H h) (e:H a=some (.dK f')):f'.length<=Vz/\(a == Xc)=false/\∃ vs,KV f' vs/\h.DictOf (ay P w) a vs:=lY ok (.inl e)
theorem g9 {ks:List Key} (ok:HOk P w H h) (e:H a=some (.tup (ks.map kV))):(tupleKind (ay P w)).is h ks a:=by
 obtain ⟨_,its,n,r,h1⟩:=(show ObjOk P w H h a (.tup (ks.map kV)) from ok a _ e);exact ⟨_,its.toArray,n,h1,rfl,rfl,by simpa using m3 r⟩
theorem mW {f':List (List Key×V)} (ok:HOk P w H h) (e:Rd H a (.dT f')):f'.length<=Vz/\(a == Xc)=false ∧
 ∃ xs,KTd H f' xs/\h.DictOfH (tupleKind (ay P w)) a xs:=by
 obtain ⟨z,y,xs,r,o,es,ep,h1,h2,h3,h4,h5⟩:=(show ObjOk P w H h a (.dT f') from wA ok e);refine ⟨z,y,xs,r,o,es,ep,h1,h2,h3,h4,fun x hx=>?_,h5⟩
 have all:∀ {l:List (List Key×V)} {m:List (List Key×Vd×Vg)},KTd H l m->∀ x∈m,(tupleKind (ay P w)).is h x.1 x.2.1:=by
  intro l m q;induction q with
  | nil=>intro x hx;exact nomatch hx
  | @cons p q ps qs hq t ih =>
    intro x hx;rcases VA.mp hx with e | hx
    · subst e;exact g9 ok (by rw [<- hq.1];exact hq.2.1)
    · exact ih x hx
 exact all r x hx
theorem wx {f':List (List Key×V)} (ok:HOk P w H h) (e:H a=some (.dT f')):f'.length<=Vz/\(a == Xc)=false ∧
 ∃ xs,KTd H f' xs/\h.DictOfH (tupleKind (ay P w)) a xs:=mW ok (.inl e)
end
def DGet (H:Hp) (a:Vd) (y:V) (r:Option V):Prop :=
 (∃ f' k,Rd H a (.dK f')/\y=kV k/\r=aQ f' k)∨∃ f' k b,Rd H a (.dT f')/\y=.ref b/\H b=some (.tup (k.map kV))/\r=aQ f' k
def DPut (H:Hp) (a:Vd) (y v:V) (H':Hp):Prop :=
 (∃ f' k,H a=some (.dK f')/\y=kV k/\f'.length<Vz/\H'=upd H a (.dK (putK f' k v))) ∨
 ∃ f' k b,H a=some (.dT f')/\y=.ref b/\H b=some (.tup (k.map kV))/\f'.length<Vz/\H'=upd H a (.dT (putK f' k v))
theorem DGet.k {H:Hp} {a:Vd} {f':List (Key×V)} {k:Key} (e:H a=some (.dK f')):DGet H a (kV k) (aQ f' k):=.inl ⟨f',k,.inl e,rfl,rfl⟩
theorem DGet.t {H:Hp} {a b:Vd} {f':List (List Key×V)} {k:List Key} (e:H a=some (.dT f')) (eb:H b=some (.tup (k.map kV))):DGet H a (.ref b) (aQ f' k):=.inr ⟨f',k,b,.inl e,rfl,eb,rfl⟩
theorem DPut.t {H:Hp} {a b:Vd} {f':List (List Key×V)} {k:List Key} {v:V} (e:H a=some (.dT f')) (eb:H b=some (.tup (k.map kV))) (hl:f'.length<Vz) :
 DPut H a (.ref b) v (upd H a (.dT (putK f' k v))):=.inr ⟨f',k,b,e,rfl,eb,hl,rfl⟩
section
variable {X:Cx} {pins:List (Vd×Xq)} {σ:St} {H:Hp} {s:Vm} {a:Vd} {y v:V} {u r:Vg} {o:Option V} {A:V2} {E:Vg->Vm->Prop}
theorem Inv.big (I:Inv X pins σ H s):Xc<s.heap.objs.size:=by
 have h:VS<s.heap.objs.size:=(I.mod.glob.keeps I.bk).lt;exact YK (by decide) h
theorem sY {Q:Vg->Vm->Prop} (hu:A.units+1<W7) (I:Inv X pins σ H s) (g:DGet H a y (some v)) (ry:RelV y u) (h:∀ w' s',Inv X pins σ H s'->RelV v w'->Q w' s') :
 Vw (VN X.prog X.w) A (Zj (.ref a) u) Q E s:=by
 rcases g with ⟨f',k,e,ey,l⟩ | ⟨f',k,b,e,ey,eb,l⟩
 · subst ey;obtain ⟨z,hd,vs,rel,dd⟩:=lY I.hok e;obtain ⟨w',hw,CD⟩:=RelO.some_of (v:=v) (o:=valueAt vs k) (by rw [l];exact rel.val k);exact wpAny_getItem_of (jY ry) dd.mapOf hw (h w' _ (I.tok _) CD)
 · subst ey;cases (show u=VO b from ry);obtain ⟨z,hd,xs,rel,dd⟩:=mW I.hok e;obtain ⟨w',hw,CD⟩:=RelO.some_of (v:=v) (o:=(YT xs k).map (·.2)) (by rw [l];exact rel.val k);obtain ⟨p,hp,BS⟩:=Wd.mp hw;refine wpAny_getItem_heap (Y9 hu) (g9 I.hok eb) dd hp ?_;rw [BS];exact h w' _ (I.tok _) CD
theorem y9 {Q:Vg->Vm->Prop} (hu:A.units+1<W7) (I:Inv X pins σ H s) (g:DGet H a y o) (ry:RelV y u) (h:∀ s',Inv X pins σ H s'->Q (.bool o.isSome) s') :
 Vw (VN X.prog X.w) A (Za .In u (.ref a)) Q E s:=by
 rcases g with ⟨f',k,e,ey,l⟩ | ⟨f',k,b,e,ey,eb,l⟩
 · subst ey;obtain ⟨z,hd,vs,rel,dd⟩:=lY I.hok e;refine wpAny_in_of (jY ry) hd dd.mapOf ?_;rw [<- (rel.val k).isSome_eq,<- l];exact h _ (I.tok _)
 · subst ey;cases (show u=VO b from ry);obtain ⟨z,hd,xs,rel,dd⟩:=mW I.hok e;refine wpAny_in_heap (Y9 hu) (g9 I.hok eb) hd dd ?_;have q:=(rel.val k).isSome_eq;rw [Option.isSome_map] at q;rw [<- q,<- l];exact h _ (I.tok _)
theorem fy {h':Wx} {t':Nat} {ob:HO} (I:Inv X pins σ H s) (mu:Mut (H a)) (hs:W3 a s.heap h') (he:∃ q,h'.get? a=some q) (new:ObjOk X.prog X.w (upd H a ob) h' a ob) :
 Inv X pins σ (upd H a ob) { s with heap:=h',toks:=t' } :=
 I.write (x:=a) (e:=a) mu (.inl rfl) (fun b q hb z=>(hs.2 b hb).trans z) he new
theorem va {P:Vu} {w:VI} {H':Hp} {h':Wx} {f':List (Key×V)} {vs:List (Key×Vg)} (z:f'.length<=Vz) (hd:(a == Xc)=false) (rel:KV f' vs) (dd:h'.DictOf (ay P w) a vs) :
 ObjOk P w H' h' a (.dK f'):=⟨z,hd,vs,rel,dd⟩
theorem tI {H':Hp} {Q:Unit->Vm->Prop} (hu:A.units+1<W7) (I:Inv X pins σ H s) (g:DPut H a y v H') (ry:RelV y u) (rv:RelV v r) (h:∀ s',Inv X pins σ H' s'->Q () s') :
 Vw (VN X.prog X.w) A (setItem (.ref a) u r) Q E s:=by
 rcases g with ⟨f',k,e,ey,l,eH⟩ | ⟨f',k,b,e,ey,eb,l,eH⟩
 · subst ey eH;obtain ⟨z,hd,vs,rel,dd⟩:=rA I.hok e;have hz:vs.length<=Vz:=by rw [<- rel.length];exact z
   have hl:(putK f' k v).length<=Vz:=by have:=bo f' k v;omega
   refine wpAny_setItem_pairs (hsz:=hz) (jY ry) dd fun h' B2 hs=>h _ ?_;have he:∃ q,h'.get? a=some q:=let ⟨q,_,_,hq,_⟩:=B2;⟨q,hq⟩
   exact fy I (by rw [e];exact XR) hs he (va hl hd (rel.put k rv) B2)
 · subst ey eH;cases (show u=VO b from ry);obtain ⟨z,hd,xs,rel,dd⟩:=wx I.hok e;have hz:xs.length<=Vz:=by rw [<- Vv rel];exact z
   have hl:(putK f' k v).length<=Vz:=by have:=bo f' k v;omega
   refine wpAny_setItem_heap (hsz:=hz) (Y9 hu) (g9 I.hok eb) dd fun h' B2 hs=>h _ ?_;obtain ⟨q,es,ep,hq,h2,h3,h4,_,h5⟩:=B2;refine fy I (by rw [e];exact XR) hs ⟨q,hq⟩ ⟨hl,hd,_,(rel.put k eb rv).keeps fun c ys ec=>?_,q,es,ep,hq,h2,h3,h4,h5⟩;rw [ag (fN ec e (fun z=>nomatch z))];exact ec
end
section
variable {X:Cx} {pins:List (Vd×Xq)} {σ:St} {H:Hp} {s:Vm} {a:Vd} {f':List (Key×V)} {k:Key} {u:Vg} {A:V2} {E:Vg->Vm->Prop}
theorem yy {Q:Vg->Vm->Prop} (I:Inv X pins σ H s) (e:Rd H a (.dK f')) (h:∀ t s',Inv X pins σ H s'->Q (.int f'.length t) s'):Vw (VN X.prog X.w) A (call (.builtin "len") [.ref a]) Q E s:=by
 obtain ⟨z,hd,vs,rel,dd⟩:=lY I.hok e;refine call_len_dict hd dd (by rw [<- rel.length];rw [YA] at z;omega) ?_;rw [<- rel.length];exact h _ _ (I.tok _)
end
def xo (i:Wq):Prop:=∀ ov iv,subscripted i false ov iv=operate [ov,iv] (Zj ov iv)
theorem rn {prog:Vu} {w:VI} {A:V2} {E:Vg->Vm->Prop} {s:Vm} {env:Env} {value slice:Wq} {pos:Yr} {T id:String} {Q:Vg->Vm->Prop}
 (hl:YS (.type T) "__getitem__"=pure (some (.builtin id))) (hs:xo slice)
 (h:Vw (VN prog w) A (Xh value env) (fun o zt=>Vw (VN prog w) A (Xh slice env) (fun i Ad=>Ad.TypeIs o T/\Vw (VN prog w) A (Zj o i) Q E Ad) E zt) E s) :
 Vw (VN prog w) A (Xh (.Subscript value slice pos) env) Q E s:=by
 refine Subscript_ (Xu h (fun o zt zM=>Xu zM (fun i Ad Ap=>?_) fun _ _ x=>x) fun _ _ x=>x);obtain ⟨hT,Ap⟩:=Ap;unfold subscriptTail;refine Va ?_;rw [getitemInPython_of_ne hT.not_modules];refine Va (WR hT hl ?_)
 have fin:Vw (VN prog w) A (subscripted slice false o i) (fun r Bp=>Vw (VN prog w) A (letTemporaryGo value o r >>= fun _=>pure r) Q E Bp) E Ad:=by
  rw [hs o i];exact wpAny_operating (Xu Ap (fun r Bp BL=>Va (wpAny_letTemporaryGo (Vk BL))) fun _ _ x=>x)
 first
  | exact Vk (Va fin)
  | exact Va (Vk (Va fin))
  | exact Va fin
theorem pX {X:Cx} {pins:List (Vd×Xq)} {σ:St} {H:Hp} {s:Vm} {a:Vd} {y:V} {o:Option V} (I:Inv X pins σ H s) (g:DGet H a y o):s.TypeIs (.ref a) "dict":=by
 rcases g with ⟨f',k,e,_,_⟩ | ⟨f',k,b,e,_,_,_⟩
 · obtain ⟨_,_,vs,_,dd⟩:=lY I.hok e;exact dd.typeIs
 · obtain ⟨_,_,xs,_,dd⟩:=mW I.hok e;exact dd.typeIs
def yB (td ty:TE):TE:=fun σ H Q=>td σ H fun x H1=>ty σ H1 fun y H2=>∃ a v,x=.ref a/\DGet H2 a y (some v)/\Q v H2
def yY (ty td:TE):TE:=fun σ H Q=>ty σ H fun y H1=>td σ H1 fun x H2=>∃ a o,x=.ref a/\DGet H2 a y o/\Q (.bl o.isSome) H2
def yw (td ty tv:TE):TS:=fun D σ H=>tv σ H fun v H1=>td σ H1 fun x H2=>ty σ H2 fun y H3=>∃ a H4,x=.ref a/\DPut H3 a y v H4/\D.nx σ H4
section
variable {X:Cx} {o i e value:Wq} {pos pos' Hl:Yr} {td ty tv:TE}
theorem kl (hu:X.A.units+1<W7) (ho:PE X o td) (hi:PE X i ty) (hs:xo i):PE X (.Subscript o i pos) (yB td ty):=by
 intro pins s σ H Q I h;refine rn PySem.F.slot_dict_getitem.lookup hs (thn (ho pins s σ H _ I h) fun u s1 ⟨x,H1,I1,rx,q1⟩=>thn (hi pins s1 σ H1 _ I1 q1) fun iv s2 ⟨y,H2,I2,ry,a,v,ex,g,q2⟩=>?_);subst ex;obtain rfl:u=VO a:=rx;exact ⟨pX I2 g,sY hu I2 g ry fun w' s3 I3 CD=>⟨v,H2,I3,CD,q2⟩⟩
theorem xn (hu:X.A.units+1<W7) (hi:PE X i ty) (ho:PE X o td):PC X .In i o (yY ty td):=by
 intro pins s σ H Q I h;refine thn (hi pins s σ H _ I h) fun iv s1 ⟨y,H1,I1,ry,q1⟩=>thn (ho pins s1 σ H1 _ I1 q1) fun u s2 ⟨x,H2,I2,rx,a,ov,ex,g,q2⟩=>?_;subst ex;obtain rfl:u=VO a:=rx;exact y9 hu I2 g ry fun s3 I3=>⟨.bl ov.isSome,H2,I3,rfl,q2⟩
theorem nJ (hu:X.A.units+1<W7) (ho:PE X o td) (hi:PE X i ty) (hv:PE X value tv) (hs:swapsWith value (some (.Subscript o i pos')) pos.line X.env=pure false) :
 PS X (.Assign [.Subscript o i pos'] value pos) (yw td ty tv):=by
 intro pins s σ H D I h;refine wpAny_Assign_Subscript (thn (hv pins s σ H _ I h) fun r s1 ⟨v,H1,I1,rv,q1⟩=>thn (ho pins s1 σ H1 _ I1 q1) fun u s2 ⟨x,H2,I2,rx,q2⟩=>thn (hi pins s2 σ H2 _ I2 q2) fun iv s3 ⟨y,H3,I3,ry,a,H4,ex,g,q3⟩=>?_) hs;subst ex;obtain rfl:u=VO a:=rx;exact tI hu I3 g ry rv fun s4 I4=>⟨σ,H4,I4,q3⟩
end
theorem oO {P:Vu} {w:VI} {H:Hp} (h:Wx) (hb:Xc<h.objs.size):ObjOk P w H (h.push { cls:=.type "dict",data:=.dict #[] }) h.objs.size (.dK []) :=
 ⟨VJ _,beq_eq_false_iff_ne.mpr (W4 (VU hb)),[],.nil,Heap.DictOf.new h⟩
theorem oA {P:Vu} {w:VI} {H:Hp} (h:Wx) (hb:Xc<h.objs.size):ObjOk P w H (h.push { cls:=.type "dict",data:=.dict #[] }) h.objs.size (.dT []) :=
 ⟨VJ _,beq_eq_false_iff_ne.mpr (W4 (VU hb)),[],.nil,_,#[],0,Vq _ rfl,⟨rfl,rfl,rfl⟩,rfl,rfl,Zy⟩
def xN:TE:=fun _ H Q=>∀ p,H p=none->Q (.ref p) (upd H p (.dK []))
def xE:TE:=fun _ H Q=>∀ p,H p=none->Q (.ref p) (upd H p (.dT []))
section
variable {X:Cx} {pos:Yr}
theorem pA:PE X (.Dict [] [] pos) xN:=fun pins s σ H Q I h =>
 wpAny_Dict_empty ⟨.ref s.heap.objs.size,_,I.laid (a:=s.heap.objs.size) (o:=.dK []) (t':=s.toks) (fun _ _ q=>Vi _ q) (Vj _) (oO s.heap I.big),rfl,h _ (I.hok.fresh (Vj _))⟩
theorem l4:PE X (.Dict [] [] pos) xE:=fun pins s σ H Q I h =>
 wpAny_Dict_empty ⟨.ref s.heap.objs.size,_,I.laid (a:=s.heap.objs.size) (o:=.dT []) (t':=s.toks) (fun _ _ q=>Vi _ q) (Vj _) (oA s.heap I.big),rfl,h _ (I.hok.fresh (Vj _))⟩
end
def qG:List (TE×TE)->St->Hp->(List (V×V)->Hp->Prop)->Prop
 | [],_,H,Q=>Q [] H
 | (tk,tv)::r,σ,H,Q=>tk σ H fun x H1=>tv σ H1 fun y H2=>qG r σ H2 fun ps H3=>Q ((x,y)::ps) H3
abbrev VV:List (V×V)->List (Vg×Vg)->Prop:=VW fun p q=>RelV p.1 q.1/\RelV p.2 q.2
def PPs (X:Cx) (pos:Yr) (keys:List (Option Wq)) (values:List Wq) (Ej:List (TE×TE)):Prop :=
 ∀ (pins:List (Vd×Xq)) (s:Vm) (σ:St) (H:Hp) (Q:List (V×V)->Hp->Prop),Inv X pins σ H s->qG Ej σ H Q →
   Vw (VN X.prog X.w) X.A (evalPairs (pairTrees keys values X.env pos)) (fun vs s'=>∃ ps H',Inv X pins σ H' s'/\VV ps vs/\Q ps H') X.xe s
theorem si {X:Cx} {pos:Yr}:PPs X pos [] [] []:=fun pins s σ H Q I h=>pairTrees_nil_walk ⟨[],H,I,.nil,h⟩
theorem pG {X:Cx} {pos:Yr} {k v:Wq} {ks:List (Option Wq)} {vs:List Wq} {tk tv:TE} {Ej:List (TE×TE)} (hk:PE X k tk) (hv:PE X v tv) (hr:PPs X pos ks vs Ej) :
 PPs X pos (some k::ks) (v::vs) ((tk,tv)::Ej):=fun pins s σ H Q I h =>
 pairTrees_cons_walk (thn (hk pins s σ H _ I h) fun u s1 ⟨x,H1,I1,rx,q1⟩=>thn (hv pins s1 σ H1 _ I1 q1) fun w2 s2 ⟨y,H2,I2,ry,q2⟩ =>
  thn (hr pins s2 σ H2 _ I2 q2) fun ws s3 ⟨ps,H3,I3,rel,q3⟩=>⟨(x,y)::ps,H3,I3,.cons ⟨rx,ry⟩ rel,q3⟩)
def jq (f' more:List (Key×V)):List (Key×V):=more.foldl (fun acc kv=>putK acc kv.1 kv.2) f'
theorem KV.merge:∀ {more:List (Key×V)} {rs:List (Key×Vg)} {f':List (Key×V)} {vs:List (Key×Vg)},KV more rs->KV f' vs->KV (jq f' more) (merged vs rs):=by
 intro more rs f' vs r;unfold KV at r;induction r generalizing f' vs with
 | nil=>intro q;exact q
 | @cons p q ps qs h t ih =>
   intro r0
   have e:KV (putK f' p.1 p.2) (stored vs q.1 q.2):=by
    have:=r0.put p.1 h.2;rw [<- h.1];exact this
   exact ih e
theorem gR:∀ (more f':List (Key×V)),(jq f' more).length<=f'.length+more.length
 | [],f'=>by show f'.length<=f'.length+0;omega
 | p::r,f'=>by
   have h1:=gR r (putK f' p.1 p.2);have h2:=bo f' p.1 p.2;show (jq (putK f' p.1 p.2) r).length<=_;rw [Vo];omega
theorem kA {P:Vu} {w:VI}:∀ {f':List (Key×V)} {ws:List (Vg×Vg)},VV (f'.map fun kv=>(kV kv.1,kv.2)) ws->∃ rs,Carries (ay P w) ws rs/\KV f' rs
 | [],_,r=>by rw [Xd] at r;cases r;exact ⟨[],XR,.nil⟩
 | p::f',_,r=>by
   rw [V3] at r;cases r with
   | @cons a b as bs h t =>
     obtain ⟨rs,c,q⟩:=kA (P:=P) (w:=w) t;obtain ⟨b1,b2⟩:=b;exact ⟨(p.1,b2)::rs,⟨jY h.1,rfl,c⟩,.cons ⟨rfl,h.2⟩ q⟩
def yA (Ej:List (TE×TE)):TE:=fun σ H Q=>∀ p,H p=none->qG Ej σ (upd H p (.dK [])) fun ps H2=>H2 p=some (.dK [])/\∃ f':List (Key×V),ps=f'.map (fun kv=>(kV kv.1,kv.2))/\f'.length<=15/\Q (.ref p) (upd H2 p (.dK (jq [] f')))
theorem rM {X:Cx} {pos:Yr} {keys:List (Option Wq)} {values:List Wq} {Ej:List (TE×TE)} (h:PPs X pos keys values Ej) (zE:keys.all (·.isSome)=true) (hl:keys.length=values.length) (h0:keys≠[])
 (Rx:keys.length<=15):PE X (.Dict keys values pos) (yA Ej):=by
 intro pins s σ H Q I q;have hn:=I.hok.fresh (Vj s.heap.objs.size);have I1:=I.laid (a:=s.heap.objs.size) (o:=.dK []) (h':=s.heap.push { cls:=.type "dict",data:=.dict #[] }) (t':=s.toks) (fun _ _ q=>Vi _ q) (Vj _) (oO s.heap I.big);refine wpAny_Dict_walk (knd:=ay X.prog X.w) zE hl h0 Rx (thn (h pins _ σ _ _ I1 (q _ hn)) fun ws s2 ⟨ps,H2,I2,rel,e,f',ep,lk,q2⟩=>?_);subst ep;obtain ⟨rs,c,rk⟩:=kA (P:=X.prog) (w:=X.w) rel;obtain ⟨z,hd,Ur,r0,dd⟩:=rA I2.hok e;cases r0;refine ⟨rs,c,dd,fun h' B2 hs=>⟨.ref s.heap.objs.size,_,?_,rfl,q2⟩⟩
 have hz:(jq [] f').length<=Vz:=by
  have h1:=gR f' [];rw [Zp] at h1;rw [YA];omega
 have he:∃ q,h'.get? s.heap.objs.size=some q:=let ⟨q,_,_,hq,_⟩:=B2;⟨q,hq⟩
 exact fy I2 (by rw [e];exact XR) hs he (va hz hd (rk.merge .nil) B2)
structure M2 (X:Cx) (o:Wq) (m:VM) (apos:Yr) (e f:Wq) (zL:Yr):Prop where
 base:Zt o m X.env (Xh o X.env)=Xh o X.env
 few:((Yn zL (V0 [e,f] X.env)).all (fun x=>!x.1) && (backToKw zL (keywordEach [] X.env)).all (fun x=>x.1.isSome)
  && decide (([e,f]:List Wq).length+([]:List Keyword).length+(if ([]:List Keyword).isEmpty then 0 else 1)<30))=true
 line:(apos.endLine == zL.line)=true
 trees:Yn zL (V0 [e,f] X.env)=[(false,Xh e X.env),(false,Xh f X.env)]
def IsD (H:Hp) (a:Vd):Prop:=(∃ f',Rd H a (.dK f'))∨∃ f',Rd H a (.dT f')
theorem xC {X:Cx} {pins:List (Vd×Xq)} {σ:St} {H:Hp} {s:Vm} {a:Vd} (I:Inv X pins σ H s) (d:IsD H a) :
 s.TypeIs (.ref a) "dict"/\(∀ b,VO a=.ref b->∃ ob,s.heap.get? b=some ob/\ob.dict=none)/\(a == Xc)=false:=by
 rcases d with ⟨f',e⟩ | ⟨f',e⟩
 · obtain ⟨_,hd,vs,_,dd⟩:=lY I.hok e;refine ⟨dd.typeIs,fun b q=>?_,hd⟩;cases q;obtain ⟨ob,_,_,h1,h2,_⟩:=dd;exact ⟨ob,h1,h2.2.1⟩
 · obtain ⟨_,hd,xs,_,dd⟩:=mW I.hok e;refine ⟨dd.typeIs,fun b q=>?_,hd⟩;cases q;obtain ⟨ob,_,_,h1,h2,_⟩:=dd;exact ⟨ob,h1,h2.2.1⟩
section
variable {X:Cx} {pins:List (Vd×Xq)} {σ:St} {H:Hp} {s:Vm} {a:Vd} {y d:V} {u r:Vg} {o:Option V} {A:V2} {E:Vg->Vm->Prop}
theorem xz {Q:Vg->Vm->Prop} (hu:A.units+1<W7) (I:Inv X pins σ H s) (g:DGet H a y o) (ry:RelV y u) (rd:RelV d r) (h:∀ w' s',Inv X pins σ H s'->RelV (o.getD d) w'->Q w' s') :
 Vw (VN X.prog X.w) A (call (.builtin "dict.get") [.ref a,u,r]) Q E s:=by
 rcases g with ⟨f',k,e,ey,l⟩ | ⟨f',k,b,e,ey,eb,l⟩
 · subst ey;obtain ⟨z,hd,vs,rel,dd⟩:=lY I.hok e;refine call_meetsIn Yw dd.typeIs ZW (ZQ _ _ _) (meets_dict_get_default (ay X.prog X.w) a (jY ry) hd r) ⟨_,dd.mapOf,h _ _ (I.tok _) ?_⟩;rw [l];exact (rel.val k).getD rd
 · subst ey;cases (show u=VO b from ry);obtain ⟨z,hd,xs,rel,dd⟩:=mW I.hok e;refine call_meetsIn Yw dd.typeIs ZW (ZQ _ _ _) (meetsH_dict_get_default (tupleKind (ay X.prog X.w)) a b hd r) ⟨Y9 hu,k,xs,g9 I.hok eb,dd,h _ _ (I.tok _) ?_⟩;rw [l];exact (rel.val k).getD rd
end
def uY (td ty tx:TE):TE:=fun σ H Q=>td σ H fun x H1=>∃ a,x=.ref a/\IsD H1 a/\ty σ H1 fun y H2=>tx σ H2 fun z H3=>∃ o,DGet H3 a y o/\Q (o.getD z) H3
section
variable {X:Cx} {o e f:Wq} {apos zL:Yr} {td ty tx:TE}
theorem tW (hu:X.A.units+1<W7) (ho:PE X o td) (he:PE X e ty) (hf:PE X f tx) (m:M2 X o "get" apos e f zL):PE X (.Call (.Attribute o "get" apos) [e,f] [] zL) (uY td ty tx):=by
 intro pins s σ H Q I h;refine wpAny_Call_method m.base m.few m.line Y3 Yw PySem.F.type_dict_get (thn (ho pins s σ H _ I h) fun u s1 ⟨x,H1,I1,rx,a,ex,d,q1⟩=>?_);subst ex;obtain rfl:u=VO a:=rx;obtain ⟨t1,t2,_⟩:=xC I1 d;refine ⟨t1,t2,?_⟩;rw [m.trees]
 refine YB rfl (ZA (WX (thn (he pins s1 σ H1 _ I1 q1) fun iv s2 ⟨y,H2,I2,ry,q2⟩ =>
  WX (thn (hf pins s2 σ H2 _ I2 q2) fun fv s3 ⟨z,H3,I3,rz,ov,g,q3⟩=>Xv ?_))))
 exact xz hu I3 g ry rz fun w' s4 I4 CD=>⟨_,H3,I4,CD,q3⟩
end
section
variable {X:Cx} {pins:List (Vd×Xq)} {σ:St} {H:Hp} {s:Vm} {a:Vd} {f':List (Key×V)} {A:V2} {E:Vg->Vm->Prop}
end
section
variable {X:Cx} {pins:List (Vd×Xq)} {σ:St} {H:Hp} {s:Vm} {a:Vd} {y:V} {u:Vg} {A:V2} {E:Vg->Vm->Prop}
end
end L2
namespace L2
open PySem PySem.Spec PyProof.Rows
theorem ug {α:Type} {js:List (Option Nat)} {g:TG} {tt:TT} {te:TE} {σ:St} {J:It} {H:Hp} {xs:List V} {fin:Vd->Hp->Prop} (zs:List α) (p:α->Bool) (f:α->V) (hz:zs.length=xs.length) (hn:xs.length<=1000000)
 (Ef:∀ i H2,Same H H2->i<xs.length->J.go i H2) (Ax:∀ H2,Same H H2->J.stop xs.length H2) (Br:∀ (i:Nat) H2 x H3,Same H H2->i<xs.length->J.yld i H2 x H3->H3=H2/\xs[i]?=some x)
 (hb:∀ (i:Nat) x z H2 (R:VK) (R0:Hp->Prop),xs[i]?=some x->zs[i]?=some z->Same H H2->(p z=true->R (f z) H2)->(p z=false->R0 H2)->g x (cσ js σ) H2 fun zU H3=>tt zU H3 fun b H4=>if b=true then te zU H4 R else R0 H4)
 (q:∀ D,H D=none->fin D (upd H D (.lst ((zs.filter p).map f)))) :
 ∀ D,H D=none->∃ (n:Nat) (W:Nat->Hp->Prop),W 0 (upd H D (.lst []))/\gG js g tt te σ J D n W fun H'=>fin D H':=by
 intro D hD;refine ⟨xs.length,fun i H2=>i<=xs.length/\H2=upd H D (.lst (((zs.take i).filter p).map f)),⟨VJ _,by simp⟩,?_⟩;rintro i H2 ⟨hi,rfl⟩;have sm:∀ o,Same H (upd H D o):=fun o=>ad hD o;by_cases h:i=xs.length
 · left;subst h;refine ⟨Ax _ (sm _),?_⟩;rw [<- hz,W6];exact q D hD
 · right;have Ak:i<xs.length:=by omega
   refine ⟨Ak,Ef i _ (sm _) Ak,fun x H1 hy=>?_⟩;obtain ⟨rfl,hx⟩:=Br i _ x H1 (sm _) Ak hy;have Lp:i<zs.length:=by omega
   have e1:zs[i]?=some zs[i]:=Ve Lp
   have e2:(zs.take (i+1)).filter p=(zs.take i).filter p++(if p zs[i]=true then [zs[i]] else []):=by
    rw [Ww,e1,Yq];show _++List.filter p [zs[i]]=_;rw [Wm,Z5]
   have hlen:(((zs.take i).filter p).map f).length<=1000000:=by
    rw [Vb];have:=Yx p (zs.take i);rw [Wl] at this;omega
   refine hb i x zs[i] _ _ _ hx e1 (sm _) (fun hp=>⟨_,ab,Zw hlen (by decide),Ak,?_⟩) (fun hp=>⟨Ak,?_⟩)
   · rw [ku,e2,if_pos hp,Vs];rfl
   · rw [e2,if_neg (by rw [hp];exact VG),V7]
theorem gN {α:Type} {K:Vc} {a:Vd} {js:List (Option Nat)} {g:TG} {tt:TT} {te:TE} {σ:St} {H:Hp} {xs:List V} {fin:Vd->Hp->Prop} (zs:List α) (p:α->Bool) (f:α->V) (hS:SqL K H a xs) (hz:zs.length=xs.length) (hn:xs.length<=1000000)
 (hb:∀ (i:Nat) x z H2 (R:VK) (R0:Hp->Prop),xs[i]?=some x->zs[i]?=some z->Same H H2->(p z=true->R (f z) H2)->(p z=false->R0 H2)->g x (cσ js σ) H2 fun zU H3=>tt zU H3 fun b H4=>if b=true then te zU H4 R else R0 H4)
 (q:∀ D,H D=none->fin D (upd H D (.lst ((zs.filter p).map f)))) :
 ∀ D,H D=none->∃ (n:Nat) (W:Nat->Hp->Prop),W 0 (upd H D (.lst []))/\gG js g tt te σ (Itl K a) D n W fun H'=>fin D H' :=
 ug zs p f hz hn (fun i H2 s hi=>⟨xs,xs[i],s.seq hS,Ve hi⟩) (fun H2 s=>⟨xs,s.seq hS,Vj _⟩) (fun i H2 x H3 s hi hy=>⟨hy.1,hy.2 xs (s.seq hS)⟩) hb q
variable {K:Vc}
end L2
namespace BB
open PySem L2
set_option genInjectivity true in
inductive Dv where
 | int (i:Int)
 | str (x:VM)
 | tup (ds:List Dv)
mutual
def Dv.deep:Dv->Nat
 | .int _=>0
 | .str _=>0
 | .tup ds=>bC ds+1
def bC:List Dv->Nat
 | []=>0
 | d::ds=>max d.deep (bC ds)
end
mutual
def Dv.tot:Dv->Nat
 | .int _=>1
 | .str _=>1
 | .tup ds=>v7 ds+1
def v7:List Dv->Nat
 | []=>0
 | d::ds=>d.tot+v7 ds
end
mutual
def DAt (H:Hp):Dv->V->Prop
 | .int i,v=>v=.int i
 | .str x,v=>v=.str x
 | .tup ds,v=>∃ a vs,v=.ref a/\H a=some (.tup vs)/\DAts H ds vs
def DAts (H:Hp):List Dv->List V->Prop
 | [],vs=>vs=[]
 | d::ds,vs=>∃ v r,vs=v::r/\DAt H d v/\DAts H ds r
end
theorem DAts.nil {H:Hp}:DAts H [] []:=by rw [DAts]
theorem DAts.cons {H:Hp} {d:Dv} {ds:List Dv} {v:V} {vs:List V} (h1:DAt H d v) (h2:DAts H ds vs):DAts H (d::ds) (v::vs):=by rw [DAts];exact ⟨v,vs,rfl,h1,h2⟩
theorem DAts.length {H:Hp}:∀ {ds:List Dv} {vs:List V},DAts H ds vs->vs.length=ds.length
 | [],vs,h=>by rw [DAts] at h;subst h;rfl
 | d::ds,vs,h=>by
   rw [DAts] at h;obtain ⟨v,r,rfl,h1,h2⟩:=h;rw [Vo,Vo,h2.length]
theorem DAts.at {H:Hp}:∀ {ds:List Dv} {vs:List V} {i:Nat} {d:Dv},DAts H ds vs->ds[i]?=some d->∃ v,vs[i]?=some v/\DAt H d v
 | [],vs,i,d,h,e=>by simp at e
 | d0::ds,vs,i,d,h,e=>by
   rw [DAts] at h;obtain ⟨v,r,rfl,h1,h2⟩:=h;cases i with
   | zero=>simp at e;subst e;exact ⟨v,rfl,h1⟩
   | succ i =>
     obtain ⟨u,g1,g2⟩:=h2.at (i:=i) (by simpa using e);exact ⟨u,by simpa using g1,g2⟩
theorem eW:∀ {ds:List Dv} {i:Nat} {d:Dv},ds[i]?=some d->d.deep<=bC ds
 | [],i,d,e=>by simp at e
 | d0::ds,i,d,e=>by
   rw [bC];cases i with
   | zero=>simp at e;subst e;omega
   | succ i =>
     have:=eW (ds:=ds) (i:=i) (by simpa using e);omega
theorem ny:∀ {ds:List Dv} {i:Nat} {d:Dv},ds[i]?=some d->d.tot<=v7 ds
 | [],i,d,e=>by simp at e
 | d0::ds,i,d,e=>by
   rw [v7];cases i with
   | zero=>simp at e;subst e;omega
   | succ i =>
     have:=ny (ds:=ds) (i:=i) (by simpa using e);omega
theorem Dv.tot_pos (d:Dv):1<=d.tot:=by
 cases d with
 | int i=>rw [Dv.tot];omega
 | str x=>rw [Dv.tot];omega
 | tup ds=>rw [Dv.tot];omega
mutual
def Th.dv:Th->Dv
 | .knot n ks=>.tup (.str n::dvs ks)
 | .call s k=>.tup [.str q,.int s,.int k]
def dvs:List Th->List Dv
 | []=>[]
 | t::ts=>t.dv::dvs ts
end
mutual
theorem At.dv {H:Hp}:∀ {t:Th} {a:Vd},At H t a->DAt H t.dv (.ref a)
 | .knot n ks,a,h=>by
   rw [At] at h;obtain ⟨_,as,h1,h2⟩:=h;rw [Th.dv,DAt];exact ⟨a,_,rfl,h1,.cons (by rw [DAt]) (Ats.dvs h2)⟩
 | .call s k,a,h=>by
   rw [At] at h;rw [Th.dv,DAt];exact ⟨a,_,rfl,h,.cons (by rw [DAt]) (.cons (by rw [DAt]) (.cons (by rw [DAt]) .nil))⟩
theorem Ats.dvs {H:Hp}:∀ {ts:List Th} {as:List Vd},Ats H ts as->DAts H (dvs ts) (as.map V.ref)
 | [],as,h=>by rw [Ats] at h;subst h;rw [BB.dvs];exact .nil
 | t::ts,as,h=>by
   rw [Ats] at h;obtain ⟨a,r,rfl,h1,h2⟩:=h;rw [BB.dvs,V3];exact .cons (At.dv h1) (Ats.dvs h2)
end
mutual
theorem Th.dv_deep:∀ t:Th,t.dv.deep<=t.tall
 | .knot n ks=>by
   have:=iJ ks;rw [Th.dv,Dv.deep,bC,Dv.deep,Th.tall];omega
 | .call s k=>by rw [Th.dv,Th.tall];simp [Dv.deep,bC]
theorem iJ:∀ ts:List Th,bC (dvs ts)<=bf ts
 | []=>by rw [dvs,bC];exact VJ _
 | t::ts=>by
   have:=t.dv_deep;have:=iJ ts;rw [dvs,bC,bf];omega
end
theorem qx {K:Vc} {H:Hp} {a b:Vd} {xs ys:List V} {Q:VK} (ha:H a=some (.tup xs)) (hb:H b=some (.tup ys)) (hz:xs.length+ys.length<=1000000) (q:∀ p H',L2.Same H H'->H' p=some (.tup (xs++ys))->Q (.ref p) H'):pZ K (.ref a) (.ref b) H Q:=by
 refine ⟨a,b,xs,ys,rfl,rfl,SqT.of ha,SqT.of hb,ak hz,fun e=>?_,fun _ e=>?_,fun _ _ p hp=>?_⟩
 · exact q b H (.refl _) (by rw [e];exact hb)
 · exact q a H (.refl _) (by rw [e,V7];exact ha)
 · exact q p _ (ad hp _) ab
mutual
/-- all O5 with O6 places,a knot ahead of its kids -/
def Th.pl (pre:List Int):Th->List (List Int×Th)
 | .knot n ks=>(pre,.knot n ks)::pls pre 0 ks
 | .call s k=>[(pre,.call s k)]
def pls (pre:List Int) (i:Int):List Th->List (List Int×Th)
 | []=>[]
 | t::ts=>t.pl (pre++[i])++pls pre (i+1) ts
end
theorem Th.pl_eq (pre:List Int) (t:Th):t.pl pre=(pre,t)::pls pre 0 t.kids:=by
 cases t with
 | knot n ks=>rw [Th.pl];rfl
 | call s k=>rw [Th.pl];simp [Th.kids,pls]
mutual
theorem Th.pl_len (pre:List Int):∀ t:Th,(t.pl pre).length=t.size
 | .knot n ks=>by rw [Th.pl,Th.size,Vo,rK pre 0 ks]
 | .call s k=>by rw [Th.pl,Th.size];rfl
theorem rK (pre:List Int) (i:Int):∀ ts:List Th,(pls pre i ts).length=ao ts
 | []=>by rw [pls,ao];rfl
 | t::ts=>by rw [pls,ao,VD,Th.pl_len _ t,rK pre (i+1) ts]
end
def szP:List (List Int×Th)->Nat
 | []=>0
 | p::ps=>p.2.size+szP ps
def plP:List (List Int×Th)->List (List Int×Th)
 | []=>[]
 | p::ps=>p.2.pl p.1++plP ps
theorem ck:∀ a b,szP (a++b)=szP a+szP b
 | [],b=>by simp [szP]
 | p::a,b=>by rw [Wn,szP,szP,ck a b,ZL]
theorem ko (a:List (List Int×Th)):szP a.reverse=szP a:=by
 induction a with
 | nil=>rfl
 | cons x xs ih=>rw [Wj,ck,ih,szP,szP,szP];omega
theorem lh:∀ a b,plP (a++b)=plP a++plP b
 | [],b=>by simp [plP]
 | p::a,b=>by rw [Wn,plP,plP,lh a b,V8]
theorem rJ:∀ a,(plP a).length=szP a
 | []=>rfl
 | p::a=>by rw [plP,szP,VD,Th.pl_len,rJ a]
theorem nu:∀ a,a.length<=szP a
 | []=>VJ _
 | p::a=>by
   have:=p.2.size_pos;have:=nu a;rw [Vo,szP];omega
def cC (pre:List Int) (i:Int):List Th->List (List Int×Th)
 | []=>[]
 | t::ts=>(pre++[i],t)::cC pre (i+1) ts
theorem f9 (pre:List Int) (i:Int):∀ ts,(cC pre i ts).length=ts.length
 | []=>rfl
 | t::ts=>by rw [cC,Vo,Vo,f9 pre (i+1) ts]
theorem pR (pre:List Int) (i:Int):∀ ts,plP (cC pre i ts)=pls pre i ts
 | []=>by rw [cC,plP,pls]
 | t::ts=>by rw [cC,plP,pls,pR pre (i+1) ts]
theorem iF (pre:List Int) (i:Int):∀ ts,szP (cC pre i ts)=ao ts
 | []=>by rw [cC,szP,ao]
 | t::ts=>by rw [cC,szP,ao,iF pre (i+1) ts]
theorem lM (pre:List Int):∀ (i:Int) (ts:List Th) (j:Nat) (t:Th),ts[j]?=some t->(cC pre i ts)[j]?=some (pre++[i+j],t)
 | i,[],j,t,e=>by simp at e
 | i,u::ts,0,t,e=>by simp at e;subst e;rw [cC];simp
 | i,u::ts,j+1,t,e=>by
   rw [cC,W2,lM pre (i+1) ts j t (by simpa using e)];have:i+1+(j:Int)=i+((j+1:Nat):Int):=by omega
   rw [this]
theorem lO (pre:List Int):∀ (i:Int) (ts:List Th) (p:List Int×Th),p∈cC pre i ts->p.1.length=pre.length+1/\p.2∈ts
 | i,[],p,h=>by rw [cC] at h;cases h
 | i,u::ts,p,h=>by
   rw [cC] at h;rcases VA.mp h with rfl | h
   · exact ⟨by simp,VC ..⟩
   · have:=lO pre (i+1) ts p h;exact ⟨this.1,VB _ this.2⟩
theorem P2.reverse {α β:Type} {F:α->β->Prop}:∀ {a:List α} {b:List β},VW F a b->VW F a.reverse b.reverse
 | _,_,.nil=>.nil
 | _,_,.cons r t=>by
   rw [Wj,Wj];exact P2.append (P2.reverse t) (.cons r .nil)
theorem P2.snoc_inv {α β:Type} {F:α->β->Prop} {a:List α} {b:List β} {y:β} (h:VW F a (b++[y])):∃ us x,a=us++[x]/\VW F us b/\F x y:=by
 have r:=P2.reverse h;rw [WJ,List.reverse_singleton,List.singleton_append] at r;cases e:a.reverse with
 | nil=>rw [e] at r;cases r
 | cons x us =>
   rw [e] at r;cases r with
   | cons h1 h2 =>
     refine ⟨us.reverse,x,?_,?_,h1⟩
     · rw [<- Wj,<- e,Xf]
     · have:=P2.reverse h2;rw [Xf] at this;exact this
theorem nL {t u:Th} (h:u∈t.kids):u.tall+1<=t.tall:=by
 have:=bT h;rw [t.tall_eq];omega
def Th.sub:Th->List Int->Option Th
 | t,[]=>some t
 | t,i::r=>if 0<=i then (match t.kids[i.toNat]? with | some u=>u.sub r | none=>none) else none
termination_by _ p=>p.length
theorem sd (t:Th):t.sub []=some t:=by rw [Th.sub]
theorem t3 {t u:Th} {i:Int} {r:List Int} (h0:0<=i) (h:t.kids[i.toNat]?=some u):t.sub (i::r)=u.sub r:=by rw [Th.sub,if_pos h0,h]
mutual
theorem uQ:∀ (t:Th) (pre p:List Int) (u:Th),(p,u)∈t.pl pre->∃ r,p=pre++r/\t.sub r=some u/\r.length+u.tall<=t.tall/\u.size<=t.size
 | .knot n ks,pre,p,u,h=>by
   rw [Th.pl] at h;rcases VA.mp h with e | h
   · cases e;exact ⟨[],by simp,sd _,by simp,Vj _⟩
   · obtain ⟨j,v,r,h1,rfl,h3,h4,h5,h6,h7⟩:=rB ks pre 0 p u h;refine ⟨(0+(j:Int))::r,by simp,?_,?_,?_⟩
     · rw [t3 (u:=v) (by omega) (by rw [show (0+(j:Int)).toNat=j by omega];exact h1)];exact h3
     · rw [Th.tall,Vo];omega
     · rw [Th.size];omega
 | .call s k,pre,p,u,h=>by
   rw [Th.pl] at h;have e:(p,u)=(pre,Th.call s k):=by simpa using h
   cases e;exact ⟨[],by simp,sd _,by simp,Vj _⟩
theorem rB:∀ (ts:List Th) (pre:List Int) (i:Int) (p:List Int) (u:Th),(p,u)∈pls pre i ts->∃ (j:Nat) (v:Th) (r:List Int),ts[j]?=some v/\p=pre++(i+(j:Int))::r/\v.sub r=some u/\r.length+u.tall<=v.tall/\v.tall<=bf ts/\u.size<=v.size/\v.size<=ao ts
 | [],pre,i,p,u,h=>by rw [pls] at h;cases h
 | t::ts,pre,i,p,u,h=>by
   rw [pls] at h;rcases VX.mp h with h | h
   · obtain ⟨r,rfl,h1,h2,h3⟩:=uQ t (pre++[i]) p u h;exact ⟨0,t,r,rfl,by simp,h1,h2,by rw [bf];omega,h3,by rw [ao];omega⟩
   · obtain ⟨j,v,r,h1,rfl,h3,h4,h5,h6,h7⟩:=rB ts pre (i+1) p u h;refine ⟨j+1,v,r,by simpa using h1,?_,h3,h4,by rw [bf];omega,h6,by rw [ao];omega⟩;have:i+1+(j:Int)=i+((j+1:Nat):Int):=by omega
     rw [this]
end
theorem aI:∀ {ts:List Th} {t:Th},t∈ts->t.size<=ao ts
 | u::ts,t,h=>by
   rw [ao];rcases VA.mp h with rfl | h
   · omega
   · have:=aI h;omega
end BB
namespace BB
open PySem L2
mutual
def Th.kn:Th->Nat
 | .knot _ ks=>kns ks+1
 | .call _ _=>0
def kns:List Th->Nat
 | []=>0
 | t::ts=>t.kn+kns ts
end
section
variable {ext:Th->List V} {H H':Hp} {t:Th} {a:Vd} {ts:List Th} {es:List Vd}
end
def Th.isCall:Th->Bool
 | .knot _ _=>false
 | .call _ _=>true
def oj:List Int×Th->Option (List Int×Int×Int)
 | (_,.knot _ _)=>none
 | (p,.call s k)=>some (p,s,k)
def callsOf (ps:List (List Int×Th)):List (List Int×Int×Int):=ps.filterMap oj
theorem dD (a b:List (List Int×Th)):callsOf (a++b)=callsOf a++callsOf b:=List.filterMap_append
theorem jU (a:List (List Int×Th)):(callsOf a).length<=a.length:=List.length_filterMap_le _ _
def CAt (H:Hp) (c:List Int×Int×Int) (a:Vd):Prop:=∃ pa ca,H a=some (.tup [.ref pa,.ref ca])/\H pa=some (.tup (c.1.map V.int))/\H ca=some (.tup [.int c.2.1,.int c.2.2])
def CsAt (H:Hp) (cs:List (List Int×Int×Int)) (as:List Vd):Prop:=VW (CAt H) cs as
theorem CAt.mono {H H':Hp} (k:KT H H') {c:List Int×Int×Int} {a:Vd} (h:CAt H c a):CAt H' c a:=by
 obtain ⟨pa,ca,h1,h2,h3⟩:=h;exact ⟨pa,ca,k _ _ h1,k _ _ h2,k _ _ h3⟩
theorem CsAt.mono {H H':Hp} (k:KT H H') {cs:List (List Int×Int×Int)} {as:List Vd} (h:CsAt H cs as):CsAt H' cs as:=P2.mp (fun _ _ e=>CAt.mono k e) h
end BB
namespace BB
open PySem PySem.Spec PyProof.Rows L2
mutual
theorem DAt.inj {H:Hp}:∀ {d e:Dv} {v:V},DAt H d v->DAt H e v->d=e
 | .int i,.int j,v,h,g=>by rw [DAt] at h;rw [DAt] at g;rw [h] at g;cases g;rfl
 | .int i,.str y,v,h,g=>by rw [DAt] at h;rw [DAt] at g;rw [h] at g;cases g
 | .int i,.tup es,v,h,g=>by rw [DAt] at h;rw [DAt] at g;obtain ⟨a,vs,e,_⟩:=g;rw [h] at e;cases e
 | .str x,.int j,v,h,g=>by rw [DAt] at h;rw [DAt] at g;rw [h] at g;cases g
 | .str x,.str y,v,h,g=>by rw [DAt] at h;rw [DAt] at g;rw [h] at g;cases g;rfl
 | .str x,.tup es,v,h,g=>by rw [DAt] at h;rw [DAt] at g;obtain ⟨a,vs,e,_⟩:=g;rw [h] at e;cases e
 | .tup ds,.int j,v,h,g=>by rw [DAt] at h;rw [DAt] at g;obtain ⟨a,vs,e,_⟩:=h;rw [e] at g;cases g
 | .tup ds,.str y,v,h,g=>by rw [DAt] at h;rw [DAt] at g;obtain ⟨a,vs,e,_⟩:=h;rw [e] at g;cases g
 | .tup ds,.tup es,v,h,g=>by
   rw [DAt] at h;rw [DAt] at g;obtain ⟨a,vs,e1,h1,h2⟩:=h;obtain ⟨b,ws,e2,g1,g2⟩:=g;rw [e1] at e2;cases e2;rw [h1] at g1;cases g1;rw [DAts.inj h2 g2]
theorem DAts.inj {H:Hp}:∀ {ds es:List Dv} {vs:List V},DAts H ds vs->DAts H es vs->ds=es
 | [],[],vs,h,g=>rfl
 | [],e::es,vs,h,g=>by rw [DAts] at h;rw [DAts] at g;obtain ⟨v,r,z,_⟩:=g;rw [h] at z;cases z
 | d::ds,[],vs,h,g=>by rw [DAts] at h;rw [DAts] at g;obtain ⟨v,r,z,_⟩:=h;rw [g] at z;cases z
 | d::ds,e::es,vs,h,g=>by
   rw [DAts] at h;rw [DAts] at g;obtain ⟨v,r,z,h1,h2⟩:=h;obtain ⟨v',r',z',g1,g2⟩:=g;rw [z] at z';cases z';rw [DAt.inj h1 g1,DAts.inj h2 g2]
end
end BB
namespace L2
open PySem PySem.Spec PySem.SeqAt PyProof.Rows BB
open Classical in
theorem uG {X:Cx} {pins:List (Vd×Xq)} {σ:St} {H:Hp} {s:Vm} (I:Inv X pins σ H s) {ds es:List Dv} {a b:Vd} {vs ws:List V} {A:V2} (ha:SqT X.K H a vs) (hb:SqT X.K H b ws) (Dy:DAts H ds vs) (hws:DAts H es ws) (hu:A.units<W7)
 (ih:∀ (j:Nat) (d e:Dv) (x y:V) (u v:Vg),ds[j]?=some d->DAt H d x->DAt H e y->RelV x u->RelV y v->EqAt A.in1 s u v (decide (d=e))):RcAt A s (.ref a) (.ref b) (decide (Dv.tup ds=Dv.tup es)):=by
 obtain ⟨its,r1,p1,_⟩:=I.tuple ha;obtain ⟨zD,r2,p2,_⟩:=I.tuple hb;have l1:its.length=ds.length:=by rw [<- r1.length,Dy.length]
 have l2:zD.length=es.length:=by rw [<- r2.length,hws.length]
 have Dz:RcAt A s (.ref a) (.ref b) ((V9 (min its.toArray.size zD.toArray.size)).all (fun j=>decide (ds[j]?=es[j]?)) && its.toArray.size == zD.toArray.size):=by
  refine RcAt.tuples (show s.heap.IsTuple a its.toArray from p1) (show s.heap.IsTuple b zD.toArray from p2) hu fun j h1 h2=>?_;have CJ:j<ds.length:=by rw [<- l1];simpa using h1
  have Cf:j<es.length:=by rw [<- l2];simpa using h2
  have e1:ds[j]?=some ds[j]:=Ve CJ;have e2:es[j]?=some es[j]:=Ve Cf;obtain ⟨x',Ee,dx⟩:=Dy.at e1;obtain ⟨y',Di,dy⟩:=hws.at e2;obtain ⟨u',Bv,Ek⟩:=r1.get Ee;obtain ⟨v',AK,CK⟩:=r2.get Di;have e3:decide (ds[j]?=es[j]?)=decide (ds[j]=es[j]):=by rw [e1,e2];simp
  have e4:its.toArray[j]=u':=by
   rw [Ve (by rw [l1];exact CJ)] at Bv;simpa using Bv
  have e5:zD.toArray[j]=v':=by
   rw [Ve (by rw [l2];exact Cf)] at AK;simpa using AK
  rw [e3,e4,e5];exact ih j ds[j] es[j] x' y' u' v' e1 dx dy Ek CK
 have e:decide (Dv.tup ds=Dv.tup es)=((V9 (min its.toArray.size zD.toArray.size)).all (fun j=>decide (ds[j]?=es[j]?)) && its.toArray.size == zD.toArray.size):=by
  rw [Vr,Vr,l1,l2];by_cases h:ds=es
  · subst h;rw [decide_eq_true rfl];symm;simp
  · rw [decide_eq_false (fun z=>h (Dv.tup.inj z))];symm;by_cases hl:ds.length=es.length
    · rw [hl,ZX]
      have:¬ ((V9 es.length).all (fun j=>decide (ds[j]?=es[j]?)))=true:=by
       intro z;apply h;apply Yd;intro j;by_cases hj:j<es.length
       · have:=Zf.mp z j (XC.mpr hj);exact of_decide_eq_true this
       · rw [Xb (by omega),Xb (by omega)]
      rw [WO.mpr this];rfl
    · have:(ds.length == es.length)=false:=by simpa using hl
      rw [this,ZC]
 rw [e];exact Dz
open Classical in
theorem n8 {X:Cx} {pins:List (Vd×Xq)} {σ:St} {H:Hp} {s:Vm} (I:Inv X pins σ H s):∀ (n:Nat) (d e:Dv),d.tot<=n->∀ (x y:V) (u v:Vg) (A:V2),DAt H d x->DAt H e y->RelV x u->RelV y v->A.units+d.deep<W7->EqAt A s u v (decide (d=e))
 | 0,d,e,hn,x,y,u,v,A,hd,he,ru,rv,hu=>by have:=d.tot_pos;omega
 | n+1,.int i,.int j,hn,x,y,u,v,A,hd,he,ru,rv,hu=>by
   rw [DAt] at hd;rw [DAt] at he;subst hd he;obtain ⟨t,rfl⟩:=ru;obtain ⟨t',rfl⟩:=rv
   have e:decide (Dv.int i=Dv.int j)=(i == j):=by
    by_cases h:i=j
    · subst h;simp
    · rw [decide_eq_false (fun z=>h (Dv.int.inj z))];simp [h]
   rw [e];exact EqAt.int_int i t j t'
 | n+1,.int i,.str b,hn,x,y,u,v,A,hd,he,ru,rv,hu=>by
   rw [DAt] at hd;rw [DAt] at he;subst hd he;obtain ⟨t,rfl⟩:=ru;obtain ⟨t',rfl⟩:=rv;rw [decide_eq_false (fun z=>by cases z)];exact EqAt.int_str i t b t'
 | n+1,.int i,.tup es,hn,x,y,u,v,A,hd,he,ru,rv,hu=>by
   rw [DAt] at hd;rw [DAt] at he;obtain ⟨a,vs,rfl,ha,_⟩:=he;subst hd;obtain ⟨t,rfl⟩:=ru;cases rv;obtain ⟨its,_,p,_⟩:=I.tuple (SqT.of (K:=X.K) ha);rw [decide_eq_false (fun z=>by cases z)];exact EqAt.int_tuple i t (show s.heap.IsTuple a its.toArray from p) (by omega)
 | n+1,.str b,.int j,hn,x,y,u,v,A,hd,he,ru,rv,hu=>by
   rw [DAt] at hd;rw [DAt] at he;subst hd he;obtain ⟨t,rfl⟩:=ru;obtain ⟨t',rfl⟩:=rv;rw [decide_eq_false (fun z=>by cases z)];exact EqAt.str_int b t j t'
 | n+1,.str b,.str c,hn,x,y,u,v,A,hd,he,ru,rv,hu=>by
   rw [DAt] at hd;rw [DAt] at he;subst hd he;obtain ⟨t,rfl⟩:=ru;obtain ⟨t',rfl⟩:=rv
   have e:decide (Dv.str b=Dv.str c)=(b == c):=by
    by_cases h:b=c
    · subst h;simp
    · rw [decide_eq_false (fun z=>h (Dv.str.inj z))];simp [h]
   rw [e];exact EqAt.str_str b t c t'
 | n+1,.str b,.tup es,hn,x,y,u,v,A,hd,he,ru,rv,hu=>by
   rw [DAt] at hd;rw [DAt] at he;obtain ⟨a,vs,rfl,ha,_⟩:=he;subst hd;obtain ⟨t,rfl⟩:=ru;cases rv;obtain ⟨its,_,p,_⟩:=I.tuple (SqT.of (K:=X.K) ha);rw [decide_eq_false (fun z=>by cases z)];exact EqAt.str_tuple b t (show s.heap.IsTuple a its.toArray from p) (by omega)
 | n+1,.tup ds,.int j,hn,x,y,u,v,A,hd,he,ru,rv,hu=>by
   rw [DAt] at hd;rw [DAt] at he;obtain ⟨a,vs,rfl,ha,_⟩:=hd;subst he;cases ru;obtain ⟨t,rfl⟩:=rv;obtain ⟨its,_,p,_⟩:=I.tuple (SqT.of (K:=X.K) ha);rw [decide_eq_false (fun z=>by cases z)];exact EqAt.tuple_int j t (show s.heap.IsTuple a its.toArray from p) (by omega)
 | n+1,.tup ds,.str b,hn,x,y,u,v,A,hd,he,ru,rv,hu=>by
   rw [DAt] at hd;rw [DAt] at he;obtain ⟨a,vs,rfl,ha,_⟩:=hd;subst he;cases ru;obtain ⟨t,rfl⟩:=rv;obtain ⟨its,_,p,_⟩:=I.tuple (SqT.of (K:=X.K) ha);rw [decide_eq_false (fun z=>by cases z)];exact EqAt.tuple_str b t (show s.heap.IsTuple a its.toArray from p) (by omega)
 | n+1,.tup ds,.tup es,hn,x,y,u,v,A,hd,he,ru,rv,hu=>by
   have DY:=hd;have LK:=he;rw [DAt] at hd;rw [DAt] at he;obtain ⟨a,vs,rfl,ha,Dy⟩:=hd;obtain ⟨b,ws,rfl,hb,hws⟩:=he;cases ru;cases rv;by_cases Bh:a=b
   · subst Bh;rw [decide_eq_true (DAt.inj DY LK)];exact EqAt.same _
   rw [Dv.tot] at hn;rw [Dv.deep] at hu;refine EqAt.of_refs Bh (uG I (SqT.of ha) (SqT.of hb) Dy hws (by omega) fun j d e x' y' u' v' e1 dx dy Ek CK=>?_);have q1:=ny e1;have q2:=eW e1;refine n8 I n d e (by omega) x' y' u' v' A.in1 dx dy Ek CK ?_;show A.units+1+_<W7;omega
end L2
namespace BB
open PySem L2
end BB
namespace PySem
theorem bb_extendT (l:Vd) (items:Array Vg) (n:Nat) (b:Vd) (A7:Array Vg) (n2:Nat) (dd:Option Vd) (sl:Array (Option Vg)) (g0:¬(!items.isEmpty && XG (items.size+A7.size))=true) (g1:items.size<=Vz) (g2:items.size+A7.size<=Vz+1) :
 Meets (XZ.«list.extend» ⟨[.ref l,.ref b],[]⟩) (fun _ R s=>s.heap.get? l=some { cls:=.type "list",dict:=none,data:=.seq items n,slots:=#[] }/\s.heap.get? b=some { cls:=.type "tuple",dict:=dd,data:=.seq A7 n2,slots:=sl }/\R (.ok (.ret WI)) { s with heap:=s.heap.update l (Wv fun x=>x++A7),toks:=s.toks }) :=
 .of_wp fun prog w A R s h=>by
  obtain ⟨hp,g,d,tk,os⟩:=s;obtain ⟨hl,hb,h⟩:=h;have f1:=AutoSeq1.idx_int;have f2:=AutoSeq1.sub_tuple_tuple;have f3:=AutoSeq1.sub_list_list;have f4:=AutoSeq1.sub_tuple_list;have f5:=AutoSeq1.sub_list_tuple;have z2:(items++A7).size<=Vz+1:=by rw [Array.size_append];exact g2
  wp_walk using (Xa hl rfl (hz:=g1) (_hz':=z2)),XI hl,XI hb
  exact ⟨_,rfl,h⟩
end PySem
namespace L2
open PySem PySem.Spec PyProof.Rows
section
variable {X:Cx}
def uV (K:Vc):V->List V->Hp->VK->Prop:=fun x vs H Q=>∃ l b xs zs,x=.ref l/\vs=[.ref b]/\H l=some (.lst xs)/\SqT K H b zs/\xs.length+zs.length<=Vz/\Q .non (upd H l (.lst (xs++zs)))
theorem qX:MtM X "list.extend" (uV X.K):=by
 intro pins s σ H x vs v us Q I rx rv h;obtain ⟨l,b,xs,zs,rfl,rfl,hH,hB,hz,q⟩:=h;cases rx;obtain ⟨u,rfl,ru⟩:=rv.one;cases ru;obtain ⟨z,its,n,r,hl,e⟩:=I.lstM hH;obtain ⟨zD,r2,p2,_⟩:=I.tuple hB;have AL:=r2.length;obtain ⟨⟨Hn,Gw,data2,Gx⟩,e2,Dg,n2,hd2⟩:=p2;simp only at Dg hd2;subst Dg hd2;have hsz:its.toArray.size+zD.toArray.size<=Vz:=by rw [Vr,Vr];omega
 have Dh:¬ (!its.toArray.isEmpty && XG (its.toArray.size+zD.toArray.size))=true:=by
  rw [lK hsz,ZC];exact VG
 refine call_meets F.slot_list_extend ⟨_,e,rfl⟩ F.entry_list_extend (F.args_list_extend_2 _ _)
  (bb_extendT l its.toArray n b zD.toArray n2 Gw Gx Dh (by rw [Vr];omega) (by omega)) ⟨e,e2,?_⟩
 refine ⟨.non,_,I.lset (its':=its++zD) hH e (by simp) (r.append r2) ?_,rfl,q⟩;rw [VD];omega
end
end L2
namespace BB
open PySem L2
def kDv (k:VM×Int):Dv:=.tup [.str k.1,.int k.2]
theorem vi {H:Hp}:∀ {ks:List (VM×Int)} {as:List Vd},VW (KAt H) ks as->DAts H (ks.map kDv) (as.map V.ref)
 | _,_,.nil=>.nil
 | _,_,.cons r h=>by
   rw [V3,V3];refine .cons ?_ (vi h);rw [kDv,DAt];exact ⟨_,_,rfl,r,.cons (by rw [DAt]) (.cons (by rw [DAt]) .nil)⟩
theorem kF:∀ ks:List (VM×Int),bC (ks.map kDv)<=1
 | []=>by rw [Xd,bC];exact VJ _
 | k::ks=>by
   have:=kF ks;rw [V3,bC,kDv];simp only [Dv.deep,bC];omega
def star:VM:=Vf "*"
theorem ui {x:VM} (h:Low x):x≠star:=by
 intro e;subst e;have:=h 42 (by decide +kernel);omega
open Classical in
def Th.isHole:Th->Bool
 | .knot n ks=>decide (n=star/\ks=[])
 | .call _ _=>false
def Th.isKnot (t:Th):Bool:=!t.isCall && !t.isHole
theorem gZ:∀ (n:Nat) (ts:List Th),ao ts<=n->∀ x∈walks ts,x.tall<=bf ts
 | _,[],_,x,h=>by simp [walks] at h
 | 0,t::ts,hn,x,h=>by
   have:=t.size_pos;rw [ao] at hn;omega
 | n+1,t::ts,hn,x,h=>by
   have hs:=t.size_eq;have ht:=t.tall_eq;rw [ao] at hn;rw [bf];rw [walks,t.walk_eq,Wn,VA,VX] at h;rcases h with rfl | h | h
   · omega
   · have:=gZ n t.kids (by omega) x h;omega
   · have:=gZ n ts (by omega) x h;omega
theorem mG (t x:Th) (h:x∈t.walk):x.tall<=t.tall:=by
 have:=gZ _ [t] (Vj _) x (by simpa [walks] using h);simpa [bf] using this
end BB
namespace PySem
open Sem (wp)
namespace F
theorem bb_entry_upd:entryFor table "dict.update.loop"=some XZ.«dict.update.loop»:=entryFor_of_tree (by kernel_rfl)
theorem bb_plain_upd:plainId "dict.update.loop"=true:=by decide +kernel
end F
section
variable {prog:Vu} {w:VI} {A:V2} {E:Vg->Vm->Prop} {s:Vm} {a:Vd} {xs:Array Vg} {k:Nat}
end
end PySem
namespace L2
open PySem PySem.Spec PyProof.Rows BB
section
variable {X:Cx}
end
end L2
namespace BB
open PySem L2
end BB
namespace HT
open PySem PySem.Spec PyProof.Rows
section
variable {prog:Vu} {w:VI} {A:V2} {E:Vg->Vm->Prop} {s:Vm}
theorem getItem_tuple_whole {t sl:Vd} {items:Array Vg} {vl vu:Vg} {lo hi:Option Int} {Q:Vg->Vm->Prop} (ht:IsTup s.heap t items) (hs:s.heap.IsSliceOf sl vl vu .none) (pl:IsPart vl lo) (pu:IsPart vu hi)
 (hw:sIx items.size 0 lo=0/\sIx items.size items.size hi=items.size) (h:Q (.ref t) s):Vw (VN prog w) A (Zj (.ref t) (.ref sl)) Q E s:=by
 obtain ⟨os,CC,DV,BC⟩:=id hs;have Ho:s.TypeIs (.ref sl) "slice":=⟨os,CC,DV⟩;have hT:s.TypeIs (.ref t) "tuple":=ht.typeIs;unfold Zj
 try with_reducible refine WH ?_
 first | refine Va (Vk ?_) | skip
 refine Va (wpAny_sequenceKey ht.typeIs (by decide) ?_)
 refine Va (Wi (name:=Vf "__getitem__") ht.typeIs V5
  (Wu V5 ht.typeIs entry_tuple_getitem ?_ (args_tuple_getitem _ _)))
 show Vw _ _ (YX (.ref t) >>= _) _ _ s;refine Va (tupleItemsOf_ ht ?_);refine Va (XW Ho ?_);rw [if_pos (by decide)];refine Va (sliceApplied_gen hs pl pu ?_)
 have FG:(((sIx items.size 0 lo:Nat):Int) == 0 && (1:Int) == 1 && (sIx items.size items.size hi - sIx items.size 0 lo) == items.size)=true:=by
  rw [hw.1,hw.2];simp
 show Vw _ _ (if (((sIx items.size 0 lo:Nat):Int) == 0 && (1:Int) == 1 && (sIx items.size items.size hi - sIx items.size 0 lo) == items.size)=true then _ else _) _ _ s;rw [if_pos FG];refine Va (m:=Builtin.Tuple.tupleIsExact _) ?_;unfold Builtin.Tuple.tupleIsExact;refine Va (XW hT (Vk ?_));rw [if_pos (by decide)];exact Va (X6 (Vk ⟨_,rfl,Vk h⟩))
end
end HT
namespace L2
open PySem PySem.Spec PyProof.Rows
end L2
namespace PySem
open Sem (wp)
section
variable {prog:Vu} {w:VI} {A:V2} {E:Vg->Vm->Prop} {s:Vm} {it d:Vd} {i ep:Nat} {od:Xq} {es:Array DictEntry}
theorem bb_keyNext {en:DictEntry} {Q:Option Vg->Vm->Prop} (g:s.heap.IsKeyIter it d i es.size ep) (g1:s.heap.get? d=some od) (g2:od.data=.dict es ep) (hx:es[i]?=some en)
 (fin:∀ h',h'.IsKeyIter it d (i+1) es.size ep->W3 it s.heap h'->Q (some en.key) { s with heap:=h' }):Vw (VN prog w) A (Yl (.ref it)) Q E s:=by
 obtain ⟨o,q1,q2,q3⟩:=id g;unfold Yl;refine Va (Yk (Wi (name:=Vf "__next__") g.typeIs XQ (Wu XQ g.typeIs F.entry_dict_keyiterator_next ?_ (F.args_dict_keyiterator_next_1 _))));refine Va (Vk ?_);refine Va ?_;refine Va ?_
 first | refine Va (Yy g.typeIs (Vk ?_)) | refine Va (Y5 g.typeIs (Vk ?_))
 refine Va (wpAny_fieldsOf q1 q3 ?_);have own:Builtin.Dict_items.ownsTuple "dict_keyiterator"=false:=by decide
 simp only [own,Wy,if_false];show Vw _ _ (if (VO d == WI)=true then _ else _) _ _ s;rw [if_neg (show ¬ ((VO d == WI)=true) from VG)];refine Va (Vk ?_);refine Va (Z2 g1 g2 ?_);rw [if_neg (by simp)];refine Va (Vk ?_);refine Va (wpAny_dictEpoch g1 g2 ?_);rw [if_neg (by simp)];refine Vk ?_;have lt:i<es.size:=(ZD.mp hx).1;have ee:es[i]=en:=(ZD.mp hx).2;simp only [show ¬ ((i:Int)<0) from by omega,if_false,Wg,Xs lt];refine Va ?_
 first | refine Va (Yy g.typeIs (Vk ?_)) | refine Va (Y5 g.typeIs (Vk ?_))
 refine Va (wpAny_isOneOf_keyiter g.typeIs ?_);show Vw _ _ (setField (.ref it) 1 (Xi ((i:Int)+1)) >>= _) _ _ s;refine Va (YR q1 q3 (by simp) ?_);have g':(s.heap.update it (Obj.mapFields (·.setIfInBounds 1 (Xi ((i:Int)+1))))).IsKeyIter it d (i+1) es.size ep:=⟨_,V4 _ q1 (Zr (XE q3 _)),(Obj.cls_mapFields ..).trans q2,by rw [XE q3];simp [Xi]⟩;refine Va (WH ?_);refine Va (wpAny_isOneOf_keyiter (s:={ s with heap:=s.heap.update it (Obj.mapFields (·.setIfInBounds 1 (Xi ((i:Int)+1)))) }) g'.typeIs ?_);show Vw _ _ (pure es[i].key) _ _ _;rw [ee];exact Vk (Vk ⟨_,rfl,Vk (fin _ g' (Xw ..))⟩)
theorem bb_keyEnd {Q:Option Vg->Vm->Prop} (calm:A.handled=none) (g:s.heap.IsKeyIter it d i es.size ep) (g1:s.heap.get? d=some od) (g2:od.data=.dict es ep) (hx:es.size<=i)
 (fin:∀ h',Heap.ExtBut it s.heap h'->Q none { s with heap:=h' }):Vw (VN prog w) A (Yl (.ref it)) Q E s:=by
 obtain ⟨o,q1,q2,q3⟩:=id g;unfold Yl;refine Va (Yk (Wi (name:=Vf "__next__") g.typeIs XQ (Wu XQ g.typeIs F.entry_dict_keyiterator_next ?_ (F.args_dict_keyiterator_next_1 _))));refine Va (Vk ?_);refine Va ?_;refine Va ?_
 first | refine Va (Yy g.typeIs (Vk ?_)) | refine Va (Y5 g.typeIs (Vk ?_))
 refine Va (wpAny_fieldsOf q1 q3 ?_);have own:Builtin.Dict_items.ownsTuple "dict_keyiterator"=false:=by decide
 simp only [own,Wy,if_false];show Vw _ _ (if (VO d == WI)=true then _ else _) _ _ s;rw [if_neg (show ¬ ((VO d == WI)=true) from VG)];refine Va (Vk ?_);refine Va (Z2 g1 g2 ?_);rw [if_neg (by simp)];refine Va (Vk ?_);refine Va (wpAny_dictEpoch g1 g2 ?_);rw [if_neg (by simp)];refine Vk ?_;simp only [show ¬ ((i:Int)<0) from by omega,if_false,Wg,Y7 hx];refine Va ?_
 first | refine Va (Yy g.typeIs (Vk ?_)) | refine Va (Y5 g.typeIs (Vk ?_))
 show Vw _ _ (setField (.ref it) 0 .none >>= _) _ _ s;refine Va (YR q1 q3 (by simp) ?_);show Vw _ _ (newExc (.type "StopIteration") [] >>= _) _ _ _;refine Va ?_;simp only [newExc,newTuple];refine Va (Wt ?_ (by size_fits));refine Va (m:=Zk _ _) (Yz (a:=WI) (by first | rfl | (simp only [Zk];rfl)) ?_);refine Wt ?_ (by size_fits);simp only [raiseNew];refine Va (wpAny_handled ?_)
 first | rw [show A.in1.handled=none from calm] | rw [calm]
 refine Va (Vk (wpAny_throw ?_));refine Va (X0 (T:="StopIteration") (b:=true) ⟨_,Vq _ rfl,rfl⟩ isSubtype_stop ?_);exact Vk (fin _ (((Xw ..).extBut.push _).push _))
theorem bb_keyIter {Q:Vg->Vm->Prop} (ns:(d == Xc)=false) (g1:s.heap.get? d=some od) (gc:od.cls=.type "dict") (g2:od.data=.dict es ep)
 (fin:Q (.ref s.heap.objs.size) { s with heap:=s.heap.push { cls:=.type "dict_keyiterator",data:=.fields #[.ref d,.int 0 0,.int es.size 0,.int ep 0] } }):Vw (VN prog w) A (pyIter (.ref d)) Q E s:=by
 have gT:s.TypeIs (.ref d) "dict":=⟨_,g1,gc⟩;refine wpAny_pyIter_slot gT F.slot_dict_iter (Wu F.slot_dict_iter gT F.entry_dict_iter ?_ (F.args_dict_iter_1 _));unfold XZ.«dict.__iter__»;refine Va ?_;unfold Builtin.Dict.dictSlotNone;refine Va (wpAny_notOrdered_dict gT ?_);show Vw _ _ (pure (VO d)) _ _ s;refine Vk ?_;show Vw _ _ (Builtin.Dict.showsAll d >>= _) _ _ s;unfold Builtin.Dict.showsAll;rw [if_neg (by rw [ns];exact VG)];refine Va (Vk ?_);refine Va (Z2 g1 g2 ?_);refine Va (wpAny_dictEpoch g1 g2 ?_);refine Va (Wt (Vk ⟨_,rfl,"dict_keyiterator",_,⟨_,Vq _ rfl,rfl⟩,XQ.lookup,?_⟩));simpa [Xi] using fin
end
end PySem
namespace L2
open PySem PySem.Spec PyProof.Rows
section
variable {X:Cx} {e:Wq} {te:TE}
end
end L2
namespace BB
open PySem L2
inductive Top where
 | nm (n:VM) (m:Nat)
 | th (t:Th)
def bl:List Top->List Th
 | []=>[]
 | .nm n m::S=>.knot n ((bl S).take m)::(bl S).drop m
 | .th t::S=>t::bl S
def TopsOk:List Top->Prop
 | []=>True
 | .nm _ m::S=>m<=(bl S).length/\TopsOk S
 | .th _::S=>TopsOk S
theorem TopsOk.drop:∀ {l:List Top} (i:Nat),TopsOk l->TopsOk (l.drop i)
 | l,0,h=>by rw [YG];exact h
 | [],i+1,h=>by rw [List.drop_nil];exact h
 | .nm n m::S,i+1,h=>by
   rw [TopsOk] at h;rw [List.drop_succ_cons];exact TopsOk.drop i h.2
 | .th t::S,i+1,h=>by
   rw [TopsOk] at h;rw [List.drop_succ_cons];exact TopsOk.drop i h
theorem qF:∀ l:List Top,(bl l).length<=l.length
 | []=>Vj _
 | .nm n m::S=>by
   have:=qF S;rw [bl,Vo,Vo,Ze];omega
 | .th t::S=>by
   have:=qF S;rw [bl,Vo,Vo];omega
mutual
def Th.fill (f:Int->Int->Th):Th->Th
 | .knot n ks=>.knot n (fills f ks)
 | .call s k=>f s k
def fills (f:Int->Int->Th):List Th->List Th
 | []=>[]
 | t::ts=>t.fill f::fills f ts
end
theorem gy (f:Int->Int->Th):∀ ts:List Th,(fills f ts).length=ts.length
 | []=>by rw [fills]
 | t::ts=>by rw [fills,Vo,Vo,gy f ts]
mutual
theorem gq:∀ t:Th,t.fill Th.call=t
 | .knot n ks=>by rw [Th.fill,ou ks]
 | .call s k=>by rw [Th.fill]
theorem ou:∀ ts:List Th,fills Th.call ts=ts
 | []=>by rw [fills]
 | t::ts=>by rw [fills,gq t,ou ts]
end
def dP (f:Int->Int->Th):Th->Top
 | .knot n ks=>.nm n ks.length
 | .call s k=>.th (f s k)
theorem lg (f:Int->Int->Th):∀ (n:Nat) (ts:List Th),ao ts<=n->∀ S,bl ((walks ts).map (dP f)++S)=fills f ts++bl S/\(TopsOk S->TopsOk ((walks ts).map (dP f)++S))
 | _,[],_,S=>by rw [walks,fills];exact ⟨rfl,fun h=>h⟩
 | 0,t::ts,hn,S=>by
   have:=t.size_pos;rw [ao] at hn;omega
 | n+1,t::ts,hn,S=>by
   have hs:=t.size_eq;rw [ao] at hn;have h2:=lg f n ts (by omega) S;have e:(walks (t::ts)).map (dP f)++S=dP f t::((walks t.kids).map (dP f)++((walks ts).map (dP f)++S)):=by rw [walks,t.walk_eq];simp
   have h1:=lg f n t.kids (by omega) ((walks ts).map (dP f)++S);rw [e];cases t with
   | knot nm ks =>
     simp only [Th.kids] at h1 ⊢;refine ⟨?_,fun hS=>?_⟩
     · show bl (.nm nm ks.length::_)=_;rw [bl,h1.1,h2.1,<- gy f ks,List.take_left,List.drop_left,fills,Th.fill];rfl
     · show TopsOk (.nm nm ks.length::_);rw [TopsOk];refine ⟨?_,h1.2 (h2.2 hS)⟩;rw [h1.1,VD,gy];exact Xx _ _
   | call s k =>
     simp only [Th.kids,walks,Xd,Xp] at h1 ⊢;refine ⟨?_,fun hS=>?_⟩
     · show bl (.th (f s k)::_)=_;rw [bl,h2.1,fills,Th.fill];rfl
     · show TopsOk (.th (f s k)::_);rw [TopsOk];exact h2.2 hS
theorem rL (f:Int->Int->Th) (t:Th):bl (t.walk.map (dP f))=[t.fill f]/\TopsOk (t.walk.map (dP f)):=by
 have h:=lg f _ [t] (Vj _) [];have e:walks [t]=t.walk:=by simp [walks]
 rw [e,V7] at h;refine ⟨?_,h.2 (by rw [TopsOk];trivial)⟩;rw [h.1,fills,fills,bl];rfl
theorem rm (x:V) (xs:List V):iM (x::xs) none (some 1)=[x]:=by
 unfold iM;rw [show (some (1:Int))=some ((1:Nat):Int) from rfl,HT.sIx_nat,HT.sIx_none,Vo,Nat.min_eq_left (by omega)];rfl
end BB
namespace PySem
open Sem (wp)
end PySem
namespace L2
open PySem PySem.Spec PyProof.Rows BB
end L2
namespace BB
open PySem L2
theorem iX {k:Nat} {A:V2} (hr:L2.Room k A):A.units+150+2<W7:=by
 have:=hr.un;omega
def hole:Th:=.knot star []
def Th.name:Th->VM
 | .knot n _=>n
 | .call _ _=>q
def aD:Th->Th->Bool
 | .knot n ks,.knot m us=>!(Th.knot n ks).isHole && decide (n=m) && decide (ks.length=us.length)
 | _,_=>false
mutual
def Th.sbs:Th->Th->List (Th×Th)
 | .knot n ks,r=>(.knot n ks,r)::(if aD (.knot n ks) r=true then nE ks r.kids else [])
 | .call s k,r=>[(.call s k,r)]
def nE:List Th->List Th->List (Th×Th)
 | [],_=>[]
 | k::ks,us=>match us with
   | []=>[]
   | u::us=>k.sbs u++nE ks us
end
def wks:List (Th×Th)->List (Th×Th)
 | []=>[]
 | p::ps=>p.1.sbs p.2++wks ps
theorem lm:∀ a b:List (Th×Th),wks (a++b)=wks a++wks b
 | [],b=>rfl
 | p::a,b=>by rw [Wn,wks,wks,lm a b,V8]
theorem rE:∀ ks us:List Th,wks (ks.zip us)=nE ks us
 | [],_=>by rw [ZG,wks,nE]
 | k::ks,[]=>by rw [Zx,wks,nE]
 | k::ks,u::us=>by rw [Yp,wks,nE,rE ks us]
theorem Th.sbs_eq (l r:Th):l.sbs r=(l,r)::(if aD l r=true then wks (l.kids.zip r.kids) else []):=by
 cases l with
 | knot n ks=>rw [Th.sbs,rE];rfl
 | call s k =>
   rw [Th.sbs];have:aD (.call s k) r=false:=by cases r <;> rfl
   rw [this];rfl
def szL:List (Th×Th)->Nat
 | []=>0
 | p::ps=>p.1.size+szL ps
theorem dC:∀ a b,szL (a++b)=szL a+szL b
 | [],b=>by simp [szL]
 | p::a,b=>by rw [Wn,szL,szL,dC a b,ZL]
theorem rT (a:List (Th×Th)):szL a.reverse=szL a:=by
 induction a with
 | nil=>rfl
 | cons x xs ih=>rw [Wj,dC,ih,szL,szL,szL];omega
theorem iW:∀ ks us:List Th,szL (ks.zip us)<=ao ks
 | [],_=>by rw [ZG,szL];exact VJ _
 | k::ks,[]=>by rw [Zx,szL];exact VJ _
 | k::ks,u::us=>by
   have:=iW ks us;rw [Yp,szL,ao];show k.size+_<=_;omega
theorem nw:∀ a:List (Th×Th),a.length<=szL a
 | []=>VJ _
 | p::a=>by
   have:=p.1.size_pos;have:=nw a;rw [Vo,szL];omega
theorem nY:∀ (n:Nat) (ps:List (Th×Th)),szL ps<=n->(wks ps).length<=szL ps
 | _,[],_=>VJ _
 | 0,p::ps,h=>by
   have:=p.1.size_pos;rw [szL] at h;omega
 | n+1,p::ps,h=>by
   have hs:=p.1.size_eq;have hz:=iW p.1.kids p.2.kids;rw [szL] at h;have h1:=nY n ps (by omega);have h2:=nY n (p.1.kids.zip p.2.kids) (by omega);rw [wks,Th.sbs_eq,szL,VD,Vo];split
   · omega
   · rw [Zp];omega
theorem vy (l r:Th):(l.sbs r).length<=l.size:=by
 have:=nY _ [(l,r)] (Vj _);rw [wks,wks,V7,szL,szL] at this;exact this
theorem nC:∀ (n:Nat) (ps:List (Th×Th)),szL ps<=n->∀ x∈wks ps,∃ p∈ps,x.1.tall<=p.1.tall/\x.2.tall<=p.2.tall/\x.1.size<=p.1.size/\x.2.size<=p.2.size
 | _,[],_,x,h=>nomatch h
 | 0,p::ps,h,x,_=>by
   have:=p.1.size_pos;rw [szL] at h;omega
 | n+1,p::ps,h,x,hx=>by
   have hs:=p.1.size_eq;have hz:=iW p.1.kids p.2.kids;rw [szL] at h;rw [wks,Th.sbs_eq,VX] at hx;rcases hx with hx | hx
   · rcases VA.mp hx with rfl | hx
     · exact ⟨p,VC ..,Vj _,Vj _,Vj _,Vj _⟩
     · split at hx
       · obtain ⟨y,hy,h1,h2,h3,h4⟩:=nC n _ (by omega) x hx;have m1:y.1∈p.1.kids:=(YZ hy).1;have m2:y.2∈p.2.kids:=(YZ hy).2;have t1:=bT m1;have t2:=bT m2;have z1:=aI m1;have z2:=aI m2;have e1:=p.1.tall_eq;have e2:=p.2.tall_eq;have e4:=p.2.size_eq;exact ⟨p,VC ..,by omega,by omega,by omega,by omega⟩
       · cases hx
   · obtain ⟨y,hy,r⟩:=nC n ps (by omega) x hx;exact ⟨y,VB _ hy,r⟩
theorem r9 {l r:Th} {x:Th×Th} (h:x∈l.sbs r):x.1.tall<=l.tall/\x.2.tall<=r.tall/\x.1.size<=l.size/\x.2.size<=r.size:=by
 obtain ⟨p,hp,r⟩:=nC _ [(l,r)] (Vj _) x (by rw [wks,wks,V7];exact h);rw [VF] at hp;subst hp;exact r
mutual
def Th.lies:Th->Th->Bool
 | .knot n ks,r=>(Th.knot n ks).isHole || (aD (.knot n ks) r && bG ks r.kids)
 | .call _ _,_=>false
def bG:List Th->List Th->Bool
 | [],_=>true
 | k::ks,us=>match us with
   | []=>true
   | u::us=>k.lies u && bG ks us
end
theorem fe {l r:Th} (h:l.isHole=true):aD l r=false:=by
 cases l with
 | knot n ks =>
   cases r with
   | knot m us =>
     show (!(Th.knot n ks).isHole && decide (n=m) && decide (ks.length=us.length))=false;rw [h];rfl
   | call s k=>rfl
 | call s k=>cases h
mutual
def Th.noCall:Th->Prop
 | .knot _ ks=>bn ks
 | .call _ _=>False
def bn:List Th->Prop
 | []=>True
 | t::ts=>t.noCall/\bn ts
end
theorem bX:∀ {ts:List Th} {t:Th},bn ts->t∈ts->t.noCall
 | [],_,_,h=>nomatch h
 | u::ts,t,hn,h=>by
   rw [bn] at hn;rcases VA.mp h with rfl | h
   · exact hn.1
   · exact bX hn.2 h
end BB
namespace BB
open PySem L2
def Th.wid:Th->Nat
 | .knot _ ks=>ks.length
 | .call _ _=>2
theorem bA {l r:Th} (h:aD l r=true):∃ n ks us,l=.knot n ks/\r=.knot n us/\ks.length=us.length/\l.isHole=false:=by
 cases l with
 | knot n ks =>
   cases r with
   | knot m us =>
     have h':(!(Th.knot n ks).isHole && decide (n=m) && decide (ks.length=us.length))=true:=h;simp only [WY,decide_eq_true_eq,Bool.not_eq_true'] at h';obtain ⟨⟨h1,h2⟩,h3⟩:=h';subst h2;exact ⟨n,ks,us,rfl,rfl,h3,h1⟩
   | call s k=>cases h
 | call s k=>cases r <;> cases h
theorem uu (l r:Th) (S:List (Th×Th)):wks ((l,r)::S)=(l,r)::((if aD l r=true then wks (l.kids.zip r.kids) else [])++wks S):=by
 rw [wks,Th.sbs_eq];rfl
end BB
namespace BB
open PySem L2
theorem jN:hole.noCall:=by rw [hole,Th.noCall,bn];trivial
theorem gf:hole.isHole=true:=by
 show decide (star=star/\([]:List Th)=[])=true;exact decide_eq_true ⟨rfl,rfl⟩
theorem nn:hole.tall=1:=by rw [hole,Th.tall,bf]
theorem gv:hole.size=1:=by rw [hole,Th.size,ao]
theorem vq:star≠q:=by decide
end BB
namespace L2
open PySem PySem.Spec PySem.SeqAt PyProof.Rows BB
end L2
namespace BB
open PySem L2
mutual
def Th.hw (pre:List Int):Th->Th->List (List Int×Th)
 | .knot n ks,t=>if (Th.knot n ks).isHole=true then [(pre,t)] else hws pre 0 ks t.kids
 | .call _ _,_=>[]
def hws (pre:List Int) (i:Int):List Th->List Th->List (List Int×Th)
 | [],_=>[]
 | k::ks,us=>match us with
   | []=>[]
   | u::us=>k.hw (pre++[i]) u++hws pre (i+1) ks us
end
theorem sf {f:Th} (h:f.isHole=true) (pre:List Int) (t:Th):f.hw pre t=[(pre,t)]:=by
 cases f with
 | knot n ks=>rw [Th.hw,if_pos h]
 | call s k=>cases h
theorem vJ {f:Th} (h:f.isHole=true):f=hole:=by
 cases f with
 | knot n ks =>
   have h':=of_decide_eq_true (show decide (n=star/\ks=[])=true from h);rw [h'.1,h'.2];rfl
 | call s k=>cases h
theorem lR {f t:Th} (h:f.lies t=true):f.isHole=true∨∃ n ks us,f=.knot n ks/\t=.knot n us/\ks.length=us.length/\f.isHole=false/\aD f t=true/\bG ks us=true:=by
 cases f with
 | knot n ks =>
   rw [Th.lies] at h;cases hh:(Th.knot n ks).isHole with
   | true=>exact .inl rfl
   | false =>
     rw [hh,Yv,WY] at h;obtain ⟨n',GB,us,e1,rfl,e3,_⟩:=bA h.1;cases e1;exact .inr ⟨n,ks,us,rfl,rfl,e3,rfl,h.1,h.2⟩
 | call s k=>rw [Th.lies] at h;cases h
theorem dz {k u:Th} {ks us:List Th}:bG (k::ks) (u::us)=(k.lies u && bG ks us):=by rw [bG]
mutual
theorem oQ:∀ (pre:List Int) (f t:Th),f.lies t=true->((f.sbs t).filter fun p=>p.1.isHole).map (·.2)=(f.hw pre t).map (·.2)
 | pre,.knot n ks,t,h=>by
   rcases lR h with hh | ⟨n',GB,us,e1,rfl,e3,hh,hs,hl⟩
   · rw [sf hh,Th.sbs,fe hh,if_neg VG,Wm,if_pos hh];rfl
   · cases e1;rw [Th.sbs,hs,if_pos rfl,Th.hw,if_neg (by rw [hh];exact VG),Wm,if_neg (show ¬ (Th.knot n ks).isHole=true by rw [hh];exact VG)];exact mV pre 0 ks us e3 hl
 | pre,.call s k,t,h=>by rw [Th.lies] at h;cases h
theorem mV:∀ (pre:List Int) (i:Int) (ks us:List Th),ks.length=us.length->bG ks us=true->((nE ks us).filter fun p=>p.1.isHole).map (·.2)=(hws pre i ks us).map (·.2)
 | pre,i,[],us,_,_=>by rw [nE,hws];rfl
 | pre,i,k::ks,[],e,_=>by simp at e
 | pre,i,k::ks,u::us,e,h=>by
   rw [dz,WY] at h;rw [nE,hws,Yq,Vs,Vs,oQ _ k u h.1,mV pre (i+1) ks us (by simpa using e) h.2]
end
def aT:List Th->List Th->List Top
 | [],_=>[]
 | x::xs,ps=>if x.isHole=true then .th (ps.headD hole)::aT xs ps.tail else .nm x.name x.wid::aT xs ps
def aR (xs:List Th):Nat:=(xs.filter Th.isHole).length
theorem cG (a b:List Th):aR (a++b)=aR a+aR b:=by unfold aR;rw [Yq,VD]
theorem ce:∀ (xs ys ps:List Th),aT (xs++ys) ps=aT xs ps++aT ys (ps.drop (aR xs))
 | [],ys,ps=>by show _=[]++aT ys (ps.drop 0);rfl
 | x::xs,ys,ps=>by
   rw [Wn,aT,aT];by_cases h:x.isHole=true
   · rw [if_pos h,if_pos h];have hn:aR (x::xs)=aR xs+1:=by unfold aR;rw [Wm,if_pos h];rfl
     rw [ce xs ys ps.tail,hn,List.drop_tail,Nat.add_comm];rfl
   · rw [if_neg h,if_neg h];have hn:aR (x::xs)=aR xs:=by unfold aR;rw [Wm,if_neg h]
     rw [ce xs ys ps,hn];rfl
mutual
theorem nq:∀ (pre:List Int) (f t:Th),f.lies t=true->∀ (P:List Th) (S:List Top),aT f.walk ((f.hw pre t).map (·.2)++P)=aT f.walk ((f.hw pre t).map (·.2))/\aR f.walk=(f.hw pre t).length/\bl (aT f.walk ((f.hw pre t).map (·.2))++S)=t::bl S/\(TopsOk S->TopsOk (aT f.walk ((f.hw pre t).map (·.2))++S))
 | pre,.knot n ks,t,h,P,S=>by
   rcases lR h with hh | ⟨n',GB,us,e1,rfl,e3,hh,_,hl⟩
   · have he:=vJ hh;rw [sf hh,he];have Ry:hole.walk=[hole]:=by rw [hole,Th.walk,walks]
     have ht:∀ Q:List Th,aT [hole] (t::Q)=[.th t]:=fun Q=>by rw [aT,if_pos gf];rfl
     rw [Ry];refine ⟨by rw [V3,Wn,ht,Xd,ht],by unfold aR;rw [Wm,if_pos gf];rfl,?_,fun hS=>?_⟩
     · rw [V3,ht];show bl (.th t::S)=_;rw [bl]
     · rw [V3,ht];show TopsOk (.th t::S);rw [TopsOk];exact hS
   · cases e1;have zS:¬ (Th.knot n ks).isHole=true:=by rw [hh];exact VG
     have ih:=ox pre 0 ks us e3 hl P S;have e:(Th.knot n ks).hw pre (.knot n us)=hws pre 0 ks us:=by rw [Th.hw,if_neg zS];rfl
     rw [e,Th.walk];have hg:∀ Q:List Th,aT (.knot n ks::walks ks) Q=.nm n ks.length::aT (walks ks) Q:=fun Q=>by rw [aT,if_neg zS];rfl
     refine ⟨by rw [hg,hg,ih.1],?_,?_,fun hS=>?_⟩
     · have:aR (Th.knot n ks::walks ks)=aR (walks ks):=by unfold aR;rw [Wm,if_neg zS]
       rw [this];exact ih.2.1
     · rw [hg,Wn,bl,ih.2.2.1,e3,List.take_left,List.drop_left]
     · rw [hg,Wn,TopsOk];exact ⟨by rw [ih.2.2.1,VD,e3];exact Xx _ _,ih.2.2.2 hS⟩
 | pre,.call s k,t,h,P,S=>by rw [Th.lies] at h;cases h
theorem ox:∀ (pre:List Int) (i:Int) (ks us:List Th),ks.length=us.length->bG ks us=true->∀ (P:List Th) (S:List Top),aT (walks ks) ((hws pre i ks us).map (·.2)++P)=aT (walks ks) ((hws pre i ks us).map (·.2))/\aR (walks ks)=(hws pre i ks us).length/\bl (aT (walks ks) ((hws pre i ks us).map (·.2))++S)=us++bl S/\(TopsOk S->TopsOk (aT (walks ks) ((hws pre i ks us).map (·.2))++S))
 | pre,i,[],us,e,_,P,S=>by
   have:us=[]:=WA.mp (by simpa using e.symm);subst this;rw [walks,hws];exact ⟨rfl,rfl,rfl,fun h=>h⟩
 | pre,i,k::ks,[],e,_,P,S=>by simp at e
 | pre,i,k::ks,u::us,e,h,P,S=>by
   rw [dz,WY] at h;have i2:=ox pre (i+1) ks us (by simpa using e) h.2 P S;have i1:=nq (pre++[i]) k u h.1 ((hws pre (i+1) ks us).map (·.2)) (aT (walks ks) ((hws pre (i+1) ks us).map (·.2))++S);have Rz:=nq (pre++[i]) k u h.1 ((hws pre (i+1) ks us).map (·.2)++P) S
   have hd:∀ Q:List Th,((k.hw (pre++[i]) u).map (·.2)++Q).drop (aR k.walk)=Q:=fun Q=>by
    rw [i1.2.1,<- Vb (as:=k.hw (pre++[i]) u) (f:=(·.2)),List.drop_left]
   have Cg:aT (walks (k::ks)) ((hws pre i (k::ks) (u::us)).map (·.2))=aT k.walk ((k.hw (pre++[i]) u).map (·.2))++aT (walks ks) ((hws pre (i+1) ks us).map (·.2)):=by
    rw [walks,hws,Vs,ce,hd,i1.1]
   refine ⟨?_,?_,?_,fun hS=>?_⟩
   · rw [Cg,walks,hws,Vs,V8,ce,hd,Rz.1,i2.1]
   · rw [walks,hws,cG,VD,i1.2.1,i2.2.1]
   · rw [Cg,V8,i1.2.2.1,i2.2.2.1];rfl
   · rw [Cg,V8];exact i1.2.2.2 (i2.2.2.2 hS)
end
theorem vx (pre:List Int) {f t:Th} (h:f.lies t=true):bl (aT f.walk ((f.hw pre t).map (·.2)))=[t]/\TopsOk (aT f.walk ((f.hw pre t).map (·.2)))/\aR f.walk=(f.hw pre t).length:=by
 obtain ⟨_,h2,h3,h4⟩:=nq pre f t h [] [];rw [V7] at h3 h4;exact ⟨by rw [h3,bl],h4 (by rw [TopsOk];trivial),h2⟩
theorem gz:∀ (xs ps:List Th),(aT xs ps).length=xs.length
 | [],_=>rfl
 | x::xs,ps=>by
   rw [aT];split
   · rw [Vo,Vo,gz xs ps.tail]
   · rw [Vo,Vo,gz xs ps]
theorem iy:∀ (xs ps:List Th) (t:Th),Top.th t∈aT xs ps->t∈ps∨t=hole
 | [],_,t,h=>nomatch h
 | x::xs,ps,t,h=>by
   rw [aT] at h;split at h
   · cases ps with
     | nil =>
       rcases VA.mp h with h | h
       · cases h;exact .inr rfl
       · exact iy xs [] t h
     | cons p ps =>
       rcases VA.mp h with h | h
       · cases h;exact .inl (VC ..)
       · rcases iy xs ps t h with h | h
         · exact .inl (VB _ h)
         · exact .inr h
   · rcases VA.mp h with h | h
     · cases h
     · exact iy xs ps t h
theorem vH (pre:List Int) {f t:Th} (h:f.lies t=true):∀ p∈f.hw pre t,p.2.size<=t.size/\p.2.tall<=t.tall:=by
 intro p hp;have h1:p.2∈(f.hw pre t).map (·.2):=V1.mpr ⟨p,hp,rfl⟩;rw [<- oQ pre f t h] at h1;obtain ⟨x,hx,e⟩:=V1.mp h1;have:=r9 (WV.mp hx).1;rw [<- e];exact ⟨this.2.2.2,this.2.1⟩
theorem pick {α β γ:Type} {F:α->β->Prop} {G:α->β->γ->Prop} (h:∀ x a,F x a->∃ c,G x a c):∀ {xs:List α} {as:List β},VW F xs as->∃ cs:List γ,cs.length=as.length/\∀ (i:Nat) x a c,xs[i]?=some x->as[i]?=some a->cs[i]?=some c->G x a c
 | _,_,.nil=>⟨[],rfl,fun i x a c e=>by simp at e⟩
 | _,_,.cons r t=>by
   obtain ⟨c,hc⟩:=h _ _ r;obtain ⟨cs,h1,h2⟩:=pick h t;refine ⟨c::cs,by rw [Vo,Vo,h1],fun i x a c' e1 e2 e3=>?_⟩;cases i with
   | zero=>simp at e1 e2 e3;subst e1 e2 e3;exact hc
   | succ i=>exact h2 i x a c' (by simpa using e1) (by simpa using e2) (by simpa using e3)
theorem rg {α γ:Type} {R:α->γ->Prop} (p:α->Bool):∀ {xs:List α} {cs:List γ},xs.length=cs.length->(∀ (i:Nat) x c,xs[i]?=some x->cs[i]?=some c->R x c)->VW R (xs.filter p) (((xs.zip cs).filter fun z=>p z.1).map (·.2))
 | [],[],_,_=>.nil
 | [],_::_,h,_=>by simp at h
 | _::_,[],h,_=>by simp at h
 | x::xs,c::cs,h,r=>by
   rw [Yp,Wm,Wm];have ih:=rg p (xs:=xs) (cs:=cs) (R:=R) (by simpa using h) fun i x' c' e1 e2=>r (i+1) x' c' (by simpa using e1) (by simpa using e2);by_cases e:p x=true
   · rw [if_pos e,if_pos e];exact .cons (r 0 x c rfl rfl) ih
   · rw [if_neg e,if_neg e];exact ih
theorem P2.mapl {α β γ:Type} {R:β->γ->Prop} (f:α->β):∀ {xs:List α} {cs:List γ},VW (fun x c=>R (f x) c) xs cs->VW R (xs.map f) cs
 | _,_,.nil=>.nil
 | _,_,.cons r h=>.cons r (P2.mapl f h)
mutual
theorem cu:∀ f:Th,f.noCall->∀ x∈f.walk,x.noCall
 | .knot n ks,h,x,hx=>by
   rw [Th.walk] at hx;rcases VA.mp hx with rfl | hx
   · exact h
   · rw [Th.noCall] at h;exact iC ks h x hx
 | .call s k,h,x,hx=>by rw [Th.noCall] at h;exact h.elim
theorem iC:∀ ts:List Th,bn ts->∀ x∈walks ts,x.noCall
 | [],_,x,hx=>by rw [walks] at hx;cases hx
 | t::ts,h,x,hx=>by
   rw [bn] at h;rw [walks] at hx;rcases VX.mp hx with hx | hx
   · exact cu t h.1 x hx
   · exact iC ts h.2 x hx
end
end BB
namespace BB
open PySem L2
def TK (K:Vc) (H:Hp) (a:Vd) (xs:List V):Prop:=H a=some (.tup xs)∨∃ (o:Xq) (its:Array Vg) (n:Nat),K.lookup a=some o/\o.cls=.type "tuple"/\o.data=.seq its n/\its.size<=Vz/\Vals xs its.toList
theorem TK.of {K:Vc} {H:Hp} {a:Vd} {xs:List V} (h:H a=some (.tup xs)):TK K H a xs:=.inl h
theorem TK.sq {K:Vc} {H:Hp} {a:Vd} {xs:List V} (h:TK K H a xs):SqT K H a xs:=by
 rcases h with h | h
 · exact SqT.of h
 · exact .inr h
theorem TK.mono {K:Vc} {H H':Hp} {a:Vd} {xs:List V} (h:TK K H a xs) (k:KT H H'):TK K H' a xs:=by
 rcases h with h | h
 · exact .inl (k _ _ h)
 · exact .inr h
mutual
def AtK (K:Vc) (H:Hp):Th->Vd->Prop
 | .knot n ks,a=>n≠q/\∃ as:List Vd,TK K H a (.str n::as.map V.ref)/\AtsK K H ks as
 | .call s k,a=>TK K H a [.str q,.int s,.int k]
def AtsK (K:Vc) (H:Hp):List Th->List Vd->Prop
 | [],as=>as=[]
 | t::ts,as=>∃ a r,as=a::r/\AtK K H t a/\AtsK K H ts r
end
mutual
theorem AtK.mono {K:Vc} {H H':Hp} (k:KT H H'):∀ {t:Th} {a:Vd},AtK K H t a->AtK K H' t a
 | .knot n ks,a,h=>by
   rw [AtK] at h ⊢;obtain ⟨h0,as,h1,h2⟩:=h;exact ⟨h0,as,h1.mono k,AtsK.mono k h2⟩
 | .call s c,a,h=>by
   rw [AtK] at h ⊢;exact h.mono k
theorem AtsK.mono {K:Vc} {H H':Hp} (k:KT H H'):∀ {ts:List Th} {as:List Vd},AtsK K H ts as->AtsK K H' ts as
 | [],as,h=>by rw [AtsK] at h ⊢;exact h
 | t::ts,as,h=>by
   rw [AtsK] at h ⊢;obtain ⟨a,r,e,h1,h2⟩:=h;exact ⟨a,r,e,AtK.mono k h1,AtsK.mono k h2⟩
end
theorem AtsK.nil {K:Vc} {H:Hp}:AtsK K H [] []:=by rw [AtsK]
theorem AtsK.cons {K:Vc} {H:Hp} {t:Th} {ts:List Th} {a:Vd} {as:List Vd} (h1:AtK K H t a) (h2:AtsK K H ts as):AtsK K H (t::ts) (a::as):=by rw [AtsK];exact ⟨a,as,rfl,h1,h2⟩
theorem AtsK.append {K:Vc} {H:Hp}:∀ {ts us:List Th} {as bs:List Vd},AtsK K H ts as->AtsK K H us bs->AtsK K H (ts++us) (as++bs)
 | [],us,as,bs,h,g=>by rw [AtsK] at h;subst h;exact g
 | t::ts,us,as,bs,h,g=>by
   rw [AtsK] at h;obtain ⟨a,r,rfl,h1,h2⟩:=h;exact .cons h1 (h2.append g)
theorem AtsK.length {K:Vc} {H:Hp}:∀ {ts:List Th} {as:List Vd},AtsK K H ts as->as.length=ts.length
 | [],as,h=>by rw [AtsK] at h;subst h;rfl
 | t::ts,as,h=>by
   rw [AtsK] at h;obtain ⟨a,r,rfl,h1,h2⟩:=h;rw [Vo,Vo,h2.length]
theorem AtsK.reverse {K:Vc} {H:Hp}:∀ {ts:List Th} {as:List Vd},AtsK K H ts as->AtsK K H ts.reverse as.reverse
 | [],as,h=>by rw [AtsK] at h;subst h;exact .nil
 | t::ts,as,h=>by
   rw [AtsK] at h;obtain ⟨a,r,rfl,h1,h2⟩:=h;rw [Wj,Wj];exact h2.reverse.append (.cons h1 .nil)
theorem AtsK.get {K:Vc} {H:Hp}:∀ {ts:List Th} {as:List Vd} {i:Nat} {a:Vd},AtsK K H ts as->as[i]?=some a->∃ t,ts[i]?=some t/\AtK K H t a
 | [],as,i,a,h,e=>by rw [AtsK] at h;subst h;simp at e
 | t::ts,as,i,a,h,e=>by
   rw [AtsK] at h;obtain ⟨b,r,rfl,h1,h2⟩:=h;cases i with
   | zero=>simp at e;subst e;exact ⟨t,rfl,h1⟩
   | succ i=>exact h2.get (i:=i) (by simpa using e)
theorem AtsK.at {K:Vc} {H:Hp}:∀ {ts:List Th} {as:List Vd} {i:Nat} {t:Th},AtsK K H ts as->ts[i]?=some t->∃ a,as[i]?=some a/\AtK K H t a
 | [],as,i,a,h,e=>by simp at e
 | t::ts,as,i,a,h,e=>by
   rw [AtsK] at h;obtain ⟨b,r,rfl,h1,h2⟩:=h;cases i with
   | zero=>simp at e;subst e;exact ⟨b,rfl,h1⟩
   | succ i=>exact h2.at (i:=i) (by simpa using e)
theorem AtsK.snoc_inv {K:Vc} {H:Hp} {ts:List Th} {as:List Vd} {a:Vd} (h:AtsK K H ts (as++[a])):∃ us t,ts=us++[t]/\AtsK K H us as/\AtK K H t a:=by
 have r:=h.reverse;rw [WJ,List.reverse_singleton,List.singleton_append] at r;cases e:ts.reverse with
 | nil=>rw [e,AtsK] at r;cases r
 | cons t us =>
   rw [e,AtsK] at r;obtain ⟨b,z,e1,h1,h2⟩:=r;cases e1;refine ⟨us.reverse,t,?_,?_,h1⟩
   · rw [<- Wj,<- e,Xf]
   · have:=h2.reverse;rw [Xf] at this;exact this
mutual
def DAtK (K:Vc) (H:Hp):Dv->V->Prop
 | .int i,v=>v=.int i
 | .str x,v=>v=.str x
 | .tup ds,v=>∃ a vs,v=.ref a/\TK K H a vs/\DAtsK K H ds vs
def DAtsK (K:Vc) (H:Hp):List Dv->List V->Prop
 | [],vs=>vs=[]
 | d::ds,vs=>∃ v r,vs=v::r/\DAtK K H d v/\DAtsK K H ds r
end
theorem DAtsK.nil {K:Vc} {H:Hp}:DAtsK K H [] []:=by rw [DAtsK]
theorem DAtsK.cons {K:Vc} {H:Hp} {d:Dv} {ds:List Dv} {v:V} {vs:List V} (h1:DAtK K H d v) (h2:DAtsK K H ds vs):DAtsK K H (d::ds) (v::vs):=by rw [DAtsK];exact ⟨v,vs,rfl,h1,h2⟩
theorem DAtsK.length {K:Vc} {H:Hp}:∀ {ds:List Dv} {vs:List V},DAtsK K H ds vs->vs.length=ds.length
 | [],vs,h=>by rw [DAtsK] at h;subst h;rfl
 | d::ds,vs,h=>by
   rw [DAtsK] at h;obtain ⟨v,r,rfl,h1,h2⟩:=h;rw [Vo,Vo,h2.length]
theorem DAtsK.at {K:Vc} {H:Hp}:∀ {ds:List Dv} {vs:List V} {i:Nat} {d:Dv},DAtsK K H ds vs->ds[i]?=some d->∃ v,vs[i]?=some v/\DAtK K H d v
 | [],vs,i,d,h,e=>by simp at e
 | d0::ds,vs,i,d,h,e=>by
   rw [DAtsK] at h;obtain ⟨v,r,rfl,h1,h2⟩:=h;cases i with
   | zero=>simp at e;subst e;exact ⟨v,rfl,h1⟩
   | succ i =>
     obtain ⟨u,g1,g2⟩:=h2.at (i:=i) (by simpa using e);exact ⟨u,by simpa using g1,g2⟩
mutual
theorem AtK.dv {K:Vc} {H:Hp}:∀ {t:Th} {a:Vd},AtK K H t a->DAtK K H t.dv (.ref a)
 | .knot n ks,a,h=>by
   rw [AtK] at h;obtain ⟨_,as,h1,h2⟩:=h;rw [Th.dv,DAtK];exact ⟨a,_,rfl,h1,.cons (by rw [DAtK]) (AtsK.dvs h2)⟩
 | .call s k,a,h=>by
   rw [AtK] at h;rw [Th.dv,DAtK];exact ⟨a,_,rfl,h,.cons (by rw [DAtK]) (.cons (by rw [DAtK]) (.cons (by rw [DAtK]) .nil))⟩
theorem AtsK.dvs {K:Vc} {H:Hp}:∀ {ts:List Th} {as:List Vd},AtsK K H ts as->DAtsK K H (dvs ts) (as.map V.ref)
 | [],as,h=>by rw [AtsK] at h;subst h;rw [BB.dvs];exact .nil
 | t::ts,as,h=>by
   rw [AtsK] at h;obtain ⟨a,r,rfl,h1,h2⟩:=h;rw [BB.dvs,V3];exact .cons (AtK.dv h1) (AtsK.dvs h2)
end
mutual
theorem At.k {K:Vc} {H:Hp}:∀ {t:Th} {a:Vd},At H t a->AtK K H t a
 | .knot n ks,a,h=>by
   rw [At] at h;rw [AtK];obtain ⟨h0,as,h1,h2⟩:=h;exact ⟨h0,as,.of h1,Ats.k h2⟩
 | .call s c,a,h=>by
   rw [At] at h;rw [AtK];exact .of h
theorem Ats.k {K:Vc} {H:Hp}:∀ {ts:List Th} {as:List Vd},Ats H ts as->AtsK K H ts as
 | [],as,h=>by rw [Ats] at h;rw [AtsK];exact h
 | t::ts,as,h=>by
   rw [Ats] at h;rw [AtsK];obtain ⟨a,r,e,h1,h2⟩:=h;exact ⟨a,r,e,At.k h1,Ats.k h2⟩
end
mutual
theorem DAt.k {K:Vc} {H:Hp}:∀ {d:Dv} {v:V},DAt H d v->DAtK K H d v
 | .int i,v,h=>by rw [DAt] at h;rw [DAtK];exact h
 | .str x,v,h=>by rw [DAt] at h;rw [DAtK];exact h
 | .tup ds,v,h=>by
   rw [DAt] at h;rw [DAtK];obtain ⟨a,vs,e,h1,h2⟩:=h;exact ⟨a,vs,e,.of h1,DAts.k h2⟩
theorem DAts.k {K:Vc} {H:Hp}:∀ {ds:List Dv} {vs:List V},DAts H ds vs->DAtsK K H ds vs
 | [],vs,h=>by rw [DAts] at h;rw [DAtsK];exact h
 | d::ds,vs,h=>by
   rw [DAts] at h;rw [DAtsK];obtain ⟨v,r,e,h1,h2⟩:=h;exact ⟨v,r,e,DAt.k h1,DAts.k h2⟩
end
theorem AtK.row {K:Vc} {H:Hp} {t:Th} {a:Vd} (h:AtK K H t a):∃ r,TK K H a (.str t.name::r)/\r.length=t.wid:=by
 cases t with
 | knot n ks =>
   rw [AtK] at h;obtain ⟨_,as,h1,h2⟩:=h;exact ⟨_,h1,by rw [Vb,h2.length];rfl⟩
 | call s k =>
   rw [AtK] at h;exact ⟨_,h,rfl⟩
theorem o6 {K:Vc} {H:Hp} {l:Th} {x:Vd} (h:AtK K H l x) (r:Th):aD l r=(l.isKnot && (decide (l.name=r.name) && decide (l.wid=r.wid))):=by
 cases l with
 | knot n ks =>
   rw [AtK] at h;cases r with
   | knot m us =>
     show (!(Th.knot n ks).isHole && decide (n=m) && decide (ks.length=us.length))=(!false && !(Th.knot n ks).isHole && (decide (n=m) && decide (ks.length=us.length)));rw [Bool.and_assoc];rfl
   | call s k =>
     show false=(_ && (decide (n=q) && _));rw [decide_eq_false h.1];simp
 | call s k=>cases r <;> rfl
theorem zb {K:Vc} {H:Hp} {a b:Vd} {xs ys:List V} {Q:VK} (ha:TK K H a xs) (hb:TK K H b ys) (hz:xs.length+ys.length<=1000000) (q:∀ p H',L2.Same H H'->TK K H' p (xs++ys)->Q (.ref p) H'):pZ K (.ref a) (.ref b) H Q:=by
 refine ⟨a,b,xs,ys,rfl,rfl,ha.sq,hb.sq,ak hz,fun e=>?_,fun _ e=>?_,fun _ _ p hp=>?_⟩
 · exact q b H (.refl _) (by rw [e];exact hb)
 · exact q a H (.refl _) (by rw [e,V7];exact ha)
 · exact q p _ (ad hp _) (.of ab)
def PPK (K:Vc) (H:Hp) (p:Th×Th) (a:Vd):Prop:=∃ x y,H a=some (.tup [.ref x,.ref y])/\AtK K H p.1 x/\AtK K H p.2 y
theorem PPK.mono {K:Vc} {H H':Hp} (k:KT H H') {p:Th×Th} {a:Vd} (h:PPK K H p a):PPK K H' p a:=by
 obtain ⟨x,y,h1,h2,h3⟩:=h;exact ⟨x,y,k _ _ h1,h2.mono k,h3.mono k⟩
theorem dh {K:Vc} {H H':Hp} (k:KT H H') {ps:List (Th×Th)} {as:List Vd} (h:VW (PPK K H) ps as):VW (PPK K H') ps as:=P2.mp (fun _ _ e=>PPK.mono k e) h
theorem pf {K:Vc} {H:Hp}:∀ {ks us:List Th} {as bs ts:List Vd},AtsK K H ks as->AtsK K H us bs->VW (fun (p:V×V) t=>H t=some (.tup [p.1,p.2])) ((as.map V.ref).zip (bs.map V.ref)) ts->VW (PPK K H) (ks.zip us) ts
 | [],us,as,bs,ts,h1,h2,h=>by
   rw [AtsK] at h1;subst h1;rw [Xd,ZG] at h;cases h;rw [ZG];exact .nil
 | k::ks,[],as,bs,ts,h1,h2,h=>by
   rw [AtsK] at h2;subst h2;rw [Xd,Zx] at h;cases h;rw [Zx];exact .nil
 | k::ks,u::us,as,bs,ts,h1,h2,h=>by
   rw [AtsK] at h1 h2;obtain ⟨a,ar,rfl,a1,a2⟩:=h1;obtain ⟨b,br,rfl,b1,b2⟩:=h2;rw [V3,V3,Yp] at h;cases h with
   | cons r h =>
     rw [Yp];exact .cons ⟨a,b,r,a1,b1⟩ (pf a2 b2 h)
def TopAtK (K:Vc) (H:Hp):Top->Vd->Prop
 | .nm n m,a=>∃ ta,H a=some (.tup [.ref ta,.int (m:Nat)])/\n≠q/\TK K H ta [.str n]
 | .th t,a=>∃ ta,H a=some (.tup [.ref ta,.int 0])/\AtK K H t ta
theorem TopAtK.mono {K:Vc} {H H':Hp} (k:KT H H'):∀ {x:Top} {a:Vd},TopAtK K H x a->TopAtK K H' x a
 | .nm n m,a,h=>by
   obtain ⟨ta,h1,h2,h3⟩:=h;exact ⟨ta,k _ _ h1,h2,h3.mono k⟩
 | .th t,a,h=>by
   obtain ⟨ta,h1,h2⟩:=h;exact ⟨ta,k _ _ h1,h2.mono k⟩
theorem cF {K:Vc} {H H':Hp} (k:KT H H') {l:List Top} {as:List Vd} (h:VW (TopAtK K H) l as):VW (TopAtK K H') l as:=P2.mp (fun _ _ e=>TopAtK.mono k e) h
theorem AtK.whole {K:Vc} {H:Hp} {t:Th} {a:Vd} (h:AtK K H t a):∃ xs,TK K H a xs/\xs.length<=t.size+2/\∀ (H':Hp) (p:Vd),KT H H'->TK K H' p xs->AtK K H' t p:=by
 cases t with
 | knot n ks =>
   rw [AtK] at h;obtain ⟨h0,as,h1,h2⟩:=h;refine ⟨_,h1,?_,fun H' p kt hp=>?_⟩
   · have:=h2.length;have:=bU ks;rw [Vo,Vb,Th.size];omega
   · rw [AtK];exact ⟨h0,as,hp,h2.mono kt⟩
 | call s k =>
   rw [AtK] at h;refine ⟨_,h,by rw [Th.size];exact Vj _,fun H' p kt hp=>?_⟩;rw [AtK];exact hp
theorem uw {K:Vc} {H:Hp} {a:Vd} (h:TK K H a [.str star]):AtK K H hole a:=by
 rw [hole,AtK];exact ⟨vq,[],h,by rw [AtsK]⟩
mutual
theorem DAtK.inj {X:Cx} {pins:List (Vd×Xq)} {σ:St} {H:Hp} {s:Vm} (I:Inv X pins σ H s):∀ {d e:Dv} {v:V},DAtK X.K H d v->DAtK X.K H e v->d=e
 | .int i,.int j,v,h,g=>by rw [DAtK] at h;rw [DAtK] at g;rw [h] at g;cases g;rfl
 | .int i,.str y,v,h,g=>by rw [DAtK] at h;rw [DAtK] at g;rw [h] at g;cases g
 | .int i,.tup es,v,h,g=>by rw [DAtK] at h;rw [DAtK] at g;obtain ⟨a,vs,e,_⟩:=g;rw [h] at e;cases e
 | .str x,.int j,v,h,g=>by rw [DAtK] at h;rw [DAtK] at g;rw [h] at g;cases g
 | .str x,.str y,v,h,g=>by rw [DAtK] at h;rw [DAtK] at g;rw [h] at g;cases g;rfl
 | .str x,.tup es,v,h,g=>by rw [DAtK] at h;rw [DAtK] at g;obtain ⟨a,vs,e,_⟩:=g;rw [h] at e;cases e
 | .tup ds,.int j,v,h,g=>by rw [DAtK] at h;rw [DAtK] at g;obtain ⟨a,vs,e,_⟩:=h;rw [e] at g;cases g
 | .tup ds,.str y,v,h,g=>by rw [DAtK] at h;rw [DAtK] at g;obtain ⟨a,vs,e,_⟩:=h;rw [e] at g;cases g
 | .tup ds,.tup es,v,h,g=>by
   rw [DAtK] at h;rw [DAtK] at g;obtain ⟨a,vs,e1,h1,h2⟩:=h;obtain ⟨b,ws,e2,g1,g2⟩:=g;rw [e1] at e2;cases e2;have e3:=I.tuple_inj h1.sq g1.sq;subst e3;rw [DAtsK.inj I h2 g2]
theorem DAtsK.inj {X:Cx} {pins:List (Vd×Xq)} {σ:St} {H:Hp} {s:Vm} (I:Inv X pins σ H s):∀ {ds es:List Dv} {vs:List V},DAtsK X.K H ds vs->DAtsK X.K H es vs->ds=es
 | [],[],vs,h,g=>rfl
 | [],e::es,vs,h,g=>by rw [DAtsK] at h;rw [DAtsK] at g;obtain ⟨v,r,z,_⟩:=g;rw [h] at z;cases z
 | d::ds,[],vs,h,g=>by rw [DAtsK] at h;rw [DAtsK] at g;obtain ⟨v,r,z,_⟩:=h;rw [g] at z;cases z
 | d::ds,e::es,vs,h,g=>by
   rw [DAtsK] at h;rw [DAtsK] at g;obtain ⟨v,r,z,h1,h2⟩:=h;obtain ⟨v',r',z',g1,g2⟩:=g;rw [z] at z';cases z';rw [DAtK.inj I h1 g1,DAtsK.inj I h2 g2]
end
end BB
namespace L2
open PySem PySem.Spec PySem.SeqAt PyProof.Rows BB
open Classical in
theorem mR {X:Cx} {pins:List (Vd×Xq)} {σ:St} {H:Hp} {s:Vm} (I:Inv X pins σ H s) {ds es:List Dv} {a b:Vd} {vs ws:List V} {A:V2} (ha:SqT X.K H a vs) (hb:SqT X.K H b ws) (Dy:DAtsK X.K H ds vs) (hws:DAtsK X.K H es ws) (hu:A.units<W7)
 (ih:∀ (j:Nat) (d e:Dv) (x y:V) (u v:Vg),ds[j]?=some d->DAtK X.K H d x->DAtK X.K H e y->RelV x u->RelV y v->EqAt A.in1 s u v (decide (d=e))):RcAt A s (.ref a) (.ref b) (decide (Dv.tup ds=Dv.tup es)):=by
 obtain ⟨its,r1,p1,_⟩:=I.tuple ha;obtain ⟨zD,r2,p2,_⟩:=I.tuple hb;have l1:its.length=ds.length:=by rw [<- r1.length,Dy.length]
 have l2:zD.length=es.length:=by rw [<- r2.length,hws.length]
 have Dz:RcAt A s (.ref a) (.ref b) ((V9 (min its.toArray.size zD.toArray.size)).all (fun j=>decide (ds[j]?=es[j]?)) && its.toArray.size == zD.toArray.size):=by
  refine RcAt.tuples (show s.heap.IsTuple a its.toArray from p1) (show s.heap.IsTuple b zD.toArray from p2) hu fun j h1 h2=>?_;have CJ:j<ds.length:=by rw [<- l1];simpa using h1
  have Cf:j<es.length:=by rw [<- l2];simpa using h2
  have e1:ds[j]?=some ds[j]:=Ve CJ;have e2:es[j]?=some es[j]:=Ve Cf;obtain ⟨x',Ee,dx⟩:=Dy.at e1;obtain ⟨y',Di,dy⟩:=hws.at e2;obtain ⟨u',Bv,Ek⟩:=r1.get Ee;obtain ⟨v',AK,CK⟩:=r2.get Di;have e3:decide (ds[j]?=es[j]?)=decide (ds[j]=es[j]):=by rw [e1,e2];simp
  have e4:its.toArray[j]=u':=by
   rw [Ve (by rw [l1];exact CJ)] at Bv;simpa using Bv
  have e5:zD.toArray[j]=v':=by
   rw [Ve (by rw [l2];exact Cf)] at AK;simpa using AK
  rw [e3,e4,e5];exact ih j ds[j] es[j] x' y' u' v' e1 dx dy Ek CK
 have e:decide (Dv.tup ds=Dv.tup es)=((V9 (min its.toArray.size zD.toArray.size)).all (fun j=>decide (ds[j]?=es[j]?)) && its.toArray.size == zD.toArray.size):=by
  rw [Vr,Vr,l1,l2];by_cases h:ds=es
  · subst h;rw [decide_eq_true rfl];symm;simp
  · rw [decide_eq_false (fun z=>h (Dv.tup.inj z))];symm;by_cases hl:ds.length=es.length
    · rw [hl,ZX]
      have:¬ ((V9 es.length).all (fun j=>decide (ds[j]?=es[j]?)))=true:=by
       intro z;apply h;apply Yd;intro j;by_cases hj:j<es.length
       · have:=Zf.mp z j (XC.mpr hj);exact of_decide_eq_true this
       · rw [Xb (by omega),Xb (by omega)]
      rw [WO.mpr this];rfl
    · have:(ds.length == es.length)=false:=by simpa using hl
      rw [this,ZC]
 rw [e];exact Dz
open Classical in
theorem oR {X:Cx} {pins:List (Vd×Xq)} {σ:St} {H:Hp} {s:Vm} (I:Inv X pins σ H s):∀ (n:Nat) (d e:Dv),d.tot<=n->∀ (x y:V) (u v:Vg) (A:V2),DAtK X.K H d x->DAtK X.K H e y->RelV x u->RelV y v->A.units+d.deep<W7->EqAt A s u v (decide (d=e))
 | 0,d,e,hn,x,y,u,v,A,hd,he,ru,rv,hu=>by have:=d.tot_pos;omega
 | n+1,.int i,.int j,hn,x,y,u,v,A,hd,he,ru,rv,hu=>by
   rw [DAtK] at hd;rw [DAtK] at he;subst hd he;obtain ⟨t,rfl⟩:=ru;obtain ⟨t',rfl⟩:=rv
   have e:decide (Dv.int i=Dv.int j)=(i == j):=by
    by_cases h:i=j
    · subst h;simp
    · rw [decide_eq_false (fun z=>h (Dv.int.inj z))];simp [h]
   rw [e];exact EqAt.int_int i t j t'
 | n+1,.int i,.str b,hn,x,y,u,v,A,hd,he,ru,rv,hu=>by
   rw [DAtK] at hd;rw [DAtK] at he;subst hd he;obtain ⟨t,rfl⟩:=ru;obtain ⟨t',rfl⟩:=rv;rw [decide_eq_false (fun z=>by cases z)];exact EqAt.int_str i t b t'
 | n+1,.int i,.tup es,hn,x,y,u,v,A,hd,he,ru,rv,hu=>by
   rw [DAtK] at hd;rw [DAtK] at he;obtain ⟨a,vs,rfl,ha,_⟩:=he;subst hd;obtain ⟨t,rfl⟩:=ru;cases rv;obtain ⟨its,_,p,_⟩:=I.tuple (ha.sq);rw [decide_eq_false (fun z=>by cases z)];exact EqAt.int_tuple i t (show s.heap.IsTuple a its.toArray from p) (by omega)
 | n+1,.str b,.int j,hn,x,y,u,v,A,hd,he,ru,rv,hu=>by
   rw [DAtK] at hd;rw [DAtK] at he;subst hd he;obtain ⟨t,rfl⟩:=ru;obtain ⟨t',rfl⟩:=rv;rw [decide_eq_false (fun z=>by cases z)];exact EqAt.str_int b t j t'
 | n+1,.str b,.str c,hn,x,y,u,v,A,hd,he,ru,rv,hu=>by
   rw [DAtK] at hd;rw [DAtK] at he;subst hd he;obtain ⟨t,rfl⟩:=ru;obtain ⟨t',rfl⟩:=rv
   have e:decide (Dv.str b=Dv.str c)=(b == c):=by
    by_cases h:b=c
    · subst h;simp
    · rw [decide_eq_false (fun z=>h (Dv.str.inj z))];simp [h]
   rw [e];exact EqAt.str_str b t c t'
 | n+1,.str b,.tup es,hn,x,y,u,v,A,hd,he,ru,rv,hu=>by
   rw [DAtK] at hd;rw [DAtK] at he;obtain ⟨a,vs,rfl,ha,_⟩:=he;subst hd;obtain ⟨t,rfl⟩:=ru;cases rv;obtain ⟨its,_,p,_⟩:=I.tuple (ha.sq);rw [decide_eq_false (fun z=>by cases z)];exact EqAt.str_tuple b t (show s.heap.IsTuple a its.toArray from p) (by omega)
 | n+1,.tup ds,.int j,hn,x,y,u,v,A,hd,he,ru,rv,hu=>by
   rw [DAtK] at hd;rw [DAtK] at he;obtain ⟨a,vs,rfl,ha,_⟩:=hd;subst he;cases ru;obtain ⟨t,rfl⟩:=rv;obtain ⟨its,_,p,_⟩:=I.tuple (ha.sq);rw [decide_eq_false (fun z=>by cases z)];exact EqAt.tuple_int j t (show s.heap.IsTuple a its.toArray from p) (by omega)
 | n+1,.tup ds,.str b,hn,x,y,u,v,A,hd,he,ru,rv,hu=>by
   rw [DAtK] at hd;rw [DAtK] at he;obtain ⟨a,vs,rfl,ha,_⟩:=hd;subst he;cases ru;obtain ⟨t,rfl⟩:=rv;obtain ⟨its,_,p,_⟩:=I.tuple (ha.sq);rw [decide_eq_false (fun z=>by cases z)];exact EqAt.tuple_str b t (show s.heap.IsTuple a its.toArray from p) (by omega)
 | n+1,.tup ds,.tup es,hn,x,y,u,v,A,hd,he,ru,rv,hu=>by
   have DY:=hd;have LK:=he;rw [DAtK] at hd;rw [DAtK] at he;obtain ⟨a,vs,rfl,ha,Dy⟩:=hd;obtain ⟨b,ws,rfl,hb,hws⟩:=he;cases ru;cases rv;by_cases Bh:a=b
   · subst Bh;rw [decide_eq_true (DAtK.inj I DY LK)];exact EqAt.same _
   rw [Dv.tot] at hn;rw [Dv.deep] at hu;refine EqAt.of_refs Bh (mR I ha.sq hb.sq Dy hws (by omega) fun j d e x' y' u' v' e1 dx dy Ek CK=>?_);have q1:=ny e1;have q2:=eW e1;refine oR I n d e (by omega) x' y' u' v' A.in1 dx dy Ek CK ?_;show A.units+1+_<W7;omega
def wN (K:Vc) (B:Nat):R2:=fun x y H Q=>∃ a b vs ws ds es,x=.ref a/\y=.ref b/\SqT K H a vs/\SqT K H b ws/\DAtsK K H ds vs/\DAtsK K H es ws/\bC ds<=B/\∀ b:Bool,(b=true↔ds=es)->Q (.bl b) H
open Classical in
theorem se {X:Cx} {B:Nat} (hu:X.A.units+B+2<W7):OpR X (Za .Eq) (wN X.K B):=by
 intro pins s σ H x y v u Q I rx ry h;obtain ⟨a,b,vs,ws,ds,es,rfl,rfl,ha,hb,Dy,hws,hB,q⟩:=h;cases rx;cases ry
 have r:RcAt X.A s (.ref a) (.ref b) (decide (Dv.tup ds=Dv.tup es)):=mR I ha hb Dy hws (by omega) fun j d e x' y' u' v' e1 dx dy Ek CK=>by
  have q2:=eW e1;refine oR I _ d e (Vj _) x' y' u' v' X.A.in1 dx dy Ek CK ?_;show X.A.units+1+_<W7;omega
 refine r X.prog X.w X.xe _ ⟨.bl (decide (Dv.tup ds=Dv.tup es)),H,I,rfl,q _ ?_⟩;constructor
 · intro z;exact Dv.tup.inj (of_decide_eq_true z)
 · intro z;rw [z];exact decide_eq_true rfl
def yV (K:Vc):V->Option Int->Option Int->Hp->VK->Prop:=fun x lo hi H Q=>∃ a xs,x=.ref a/\TK K H a xs/\∀ p H',Same H H'->TK K H' p (iM xs lo hi)->Q (.ref p) H'
theorem rX {X:Cx}:SlR X (yV X.K):=by
 intro pins s σ H x v vl vu lo hi sl Q I rx hs pl pu h;obtain ⟨a,xs,rfl,ha,q⟩:=h;by_cases hw:HT.sIx xs.length 0 lo=0/\HT.sIx xs.length xs.length hi=xs.length
 · obtain ⟨its,r,p1,hz⟩:=I.tuple ha.sq;have hl:=r.length;cases rx
   have e:iM xs lo hi=xs:=by
    unfold iM;rw [hw.1,hw.2,YG,Nat.sub_zero,W6]
   refine ⟨"tuple",_,V5.lookup,p1.typeIs,HT.getItem_tuple_whole p1 hs pl pu (by rw [Vr,<- hl];exact hw) ⟨.ref a,H,I,rfl,q a H (.refl _) (by rw [e];exact ha)⟩⟩
 · exact jz pins s σ H _ v vl vu lo hi sl Q I rx hs pl pu ⟨a,xs,rfl,ha.sq,hw,fun p hp=>q p _ (ad hp _) (.of ab)⟩
end L2
namespace BB
open PySem L2
mutual
def Th.com:Th->Th->Th
 | .knot n ks,r=>if aD (.knot n ks) r=true then .knot n (cZ ks r.kids) else hole
 | .call _ _,_=>hole
def cZ:List Th->List Th->List Th
 | [],_=>[]
 | k::ks,us=>match us with
   | []=>[]
   | u::us=>k.com u::cZ ks us
end
theorem oF:∀ ks us:List Th,cZ ks us=(ks.zip us).map fun p=>p.1.com p.2
 | [],_=>by rw [cZ];rfl
 | k::ks,[]=>by rw [cZ];rfl
 | k::ks,u::us=>by rw [cZ,oF ks us];rfl
theorem hX (l r:Th):l.com r=if aD l r=true then .knot l.name ((l.kids.zip r.kids).map fun p=>p.1.com p.2) else hole:=by
 cases l with
 | knot n ks=>rw [Th.com,oF];rfl
 | call s k =>
   rw [Th.com];have:aD (.call s k) r=false:=by cases r <;> rfl
   rw [this];rfl
def topC (p:Th×Th):Top:=if aD p.1 p.2=true then .nm p.1.name p.1.kids.length else .th hole
theorem qa:∀ (n:Nat) (ps:List (Th×Th)),szL ps<=n->∀ S,bl ((wks ps).map topC++S)=ps.map (fun p=>p.1.com p.2)++bl S/\(TopsOk S->TopsOk ((wks ps).map topC++S))
 | _,[],_,S=>⟨rfl,fun h=>h⟩
 | 0,p::ps,h,S=>by
   have:=p.1.size_pos;rw [szL] at h;omega
 | n+1,p::ps,h,S=>by
   have hs:=p.1.size_eq;have hz:=iW p.1.kids p.2.kids;rw [szL] at h;have i2:=qa n ps (by omega) S;rw [wks,Th.sbs_eq,Vs,V8,V3,Wn];have hc:(p::ps).map (fun p=>p.1.com p.2)=p.1.com p.2::ps.map (fun p=>p.1.com p.2):=rfl;by_cases AB:aD p.1 p.2=true
   · have i1:=qa n (p.1.kids.zip p.2.kids) (by omega) ((wks ps).map topC++S);obtain ⟨nm,ks,us,e1,e2,e3,_⟩:=bA AB
     have hl:((p.1.kids.zip p.2.kids).map fun p=>p.1.com p.2).length=p.1.kids.length:=by
      rw [Vb,Yu,e1,e2];simp only [Th.kids];omega
     have ht:topC (p.1,p.2)=.nm p.1.name p.1.kids.length:=by unfold topC;rw [if_pos AB]
     rw [if_pos AB,ht];refine ⟨?_,fun hS=>?_⟩
     · rw [bl,i1.1,i2.1,hc,hX,if_pos AB,<- hl,List.take_left,List.drop_left];rfl
     · rw [TopsOk];exact ⟨by rw [i1.1,VD,hl];exact Xx _ _,i1.2 (i2.2 hS)⟩
   · have ht:topC (p.1,p.2)=.th hole:=by unfold topC;rw [if_neg AB]
     rw [if_neg AB,ht,Xd,Xp];refine ⟨?_,fun hS=>?_⟩
     · rw [bl,i2.1,hc,hX,if_neg AB];rfl
     · rw [TopsOk];exact i2.2 hS
theorem xm (l r:Th):bl ((l.sbs r).map topC)=[l.com r]/\TopsOk ((l.sbs r).map topC):=by
 have h:=qa _ [(l,r)] (Vj _) [];rw [wks,wks,V7,V7] at h;refine ⟨?_,h.2 (by rw [TopsOk];trivial)⟩;rw [h.1,bl];rfl
theorem cw (l r:Th):aD l r=aD r l:=by
 cases l with
 | knot n ks =>
   cases r with
   | knot m us =>
     show (!decide (n=star/\ks=[]) && decide (n=m) && decide (ks.length=us.length))=(!decide (m=star/\us=[]) && decide (m=n) && decide (us.length=ks.length));by_cases h1:n=m
     · subst h1;by_cases h2:ks.length=us.length
       · have h3:(n=star/\ks=[])↔(n=star/\us=[]):=by
          constructor
          · rintro ⟨a,b⟩;rw [b] at h2;exact ⟨a,WA.mp h2.symm⟩
          · rintro ⟨a,b⟩;rw [b] at h2;exact ⟨a,WA.mp h2⟩
         rw [decide_eq_decide.mpr h3,h2]
       · have Cf:¬ us.length=ks.length:=fun e=>h2 e.symm;simp [h2,Cf]
     · have CJ:¬ m=n:=fun e=>h1 e.symm;simp [h1,CJ]
   | call s k=>rfl
 | call s k=>cases r <;> rfl
mutual
theorem oM:∀ l r:Th,(l.com r).size<=l.size/\(l.com r).tall<=l.tall
 | .knot n ks,r=>by
   have h:=mP ks r.kids;rw [Th.com];split
   · rw [Th.size,Th.size,Th.tall,Th.tall];omega
   · have:=(Th.knot n ks).size_pos;have:=(Th.knot n ks).tall_eq;rw [gv,nn];omega
 | .call s k,r=>by rw [Th.com,gv,nn,Th.size,Th.tall];omega
theorem mP:∀ ks us:List Th,ao (cZ ks us)<=ao ks/\bf (cZ ks us)<=bf ks
 | [],us=>by rw [cZ,ao,bf];exact ⟨Vj _,Vj _⟩
 | k::ks,[]=>by rw [cZ,ao,bf];exact ⟨VJ _,VJ _⟩
 | k::ks,u::us=>by
   have h1:=oM k u;have h2:=mP ks us;rw [cZ,ao,ao,bf,bf];omega
end
mutual
theorem lX:∀ l r:Th,(l.com r).noCall
 | .knot n ks,r=>by
   rw [Th.com];split
   · rw [Th.noCall];exact jK ks r.kids
   · exact jN
 | .call s k,r=>by rw [Th.com];exact jN
theorem jK:∀ ks us:List Th,bn (cZ ks us)
 | [],us=>by rw [cZ,bn];trivial
 | k::ks,[]=>by rw [cZ,bn];trivial
 | k::ks,u::us=>by rw [cZ,bn];exact ⟨lX k u,jK ks us⟩
end
end BB
namespace BB
open PySem L2
theorem TK.const {K:Vc} {H:Hp} {a:Vd} {xs:List V} (h:∀ H:Hp,SqT K H a xs):TK K H a xs:=by
 rcases h (fun _=>none) with (h | ⟨o,h⟩) | h
 · cases h
 · cases h
 · exact .inr h
theorem vI {K:Vc} {H:Hp} {t:Th} {a h0:Vd} {Q:VK} (hA:AtK K H t a) (e0:TK K H h0 [.str star]) (zY:t.tall<=150) (k:Q (.bl t.isHole) H):wN K 150 (.ref a) (.ref h0) H Q:=by
 cases t with
 | knot n ks =>
   rw [AtK] at hA;obtain ⟨hn,as,h1,h2⟩:=hA;rw [Th.tall] at zY;have hd:=iJ ks;refine ⟨a,h0,_,_,.str n::dvs ks,[.str star],rfl,rfl,h1.sq,e0.sq,.cons (by rw [DAtK]) h2.dvs,.cons (by rw [DAtK]) .nil,by rw [bC,Dv.deep];omega,fun b hb=>?_⟩
   have e:b=(Th.knot n ks).isHole:=by
    rw [Zq,hb];show _↔decide (n=star/\ks=[])=true;rw [decide_eq_true_iff];constructor
    · intro z;have z1:=List.cons.inj z;refine ⟨Dv.str.inj z1.1,?_⟩;cases ks with
      | nil=>rfl
      | cons x xs=>rw [dvs] at z1;cases z1.2
    · rintro ⟨z1,z2⟩;rw [z1,z2,dvs]
   rw [e];exact k
 | call sn kn =>
   rw [AtK] at hA;refine ⟨a,h0,_,_,[.str q,.int sn,.int kn],[.str star],rfl,rfl,hA.sq,e0.sq,.cons (by rw [DAtK]) (.cons (by rw [DAtK]) (.cons (by rw [DAtK]) .nil)),.cons (by rw [DAtK]) .nil,by simp [bC,Dv.deep],fun b hb=>?_⟩
   have e:b=(Th.call sn kn).isHole:=by
    show b=false;cases b with
    | false=>rfl
    | true=>exact absurd (hb.mp rfl) (by simp)
   rw [e];exact k
end BB
namespace L2
open PySem PySem.Spec PyProof.Rows BB
end L2
namespace BB
open PySem L2
theorem ii {f:Th} (h:f.isHole=false):f.lies hole=false:=by
 cases f with
 | knot n ks =>
   rw [Th.lies,h]
   have:aD (.knot n ks) hole=false:=by
    rw [cw];exact fe gf
   rw [this];rfl
 | call s k=>rw [Th.lies]
theorem eh {f a b:Th} (h1:aD f a=true) (h2:aD f b=true):aD a b=true:=by
 obtain ⟨n,ks,us,rfl,rfl,e3,hh⟩:=bA h1;obtain ⟨n',GB,vs,e1,rfl,e4,_⟩:=bA h2;cases e1
 have hn:(Th.knot n us).isHole=false:=by
  cases hz:(Th.knot n us).isHole with
  | false=>rfl
  | true =>
    rw [cw,fe hz] at h1;cases h1
 show (!(Th.knot n us).isHole && decide (n=n) && decide (us.length=vs.length))=true;rw [hn];have:us.length=vs.length:=by omega
 simp [this]
theorem mj {f a b:Th} (h:aD a b=true):aD f a=aD f b:=by
 cases h1:aD f a with
 | true =>
   cases h2:aD f b with
   | true=>rfl
   | false =>
     have:=eh (f:=a) (a:=f) (b:=b) (by rw [cw];exact h1) h;rw [h2] at this;cases this
 | false =>
   cases h2:aD f b with
   | false=>rfl
   | true =>
     have:=eh (f:=b) (a:=f) (b:=a) (by rw [cw];exact h2) (by rw [cw];exact h);rw [h1] at this;cases this
theorem px {n:VM} {us vs:List Th} (f:Th) (h:us.length=vs.length):aD f (.knot n us)=aD f (.knot n vs):=by
 cases f with
 | knot m ks=>show (_ && _ && decide (ks.length=us.length))=(_ && _ && decide (ks.length=vs.length));rw [h]
 | call s k=>rfl
theorem ph:∀ ks us:List Th,(cZ ks us).length=min ks.length us.length
 | [],us=>by rw [cZ];simp
 | k::ks,[]=>by rw [cZ];simp
 | k::ks,u::us=>by rw [cZ,Vo,ph ks us,Vo,Vo];omega
mutual
theorem pU:∀ f a b:Th,f.lies (a.com b)=(f.lies a && f.lies b)
 | .call s k,a,b=>by rw [Th.lies,Th.lies,Th.lies];rfl
 | .knot n ks,a,b=>by
   cases hh:(Th.knot n ks).isHole with
   | true =>
     rw [Th.lies,Th.lies,Th.lies,hh];rfl
   | false =>
     by_cases Bh:aD a b=true
     · obtain ⟨m,us,vs,rfl,rfl,e3,_⟩:=bA Bh;have hc:(Th.knot m us).com (.knot m vs)=.knot m (cZ us vs):=by rw [Th.com,if_pos Bh];rfl
       have hl:(cZ us vs).length=us.length:=by rw [ph];omega
       rw [hc,Th.lies,Th.lies,Th.lies,hh,Yv,Yv,Yv,px (.knot n ks) hl,<- mj (f:=.knot n ks) Bh];cases hs:aD (.knot n ks) (.knot m us) with
       | false=>rfl
       | true =>
         show (true && bG ks (cZ us vs))=((true && bG ks us) && (true && bG ks vs));rw [Bool.true_and,Bool.true_and,Bool.true_and];obtain ⟨_,_,_,e1,e2,e4,_⟩:=bA hs;cases e1;cases e2;exact lC ks us vs e4 (by omega)
     · have hc:a.com b=hole:=by rw [hX,if_neg Bh]
       rw [hc,ii hh];cases h1:(Th.knot n ks).lies a with
       | false=>rfl
       | true =>
         cases h2:(Th.knot n ks).lies b with
         | false=>rfl
         | true =>
           rw [Th.lies,hh,Yv,WY] at h1 h2;exact absurd (eh h1.1 h2.1) Bh
theorem lC:∀ ks us vs:List Th,ks.length=us.length->ks.length=vs.length->bG ks (cZ us vs)=(bG ks us && bG ks vs)
 | [],us,vs,_,_=>by rw [bG,bG,bG];rfl
 | k::ks,[],vs,h,_=>by simp at h
 | k::ks,u::us,[],_,h=>by simp at h
 | k::ks,u::us,v::vs,h1,h2=>by
   rw [cZ,dz,dz,dz,pU k u v,lC ks us vs (by simpa using h1) (by simpa using h2)];cases k.lies u <;> cases k.lies v <;> cases bG ks us <;> cases bG ks vs <;> rfl
end
end BB
namespace BB
open PySem L2
def PAtK (K:Vc) (H:Hp) (p:List Int×Th) (a:Vd):Prop:=∃ pa ta,H a=some (.tup [.ref pa,.ref ta])/\H pa=some (.tup (p.1.map V.int))/\AtK K H p.2 ta
def PsAtK (K:Vc) (H:Hp) (ps:List (List Int×Th)) (as:List Vd):Prop:=VW (PAtK K H) ps as
theorem PAtK.mono {K:Vc} {H H':Hp} (k:KT H H') {p:List Int×Th} {a:Vd} (h:PAtK K H p a):PAtK K H' p a:=by
 obtain ⟨pa,ta,h1,h2,h3⟩:=h;exact ⟨pa,ta,k _ _ h1,k _ _ h2,h3.mono k⟩
theorem PsAtK.mono {K:Vc} {H H':Hp} (k:KT H H') {ps:List (List Int×Th)} {as:List Vd} (h:PsAtK K H ps as):PsAtK K H' ps as:=P2.mp (fun _ _ e=>PAtK.mono k e) h
end BB
namespace L2
open PySem PySem.Spec PySem.Calls PyProof.Rows PySem.W
section
variable {prog:Vu} {w:VI} {A:V2} {E:Vg->Vm->Prop} {h:Wx} {g:Array GenState} {d:Drawn} {t:Nat} {os:ZK} {a C:Vd} {o:Xq} {K:Frag}
end
end L2
namespace L2
open PySem PySem.Spec PySem.Calls PyProof.Rows PySem.W
section
variable {P:Vu} {w:VI} {K:Vc} {mg:VM->Option Vg} {base:Wx} {N:List VM} {qual:VM} {scope:YN} {f:Vd} {cd:Vg} {A:V2} {outer:List Env} {s:Vm} {H:Hp} {E:XK}
end
end L2
namespace L2
open PySem PySem.Spec PySem.Calls PyProof.Rows PySem.W
section
variable {X:Cx} {pins:List (Vd×Xq)} {σ:St} {H:Hp} {s:Vm}
end
end L2
namespace L2
open PySem PySem.Spec PySem.Calls PyProof.Rows PySem.W
section
variable {P:Vu} {w:VI} {K:Vc} {mg:VM->Option Vg} {base:Wx}
end
end L2
namespace L2
open PySem PySem.Spec PySem.Calls PyProof.Rows PySem.SeqAt
theorem im {k:Nat} {A:V2} (hr:Room k A):A.units+2<W7:=by
 have:=hr.units;omega
end L2
namespace L2
open PySem PySem.Spec PySem.Calls PyProof.Rows
end L2
namespace BB
open PySem
end BB
namespace L2
open PySem PySem.Spec PySem.Calls PyProof.Rows BB
section
variable {prog:Vu} {w:VI} {A:V2} {R:Result->Vm->Prop}
end
end L2
namespace PySem
section
variable {prog:Vu} {w:VI} {A:V2} {E:Vg->Vm->Prop} {s:Vm}
end
end PySem
namespace L2
open PySem PySem.Spec PySem.Calls PyProof.Rows BB
end L2
namespace L2
open PySem PySem.Spec PySem.Calls PyProof.Rows BB
section
variable {X:Cx}
def zn (K:Vc) (tl:TE):TI:=fun σ H R=>tl σ H fun x H1=>∃ a,x=.ref a/\(((∃ xs,SqL K H1 a xs)/\R (Itl K a) H1)∨((∃ xs,SqT K H1 a xs)/\R (Itt K a) H1))
theorem xJ {tg l:Wq} {tl:TE} (hl:PE X l tl):PI X tg l (zn X.K tl):=by
 intro pins s σ H R I h;refine thn (hl pins s σ H _ I h) fun v s1 ⟨x,H1,I1,r1,q1⟩=>?_;obtain ⟨a,e,q⟩:=q1;subst e;cases r1
 have fp:∀ b∈[s1.heap.objs.size],jb X pins H1 b:=fun b hb=>by
  have e:b=s1.heap.objs.size:=by simpa using hb
  subst e;exact I1.fpOk (Vj _) (I1.hok.fresh (Vj _))
 rcases q with ⟨⟨xs,hq⟩,q⟩ | ⟨⟨xs,hq⟩,q⟩
 · obtain ⟨its,rv,p,hz⟩:=I1.list hq;refine wpAny_pyIter_list p.isList ?_;exact ⟨s1.heap.objs.size,[s1.heap.objs.size],_,_,H1,rfl,I1.kept (t':=s1.toks) fun b o e=>Vi _ e,m4 a _,⟨_,Vq _ rfl,rfl,rfl⟩,fp,q⟩
 · obtain ⟨its,rv,p,hz⟩:=I1.tuple hq;refine X7 (show s1.heap.IsTuple a its.toArray from p) ?_;exact ⟨s1.heap.objs.size,[s1.heap.objs.size],_,_,H1,rfl,I1.kept (t':=s1.toks) fun b o e=>Vi _ e,lz a _,⟨_,Vq _ rfl,rfl,rfl⟩,fp,q⟩
end
end L2
namespace BB
open PySem L2
theorem vO {α:Type} {js:List (Option Nat)} {g:TG} {tt:TT} {te:TE} {σ:St} {J:It} {H:Hp} {xs:List V} {fin:Vd->Hp->Prop} (zs:List α) (f:α->V) (hz:zs.length=xs.length) (hn:xs.length<=1000000)
 (Ef:∀ i H2,L2.Same H H2->i<xs.length->J.go i H2) (Ax:∀ H2,L2.Same H H2->J.stop xs.length H2) (Br:∀ (i:Nat) H2 x H3,L2.Same H H2->i<xs.length->J.yld i H2 x H3->H3=H2/\xs[i]?=some x)
 (hb:∀ (i:Nat) x z H2 (R:VK) (W':Hp->Prop),xs[i]?=some x->zs[i]?=some z->L2.Same H H2->(∀ H3,L2.Same H2 H3->R (f z) H3)->g x (cσ js σ) H2 fun zU H3=>tt zU H3 fun b H4=>if b=true then te zU H4 R else W' H4)
 (BU:∀ D H',H D=none->L2.Same H H'->H' D=some (.lst (zs.map f))->fin D H') :
 ∀ D,H D=none->∃ (n:Nat) (W:Nat->Hp->Prop),W 0 (upd H D (.lst []))/\gG js g tt te σ J D n W fun H'=>fin D H':=by
 intro D hD;refine ⟨xs.length,fun i H'=>i<=xs.length/\L2.Same H H'/\H' D=some (.lst ((zs.take i).map f)),⟨VJ _,ad hD _,by rw [ab];rfl⟩,?_⟩;rintro i H' ⟨hi,s1,e1⟩;by_cases zK:i<xs.length
 · refine .inr ⟨zK,Ef i H' s1 zK,fun v H1 hy=>?_⟩;obtain ⟨e,hx⟩:=Br i H' v H1 s1 zK hy;subst e;obtain ⟨z,BE⟩:∃ z,zs[i]?=some z:=⟨_,Ve (by omega)⟩;refine hb i v z _ _ _ hx BE s1 fun H3 s3=>⟨_,s3 _ _ e1,?_,zK,au (s1.trans s3) hD,?_⟩
   · rw [Vb,Wl];have:Vz=16777216:=YA;omega
   · rw [ab,take_snoc BE,Vs];rfl
 · have Ak:i=xs.length:=by omega
   subst Ak;refine .inl ⟨Ax _ s1,BU D H' hD s1 ?_⟩;rw [e1,W5 (by omega)]
end BB
namespace HT
open PySem PySem.Spec PyProof.Rows
section
variable {prog:Vu} {w:VI} {A:V2} {E:Vg->Vm->Prop} {s:Vm}
theorem adjust_back (n:Nat):Yh none none (-1) (n:Int)=((n:Int) - 1,-1):=rfl
theorem places_back (n:Nat):WW ((n:Int) - 1) (-1) (-1)=n:=by
 unfold WW;have h1:¬ ((-1:Int) > 0):=by omega
 simp only [h1,if_false];by_cases h:n=0
 · subst h;decide
 · have h2:((n:Int) - 1) > -1:=by omega
   simp only [h2,if_true];rw [show (- -1:Int)=1 by decide,Int.ediv_one];omega
theorem pick_back (xs:Array Vg):((V9 xs.size).filterMap fun (m:Nat)=>xs[(((xs.size:Nat):Int) - 1+(m:Int) * (-1)).toNat]?).toArray=xs.toList.reverse.toArray:=by
 congr 1
 have e:∀ m∈V9 xs.size,xs[(((xs.size:Nat):Int) - 1+(m:Int) * (-1)).toNat]?=xs.toList.reverse[m]?:=by
  intro m hm;have E2:=XC.mp hm;rw [List.getElem?_reverse (by rw [Wr];exact E2),Zc,Wr];congr 1;omega
 have f:∀ (l:List Nat) (f g:Nat->Option Vg),(∀ m∈l,f m=g m)->l.filterMap f=l.filterMap g:=by
  intro l f g;induction l with
  | nil=>intro _;rfl
  | cons y ys ih =>
    intro h;rw [YQ,YQ,h y (by simp),ih (fun m hm=>h m (by simp [hm]))]
 rw [f _ _ _ e]
 have gl:∀ (ys:List Vg),(V9 ys.length).filterMap (fun m=>ys[m]?)=ys:=by
  intro ys;have:=pick_run ys.toArray 0 ys.length;simp only [List.filterMap_map] at this
  have e3:((fun x=>ys.toArray[x]?) ∘ fun x=>0+x)=fun m=>ys[m]?:=by
   funext m;simp
  rw [e3] at this;rw [this];simp
 have:=gl xs.toList.reverse;rw [WB,Wr] at this;exact this
theorem sliceApplied_back {sl:Vd} {n:Nat} {t:Tok} {Q:Int×Int×Nat->Vm->Prop} (hs:s.heap.IsSliceOf sl .none .none (.int (-1) t))
 (h:Q ((n:Int) - 1,-1,n) s):Vw (VN prog w) A (YY (.ref sl) (pure (n:Int))) Q E s:=by
 obtain ⟨os,CC,DV,BC⟩:=id hs;unfold YY Builtin.Slice.sliceFields;refine Va (Va (Wc CC BC (x:=.none) rfl (Va (Wc CC BC (x:=.none) rfl (Va (Wc CC BC (x:=.int (-1) t) rfl (Vk ?_)))))));refine Va (slicePart_int ?_);show Vw _ _ (if ((-1:Int) == 0)=true then _ else _) _ _ s;rw [if_neg (by decide)];refine Va (slicePart_none (Va (slicePart_none (Va (Vk ?_)))));show Vw _ _ (match Yh none none (-1) (n:Int) with | (lo,hi)=>pure (lo,(-1:Int),WW lo hi (-1))) _ _ s;rw [adjust_back n];show Vw _ _ (pure ((n:Int) - 1,(-1:Int),WW ((n:Int) - 1) (-1) (-1))) _ _ s;rw [places_back];exact Vk h
theorem getItem_tuple_back {t sl:Vd} {items:Array Vg} {tk:Tok} {Q:Vg->Vm->Prop} (ht:IsTup s.heap t items) (hs:s.heap.IsSliceOf sl .none .none (.int (-1) tk))
 (h:Q (.ref s.heap.objs.size) { s with heap:=s.heap.push { cls:=.type "tuple",data:=.seq items.toList.reverse.toArray } })
 (hsz:items.size<=Vz):Vw (VN prog w) A (Zj (.ref t) (.ref sl)) Q E s:=by
 have Aw:sizeOk (.seq items.toList.reverse.toArray):=by
  show items.toList.reverse.toArray.size<=Vz;rw [Vr,WB,Wr];exact hsz
 obtain ⟨os,CC,DV,BC⟩:=id hs;have Ho:s.TypeIs (.ref sl) "slice":=⟨os,CC,DV⟩;unfold Zj
 try with_reducible refine WH ?_
 first | refine Va (Vk ?_) | skip
 refine Va (wpAny_sequenceKey ht.typeIs (by decide) ?_)
 refine Va (Wi (name:=Vf "__getitem__") ht.typeIs V5
  (Wu V5 ht.typeIs entry_tuple_getitem ?_ (args_tuple_getitem _ _)))
 show Vw _ _ (YX (.ref t) >>= _) _ _ s;refine Va (tupleItemsOf_ ht ?_);refine Va (XW Ho ?_);rw [if_pos (by decide)];refine Va (sliceApplied_back hs ?_)
 have Cb:¬ ((((items.size:Nat):Int) - 1 == 0 && (-1:Int) == 1 && items.size == items.size)=true):=by
  simp
 show Vw _ _ (if (((items.size:Nat):Int) - 1 == 0 && (-1:Int) == 1 && items.size == items.size)=true then _ else _) _ _ s;rw [if_neg Cb,pick_back]
 first
  | exact Va (m:=W0 _) (Wt (Vk ⟨_,rfl,Vk h⟩) Aw)
  | exact Va (m:=W0 _) (Wt (Va (Vk (Vk ⟨_,rfl,Vk h⟩))) Aw)
  | exact Va (Va (m:=W0 _) (Wt (Vk (Vk ⟨_,rfl,Vk h⟩)) Aw))
  | exact Va (Va (m:=W0 _) (Wt (Vk ⟨_,rfl,Vk h⟩) Aw))
end
end HT
namespace L2
open PySem PySem.Spec PyProof.Rows
section
variable {X:Cx} {e:Wq} {te:TE} {pos p2 p3 p4:Yr}
def BkR (X:Cx) (r:V->Hp->VK->Prop):Prop :=
 ∀ (pins:List (Vd×Xq)) (s:Vm) (σ:St) (H:Hp) (x:V) (v:Vg) (t:Tok) (sl:Vd) (Q:VK),Inv X pins σ H s->RelV x v->s.heap.IsSliceOf sl .none .none (.int (-1) t)->r x H Q →
   ∃ T id,YS (.type T) "__getitem__"=pure (some (.builtin id))/\s.TypeIs v T/\Vw (VN X.prog X.w) X.A (Zj v (.ref sl)) (EP X pins σ Q) X.xe s
def tBk (r:V->Hp->VK->Prop) (te:TE):TE:=fun σ H Q=>te σ H fun x H1=>r x H1 Q
theorem rD {r:V->Hp->VK->Prop} (hr:BkR X r) (he:PE X e te):PE X (.Subscript e (.Slice none none (some (.UnaryOp .USub (.Constant (.int 1) 0 p3) p4)) p2) pos) (tBk r te):=by
 intro pins s σ H Q I h;refine Subscript_ (thn (he pins s σ H _ I h) fun v s1 ⟨x,H1,I1,r1,q1⟩=>?_);refine wpAny_Slice ?_;rw [evalPart_none];refine Vk ?_;refine Vk ?_;have RA:PO X (some (.UnaryOp .USub (.Constant (.int 1) 0 p3) p4)) (wC (tUn (rU fun i=>.int (-i)) (tC (.int 1)))):=dJ (yp wX am);refine thn (RA pins s1 σ H1 (fun o H'=>o=some (-1)/\r x H' Q) I1 ⟨1,rfl,_,rfl,rfl,q1⟩) fun vs s2 ⟨o,H2,I2,ps,ho,q2⟩=>?_;subst ho;cases ps with
 | int i t =>
   have I4:Inv X pins σ H2 { s2 with heap:=s2.heap.push { cls:=.type "slice",data:=.fields #[.none,.none,.int (-1) t] } }:=I2.kept (t':=s2.toks) fun b ob q=>Vi _ q;obtain ⟨T,id,hT,ht,hg⟩:=hr pins { s2 with heap:=s2.heap.push { cls:=.type "slice",data:=.fields #[.none,.none,.int (-1) t] } } σ H2 x v t s2.heap.objs.size Q I4 r1 (Heap.IsSliceOf.new ..) q2;show Vw (VN X.prog X.w) X.A (subscriptTail e (.Slice none none (some (.UnaryOp .USub (.Constant (.int 1) 0 p3) p4)) p2) v (.ref s2.heap.objs.size)) (EP X pins σ Q) X.xe { s2 with heap:=s2.heap.push { cls:=.type "slice",data:=.fields #[.none,.none,.int (-1) t] } };exact tail_any (ops:=[v,.ref s2.heap.objs.size]) ht hT hg (by with_unfolding_all rfl)
def zk (K:Vc):V->Hp->VK->Prop:=fun x H Q=>∃ a xs,x=.ref a/\SqT K H a xs/\∀ p,H p=none->Q (.ref p) (upd H p (.tup xs.reverse))
def yR (K:Vc):V->Hp->VK->Prop:=fun x H Q=>∃ a xs,x=.ref a/\SqL K H a xs/\∀ p,H p=none->Q (.ref p) (upd H p (.lst xs.reverse))
theorem Vals.rev {xs:List V} {us:List Vg} (r:Vals xs us):Vals xs.reverse us.reverse:=by
 induction r with
 | nil=>exact .nil
 | cons r1 r2 ih=>rw [Wj,Wj];exact ih.append (.cons r1 .nil)
theorem xp:BkR X (zk X.K):=by
 intro pins s σ H x v t sl Q I rx hs h;obtain ⟨a,xs,rfl,hx,q⟩:=h;cases rx;obtain ⟨its,r,ht,hz⟩:=I.tuple hx;have hlen:its.toArray.size=xs.length:=by rw [Vr];exact r.length.symm
 refine ⟨"tuple",_,V5.lookup,ht.typeIs,?_⟩;refine HT.getItem_tuple_back ht hs ?_ (by rw [hlen];exact hz);refine ⟨.ref s.heap.objs.size,_,I.laid (t':=s.toks) (o:=.tup xs.reverse) (fun b ob q=>Vi _ q) (Vj _) ?_,rfl,q _ (I.hok.fresh (Vj _))⟩;exact ⟨by rw [WB];exact hz,_,0,r.rev,Vq _ rfl⟩
theorem lE (its:List Vg):slicePick its.toArray none none (some (-1))=its.reverse.toArray:=by
 unfold slicePick;have e:sliceBounds none none (some (-1)) its.toArray.size=((its.toArray.size:Int) - 1,-1,-1):=rfl;rw [e];unfold sliceRange;have h1:¬ ((-1:Int) > 0):=by omega
 simp only [h1,if_false]
 have hc:(if ((its.toArray.size:Nat):Int) - 1 > -1 then (((its.toArray.size:Nat):Int) - 1 - -1 - -1 - 1) / (- -1) else 0).toNat=its.toArray.size:=by
  by_cases h:its.toArray.size=0
  · rw [h];decide
  · rw [if_pos (by omega),show (- -1:Int)=1 by decide,Int.ediv_one];omega
 rw [hc,List.filterMap_map];have:=HT.pick_back its.toArray;rw [<- this];congr 1;congr 1;funext m;show its.toArray[(((its.toArray.size:Nat):Int) - 1+-1 * (m:Int)).toNat]?=_;rw [Int.mul_comm]
theorem vC:BkR X (yR X.K):=by
 intro pins s σ H x v t sl Q I rx hs h;obtain ⟨a,xs,rfl,hx,q⟩:=h;cases rx;obtain ⟨its,r,ht,hz⟩:=I.list hx;have hlen:=r.length;refine ⟨"list",_,slot_list_getitem.lookup,ht.isList.typeIs,?_⟩;refine wpAny_getItem_list_slice ht.isList hs .none .none (.int _ _) (by simp) ?_ (by rw [Vr] <;> omega);rw [lE];refine ⟨.ref s.heap.objs.size,_,I.laid (t':=s.toks) (o:=.lst xs.reverse) (fun b ob q=>Vi _ q) (Vj _) ?_,rfl,q _ (I.hok.fresh (Vj _))⟩;exact ⟨by rw [WB];exact hz,_,0,r.rev,Vq _ rfl⟩
end
end L2
namespace L2
open PySem PySem.Spec PySem.Calls PyProof.Rows
section
variable {X:Cx}
end
end L2
namespace L2
open PySem PySem.Spec PySem.Calls PyProof.Rows
section
variable {X:Cx}
end
end L2
namespace BB
open PySem L2
structure bR (ks:List (VM×Int)):Prop where
 ne:1<=ks.length
 le:ks.length<=8
 low:∀ k∈ks,Low k.1/\k.1.length<=8
 num:∀ k∈ks,0<=k.2/\k.2<=3
 zero:∃ k∈ks,k.2=0
 nd:∀ (i j:Nat) (k l:VM×Int),ks[i]?=some k->ks[j]?=some l->k.1=l.1->i=j
mutual
/-- a pattern over kinds,its calls of so many LL and kids -/
def Th.FitS (ks:List (VM×Int)) (S C:Int):Th->Prop
 | .knot n ts=>(n,(ts.length:Int))∈ks/\FitSs ks S C ts
 | .call s k=>0<=s/\s<S/\0<=k/\k<C
def FitSs (ks:List (VM×Int)) (S C:Int):List Th->Prop
 | []=>True
 | t::ts=>t.FitS ks S C/\FitSs ks S C ts
end
theorem FitSs.of {ks:List (VM×Int)} {S C:Int}:∀ {ts:List Th},(∀ t∈ts,t.FitS ks S C)->FitSs ks S C ts
 | [],_=>by rw [FitSs];trivial
 | t::ts,h=>by
   rw [FitSs];exact ⟨h t (VC ..),FitSs.of fun u hu=>h u (VB _ hu)⟩
theorem eQ {ts:List Th} {n:Nat} (h:∀ t∈ts,t.tall<=n):bf ts<=n:=by
 induction ts with
 | nil=>rw [bf];exact VJ _
 | cons t ts ih =>
   rw [bf];have h1:=h t (VC ..);have h2:=ih fun u hu=>h u (VB _ hu);omega
def RowAt (H:Hp) (row:List Th) (a:Vd):Prop:=∃ as:List Vd,H a=some (.tup (as.map V.ref))/\Ats H row as
theorem RowAt.mono {H H':Hp} (k:KT H H') {row:List Th} {a:Vd} (h:RowAt H row a):RowAt H' row a:=by
 obtain ⟨as,h1,h2⟩:=h;exact ⟨as,k _ _ h1,h2.mono k⟩
structure BookAt (H:Hp) (ins outs:List (VM×Int)) (head:Th) (rows:List (List Th)) (r ia oa ha ra:Vd) (zQ An Bi:List Vd):Prop where
 bk:H r=some (.tup [.ref ia,.ref oa,.ref ha,.ref ra])
 inE:H ia=some (.tup (zQ.map V.ref))
 inK:KsAt H ins zQ
 outE:H oa=some (.tup (An.map V.ref))
 outK:KsAt H outs An
 hd:At H head ha
 rl:H ra=some (.tup (Bi.map V.ref))
 rw:VW (RowAt H) rows Bi
theorem BookAt.mono {H H':Hp} (k:KT H H') {ins outs:List (VM×Int)} {head:Th} {rows:List (List Th)} {r ia oa ha ra:Vd} {zQ An Bi:List Vd} (b:BookAt H ins outs head rows r ia oa ha ra zQ An Bi):BookAt H' ins outs head rows r ia oa ha ra zQ An Bi :=
 ⟨k _ _ b.bk,k _ _ b.inE,b.inK.mono k,k _ _ b.outE,b.outK.mono k,b.hd.mono k,k _ _ b.rl,P2.mp (fun _ _ e=>e.mono k) b.rw⟩
end BB
namespace BB
open PySem L2
def Bk (H:Hp) (ins outs:List (VM×Int)) (head:Th) (rows:List (List Th)) (r:Vd):Prop:=∃ ia oa ha ra zQ An Bi,BookAt H ins outs head rows r ia oa ha ra zQ An Bi
theorem Bk.mono {H H':Hp} (k:KT H H') {ins outs:List (VM×Int)} {head:Th} {rows:List (List Th)} {r:Vd} (b:Bk H ins outs head rows r):Bk H' ins outs head rows r:=by
 obtain ⟨ia,oa,ha,ra,zQ,An,Bi,b⟩:=b;exact ⟨ia,oa,ha,ra,zQ,An,Bi,b.mono k⟩
end BB
namespace L2
open PySem PySem.Spec PySem.Calls PyProof.Rows PySem.SeqAt
end L2
namespace BB
open PySem L2
end BB
namespace L2
open PySem PySem.Spec PyProof.Rows
section
variable {X:Cx} {e:Wq} {te:TE} {p p2 pos zW:Yr}
end
end L2
namespace BB
open PySem L2
theorem km {α:Type} {F:Hp->α->Vd->Prop} {js:List (Option Nat)} {g:TG} {tt:TT} {te:TE} {σ:St} {J:It} {H:Hp} {xs:List V} {fin:Vd->Hp->Prop} (zs:List α) (hF:∀ H1 H2 z p,KT H1 H2->F H1 z p->F H2 z p) (hz:zs.length=xs.length) (hn:xs.length<=1000000)
 (Ef:∀ i H2,L2.Same H H2->i<xs.length->J.go i H2) (Ax:∀ H2,L2.Same H H2->J.stop xs.length H2) (Br:∀ (i:Nat) H2 x H3,L2.Same H H2->i<xs.length->J.yld i H2 x H3->H3=H2/\xs[i]?=some x)
 (hb:∀ (i:Nat) x z H2 (R:VK) (W':Hp->Prop),xs[i]?=some x->zs[i]?=some z->L2.Same H H2->(∀ H3 p,L2.Same H2 H3->F H3 z p->R (.ref p) H3)->g x (cσ js σ) H2 fun zU H3=>tt zU H3 fun b H4=>if b=true then te zU H4 R else W' H4)
 (BU:∀ D H' as,H D=none->L2.Same H H'->H' D=some (.lst (as.map V.ref))->VW (F H') zs as->fin D H') :
 ∀ D,H D=none->∃ (n:Nat) (W:Nat->Hp->Prop),W 0 (upd H D (.lst []))/\gG js g tt te σ J D n W fun H'=>fin D H':=by
 intro D hD;refine ⟨xs.length,fun i H'=>i<=xs.length/\L2.Same H H'/\∃ as:List Vd,H' D=some (.lst (as.map V.ref))/\VW (F H') (zs.take i) as,⟨VJ _,ad hD _,[],by rw [ab];rfl,.nil⟩,?_⟩;rintro i H' ⟨hi,s1,as,e1,hp⟩;by_cases zK:i<xs.length
 · refine .inr ⟨zK,Ef i H' s1 zK,fun v H1 hy=>?_⟩;obtain ⟨e,hx⟩:=Br i H' v H1 s1 zK hy;subst e;obtain ⟨z,BE⟩:∃ z,zs[i]?=some z:=⟨_,Ve (by omega)⟩;have hl:(zs.take i).length=as.length:=Vv hp;rw [Wl] at hl;refine hb i v z _ _ _ hx BE s1 fun H3 p s3 LM=>⟨_,s3 _ _ e1,?_,zK,au (s1.trans s3) hD,as++[p],?_,?_⟩
   · rw [Vb];have:Vz=16777216:=YA;omega
   · rw [ab,Vs];rfl
   · have kt:KT H3 (upd H3 D (.lst (as.map V.ref++[.ref p]))):=aK (s3 _ _ e1);rw [take_snoc BE];exact P2.append (P2.mp (fun x y e=>hF _ _ _ _ ((Same.kt s3).trans kt) e) hp) (.cons (hF _ _ _ _ kt LM) .nil)
 · have Ak:i=xs.length:=by omega
   subst Ak;refine .inl ⟨Ax _ s1,BU D H' as hD s1 e1 ?_⟩;rw [W5 (by omega)] at hp;exact hp
end BB
namespace L2
open PySem PySem.Spec PyProof.Rows
end L2
namespace L2
open PySem
theorem us1 {α:Type}:∀ {us:List α},us.length=1->∃ a,us=[a]
 | [a],_=>⟨a,rfl⟩
theorem us2 {α:Type}:∀ {us:List α},us.length=2->∃ a b,us=[a,b]
 | [a,b],_=>⟨a,b,rfl⟩
theorem us3 {α:Type}:∀ {us:List α},us.length=3->∃ a b c,us=[a,b,c]
 | [a,b,c],_=>⟨a,b,c,rfl⟩
theorem us4 {α:Type}:∀ {us:List α},us.length=4->∃ a b c d,us=[a,b,c,d]
 | [a,b,c,d],_=>⟨a,b,c,d,rfl⟩
end L2
namespace PySem
open Sem (wp)
section
variable {prog:Vu} {w:VI} {K:Type} [DecidableEq K] {knd:HeapKind prog w K} {A:V2} {E:Vg->Vm->Prop} {s:Vm}
end
end PySem
namespace L2
open PySem PySem.Spec PyProof.Rows BB
end L2
namespace BB
open PySem L2
theorem wW:(Vf "*")≠q:=by decide +kernel
end BB
namespace PySem
open Sem (wp)
section
variable {prog:Vu} {w:VI} {A:V2} {E:Vg->Vm->Prop} {s:Vm} {I:Vd} {fp wr:List Vd} {G:Array GenState->Array GenState->Prop} {n:Nat} {P:Nat->Vg->Prop} {St:Nat->Vm->Prop}
end
end PySem
namespace L2
open PySem PySem.Spec PyProof.Rows
section
variable {X:Cx} {o e:Wq} {to te:TE} {p2 zW apos zL:Yr}
end
end L2
namespace PySem
open Sem (wp)
namespace F
theorem bb_list_nokeys:YS (.type "list") "keys"=pure none:=by rw [Xg,WD];kernel_rfl
end F
section
variable {prog:Vu} {w:VI} {A:V2} {E:Vg->Vm->Prop} {s:Vm} {a:Vd} {xs:Array Vg} {k:Nat}
theorem bb_nokeysL {Q:Option Vg->Vm->Prop} (hA:A.handled=none) (hx:s.heap.get? a=some { cls:=.type "list",data:=.seq xs k })
 (q:∀ h' tk,(∀ b o,s.heap.get? b=some o->h'.get? b=some o)->Q none { s with heap:=h',toks:=tk }):Vw (VN prog w) A (getAttr? (.ref a) "keys") Q E s:=by
 obtain ⟨hp,g,d,tk,os⟩:=s;have gT:∀ z,(⟨hp,g,d,z,os⟩:Vm).TypeIs (.ref a) "list":=fun _=>⟨_,hx,rfl⟩;have g1:=sub_AttributeError;have g3:=F.slot_list_getattribute.lookup;have g4:=F.slot_list_getattribute.bind (.ref a);have g5:=am_list_getattr_none;unfold getAttr? getAttrBy? getAttrBy
 repeat (any_goals (first | assumption | exact gT _ | ((with_reducible show Vw _ _ (call (Value.builtin "list.__getattribute__") _ _) _ _ _);refine call_meets F.slot_list_getattribute (gT _) am_entry_list_getattribute (F.args_list_getattribute_2 _ _) (meets_getattribute_miss_list a xs k #[] "keys" _ F.bb_list_nokeys (by decide +kernel) (by decide)) ⟨hx,hA,fun h' RB e Ee=>?_⟩) | wp_step))
 obtain ⟨t',u',he⟩:=Ee.there;show Vw _ _ (getattributeRaised _ _ _ _ _ _ _) _ _ _;unfold getattributeRaised
 repeat (any_goals (first | assumption | wp_step))
 exact q h' RB Ee.keeps
end
end PySem
namespace L2
open PySem PySem.Spec PyProof.Rows
def bW:List (List Key×V)->List (List Key×V)->List (List Key×V)
 | f',[]=>f'
 | f',p::ps=>bW (putK f' p.1 p.2) ps
def PrA (H:Hp) (pr:List Key×V) (pa:Vd):Prop:=∃ ka,H pa=some (.tup [.ref ka,pr.2])/\H ka=some (.tup (pr.1.map kV))
section
variable {X:Cx} {pins:List (Vd×Xq)} {σ:St}
theorem sW {H:Hp} {s:Vm} {a b:Vd} {v:V} {r:Vg} {k:List Key} {f':List (List Key×V)} {A:V2} {E:Vg->Vm->Prop} {Q:Unit->Vm->Prop} (hu:(tupleKind (ay X.prog X.w)).room A) (I:Inv X pins σ H s) (e:H a=some (.dT f')) (eb:H b=some (.tup (k.map kV))) (l:f'.length<Vz) (rv:RelV v r) (h:∀ h' tk,W3 a s.heap h'->Inv X pins σ (upd H a (.dT (putK f' k v))) { s with heap:=h',toks:=tk }->Q () { s with heap:=h',toks:=tk }) :
 Vw (VN X.prog X.w) A (dictSet a (.ref b) r) Q E s:=by
 obtain ⟨z,hd,xs,rel,dd⟩:=wx I.hok e;have hz:xs.length<=Vz:=by rw [<- Vv rel];exact z
 have hl:(putK f' k v).length<=Vz:=by have:=bo f' k v;omega
 refine wpAny_dictSet_heap (hsz:=hz) hu (g9 I.hok eb) dd fun h' B2 hs=>h _ _ hs ?_;obtain ⟨q,es,ep,hq,h2,h3,h4,_,h5⟩:=B2;refine fy I (by rw [e];exact XR) hs ⟨q,hq⟩ ⟨hl,hd,_,(rel.put k eb rv).keeps fun c ys ec=>?_,q,es,ep,hq,h2,h3,h4,h5⟩;rw [ag (fN ec e (fun z=>nomatch z))];exact ec
theorem qm {A:V2} {d it l:Vd} {prs:List (List Key×V)} {ps:List Vd} {R:Result->Vm->Prop} (hh:A.handled=none) (hu:A.units+8<W7) (hn:prs.length<=10000) :
 ∀ (m i:Nat) (s:Vm) (tk:Tok) (H:Hp) (f':List (List Key×V)),prs.length - i=m->i<=prs.length->Inv X pins σ H s->H d=some (.dT f')->f'.length<=i->jb X pins H it->s.heap.IsListIter it l i->H l=some (.lst (ps.map V.ref))->VW (PrA H) prs ps →
   (∀ s',Inv X pins σ (upd H d (.dT (bW f' (prs.drop i)))) s'->R (.ok (.ret .none)) s') →
   YM (VN X.prog X.w) A (.builtin "dict.update.loop" ⟨[.ref d,.ref it,.int i tk,.none],[]⟩) R s:=by
 intro m;induction m with
 | zero =>
   intro i s tk H f' hk hi I ed BV hf hit el Am hR;have Ct:i=prs.length:=by omega
   subst Ct;obtain ⟨its,rv,p,hz⟩:=I.list (SqL.of (K:=X.K) el);have Av:prs.length=ps.length:=Vv Am;have hl:=rv.length;rw [Vb] at hl;obtain ⟨f0,f1,f2,f3,f4,f5⟩:=hf;refine Y8 PySem.F.bb_entry_upd ?_;rw [Yj PySem.F.bb_plain_upd _];show Vw _ A.in1 (Yl (.ref it) >>= _) _ _ s;refine Va (wpAny_pyNext_list_end hh hit p.isList (by simp;omega) fun h' eb=>?_);refine Va (Vk (Vk ?_));refine hR _ ?_;rw [List.drop_length]
   have e0:upd H d (.dT (bW f' []))=H:=by
    funext b;by_cases hb:b=d
    · rw [hb,ab,ed];rfl
    · rw [ag hb]
   rw [e0];exact I.turned (t':=s.toks) (fun b o hb e=>eb b o hb e) f0 f1 f3 f4 f5
 | succ m ih =>
   intro i s tk H f' hk hi I ed BV hf hit el Am hR;have zK:i<prs.length:=by omega
   have Av:prs.length=ps.length:=Vv Am;obtain ⟨its,rv,p,hz⟩:=I.list (SqL.of (K:=X.K) el);have hl:=rv.length;rw [Vb] at hl;obtain ⟨pa,E3,ka,B3,GC⟩:=BB.P2.get Am (Ve zK);have hx:(ps.map V.ref)[i]?=some (.ref pa):=by rw [Vp,E3];rfl
   obtain ⟨u,RC,ru⟩:=rv.get hx;cases ru;obtain ⟨f0,f1,f2,f3,f4,f5⟩:=id hf;refine Y8 PySem.F.bb_entry_upd ?_;rw [Yj PySem.F.bb_plain_upd _];show Vw _ A.in1 (Yl (.ref it) >>= _) _ _ s;refine Va (wpAny_pyNext_list_item hit p.isList (x:=.ref pa) (by simpa using RC) fun h1 LN RD=>?_);have I1:Inv X pins σ H { s with heap:=h1 }:=I.turned (t':=s.toks) (fun b o hb e=>(RD.2 b hb).trans e) f0 f1 f3 f4 f5;obtain ⟨_,zD,n2,RE,e2⟩:=(show ObjOk X.prog X.w H h1 pa (.tup [.ref ka,(prs[i]).2]) from I1.hok pa _ B3)
   obtain ⟨vv,rfl,RF⟩:∃ vv,zD=[.ref ka,vv]/\RelV (prs[i]).2 vv:=by
    cases RE with
    | cons a b =>
      cases b with
      | cons c d =>
        cases d;cases a;exact ⟨_,rfl,c⟩
   have RG:(⟨h1,s.gens,s.drawn,s.toks,s.os⟩:Vm).TypeIs (.ref pa) "tuple":=⟨_,e2,rfl⟩;refine Va (WH ?_);refine Va (wpAny_tryCatch ?_);unfold Builtin.Dict.pairItems;refine Va (XW RG ?_);rw [if_pos (by decide)];refine Va (WG e2 rfl (Vk ?_));show Vw _ _ (holding [.ref ka,vv] (dictSet d (.ref ka) vv)) _ _ _;refine WH (sW (k:=(prs[i]).1) ?_ I1 ed GC (by have:=fD;rw [YA];omega) RF fun h2 Ut Dn I2=>?_)
   · exact Y9 (by omega)
   refine Vk ⟨Ym PySem.F.bb_plain_upd _,?_⟩
   have HX:Xi ((i:Int)+1)=.int ((i+1:Nat):Int) 0:=by
    show Value.int ((i:Int)+1) 0=_;rw [show ((i+1:Nat):Int)=(i:Int)+1 by omega]
   rw [HX];have Kg:it≠d:=fun z=>by rw [z,ed] at f0;cases f0
   refine ih (i+1) _ 0 _ (putK f' (prs[i]).1 (prs[i]).2) (by omega) zK I2 ab (by have:=bo f' (prs[i]).1 (prs[i]).2;omega) ⟨by rw [ag Kg];exact f0,f1,f2,f3,f4,f5⟩ ?_ ?_ ?_ fun s' I'=>hR s' ?_
   · obtain ⟨o,g1,r⟩:=LN;exact ⟨o,(Dn.2 it Kg).trans g1,r⟩
   · rw [ag (fN el ed (fun z=>nomatch z))];exact el
   · refine BB.P2.mp (fun x y e=>?_) Am;obtain ⟨DA,g1,g2⟩:=e;exact ⟨DA,by rw [ag (fN g1 ed (fun z=>nomatch z))];exact g1,by rw [ag (fN g2 ed (fun z=>nomatch z))];exact g2⟩
   · rw [ku] at I';rw [ZE zK];exact I'
def xb:List V->Hp->VK->Prop:=fun xs H Q=>∃ (l:Vd) (ps:List Vd) (prs:List (List Key×V)),xs=[.ref l]/\H l=some (.lst (ps.map V.ref))/\VW (PrA H) prs ps/\prs.length<=10000/\∀ d,H d=none->Q (.ref d) (upd H d (.dT (bW [] prs)))
theorem kP (hu:X.A.units+12<W7) (hc:X.calm=true):jI X (.type "dict") xb:=by
 intro pins s σ H xs us Q I r h;obtain ⟨l,ps,prs,rfl,el,Am,hn,q⟩:=h;obtain ⟨u,rfl,rx⟩:=vals1 r;cases rx;obtain ⟨z,its,n,rv,e⟩:=(show ObjOk X.prog X.w H s.heap l (.lst (ps.map V.ref)) from I.hok l _ el);refine callType_codes (Q₁:=fun obj zt=>obj=.ref s.heap.objs.size/\zt={ s with heap:=s.heap.push { cls:=.type "dict",data:=.dict #[] } }) PySem.F.kt_called_dict (PySem.F.kt_typeCall_dict_1 _) PySem.F.entry_dict_init (kt_code_dict_new _ ⟨rfl,rfl⟩) ?_;rintro obj zt ⟨rfl,rfl⟩;have gn:(s.heap.push { cls:=.type "dict",data:=.dict #[] }).DictOf (ay X.prog X.w) s.heap.objs.size []:=Heap.DictOf.new s.heap;have gt:(s.heap.push { cls:=.type "dict",data:=.dict #[] }).get? l=some { cls:=.type "list",data:=.seq its.toArray n }:=Vi _ e;refine ⟨gn.typeIs,PySem.F.args_dict_init_2 _ _,?_⟩;have DY:=I.hok.fresh (Vj s.heap.objs.size);have I1:Inv X pins σ (upd H s.heap.objs.size (.dT [])) { s with heap:=s.heap.push { cls:=.type "dict",data:=.dict #[] } }:=I.laid (a:=s.heap.objs.size) (o:=.dT []) (t':=s.toks) (fun _ _ q=>Vi _ q) (Vj _) (oA s.heap I.big);unfold XZ.«dict.__init__»;refine Va ?_;unfold Builtin.Dict.selfAndRest;refine Va (wpAny_notOrdered_dict gn.typeIs ?_);show Vw _ _ (pure (s.heap.objs.size,[VO l])) _ _ _;refine Vk ?_;show Vw _ _ (Builtin.Dict.updateFrom "dict.__init__" s.heap.objs.size (.ref l) [] .none) _ _ _;unfold Builtin.Dict.updateFrom;refine Va (XW (T:="list") ⟨_,gt,rfl⟩ ?_);rw [if_pos (by decide)];refine Va (bb_nokeysL (A:=X.A.in1.in1) (I.ok.hd hc) gt fun h1 GD k1=>?_);have I2:Inv X pins σ (upd H s.heap.objs.size (.dT [])) { s with heap:=h1,toks:=GD }:=I1.kept (t':=GD) fun b o e=>k1 b o e;simp only [Option.isNone_none,if_true];refine Va (X6 ?_);obtain ⟨od,es,ep,RH,Uu⟩:=id gn;have zK:s.heap.objs.size<h1.objs.size:=Vx (k1 _ _ RH);refine Va (wpAny_pyIter_list (l:=l) (items:=its.toArray) ⟨_,k1 _ _ gt,rfl,n,rfl⟩ ?_);refine Vk ⟨Ym PySem.F.bb_plain_upd _,?_⟩;have RI:l≠s.heap.objs.size:=az el DY
 have LO:VW (PrA (upd H s.heap.objs.size (.dT []))) prs ps:=BB.P2.mp (fun x y e=>by
  obtain ⟨ka,g1,g2⟩:=e;exact ⟨ka,by rw [ag (az g1 DY)];exact g1,by rw [ag (az g2 DY)];exact g2⟩) Am
 have RJ:(upd H s.heap.objs.size (.dT [])) h1.objs.size=none:=I2.hok.fresh (Vj _);refine qm (A:=X.A.in1) (d:=s.heap.objs.size) (it:=h1.objs.size) (l:=l) (prs:=prs) (ps:=ps) (I.ok.hd hc) (by show X.A.units+1+8<W7;omega) hn prs.length 0 _ 0 (upd H s.heap.objs.size (.dT [])) [] (Nat.sub_zero _) (VJ _) (I2.kept (t':=GD) fun b o e=>Vi _ e) ab (Vj _) (I2.fpOk (Vj _) RJ) ⟨_,Vq _ rfl,rfl,rfl⟩ (by rw [ag RI];exact el) LO fun s' I'=>?_;rw [ku,YG] at I';exact ⟨rfl,.ref s.heap.objs.size,_,I',rfl,q _ DY⟩
end
end L2
namespace BB
open PySem L2
theorem wq {k:Nat} {A:V2} (hr:L2.Room k A):A.units+12<W7:=by
 have:=hr.units;omega
mutual
theorem sh (pre:List Int):∀ t:Th,(t.pl pre).map (·.2)=t.walk
 | .knot n ks=>by
   rw [Th.pl_eq,Th.walk_eq,V3];show Th.knot n ks::(pls pre 0 ks).map (·.2)=Th.knot n ks::walks ks;rw [mX pre 0 ks]
 | .call s k=>by rw [Th.pl_eq,Th.walk_eq,V3];rfl
theorem mX (pre:List Int) (i:Int):∀ ts:List Th,(pls pre i ts).map (·.2)=walks ts
 | []=>by rw [pls,walks];rfl
 | t::ts=>by rw [pls,walks,Vs,sh _ t,mX pre (i+1) ts]
end
theorem jF {R:List Key->V->Prop}:∀ (prs f':List (List Key×V)),(∀ k v,aQ f' k=some v->R k v)->(∀ p∈prs,R p.1 p.2) →
 (∀ k v,aQ (bW f' prs) k=some v->R k v)/\(∀ k,((∃ v,aQ f' k=some v)∨∃ p∈prs,p.1=k)->∃ v,aQ (bW f' prs) k=some v)
 | [],f',h1,_=>⟨h1,fun k h=>by
   rcases h with h | ⟨p,hp,_⟩
   · exact h
   · cases hp⟩
 | p::prs,f',h1,h2=>by
   have ih:=jF (R:=R) prs (putK f' p.1 p.2) (fun k v hv=>by
    rw [fQ] at hv;by_cases e:k=p.1
    · rw [if_pos e] at hv;cases hv;rw [e];exact h2 p (VC ..)
    · rw [if_neg e] at hv;exact h1 k v hv) (fun x hx=>h2 x (VB _ hx))
   refine ⟨ih.1,fun k h=>ih.2 k ?_⟩;by_cases e:k=p.1
   · left;exact ⟨p.2,by rw [fQ,if_pos e]⟩
   · rcases h with ⟨v,hv⟩ | ⟨x,hx,O7⟩
     · left;exact ⟨v,by rw [fQ,if_neg e];exact hv⟩
     · rcases VA.mp hx with rfl | hx
       · exact absurd O7.symm e
       · exact .inr ⟨x,hx,O7⟩
end BB
namespace PySem
section
variable {prog:Vu} {w:VI} {A:V2} {E:Vg->Vm->Prop} {s:Vm}
theorem bb_zip_next0 {z TI TO i1 i2 l1 l2:Vd} {k:Nat} {xs ys:Array Vg} {x y a b:Vg} {Q:Option Vg->Vm->Prop} (D:ZipApart z TI TO i1 i2 l1 l2)
 (hz:IsZip s.heap z TI TO .none) (hTI:Xz s.heap TI (.ref i1) (.ref i2)) (hTO:Xz s.heap TO a b)
 (h1:s.heap.IsTupleIter i1 l1 k) (h2:s.heap.IsTupleIter i2 l2 k) (Bs:s.heap.IsTuple l1 xs) (AL:s.heap.IsTuple l2 ys) (hx:xs[k]?=some x) (hy:ys[k]?=some y)
 (hQ:∀ h',IsZip h' z TI TO (Xi s.heap.objs.size)->Xz h' TO x y->h'.IsTupleIter i1 l1 (k+1)->h'.IsTupleIter i2 l2 (k+1)->Xz h' s.heap.objs.size x y->h'.objs.size=s.heap.objs.size+1 →
  (∀ c o,c≠z->c≠TO->c≠i1->c≠i2->s.heap.get? c=some o->h'.get? c=some o)->Q (some (.ref s.heap.objs.size)) { s with heap:=h' }) :
 Vw (VN prog w) A (Yl (.ref z)) Q E s:=by
 have hT:s.TypeIs (.ref z) "zip":=⟨_,hz,rfl⟩;unfold Yl;refine Va (Yk (Wi (name:=Vf "__next__") hT YH (Wu YH hT F.entry_zip_next ?_ (F.args_zip_next_1 _))));exact bb_zip_itemA D hz hTI hTO h1 h2 Bs AL hx hy fun h' a1 a2 a3 a4 a5 a6 a7=>Vk (hQ h' a1 a2 a3 a4 a5 a6 a7)
end
end PySem
namespace L2
open PySem PySem.Spec PyProof.Rows
def Itz (K:Vc) (a b:Vd):It:=⟨fun i H=>∃ xs ys x y,SqT K H a xs/\SqT K H b ys/\xs[i]?=some x/\ys[i]?=some y,fun i H v H'=>∃ p x y,H p=none/\v=.ref p/\H'=upd H p (.tup [x,y])/\(∀ xs,SqT K H a xs->xs[i]?=some x)/\(∀ ys,SqT K H b ys->ys[i]?=some y),fun i H=>∃ xs ys,SqT K H a xs/\SqT K H b ys/\(xs.length<=i∨ys.length<=i)⟩
structure ZTn (z TI TO i1 i2 a b:Vd) (i:Nat) (h:Wx):Prop where
 ap:ZipApart z TI TO i1 i2 a b
 zip:IsZip h z TI TO .none
 hTI:Xz h TI (.ref i1) (.ref i2)
 hTO:∃ u v,Xz h TO u v
 h1:h.IsTupleIter i1 a i
 h2:h.IsTupleIter i2 b i
theorem uE {P:Vu} {w:VI} {K:Vc} {elts:List Wq} {k1} {pos:Yr} (a b z TI TO i1 i2:Vd):Turn P w K (.Tuple elts k1 pos) (Itz K a b) [z,TI,TO,i1,i2] z (ZTn z TI TO i1 i2 a b) where
 mem:=by simp
 obj:=fun i h st c hc=>by
  obtain ⟨D,hz,hTI,⟨u,v,hTO⟩,⟨o1,a1,a2,a3⟩,⟨o2,b1,b2,b3⟩⟩:=st;simp only [VA,XN,or_false] at hc;rcases hc with rfl | rfl | rfl | rfl | rfl
  · exact ⟨_,hz,fun v z=>by cases z⟩
  · exact ⟨_,hTI,fun v z=>by cases z⟩
  · exact ⟨_,hTO,fun v z=>by cases z⟩
  · exact ⟨o1,a1,fun v z=>by rw [a3] at z;cases z⟩
  · exact ⟨o2,b1,fun v z=>by rw [b3] at z;cases z⟩
 keep:=fun i h h' st k=>by
  obtain ⟨D,hz,hTI,⟨u,v,hTO⟩,⟨o1,a1,a2⟩,⟨o2,b1,b2⟩⟩:=st;exact ⟨D,k _ (by simp) _ hz,k _ (by simp) _ hTI,⟨u,v,k _ (by simp) _ hTO⟩,⟨o1,k _ (by simp) _ a1,a2⟩,⟨o2,k _ (by simp) _ b1,b2⟩⟩
 item:=by
  intro X hP hw hK hc i pins s σ H E I hf st hg;subst hP hw hK;obtain ⟨xs,ys,x,y,EY,EZ,hx,hy⟩:=hg;obtain ⟨ia,FD,pa,GA⟩:=I.tuple EY;obtain ⟨ib,FE,pb,LJ⟩:=I.tuple EZ;obtain ⟨u,hu,ru⟩:=FD.get hx;obtain ⟨v,hv,rv⟩:=FE.get hy;obtain ⟨D,hz,hTI,⟨ta,tb,hTO⟩,h1,h2⟩:=st
  have lt:∀ c∈[z,TI,TO,i1,i2],c<s.heap.objs.size:=fun c hc=>by
   simp only [VA,XN,or_false] at hc;rcases hc with rfl | rfl | rfl | rfl | rfl
   · exact Vx hz
   · exact Vx hTI
   · exact Vx hTO
   · obtain ⟨o,e,_⟩:=h1;exact Vx e
   · obtain ⟨o,e,_⟩:=h2;exact Vx e
  refine bb_zip_next0 D hz hTI hTO h1 h2 (show s.heap.IsTuple a ia.toArray from pa) (show s.heap.IsTuple b ib.toArray from pb) (by simpa using hu) (by simpa using hv) fun CJ a1 a2 a3 a4 a5 a6 a7=>?_;refine ⟨_,rfl,wpAny_letOwnedTupleGo_zip a1 fun Cf g1 sb=>?_⟩;replace sb:W3 z CJ Cf:=sb;have HK:H s.heap.objs.size=none:=I.hok.fresh (Vj _)
  have IA:Inv X pins σ (upd H s.heap.objs.size (.tup [x,y])) { s with heap:=s.heap.push { cls:=.type "tuple",data:=.seq #[u,v] },toks:=s.toks } :=
   I.laid (o:=.tup [x,y]) (fun b ob q=>Vi _ q) (Vj _) ⟨by show 2<=Vz;decide,[u,v],0,.cons ru (.cons rv .nil),Vq _ rfl⟩
  have Uv:s.heap.objs.size≠z:=YJ (lt z (by simp));refine ⟨.ref s.heap.objs.size,upd H s.heap.objs.size (.tup [x,y]),?_,rfl,⟨_,x,y,HK,rfl,rfl,fun zs HY=>by rw [I.tuple_inj HY EY];exact hx,fun zs HY=>by rw [I.tuple_inj HY EZ];exact hy⟩,?_,fun c hc=>?_⟩
  · have IB:Inv X pins σ (upd H s.heap.objs.size (.tup [x,y])) { s with heap:=Cf,toks:=s.toks }:=by
     refine Inv.turnedL (s:={ s with heap:=s.heap.push { cls:=.type "tuple",data:=.seq #[u,v] },toks:=s.toks }) (h':=Cf) (fp:=[z,TI,TO,i1,i2]) (t':=s.toks) IA (fun c o hc q=>?_) fun c hc=>?_
     · have n1:c≠z:=fun e=>hc (by simp [e]);have n2:c≠TO:=fun e=>hc (by simp [e]);have n3:c≠i1:=fun e=>hc (by simp [e]);have n4:c≠i2:=fun e=>hc (by simp [e]);rw [sb.2 c n1];by_cases zT:c=s.heap.objs.size
       · subst zT;have q':(s.heap.push { cls:=.type "tuple",data:=.seq #[u,v] }).get? s.heap.objs.size=some o:=q;rw [Vq _ rfl] at q';rw [<- q'];exact a5
       · have q':(s.heap.push { cls:=.type "tuple",data:=.seq #[u,v] }).get? c=some o:=q;rw [Heap.get?_push_ne _ _ _ zT] at q';exact a7 c o n1 n2 n3 n4 q'
     · obtain ⟨f0,f1⟩:=hf c hc;exact ⟨by rw [ag (VU (lt c hc))];exact f0,f1⟩
    exact IB
  · have sT:∀ c o,c≠z->CJ.get? c=some o->Cf.get? c=some o:=fun c o hc e=>(sb.2 c hc).trans e;refine ⟨D,g1,sT _ _ D.TIz (a7 _ _ D.TIz D.TITO D.TIi1 D.TIi2 hTI),⟨_,_,sT _ _ D.TOz a2⟩,?_,?_⟩
    · obtain ⟨o,e,r⟩:=a3;exact ⟨o,sT _ _ D.i1z e,r⟩
    · obtain ⟨o,e,r⟩:=a4;exact ⟨o,sT _ _ D.i2z e,r⟩
  · rw [ag (VU (lt c hc))];exact (hf c hc).1
 done:=by
  intro X hP hw hK hc i pins s σ H E I hf st hg;subst hP hw hK;obtain ⟨xs,ys,EY,EZ,BR⟩:=hg;obtain ⟨ia,FD,pa,GA⟩:=I.tuple EY;obtain ⟨ib,FE,pb,LJ⟩:=I.tuple EZ;have Eh:=FD.length;have Ru:=FE.length;obtain ⟨D,hz,hTI,hTO,h1,h2⟩:=st;refine bb_zip_done (show X.A.handled=none from I.ok.hd hc) ⟨D,.inl hz,hTI,hTO,h1,h2,pa,pb⟩ ?_ fun h' kp=>⟨rfl,?_⟩
  · rcases BR with h | h
    · exact .inl (by simp;omega)
    · exact .inr (by simp;omega)
  exact I.turnedL (fp:=[z,TI,TO,i1,i2]) (t':=s.toks) (fun c o hc q=>kp c o (fun hm=>hc (by simp only [VA,XN,or_false] at hm ⊢;rcases hm with h | h | h | h <;> simp [h])) q) hf
 self:=fun _ _ _ _ _ st h=>wpAny_pyIter_zip st.zip h
section
variable {X:Cx} {e1 e2:Wq} {t:TA} {p2 zW:Yr}
def zq (K:Vc) (t:TA):TI:=fun σ H R=>t σ H fun vs H1=>∃ a b,vs=[.ref a,.ref b]/\(∃ xs,SqT K H1 a xs)/\(∃ ys,SqT K H1 b ys)/\R (Itz K a b) H1
theorem tX {elts:List Wq} {k1} {pos:Yr} (g2:Gl X "zip") (m2:X.mg "zip"=none) (ha:PA X [e1,e2] t)
 (h2:V0 [e1,e2] X.env=(false,Xh e1 X.env)::V0 [e2] X.env:=by rfl) (h3:(Yn zW (V0 [e2] X.env)).any (·.1)=false:=by rfl):PI X (.Tuple elts k1 pos) (.Call (.Name "zip" p2) [e1,e2] [] zW) (zq X.K t):=by
 intro pins s σ H R I h;refine WC (cU I g2 m2 boot_zip ?_);refine We (thn (ha zW pins s σ H _ I h) fun us s2 ⟨vs,H2,I2,r,a,b,ev,⟨xs,EY⟩,⟨ys,EZ⟩,q⟩=>?_) h2 h3;subst ev;obtain ⟨u1,u2,rfl,r1,r2⟩:=vals2 r;cases r1;cases r2;obtain ⟨ia,FD,pa,GA⟩:=I2.tuple EY;obtain ⟨ib,FE,pb,LJ⟩:=I2.tuple EZ;have AN:a<s2.heap.objs.size:=by obtain ⟨o,e,_⟩:=pa;exact Vx e
 have AM:b<s2.heap.objs.size:=by obtain ⟨o,e,_⟩:=pb;exact Vx e
 refine bb_call_zip (show s2.heap.IsTuple a ia.toArray from pa) (show s2.heap.IsTuple b ib.toArray from pb) fun h' z1 z2 z3 z4 z5 z6 z7=>?_;have D:ZipApart (s2.heap.objs.size+4) (s2.heap.objs.size+2) (s2.heap.objs.size+3) s2.heap.objs.size (s2.heap.objs.size+1) a b:=zipApart_new AN AM;refine wpAny_pyIter_zip (s:={ s2 with heap:=h' }) z1 ?_;refine ⟨s2.heap.objs.size+4,[s2.heap.objs.size+4,s2.heap.objs.size+2,s2.heap.objs.size+3,s2.heap.objs.size,s2.heap.objs.size+1],_,_,H2,rfl,I2.kept (t':=s2.toks) z7,uE a b _ _ _ _ _,⟨D,z1,z2,⟨_,_,z3⟩,z4,z5⟩,fun c hc=>?_,q⟩
 have Ao:s2.heap.objs.size<=c:=by
  simp only [VA,XN,or_false] at hc;rcases hc with h | h | h | h | h <;> rw [h]
  · exact Xx _ _
  · exact Xx _ _
  · exact Xx _ _
  · exact Vj _
  · exact Xx _ _
 exact I2.fpOk Ao (I2.hok.fresh Ao)
end
end L2
namespace BB
open PySem L2
end BB
namespace BB
open PySem L2
noncomputable section
local instance:DecidableEq Th:=fun _ _=>Classical.propDecidable _
end
end BB
namespace PySem
open Sem (wp)
section
variable {prog:Vu} {w:VI} {K:Type} [DecidableEq K] {knd:HeapKind prog w K} {A:V2} {E:Vg->Vm->Prop} {s:Vm}
theorem bb_setDefault_heap {d a:Vd} {xs:List (K×Vd×Vg)} {k:K} {v:Vg} {Q:Vg->Vm->Prop} (hu:knd.room A) (Ca:knd.is s.heap k a) (hm:s.heap.DictOfH knd d xs)
 (FH:∀ p,YT xs k=some p->Q p.2 { s with toks:=s.toks+knd.draws k })
 (FI:YT xs k=none->∀ h',h'.DictOfH knd d (Z3 xs k a v)->W3 d s.heap h'->Q v { s with heap:=h',toks:=s.toks+knd.draws k })
 (hsz:xs.length<=Vz):Vw (VN prog w) A (dictSetDefault d (.ref a) v) Q E s:=by
 obtain ⟨o,es,ep,ho,hc,hd,he,Kh,hn⟩:=hm;unfold dictSetDefault
 try with_reducible refine WH ?_
 refine Va (knd.pyHash hu Ca ?_);refine Va (wpAny_dictFind_heap (s:={ s with toks:=s.toks+knd.draws k }) hu Ca ho hd he Kh hn ?_ ?_)
 · intro Cb;have LP:k∉xs.map (·.1):=not_mem_keys_of_get Cb
   refine Va (X6 (Va (wpAny_updateDictKeys (hz:=by have e:=size_of_entries he;omega) (s:={ s with toks:=s.toks+knd.draws k }) ho hd (Vk (FI (Z4 Cb) _ ⟨_,_,ep+1,V4 _ ho (Obj.isFreed_of_dict (Obj.data_mapDictKeys hd _)),
    hc.mapDictKeys _,Obj.data_mapDictKeys hd _,?_,?_,?_⟩ (Xw ..))))))
   · rw [storedH_new (Z4 Cb)];simp [he,entryOfKey]
   · rw [storedH_new (Z4 Cb)];intro x hx;rcases VX.mp hx with hx | hx
     · exact knd.keeps (Kh x hx) ho hd (Xw ..)
     · simp only [VF] at hx;subst hx;exact knd.keeps Ca ho hd (Xw ..)
   · rw [storedH_new (Z4 Cb)];rw [Vs,ZH];refine ⟨hn,by simp,?_⟩;intro x hx y hy;simp only [V3,Xd,VF] at hy;subst hy;exact fun e=>LP (e ▸ hx)
 · intro j p hj;have h1:=FH _ (atKey_of_get hn hj);refine Va (Z2 (s:={ s with toks:=s.toks+knd.draws k }) ho hd ?_);rw [entry_at he j,hj];exact Va (X6 (Vk h1))
theorem bb_meets_setdefault (knd:HeapKind prog w K) (d a:Vd) (dflt:Vg) (hd:(d == Xc)=false) :
 MeetsIn prog w (XZ.«dict.setdefault» ⟨[.ref d,.ref a,dflt],[]⟩) (fun A R s=>knd.room A.in1/\∃ k xs,knd.is s.heap k a/\s.heap.DictOfH knd d xs/\xs.length<=Vz ∧
  (∀ p,YT xs k=some p->R (.ok (.ret p.2)) { s with toks:=s.toks+knd.draws k }) ∧
  (YT xs k=none->∀ h',h'.DictOfH knd d (Z3 xs k a dflt)->W3 d s.heap h'->R (.ok (.ret dflt)) { s with heap:=h',toks:=s.toks+knd.draws k })) :=
 .of_wp fun A R s ⟨hu,k,xs,Ca,hm,hz,h1,h2⟩=>by
  unfold XZ.«dict.setdefault»;refine Va ?_;unfold Builtin.Dict.keyAndDefault;have hT:s.TypeIs (.ref d) "dict":=hm.typeIs;refine Va (wpAny_notOrdered_dict hT ?_);show Vw _ _ (pure (d,VO a,some dflt)) _ _ s;refine Vk ?_;show Vw _ _ (if (d == Xc)=true then _ else (dictSetDefault d (.ref a) dflt >>= _)) _ _ s;rw [if_neg (by rw [hd];exact VG)];exact Va (bb_setDefault_heap hu Ca hm (fun p hp=>Vk ⟨_,rfl,h1 p hp⟩) (fun hn h' E2 Cu=>Vk ⟨_,rfl,h2 hn h' E2 Cu⟩) hz)
end
end PySem
namespace L2
open PySem PySem.Spec PyProof.Rows
end L2
namespace PySem
open Sem (wp)
section
variable {prog:Vu} {w:VI} {A:V2} {R:Result->Vm->Prop}
theorem bb_key_loop {S it d:Vd} {es:Array DictEntry} {ep:Nat} {od:Xq} (hh:A.in1.handled=none) (hz:es.size<=Vz) (FJ:S≠it) (HZ:S≠d) (Kg:d≠it) (g2:od.data=.dict es ep) (res:Vg) :
 ∀ (k i:Nat) (s:Vm) (acc:Array Vg) (c:Nat),es.size - i=k->i<=es.size->s.heap.IsKeyIter it d i es.size ep->s.heap.get? d=some od->s.heap.get? S=some { cls:=.type "list",dict:=none,data:=.seq acc c,slots:=#[] }->acc.toList=(es.toList.take i).map (·.key) →
 (∀ h' Aq c',(∀ b o,b≠S->b≠it->s.heap.get? b=some o->h'.get? b=some o)->h'.get? S=some { cls:=.type "list",dict:=none,data:=.seq Aq c',slots:=#[] }->Aq.toList=es.toList.map (·.key)->R (.ok (.ret res)) { s with heap:=h' }) →
 YM (VN prog w) A (.builtin "list.extend.loop" ⟨[.ref S,.ref it,res],[]⟩) R s:=by
 intro k;induction k with
 | zero =>
   intro i s acc c hk hi hit hd hS zH hR;have Ct:i=es.size:=by omega
   subst Ct;refine Y8 ZI ?_;rw [Yj WQ _];show Vw _ A.in1 (Yl (.ref it) >>= _) _ _ s;refine Va (bb_keyEnd hh hit hd g2 (Vj _) fun h' Ar=>Vk ?_);refine hR h' acc c (fun b o _ hb e=>Ar b o hb e) (Ar _ _ FJ hS) ?_;rw [zH,W5 (by rw [Wr];omega)]
 | succ k ih =>
   intro i s acc c hk hi hit hd hS zH hR;have zK:i<es.size:=by omega
   refine Y8 ZI ?_;rw [Yj WQ _];show Vw _ A.in1 (Yl (.ref it) >>= _) _ _ s;have hx:es[i]?=some es[i]:=Xs zK
   have AN:acc.size=i:=by
    have:=congrArg Y4 zH;rw [Wr,Vb,Wl,Wr] at this;omega
   refine Va (bb_keyNext hit hd g2 hx fun h' Ec Ar=>?_);have C6:=(Ar.2 S FJ).trans hS;have AR:=(Ar.2 d Kg).trans hd;show Vw _ A.in1 (ZN S (·.push es[i].key) >>= _) _ _ _;refine Va ?_;have BO:∀ b o,b≠S->h'.get? b=some o->(h'.update S (Wv (·.push es[i].key))).get? b=some o:=fun b o hb e=>(Wa _ _ (W4 hb)).trans e
   refine Xa C6 rfl (Vk ⟨Ym WQ _,ih (i+1) _ (acc.push es[i].key) _ (by omega) zK (Ec.at fun o e=>BO _ _ (W4 FJ) e) (BO _ _ (W4 HZ) AR) (V4 _ C6 rfl) ?_ fun LI Aq c' FA FC Dx=>?_⟩)
    (by rw [AN];omega) (by show (acc.push _).size<=Vz+1;rw [Array.size_push,AN];omega)
   · rw [Array.toList_push,zH,Ww,Ve (by rw [Wr];exact zK),Vs];simp
   · exact hR LI Aq c' (fun b o hb zT e=>FA b o hb zT (BO b o hb ((Ar.2 b zT).trans e))) FC Dx
end
section
variable {prog:Vu} {w:VI} {A:V2} {E:Vg->Vm->Prop} {s:Vm}
theorem bb_list_keys {d:Vd} {es:Array DictEntry} {ep:Nat} {od:Xq} {Q:Vg->Vm->Prop} (hh:A.in1.in1.handled=none) (ns:(d == Xc)=false) (hd:s.heap.get? d=some od) (gc:od.cls=.type "dict") (g2:od.data=.dict es ep) (hz:es.size<=Vz)
 (hQ:∀ h' acc c,(∀ b o,s.heap.get? b=some o->h'.get? b=some o)->h'.get? s.heap.objs.size=some { cls:=.type "list",dict:=none,data:=.seq acc c,slots:=#[] }->acc.toList=es.toList.map (·.key)->Q (.ref s.heap.objs.size) { s with heap:=h' }) :
 Vw (VN prog w) A (call (.type "list") [.ref d]) Q E s:=by
 have GF:=Vx hd;have HZ:s.heap.objs.size≠d:=YJ GF
 refine callType_codes (Q₁:=fun obj zt=>obj=.ref s.heap.objs.size/\zt={ s with heap:=s.heap.push { cls:=.type "list",data:=.seq #[] } }) F.called_list (F.typeCall_list_1 _) F.entry_list_init
  (code_list_new _ ⟨rfl,rfl⟩) fun obj zt zM=>?_
 obtain ⟨rfl,rfl⟩:=zM;have hS:(s.heap.push { cls:=.type "list",data:=.seq #[] }).get? s.heap.objs.size=some { cls:=.type "list",data:=.seq #[] }:=Vq _ rfl;refine ⟨⟨_,hS,rfl⟩,F.args_list_init_2 _ _,?_⟩;show Vw _ A.in1.in1 (do let old ← XY (.ref s.heap.objs.size);Builtin.List.listUpdate (.ref s.heap.objs.size) (fun _=>#[]);letGo old.toList.reverse;Xo (.ref s.heap.objs.size) (.ref d) .none) _ _ _;refine Va ?_;unfold XY;refine Va (WG hS rfl (Vk ?_));refine Va (Xa hS rfl ?_);have AF:=V4 (Wv (fun _=>(#[]:Array Vg))) hS rfl;refine Va (Z1 ?_);have CI:((s.heap.push { cls:=.type "list",data:=.seq #[] }).update s.heap.objs.size (Wv (fun _=>(#[]:Array Vg)))).objs.size=s.heap.objs.size+1:=by rw [Zs,Wo]
 generalize hH:(s.heap.push { cls:=.type "list",data:=.seq #[] }).update s.heap.objs.size (Wv (fun _=>(#[]:Array Vg)))=H2 at AF CI ⊢
 have old:∀ b o,s.heap.get? b=some o->H2.get? b=some o:=fun b o e=>by
  rw [<- hH,Wa _ _ (W4 (VU (Vx e)))];exact Vi _ e
 obtain ⟨c2,Ed⟩:∃ c,H2.get? s.heap.objs.size=some { cls:=.type "list",data:=.seq #[] c }:=⟨_,AF⟩;have hd2:=old _ _ hd;have HU:({ s with heap:=H2 }:Vm).TypeIs (.ref d) "dict":=⟨_,hd2,gc⟩;unfold Xo;refine Va (XW HU ?_);have h1:XH (.ref s.heap.objs.size) (.ref d)=false:=by simp [XH,HZ]
 have h2:(XD "dict" == XD "list")=false:=by decide
 have h3:(XD "dict" == XD "tuple")=false:=by decide
 simp only [h1,h2,h3,Bool.or_false,Wy,if_false];refine Va (bb_keyIter (s:={ s with heap:=H2 }) ns hd2 gc g2 ?_);refine Va (WH ?_);have FK:(H2.push { cls:=.type "dict_keyiterator",data:=.fields #[.ref d,.int 0 0,.int es.size 0,.int ep 0] }).IsKeyIter H2.objs.size d 0 es.size ep:=⟨_,Vq _ rfl,rfl,rfl⟩;have Ki:∀ b o,H2.get? b=some o->(H2.push { cls:=.type "dict_keyiterator",data:=.fields #[.ref d,.int 0 0,.int es.size 0,.int ep 0] }).get? b=some o:=fun b o e=>Vi _ e;have Ia:s.heap.objs.size≠H2.objs.size:=by rw [CI];omega
 have LR:d≠H2.objs.size:=by rw [CI];exact VU (Y6 GF)
 show Vw _ _ _ _ _ ({ s with heap:=H2.push { cls:=.type "dict_keyiterator",data:=.fields #[.ref d,.int 0 0,.int es.size 0,.int ep 0] } }:Vm);generalize H2.push { cls:=.type "dict_keyiterator",data:=.fields #[.ref d,.int 0 0,.int es.size 0,.int ep 0] }=H3 at FK Ki ⊢;have O8:=Ki _ _ hd2;have LS:=Ki _ _ Ed;have LU:({ s with heap:=H3 }:Vm).TypeIs (.ref d) "dict":=⟨_,O8,gc⟩
 have key:∀ (h:Wx) (c₁:Nat),h.IsKeyIter H2.objs.size d 0 es.size ep->(∀ b o,b≠s.heap.objs.size->H3.get? b=some o->h.get? b=some o)->h.get? s.heap.objs.size=some { cls:=.type "list",data:=.seq #[] c₁ } →
  YM (VN prog w) A.in1 (.builtin "list.extend.loop" ⟨[.ref s.heap.objs.size,.ref H2.objs.size,.none],[]⟩) (wants (fun r Ad=>r=.none/\Q (.ref s.heap.objs.size) Ad) E) { s with heap:=h }:=by
  intro h c₁ hit hk BM;refine bb_key_loop hh hz Ia HZ LR g2 .none es.size 0 _ #[] c₁ rfl (VJ _) hit (hk _ _ (W4 HZ) O8) BM rfl fun h' Aq c' hm C6 zH=>?_;refine ⟨rfl,hQ h' Aq c' (fun b o e=>?_) C6 zH⟩;have hb:=VU (Vx e);exact hm b o hb (by rw [CI];exact VU (Y6 (Vx e))) (hk b o hb (Ki b o (old b o e)))
 unfold XX;refine Va (WR LU F.slot_dict_len.lookup ?_);generalize hid:("dict.__len__":String)=Fv
 wp_delta
 rw [show splitId Fv=some ("dict","__len__") from by subst hid;decide +kernel];subst hid;refine Va (X0 (T:="dict") (b:=true) LU (by rw [Ys];kernel_rfl) ?_);refine wpAny_ite_split (fun Bh=>absurd Bh (by decide)) (fun _=>?_);refine wpAny_ite_split (fun _=>?_) (fun Bh=>absurd (by decide +kernel) Bh);refine Va (XW LU ?_);refine Vk ?_;refine wpAny_ite_split (fun _=>?_) (fun _=>Vk ⟨Ym WQ _,key _ c2 FK (fun b o _ e=>e) LS⟩);refine Va (X6 ?_);refine Va ?_;show Vw _ _ (ZN s.heap.objs.size (·.push .none) >>= fun _=>ZN s.heap.objs.size (·.pop)) _ _ _;refine Va (Xa LS rfl ?_);have AG:=V4 (Wv (·.push WI)) LS rfl;refine Xa (hz:=by seq_fits) AG rfl ?_;have BN:=V4 (Wv (·.pop)) AG rfl
 have BO:∀ b o,b≠s.heap.objs.size->H3.get? b=some o->((H3.update s.heap.objs.size (Wv (·.push WI))).update s.heap.objs.size (Wv (·.pop))).get? b=some o :=
  fun b o hb e=>(Wa _ _ (W4 hb)).trans ((Wa _ _ (W4 hb)).trans e)
 exact Vk ⟨Ym WQ _,key _ _ (FK.at fun o e=>BO _ _ (W4 Ia) e) BO BN⟩
end
end PySem
namespace L2
open PySem PySem.Spec PyProof.Rows
end L2
namespace L2
open PySem PySem.Spec PyProof.Rows BB
theorem xq {H:Hp} {es:List Dv} {ws:List V} {its:List Vg} (r1:Vals ws its) (hws:DAts H es ws) (j:Nat) (z:Vg) (hz:its[j]?=some z):∃ e y',es[j]?=some e/\DAt H e y'/\RelV y' z:=by
 have hj:j<its.length:=(Vn.mp hz).1;have l1:=r1.length;have l2:=hws.length;have FL:j<es.length:=by omega
 obtain ⟨y',Di,dy⟩:=hws.at (Ve FL);obtain ⟨v',AK,CK⟩:=r1.get Di;rw [hz] at AK;cases AK;exact ⟨_,y',Ve FL,dy,CK⟩
theorem tL {H:Hp} {z:Vg} {e e':Dv} {y' Ib:V} (h1:DAt H e y') (h2:RelV y' z) (h3:DAt H e' Ib) (h4:RelV Ib z):e=e':=by
 have:=h2.inj h4;subst this;exact h1.inj h3
def vE (K:Vc) (B:Nat):V->List V->Hp->VK->Prop:=fun x vs H Q=>∃ (l:Vd) (y:V) (ws:List V) (d:Dv) (es:List Dv) (j:Nat),x=.ref l/\vs=[y]/\SqL K H l ws/\DAt H d y/\DAts H es ws/\bC es<=B/\es[j]?=some d/\(∀ i,i<j->es[i]?≠some d)/\es.length<=100000/\Q (.int (j:Nat)) H
open Classical in
theorem mO {X:Cx} {B:Nat} (hu:X.A.units+B+4<W7):MtM X "list.index" (vE X.K B):=by
 intro pins s σ H x vs v us Q I rx rv h;obtain ⟨l,y,ws,d,es,j,rfl,rfl,hS,hd,hws,hB,hj,Cb,hz,q⟩:=h;cases rx;obtain ⟨u,rfl,ru⟩:=rv.one;obtain ⟨its,r,pl,_⟩:=I.list hS;have hlen:=r.length;have AL:=hws.length;obtain ⟨⟨cls,dd,data,sl⟩,ho,hc,n,GG⟩:=pl.isList;simp only at hc GG;subst hc GG;have E4:j<es.length:=(Vn.mp hj).1
 have LV:∀ (m:Nat) (z:Vg),its[m]?=some z->∃ e y',es[m]?=some e/\DAt H e y'/\RelV y' z/\decide (∃ y',DAt H d y'/\RelV y' z)=decide (e=d):=fun m z hz=>by
  obtain ⟨e,y',he,dy,ry⟩:=xq r hws m z hz;refine ⟨e,y',he,dy,ry,?_⟩;by_cases h:e=d
  · rw [decide_eq_true h,decide_eq_true ⟨y',h ▸ dy,ry⟩]
  · rw [decide_eq_false h,decide_eq_false];rintro ⟨Ib,h1,h2⟩;exact h (tL dy ry h1 h2)
 refine call_meets ZO ⟨_,ho,rfl⟩ PySem.F.entry_list_index (PySem.F.args_list_index_2 _ _)
  (SeqAt.list_indexAt l its.toArray n dd sl u (fun z=>decide (∃ y',DAt H d y'/\RelV y' z)) j (by rw [Vr];omega) (by omega) ?_ ?_) ⟨ho,fun y hy=>?_,⟨.int (j:Nat),H,I.tok _,⟨_,rfl⟩,q⟩⟩
 · obtain ⟨e,y',he,dy,ry,e3⟩:=LV j (its.toArray[j]'(by rw [Vr];omega)) (by simp);rw [hj] at he;cases he;rw [e3];exact decide_eq_true rfl
 · intro m hm zK;obtain ⟨e,y',he,dy,ry,e3⟩:=LV m (its.toArray[m]'hm) (by simp);rw [e3];exact decide_eq_false fun z=>Cb m zK (by rw [he,z])
 · have Di:y∈its:=by simpa using hy
   obtain ⟨m,hm⟩:=VH.mp Di;obtain ⟨e,y',he,dy,ry,e3⟩:=LV m y hm;rw [e3];have hq:=eW he;refine n8 I _ e d (Vj _) y' _ y u _ dy hd ry ru ?_;show X.A.units+1+_<W7;omega
end L2
namespace PySem
open Sem (wp)
section
variable {prog:Vu} {w:VI} {K:Type} [DecidableEq K] (knd:HeapKind prog w K) (d:Vd)
end
section
variable {prog:Vu} {w:VI} {K:Type} [DecidableEq K] {knd:HeapKind prog w K} {A:V2} {E:Vg->Vm->Prop} {s:Vm}
end
end PySem
namespace L2
open PySem PySem.Spec PyProof.Rows
end L2
namespace BB
open PySem L2
end BB
namespace BB
open PySem L2
end BB
namespace BB
open PySem L2
end BB
namespace BB
open PySem L2
theorem lN {H:Hp}:∀ {ks:List (VM×Int)} {as:List Vd},KsAt H ks as->∀ z∈ks.zip as,z.1∈ks/\KAt H z.1 z.2
 | _,_,.nil,z,hz=>by simp at hz
 | _,_,.cons (a:=k) (b:=a) r t,z,hz=>by
   rw [Yp] at hz;rcases VA.mp hz with rfl | hz
   · exact ⟨VC ..,r⟩
   · obtain ⟨h1,h2⟩:=lN t z hz;exact ⟨VB _ h1,h2⟩
theorem qJ {K:Vc} {js:List (Option Nat)} {tt:TT} {te:TE} {σ:St} {H:Hp} {kr:Vd} {Ah:List Vd} {ks:List (VM×Int)} {fin:Vd->Hp->Prop} (p:VM×Int->Bool) (e:H kr=some (.tup (Ah.map V.ref))) (CL:KsAt H ks Ah) (hl:ks.length<=1000) (hp:∃ k∈ks,p k=true)
 (EO:∀ (z:VM×Int) (ka:Vd) (H2:Hp) (R:Bool->Hp->Prop),L2.Same H H2->KAt H2 z ka->R (p z) H2->tt ((cσ js σ).set 0 (some (.ref ka))) H2 R)
 (HJ:∀ (ka:Vd) (H2:Hp) (R:VK),R (.ref ka) H2->te ((cσ js σ).set 0 (some (.ref ka))) H2 R)
 (q:∀ (D:Vd) (bs:List ((VM×Int)×Vd)) (H':Hp),H D=none->H'=upd H D (.lst (bs.map fun z=>V.ref z.2))->1<=bs.length->bs.length<=ks.length->(∀ z∈bs,z.1∈ks/\p z.1=true/\KAt H z.1 z.2)->fin D H') :
 ∀ D,H D=none->∃ (n:Nat) (W:Nat->Hp->Prop),W 0 (upd H D (.lst []))/\gG js (ax 0) tt te σ (Itt K kr) D n W fun H'=>fin D H':=by
 have BV:ks.length=Ah.length:=Vv CL;have O9:(ks.zip Ah).length=ks.length:=by rw [Yu];omega
 have GA:∀ (i:Nat) (x:V) (z:(VM×Int)×Vd),(Ah.map V.ref)[i]?=some x->(ks.zip Ah)[i]?=some z->x=.ref z.2:=fun i x z hx hz=>by
  obtain ⟨ka,rfl,BW⟩:=aV hx;obtain ⟨h1,h2⟩:=W9.mp hz;rw [BW] at h2;cases h2;rfl
 refine pw (ks.zip Ah) (fun z=>p z.1) (fun z=>.ref z.2) (SqT.of e) (by rw [O9,Vb];exact BV) (by rw [Vb];omega) (fun i x z H2 R hx hz sm r=>?_) (fun i x z H2 R hx hz _ sm r=>?_) (fun D hD=>?_)
 · rw [GA i x z hx hz];have:=(lN CL z (Vh hz)).2;exact EO z.1 z.2 H2 R sm (sm _ _ this) r
 · rw [GA i x z hx hz];exact HJ z.2 H2 R r
 · refine q D _ _ hD rfl ?_ ?_ ?_
   · obtain ⟨k,hk,RK⟩:=hp;obtain ⟨i,hi,rfl⟩:=List.getElem_of_mem hk;have hz:(ks.zip Ah)[i]'(by omega)∈(ks.zip Ah).filter fun z=>p z.1:=WV.mpr ⟨YL _,by rw [List.getElem_zip];exact RK⟩;exact List.length_pos_of_mem hz
   · exact WZ (Yx _ _) (by omega)
   · intro z hz;obtain ⟨h1,h2⟩:=WV.mp hz;obtain ⟨h3,h4⟩:=lN CL z h1;exact ⟨h3,h2,h4⟩
end BB
namespace BB
open PySem L2 PySem.Builtin PySem.Builtin.Str
end BB
namespace L2
open PySem PySem.Spec PySem.Calls PyProof.Rows BB
section
variable {X:Cx} {pins:List (Vd×Xq)} {σ:List (Option V)} {H:Hp} {s:Vm}
end
end L2
namespace L2
open PySem PySem.Spec PySem.Calls PyProof.Rows PySem.Builtin PySem.Builtin.Str BB
variable {X:Cx}
end L2
namespace BB
open PySem L2
end BB
namespace BB
open PySem L2
section
variable {H H':Hp} {t:Th} {a:Vd} {ts:List Th} {es:List Vd}
end
end BB
namespace L2
open PySem PySem.Spec PyProof.Rows BB
variable {X:Cx}
end L2
namespace L2
open PySem PySem.Spec PyProof.Rows PySem.W
end L2
namespace L2
open PySem PySem.Spec PyProof.Rows BB
variable {X:Cx}
end L2
namespace L2
open PySem PySem.Spec PySem.Calls PyProof.Rows PySem.W
end L2
namespace BB
open PySem L2 PySem.Builtin PySem.Builtin.Str
end BB
namespace L2
open PySem PySem.Spec PySem.Calls PyProof.Rows PySem.Builtin PySem.Builtin.Str BB
variable {X:Cx}
end L2
namespace L2
open PySem PySem.Spec PyProof.Rows
end L2
namespace BB
open PySem L2
end BB
namespace L2
open PySem PySem.Spec PyProof.Rows
end L2
namespace L2
open PySem PySem.Spec PySem.Calls PyProof.Rows
structure za (P:Vu) (w:VI) (K:Vc) (mg:VM->Option Vg) (base:Wx) (CX:CXT) (k:Nat) (f:Vd) (sp:Sp):Prop where
 fn:∀ (A:V2) (outer:List Env) (s:Vm) (H:Hp) (vs:List V) (Q:VK) (E:XK),Env0 P w K mg base A outer s H->sp vs H Q E->PySem.W.FnAt f s.heap
 run:∀ (A:V2) (outer:List Env) (s:Vm) (H:Hp) (us:List Vg) (vs:List V) (Q:VK) (E:XK),Room k A->Env0 P w K mg base A outer s H->Vals vs us->sp vs H Q E →
  YM (VN P w) A (.call (.ref f) ⟨us,[]⟩) (CR CX outer P w H s Q E) s
section
variable {X:Cx} {CX:CXT} {k i:Nat} {E:XK} {x:VM} {p pos:Yr} {e:Wq} {es:List Wq} {t:TA}
def w6 (P:Vu) (w:VI) (K:Vc) (mg:VM->Option Vg) (base:Wx) (CX:CXT) (k i:Nat) (E:XK) (t:TA):TE:=fun σ H Q=>∃ f sp,σ[i]?=some (some (.ref f))/\za P w K mg base CX k f sp/\t σ H fun vs H1=>sp vs H1 Q E
theorem qM {M:Model} {A:V2} {E:Vg->Vm->Prop} {s:Vm} {env:Env} {pos:Yr} {Q:Vg->Vm->Prop} {q:Vd} {e:Wq} {rest:List Wq} (h:Vw M A (spliced (Yn pos (V0 (e::rest) env))) (fun vs zt=>PySem.W.FnAt q zt.heap/\Vw M A (call (.ref q) ([]++vs)) Q E zt) E s)
 (he:V0 (e::rest) env=(false,Xh e env)::V0 rest env) (AW:(Yn pos (V0 rest env)).any (·.1)=false) :
 Vw M A (callWith pos (.ref q) [] (Yn pos (V0 (e::rest) env)) []) Q E s:=by
 rw [he] at h ⊢;exact PySem.W.callWith_of (by show ((false || (Yn pos (V0 rest env)).any (·.1)) || false)=false;rw [AW];rfl) PySem.W.keeps_F (evalArgs_plain h)
theorem t4 (hN:X.N[i]?=some x) (hv:Vis X.env.scope x) (hr:Room k X.A) (hx:Passes CX X E) (ha:PA X (e::es) t) (Df:(x == ("__debug__":VM))=false:=by decide) (BH:(x == ("__classdict__":VM))=false:=by decide)
 (he:V0 (e::es) X.env=(false,Xh e X.env)::V0 es X.env:=by rfl) (Av:(Yn pos (V0 es X.env)).any (·.1)=false:=by rfl) :
 PE X (.Call (.Name x p) (e::es) [] pos) (w6 X.prog X.w X.K X.mg X.base CX k i E t):=by
 intro pins s σ H Q I h;obtain ⟨f,sp,RL,F,q⟩:=h;refine WC (thn (uy (X:=X) hN hv Df BH pins s σ H (fun v H1=>v=.ref f/\t σ H1 fun vs H2=>sp vs H2 Q E) I ⟨_,RL,rfl,q⟩) fun u s1 ⟨v,H1,I1,r,e1,q1⟩=>?_);subst e1;obtain rfl:u=VO f:=r;refine qM (thn (ha pos pins s1 σ H1 _ I1 q1) fun us s2 ⟨vs,H2,I2,r2,q2⟩=>⟨F.fn X.A X.stack s2 H2 vs Q E I2.env0 q2,?_⟩) he Av;refine wpAny_call (codeAny_mono (F.run X.A X.stack s2 H2 ([]++us) vs Q E hr I2.env0 r2 q2) fun r s' hq=>?_);cases r with
 | error e=>exact hx pins σ H2 s2 e s' I2 hq
 | ok fl =>
   cases fl with
   | ret u=>exact I2.after hq
   | next=>exact Xm hq
   | brk=>exact Xm hq
   | cont=>exact Xm hq
end
def CodeAt (H:Hp) (c:Vd) (qual:VM):Prop:=∃ φ,H c=some (.ext φ)/\∀ h:Wx,φ h->h.CodeRec (.ref c) qual
theorem CodeAt.mono {H H':Hp} (s:Same H H') {c:Vd} {q:VM} (h:CodeAt H c q):CodeAt H' c q:=by
 obtain ⟨φ,h1,h2⟩:=h;exact ⟨φ,s _ _ h1,h2⟩
structure Lam (mg:VM->Option Vg) (base:Wx) (c P:Vd):Prop where
 hd:PySem.W.CodeHd base c P
 bl:base.BuiltinsAt mg P
def SameT (P:Vd) (H H':Hp):Prop:=∀ b o,b≠P->H b=some o->H' b=some o
def tabOf (pos:Yr) (c':Vd):Array Vg:=#[Xi pos.line,Xi pos.col,.ref c']
def TabSt (H:Hp) (P:Vd) (pos:Yr) (qual:VM):Prop:=H P=some (.tbl #[])∨∃ c',H P=some (.tbl (tabOf pos c'))/\CodeAt H c' qual
theorem TabSt.mono {H H':Hp} (s:Same H H') {P:Vd} {pos:Yr} {qual:VM} (h:TabSt H P pos qual):TabSt H' P pos qual:=by
 rcases h with h | ⟨c',h1,h2⟩
 · exact .inl (s _ _ h)
 · exact .inr ⟨c',s _ _ h1,h2.mono s⟩
theorem SameT.trans {P:Vd} {H H1 H2:Hp} (a:SameT P H H1) (b:SameT P H1 H2):SameT P H H2:=fun c o n e=>b c o n (a c o n e)
theorem Same.t {H H':Hp} (s:Same H H') (P:Vd):SameT P H H':=fun b o _ e=>s b o e
theorem SameT.kt {P:Vd} {H H':Hp} (s:SameT P H H') {pp:Array Vg} (hP:H P=some (.tbl pp)):BB.KT H H':=fun b xs e=>s b _ (fun z=>by rw [z,hP] at e;cases e) e
theorem TabSt.kt {P:Vd} {H H':Hp} {pos:Yr} {qual:VM} (t:TabSt H P pos qual) (s:SameT P H H'):BB.KT H H':=by
 rcases t with h | ⟨_,h,_⟩
 · exact s.kt h
 · exact s.kt h
theorem u9 (pos:Yr) (c':Vd):TriplesOk (tabOf pos c').toList:=trivial
theorem sZ (pos:Yr) (c':Vd):codeAmong pos (tabOf pos c').toList=some (.ref c'):=by
 show codeAmong pos [Xi pos.line,Xi pos.col,.ref c']=_;simp [codeAmong,Xi]
section
variable {X:Cx} {k:Nat} {f:Vd} {fd:XJ} {ps:List VM} {sp:Sp} {x:VM} {p pos:Yr} {e:Wq} {es:List Wq} {t:TA}
end
theorem Fun.okT {P:Vu} {w:VI} {K:Vc} {mg:VM->Option Vg} {base:Wx} {x qual:VM} {st:WL} {f c:Vd} {fd:XJ} {N ps:List VM} {k:Nat} {sp:Sp} (F:Fun K x qual st f fd) (hc:fd.code=.ref c) (S:av N ps (ai st)) (len:∀ vs H Q E,sp vs H Q E->vs.length=ps.length)
 (BI:∀ (A:V2) (outer:List Env) (s:Vm) (H:Hp) (vs:List V) (Q:VK) (E:XK),Room k (A.deeper (envOfC qual (ai st) s.heap.objs.size f (.ref c)))->sp vs H Q E →
  ∃ t,PSs (qq CX0 P w K mg base N qual (ai st) f (.ref c) A outer s H E).nox (bg st) t/\t { nx:=fun _ H'=>Q .non H',rt:=Q } (start N vs) H):aW P w K mg base CX0 (k+1) f fd ps sp:=by
 obtain ⟨oc,od,kV,doc,pm,an,zG,ct,DT,rfl,lk,BH⟩:=F.ex;have Ao:zG=.ref c:=hc;subst Ao;refine wE lk BH S len fun A outer s H vs Q E hr DU=>?_;obtain ⟨t,h,q⟩:=BI A outer s H vs Q E hr DU;exact ⟨t,h.nox,q⟩
theorem wu {K:Vc} {x qual:VM} {st:WL} {f c P:Vd} {fd:XJ} (F:Fun K x qual st f fd) (hn:Ws K VS x=some (some (.ref f))) (ht:YU K x=some (c,P)):fd.code=.ref c:=by
 obtain ⟨oc,od,kV,doc,pm,an,zG,ct,DT,rfl,lk,BH⟩:=F.ex;unfold YU at ht;rw [hn] at ht;simp only [lk] at ht;show zG=.ref c;cases zG with
 | ref c2 =>
   simp only [Xj] at ht;split at ht
   · split at ht
     · cases ht;rfl
     · cases ht
   · cases ht
 | _=>simp [Xj] at ht
end L2
namespace L2
open PySem PySem.Spec PyProof.Rows
theorem ss {P:Vu} {w:VI} {K:Vc} {mg mb:VM->Option Vg} {CX:CXT} {k:Nat} {fa a c T:Vd} {fd:XJ} {x:VM} {sp:Sp} {zt:Vm} {vs:List Vg} {ns:List Int}
 (KX:K.In zt.heap) (Fu:zt.heap.Ns VS mg) (hb:zt.heap.Ns builtinsNs mb) (LW:∀ x:VM,x≠"__name__"->mb x=bootBuiltins x) (LX:zt.heap.NoLimit) (hg:zt.gens=#[])
 (ha:zt.heap.get? a=some { cls:=.type "list",data:=.seq vs.toArray }) (hi:IntsAre vs ns) (hl:ns.length<=Vz) (hr:Room k callerA)
 (hC:PySem.W.CodeHd zt.heap c T) (hT:zt.heap.get? T=some (PySem.W.tabObj #[])) (AM:zt.heap.BuiltinsAt mg T) (LY:K.lookup T=none)
 (F:∀ base:Wx,K.In base->base.Ns VS mg->Lam mg base c T->aW P w K mg base CX k fa fd [x] sp) (Ic:∀ (s:Vm) (u:Vg),BindsTo s fd ⟨[u],[]⟩ [(x,u)])
 (DU:∀ H:Hp,SqL K H a (ns.map V.int)->H T=some (.tbl #[])->sp [.ref a] H (fun v _=>v=.bl true) fun _ _ _=>False)
 (LZ:∀ H e s',CX [] H zt (fun _ _ _=>False) e s'->False) :
 YM (VN P w) callerA (.call (.ref fa) ⟨[.ref a],[]⟩) (fun r s'=>r=.ok (.ret (.bool true))/\OldK zt.heap s'.heap/\s'.os=zt.os/\AllBare s'.gens) zt:=by
 have rv:=nh hi;have L3:=hi.length;have Pa:a≠T:=fun z=>by rw [z,hT] at ha;cases ha
 have core:∀ H:Hp,(∀ b,H b=none∨(∃ o xs,H b=some (.frz o (.lst xs)))∨(b=T/\H b=some (.tbl #[])))->H T=some (.tbl #[])->SqL K H a (ns.map V.int)->HOk P w H zt.heap->(∀ b,H b≠none->b=a∨b=T)->(H a≠none->K.lookup a=none) →
  YM (VN P w) callerA (.call (.ref fa) ⟨[.ref a],[]⟩) (fun r s'=>r=.ok (.ret (.bool true))/\OldK zt.heap s'.heap/\s'.os=zt.os/\AllBare s'.gens) zt:=by
  intro H hO L4 hS hok hA hK;have AS:∀ {b:Vd} {o:Xq},zt.heap.get? b=some o->H b=none->(mm zt.heap H).get? b=some o:=fun e n=>ub e n
  have L6:∀ {b:Vd} {o:Xq},zt.heap.get? b=some o->(∀ xs n,o.data≠.seq xs n)->(∀ xs,o.data≠.fields xs∨o.cls≠.none)->H b=none:=fun {b o} e d1 d2=>by
   cases q:H b with
   | none=>rfl
   | some u =>
     rcases hA b (by rw [q];simp) with e' | e'
     · subst e';rw [ha] at e;cases e;exact absurd rfl (d1 _ _)
     · subst e';rw [hT] at e;cases e;rcases d2 #[] with z | z
       · exact absurd rfl z
       · exact absurd rfl z
  have Kj:∀ {b:Vd} {m:VM->Option Vg},zt.heap.Ns b m->(mm zt.heap H).Ns b m:=fun {b m} ⟨o,es,ep,e,d,r⟩=>⟨o,es,ep,AS e (L6 e (fun xs n=>by rw [d];exact fun z=>nomatch z) (fun xs=>.inl (by rw [d];exact fun z=>nomatch z))),d,r⟩
  have Pb:K.In (mm zt.heap H):=fun b o e=>AS (KX b o e) (by
   cases q:H b with
   | none=>rfl
   | some u =>
     rcases hA b (by rw [q];simp) with e' | e'
     · subst e';rw [hK (by rw [q];simp)] at e;cases e
     · subst e';rw [LY] at e;cases e)
  have hM:Mod K mg (mm zt.heap H):=⟨Pb,Kj Fu,⟨mb,Kj hb,LW⟩,let ⟨mc,h1,h2⟩:=LX;⟨mc,Kj h1,h2⟩⟩
  have hL:Lam mg (mm zt.heap H) c T:=by
   refine ⟨?_,?_⟩
   · obtain ⟨o,RM,file,tf,flags,tg,RN,text,tt,e1,r1,r2,r3⟩:=hC;exact ⟨o,RM,file,tf,flags,tg,RN,text,tt,AS e1 (L6 e1 (fun xs n=>by rw [r2];exact fun z=>nomatch z) (fun xs=>.inr (by rw [r1];exact fun z=>nomatch z))),r1,r2,r3⟩
   · obtain ⟨bm,o,h1,h2,h3,h4,h5,h6,h7,h8⟩:=AM;exact ⟨bm,o,h1,h2,h3,h4,AS h5 (L6 h5 (fun xs n=>by rw [h8];exact fun z=>nomatch z) (fun xs=>.inl (by rw [h8];exact fun z=>nomatch z))),h6,h7,h8⟩
  have e0:Env0 P w K mg (mm zt.heap H) callerA [] zt H:=⟨rfl,hM,fun b o e=>vX e,ZY (sP _ _),trivial,fun b hb=>absurd (show b∈([]:List Vd) from hb) (by simp),hok,.of_eq hg⟩;refine codeAny_mono ((F _ Pb (Kj Fu) hL).run callerA [] zt H ⟨[.ref a],[]⟩ [.ref a] [.ref a] _ _ hr e0 (Ic zt (.ref a)) (.cons rfl .nil) (DU H hS L4)) fun r s' h=>?_;cases r with
  | error e=>exact (LZ H e s' h).elim
  | ok fl =>
    cases fl with
    | next=>exact Xm h
    | brk=>exact Xm h
    | cont=>exact Xm h
    | ret u =>
      obtain ⟨v,H',os,bare,un,Ie,r',q⟩:=h;have q':v=.bl true:=q;subst q';obtain rfl:u=Value.bool true:=r';refine ⟨rfl,⟨fun b o e=>?_,fun b o e=>un.there b o e (by simp)⟩,os,bare⟩;cases q:H b with
      | none=>exact .inl (un.keep b o e q (by intro z;exact absurd (show b∈([]:List Vd) from z) (by simp)) (by simp))
      | some u =>
        rcases hO b with z | ⟨ob,xs,z⟩ | ⟨rfl,z⟩
        · rw [q] at z;cases z
        · have z2:=un.frzs b ob _ z;obtain ⟨e1,_⟩:=hok b _ z;obtain ⟨e2,_⟩:=Ie b _ z2;rw [e] at e1;cases e1;exact .inl e2
        · obtain ⟨more,z2⟩:=un.tbls b _ z;have e2:s'.heap.get? b=some { cls:=.none,data:=.fields (#[]++more) }:=Ie b _ z2;rw [hT] at e;cases e;exact .inr (.inl ⟨(hC.tab hT).isCodeTable,rfl,#[],more,rfl,e2⟩)
 have okT:∀ H:Hp,ObjOk P w H zt.heap T (.tbl #[]):=fun _=>hT;cases hk:K.lookup a with
 | some o =>
   have e:=KX a o hk;rw [ha] at e;cases e;refine core (fun b=>if b=T then some (.tbl #[]) else none) (fun b=>?_) (if_pos rfl) (.inr ⟨_,vs.toArray,_,hk,rfl,rfl,rfl,by rw [Vr,L3];exact hl,by simpa using rv⟩) (fun b u z=>?_) (fun b z=>?_) fun z=>absurd (if_neg Pa) z
   · by_cases hb:b=T
     · exact .inr (.inr ⟨hb,if_pos hb⟩)
     · exact .inl (if_neg hb)
   · by_cases hb:b=T
     · have z':=(if_pos hb).symm.trans z;cases z';rw [hb];exact okT _
     · have z':=(if_neg hb).symm.trans z;cases z'
   · by_cases hb:b=T
     · exact .inr hb
     · exact absurd (if_neg hb) z
 | none =>
   refine core (fun b=>if b=T then some (.tbl #[]) else if b=a then some (.frz { cls:=.type "list",data:=.seq vs.toArray } (.lst (ns.map V.int))) else none) (fun b=>?_) (if_pos rfl) (.inl (.inr ⟨{ cls:=.type "list",data:=.seq vs.toArray },(if_neg Pa).trans (if_pos rfl)⟩)) (fun b u z=>?_) (fun b z=>?_) fun _=>hk
   · by_cases hb:b=T
     · exact .inr (.inr ⟨hb,if_pos hb⟩)
     · by_cases Aj:b=a
       · exact .inr (.inl ⟨_,_,(if_neg hb).trans (if_pos Aj)⟩)
       · exact .inl ((if_neg hb).trans (if_neg Aj))
   · by_cases hb:b=T
     · have z':=(if_pos hb).symm.trans z;cases z';rw [hb];exact okT _
     · have z':=(if_neg hb).symm.trans z;by_cases Aj:b=a
       · have z2:=(if_pos Aj).symm.trans z';cases z2;subst Aj;exact ⟨ha,by rw [Vb];exact hl,vs,_,rv,ha⟩
       · have z2:=(if_neg Aj).symm.trans z';cases z2
   · by_cases hb:b=T
     · exact .inr hb
     · by_cases Aj:b=a
       · exact .inl Aj
       · exact absurd ((if_neg hb).trans (if_neg Aj)) z
def tabAt (o:Xq):Option Vd:=match o.data with
 | .fields vs=>(match (vs[11]?:Option Vg) with
   | some (.ref P)=>some P
   | _=>none)
 | _=>none
theorem wS {K:Vc} {x:VM} {f c T:Vd} {oc:Vg} {od:Option Vd} {sl:Array (Option Vg)} {fd:XJ} {ot:Xq} (hn:Ws K VS x=some (some (.ref f))) (hl:K.lookup f=some ⟨oc,od,.func fd,sl⟩) (hc:fd.code=.ref c) (ho:K.lookup c=some ot) (ht:tabAt ot=some T):YU K x=some (c,T):=by
 unfold YU;rw [hn];simp only [hl,hc,ho];obtain ⟨o1,o2,o3,o4⟩:=ot;unfold tabAt at ht;cases o3 with
 | fields vs =>
   simp only at ht ⊢;split at ht
   · rename_i e
     cases ht;simp only [e]
   · cases ht
 | _=>cases ht
theorem tV {l:PySem.W.OpenLaw} {n k:Nat} {q:Vu} {loose:List VM} {XP:(VM->Option Vg)->Wx->Prop} {YP:VI->Wx->Prop} {d dt:DefRec} {K:Params->Vc} {CX:VI->CXT} {sp:VI->Vd->Sp} {x tn:VM}
 (hn:l.most=some n) (Hk:n<=Vz) (Ht:d.params.defaults=[]) (hr:Room k callerA) (hq:(recsOf q).find? (fun e=>e.name == tn)=some dt)
 (hY:∀ (w:VI) (h:Wx),YP w h->(K w.params).In h)
 (F:∀ (w:VI) (mg:VM->Option Vg) (fa:Vd) (h:Wx),(K w.params).In h->h.Ns VS mg->mg d.name=some (.ref fa) →
  ∃ (fd:XJ) (c T:Vd),(∀ (s:Vm) (u:Vg),BindsTo s fd ⟨[u],[]⟩ [(x,u)])/\YU (K w.params) tn=some (c,T)/\(K w.params).lookup T=none ∧
    ∀ base:Wx,(K w.params).In base->base.Ns VS mg->Lam mg base c T->aW l.prog w (K w.params) mg base (CX w) k fa fd [x] (sp w T))
 (DU:∀ (w:VI) (T:Vd) (H:Hp) (a:Vd) (ns:List Int),ns.length<=n->SqL (K w.params) H a (ns.map V.int)->H T=some (.tbl #[])->sp w T [.ref a] H (fun v _=>v=.bl true) fun _ _ _=>False)
 (LZ:∀ (w:VI) (H:Hp) (s:Vm) (e:Vg) (s':Vm),CX w [] H s (fun _ _ _=>False) e s'->False) :
 PySem.W.WalkO q loose XP YP l.row.toRowW d [] (fun f vs=>PySem.call f vs):=by
 refine Att.attach_call hn Ht fun w s₀ zt mg mb fa o pm cd doc a vs ns G Y ho hd BH Hu Ft hints hlen hg=>?_;have KX:=hY w _ Y;obtain ⟨fd,c,T,hb,ht,LY,hF⟩:=F w mg fa _ KX G.T.g Hu;obtain ⟨hC,hT⟩:=PySem.W.tab_of G.T KX hq ht
 have AM:zt.heap.BuiltinsAt mg T:=by
  obtain ⟨bm,ob,b1,b2,b3,b4,b5,b6⟩:=G.T.bmain;refine ⟨bm,ob,b1,b2,fun z=>?_,fun z=>?_,b3,b4,b5,b6⟩
  · obtain ⟨o',es,ep,e,d',_⟩:=G.T.g;rw [z,e] at b3;cases b3;rw [d'] at b6;cases b6
  · rw [z,hT] at b3;cases b3;cases b4
 exact ss KX G.T.g G.T.b G.T.builtins G.T.nolimit hg Ft hints (WZ hlen Hk) hr hC hT AM LY hF hb (fun H hS L4=>DU w T H a ns hlen hS L4) fun H e s'=>LZ w H zt e s'
end L2
namespace L2
open PySem PySem.Spec PyProof.Rows
inductive m8 (x:V) (vs:List V) (H:Hp) (Q:VK):Prop
 | mk (a:Vd) (v:V) (k:Key) (f':List (Key×V)) (zI:x=.ref a) (zJ:vs=[kV k,v]) (zP:H a=some (.dK f')) (zZ:f'.length<Vz) (Ai:(∀ u,aQ f' k=some u->Q u H)) (AX:(aQ f' k=none->Q v (upd H a (.dK (putK f' k v))))):m8  x vs H Q
def tY:V->List V->Hp->VK->Prop:=m8
theorem lL {X:Cx}:MtM X "dict.setdefault" tY:=by
 intro pins s σ H x vs v us Q I rx rv h;obtain ⟨a,y,k,f',rfl,rfl,e,l,q1,q2⟩:=h;cases rx;cases rv with
 | cons r1 rv =>
 cases rv with
 | cons r2 rv =>
 cases rv;obtain ⟨z,hd,xs,rel,dd⟩:=rA I.hok e;have hz:xs.length<=Vz:=by rw [<- rel.length];exact z
 have hl:(putK f' k y).length<=Vz:=by have:=bo f' k y;omega
 have hT:s.TypeIs (.ref a) "dict":=dd.typeIs;refine call_meetsIn XF hT PySem.F.entry_dict_setdefault (PySem.F.args_dict_setdefault_3 _ _ _) (kt_meets_setdefault (ay X.prog X.w) a (jY r1) hd _) ⟨xs,dd,hz,fun p hp=>?_,fun hn h' B2 hs=>?_⟩
 · have hr:=rel.val k;rw [hp] at hr;cases hv:aQ f' k with
   | none=>rw [hv] at hr;exact hr.elim
   | some u =>
     rw [hv] at hr;exact ⟨u,H,I.tok _,hr,q1 u hv⟩
 · have hr:=rel.val k;rw [hn] at hr;cases hv:aQ f' k with
   | some u=>rw [hv] at hr;exact hr.elim
   | none =>
     refine ⟨y,_,?_,r2,q2 hv⟩;obtain ⟨q,es,ep,hq,rest⟩:=id B2;exact fy I (by rw [e];exact XR) hs ⟨q,hq⟩ ⟨hl,hd,_,rel.put k r2,B2⟩
inductive uJ (xs:List V) (H:Hp) (Q:VK):Prop
 | mk (a:Vd) (f':List (Key×V)) (zI:xs=[.ref a]) (zJ:H a=some (.dK f')) (zP:Q (.int f'.length) H):uJ  xs H Q
def yb:List V->Hp->VK->Prop:=uJ
theorem jf {X:Cx}:jI X (.builtin "len") yb:=by
 intro pins s σ H xs us Q I r h;obtain ⟨a,f',rfl,e,q⟩:=h;obtain ⟨u,rfl,rx⟩:=vals1 r;cases rx;exact yy I (.inl e) fun t s' I'=>⟨.int f'.length,H,I',⟨_,rfl⟩,q⟩
inductive oE (xs:List V) (H:Hp) (Q:VK):Prop
 | mk (a:Vd) (f':List (Key×V)) (zI:xs=[.ref a]) (zJ:H a=some (.dK f')) (zP:∀ l,H l=none->Q (.ref l) (upd H l (.lst (f'.map fun kv=>kV kv.1)))):oE  xs H Q
def vZ:List V->Hp->VK->Prop:=oE
theorem kR {P:Vu} {w:VI}:∀ {es:List DictEntry} {f':List (Key×V)} {xs:List (Key×Vg)},Pairs (ay P w) es xs->KV f' xs->Vals (f'.map fun kv=>kV kv.1) (es.map (·.key))
 | _,_,_,.nil,.nil=>.nil
 | _,_,_,.cons hk _ ht,.cons h t=>by
   refine .cons ?_ (kR ht t);dsimp only;rw [h.1];rcases aY hk with ⟨i,tk,e1,e2⟩ | ⟨x,tk,e1,e2⟩
   · rw [e1];exact ⟨tk,e2⟩
   · rw [e1];exact ⟨tk,e2⟩
theorem oo {X:Cx} (hc:X.calm=true):jI X (.type "list") vZ:=by
 intro pins s σ H xs us Q I r h;obtain ⟨a,f',rfl,e,q⟩:=h;obtain ⟨u,rfl,rx⟩:=vals1 r;cases rx;obtain ⟨z,hd,ys,rel,dd⟩:=rA I.hok e;have hT:=dd.typeIs;obtain ⟨o,es,ep,ho,RO,GG,hk,hp,hn⟩:=dd;obtain ⟨o',Bd,Bq⟩:=hT;have eo:o'=o:=VL (Bd.symm.trans ho);subst eo;have hv:=kR hp rel
 have hsz:es.size<=Vz:=by
  have h1:=hv.length;simp only [Vb] at h1;have h2:es.toList.length=es.size:=by simp
  omega
 have hh:X.A.in1.in1.handled=none:=I.ok.hd hc;refine bb_list_keys hh hd Bd Bq GG hsz fun h' acc c Ar hS zH=>?_;refine ⟨.ref s.heap.objs.size,upd H s.heap.objs.size (.lst (f'.map fun kv=>kV kv.1)),?_,rfl,q _ I.fresh⟩;exact I.laid (t':=s.toks) Ar (Vj _) ⟨by rw [Vb];omega,acc.toList,c,by rw [zH];exact hv,hS⟩
end L2
namespace BB
open PySem L2
theorem mI (f:Int->Int->Th):∀ ts:List Th,fills f ts=ts.map (·.fill f)
 | []=>rfl
 | t::ts=>by rw [fills,mI f ts];rfl
def rowOf (rows:List (List Th)) (s:Int):List Th:=rows.getD s.toNat []
section
variable {head:Th} {rows:List (List Th)}
end
end BB
namespace L2
open PySem PySem.Spec PySem.SeqAt PyProof.Rows
theorem lq {α:Type} [DecidableEq α] {s:Vm} {A:V2} {a b:Vd} {its zD:List Vg} {ds es:List α} (p1:s.heap.IsTuple a its.toArray) (p2:s.heap.IsTuple b zD.toArray) (l1:its.length=ds.length) (l2:zD.length=es.length) (hu:A.units<W7)
 (ih:∀ (j:Nat) (d e:α) (u v:Vg),ds[j]?=some d->es[j]?=some e->its[j]?=some u->zD[j]?=some v->EqAt A.in1 s u v (decide (d=e))):RcAt A s (.ref a) (.ref b) (decide (ds=es)):=by
 have Dz:RcAt A s (.ref a) (.ref b) ((V9 (min its.toArray.size zD.toArray.size)).all (fun j=>decide (ds[j]?=es[j]?)) && its.toArray.size == zD.toArray.size):=by
  refine RcAt.tuples p1 p2 hu fun j h1 h2=>?_;have CJ:j<ds.length:=by rw [<- l1];simpa using h1
  have Cf:j<es.length:=by rw [<- l2];simpa using h2
  have e1:ds[j]?=some ds[j]:=Ve CJ;have e2:es[j]?=some es[j]:=Ve Cf;have e3:decide (ds[j]?=es[j]?)=decide (ds[j]=es[j]):=by rw [e1,e2];simp
  have g1:its[j]?=some its[j]:=Ve (by rw [l1];exact CJ);have g2:zD[j]?=some zD[j]:=Ve (by rw [l2];exact Cf);rw [e3];exact ih j ds[j] es[j] its[j] zD[j] e1 e2 g1 g2
 have e:decide (ds=es)=((V9 (min its.toArray.size zD.toArray.size)).all (fun j=>decide (ds[j]?=es[j]?)) && its.toArray.size == zD.toArray.size):=by
  rw [Vr,Vr,l1,l2];by_cases h:ds=es
  · subst h;rw [decide_eq_true rfl];symm;simp
  · rw [decide_eq_false h];symm;by_cases hl:ds.length=es.length
    · rw [hl,ZX]
      have:¬ ((V9 es.length).all (fun j=>decide (ds[j]?=es[j]?)))=true:=by
       intro z;apply h;apply Yd;intro j;by_cases hj:j<es.length
       · exact of_decide_eq_true (Zf.mp z j (XC.mpr hj))
       · rw [Xb (by omega),Xb (by omega)]
      rw [WO.mpr this];rfl
    · have:(ds.length == es.length)=false:=by simpa using hl
      rw [this,ZC]
 rw [e];exact Dz
theorem oN {A:V2} {s:Vm} {k l:Key} {u v:Vg} (hu:gQ k u=true) (hv:gQ l v=true):EqAt A s u v (decide (k=l)):=by
 rcases aY hu with ⟨i,t,rfl,rfl⟩ | ⟨x,t,rfl,rfl⟩
 · rcases aY hv with ⟨j,t',rfl,rfl⟩ | ⟨y,t',rfl,rfl⟩
   · have:decide ((VR i:Key)=VR j)=(i == j):=by
      by_cases h:i=j
      · subst h;simp
      · rw [decide_eq_false (fun z=>h (X9 z)),beq_eq_false_iff_ne.mpr h]
     rw [this];exact EqAt.int_int i t j t'
   · rw [decide_eq_false (fun z=>nomatch z)];exact EqAt.int_str i t y t'
 · rcases aY hv with ⟨j,t',rfl,rfl⟩ | ⟨y,t',rfl,rfl⟩
   · rw [decide_eq_false (fun z=>nomatch z)];exact EqAt.str_int x t j t'
   · have:decide ((YI x:Key)=YI y)=(x == y):=by
      by_cases h:x=y
      · subst h;simp
      · rw [decide_eq_false (fun z=>h (Sum.inr.inj z)),beq_eq_false_iff_ne.mpr h]
     rw [this];exact EqAt.str_str x t y t'
theorem je {P:Vu} {w:VI}:∀ {ks:List Key} {vs:List Vg} {j:Nat} {k:Key} {v:Vg},ItemsAre (ay P w) ks vs->ks[j]?=some k->vs[j]?=some v->gQ k v=true
 | _,_,0,k,v,.cons h _,e1,e2=>by cases e1;cases e2;exact h
 | _,_,j+1,k,v,.cons _ h,e1,e2=>je (j:=j) h e1 e2
theorem tH {P:Vu} {w:VI} {A:V2} {s:Vm} {x y:List Key} {a b:Vd} (hx:IsTupleKey (ay P w) s.heap x a) (hy:IsTupleKey (ay P w) s.heap y b) (hu:A.units<W7):EqAt A s (.ref a) (.ref b) (decide (x=y)):=by
 by_cases Bh:a=b
 · subst Bh;obtain rfl:=hx.inj hy;rw [decide_eq_true rfl];exact EqAt.same _
 · obtain ⟨o,its,n,ho,hc,hd,hi⟩:=hx;obtain ⟨o',its',n',Bd,Ao,AR,Ak⟩:=hy;have p1:s.heap.IsTuple a its.toList.toArray:=⟨o,ho,hc,n,by rw [hd]⟩;have p2:s.heap.IsTuple b its'.toList.toArray:=⟨o',Bd,Ao,n',by rw [AR]⟩;have:=lq (ds:=x) (es:=y) p1 p2 hi.length.symm Ak.length.symm hu fun j d e u v e1 e2 e3 e4=>oN (A:=A.in1) (s:=s) (je hi e1 e3) (je Ak e2 e4);exact EqAt.of_refs Bh this
abbrev aw:=List Key×Key
theorem rb {P:Vu} {w:VI} {A:V2} {E:Vg->Vm->Prop} {s:Vm} {m:Nat} {ks:List Key} {a:Vd} {Q:Bool->Vm->Prop} (hk:IsTupleKey (ay P w) s.heap ks a) (h:Q true s):Vw (VN P w) A (eqIsQuiet (m+1) (.ref a)) Q E s:=by
 have hT:=hk.typeIs;obtain ⟨o,items,n,ho,_,hd,hi⟩:=hk;unfold eqIsQuiet;refine Va (WR hT F.slot_tuple_eq.lookup ?_);show Vw _ _ (isInstance (.ref a) (.type "tuple") >>= _) _ _ s;refine Va (X0 hT isSubtype_tuple_tuple ?_);simp only [Zg,Wy,if_false];refine Va (WG ho hd ?_);refine Va ?_;show Vw _ _ (forIn items _ _) _ _ s;rw [<- Y2];refine wpAny_forIn_list _ (fun rest r s'=>r.1=none/\s'=s/\∀ v∈rest,carriedByValue v=true) _ ?_ ?_ _ _ ⟨rfl,rfl,hi.byValue⟩
 · rintro v rest r s' ⟨hr,rfl,zE⟩;rw [eqIsQuiet_byValue _ (zE v VC)];refine Va (Vk ?_);simp only [Zg,Wy,if_false];exact Vk ⟨rfl,rfl,fun u Bv=>zE u (VB _ Bv)⟩
 · rintro ⟨r1,r2⟩ s' ⟨hr,rfl,_⟩;simp only at hr;subst hr;exact Vk h
section
variable {X:Cx} {pins:List (Vd×Xq)} {σ:St} {H:Hp} {s:Vm} {o i value:Wq} {pos pos':Yr} {td ty tv:TE}
end
end L2
namespace BB
open PySem L2
end BB
namespace BB
open PySem L2
theorem FitSs.mem' {ks:List (VM×Int)} {S C:Int}:∀ {ts:List Th},FitSs ks S C ts->∀ t∈ts,t.FitS ks S C
 | [],_,t,ht=>by cases ht
 | u::us,h,t,ht=>by
   rw [FitSs] at h;rcases VA.mp ht with e | e
   · rw [e];exact h.1
   · exact FitSs.mem' h.2 t e
structure yu (ins outs:List (VM×Int)) (S:Int) (rows:List (List Th)):Prop where
 len:(rows.length:Int)=S
 row:∀ row∈rows,row.length=ins.length/\∀ (j:Nat) (p:Th) (k:VM×Int),row[j]?=some p->ins[j]?=some k->p.FitS outs S k.2
end BB
namespace BB
open PySem L2
end BB
namespace BB
open PySem L2
theorem sS {ins outs:List (VM×Int)} {S:Int} {rows:List (List Th)} (ok:yu ins outs S rows) {l:Int} (h0:0<=l) (h1:l<S):∃ row,rows[l.toNat]?=some row/\rowOf rows l=row/\row.length=ins.length/\∀ t∈row,∃ C,t.FitS outs S C:=by
 have hl:=ok.len;have hs:l.toNat<rows.length:=by omega
 refine ⟨rows[l.toNat],Ve hs,?_,(ok.row _ (YL hs)).1,fun t ht=>?_⟩
 · unfold rowOf;rw [ZT,Ve hs];rfl
 · obtain ⟨hlen,CM⟩:=ok.row _ (YL hs);obtain ⟨j,hj⟩:=VH.mp ht;have E4:=(Vn.mp hj).1;exact ⟨_,CM j t _ hj (Ve (by omega))⟩
section
variable {ins mid outs:List (VM×Int)} {S1 S2:Int} {DB DC:Th} {DD DE:List (List Th)}
end
end BB
namespace L2
open PySem PySem.Spec PySem.Calls PyProof.Rows
def xx (H:Hp) (f c':Vd) (name qual:VM) (params:Arguments) (body:List WL) (scope:YN) (cl:List (VM×Vd)):Prop:=∃ φ,H f=some (.ext φ)/\∀ h:Wx,φ h->∃ doc pm FN,h.get? f=some (PySem.W.fnMade name qual params body scope cl doc pm c' FN)
def yg (X:Cx) (P:Vd) (i:Nat) (name:VM) (pos:Yr) (params:Arguments) (body:List WL) (scope:YN) (cl:List (VM×Vd)):TS:=fun D σ H=>TabSt H P pos (X.env.qual++name) ∧
 ∀ f c' H',SameT P H H'->H' P=some (.tbl (tabOf pos c'))->CodeAt H' c' (X.env.qual++name)->xx H' f c' name (X.env.qual++name) params body scope cl->H f=none->D.nx (σ.set i (some (.ref f))) H'
theorem vB {X:Cx} {c P:Vd} {i:Nat} {name:VM} {pos:Yr} {params:Arguments} {body:List WL} {scope:YN} {cl:List (VM×Vd)} (L:Lam X.mg X.base c P) (hN:X.N.Nodup) (hi:X.N[i]?=some name) (Ig:Loc X.env.scope name) (hc:X.env.code=.ref c) (Bq:closureFor scope X.env=pure cl)
 (DY:params.defaults=[]:=by rfl) (AA:params.kw_defaults=[]:=by rfl) (ha:annTrees params none X.env=[]:=by rfl) (hq:qualnameIn X.env name name=X.env.qual++name:=by rfl) (Pd:X.fn name=true∨X.env.scope.names.lookup name=some .local:=by first | exact .inl rfl | exact .inr rfl | assumption) :
 PS X (.FunctionDef name params body [] none [] scope none name pos) (yg X P i name pos params body scope cl):=by
 intro pins s σ H D I h;obtain ⟨tab,q⟩:=h;have L9:s.heap.Ns VS X.mg:=I.mod.glob.keeps I.bk;have C:PySem.W.CodeHd s.heap c P:=L.hd.keeps I.bk
 have hb:s.heap.BuiltinsAt X.mg P:=by
  obtain ⟨bm,o,h1,h2,h3,h4,h5,h6⟩:=L.bl;exact ⟨bm,o,h1,h2,h3,h4,I.bk _ _ h5,h6⟩
 refine PySem.W.nestDef_K DY AA ha ?_;rw [hq];rcases tab with hP | ⟨c',hP,Kc⟩
 · have Kk:s.heap.get? P=some (PySem.W.tabObj #[]):=I.hok P _ hP
   have RP:VS≠P:=fun z=>by
    obtain ⟨o,es,ep,e,d,_⟩:=L9;rw [z,Kk] at e;cases e;cases d
   refine PySem.W.makeFunction_K Bq I.ok.glob L9 hc C Kk trivial rfl RP hb fun c' FN doc h' tk hx Kl zK Ih Km=>?_;have hsz:s.heap.objs.size<=h'.objs.size:=WZ Kl (Yb zK);have Pe:H c'=none:=I.hok.fresh Kl;have nf:H h'.objs.size=none:=I.hok.fresh hsz;have RQ:c'≠h'.objs.size:=VU zK;have RR:P≠c':=fun z=>by rw [z,Pe] at hP;cases hP
   have RS:P≠h'.objs.size:=fun z=>by rw [z,nf] at hP;cases hP
   obtain ⟨ob,Ma⟩:∃ ob,ob=PySem.W.fnMade name (X.env.qual++name) params body scope cl doc ((X.mg "__name__").getD .none) c' FN:=⟨_,rfl⟩;rw [<- Ma];have kp:∀ b o,b≠P->s.heap.get? b=some o->(h'.push ob).get? b=some o:=fun b o n e=>Vi _ (hx b o n e);obtain ⟨H',Kn⟩:∃ H',H'=upd (upd (upd H P (.tbl (tabOf pos c'))) c' (.ext fun h=>h.CodeRec (.ref c') (X.env.qual++name))) h'.objs.size (.ext fun h=>h.get? h'.objs.size=some ob):=⟨_,rfl⟩;have eP:H' P=some (.tbl (tabOf pos c')):=by rw [Kn,ag RS,ag RR,ab]
   have ec:H' c'=some (.ext fun h=>h.CodeRec (.ref c') (X.env.qual++name)):=by rw [Kn,ag RQ,ab]
   have ef:H' h'.objs.size=some (.ext fun h=>h.get? h'.objs.size=some ob):=by rw [Kn,ab]
   have eo:∀ b,b≠P->b≠c'->b≠h'.objs.size->H' b=H b:=fun b n1 n2 n3=>by rw [Kn,ag n3,ag n2,ag n1]
   have es:∀ b o,H b=some o->b≠P->H' b=some o:=fun b o e n=>by rw [eo b n (fun z=>by rw [z,Pe] at e;cases e) (fun z=>by rw [z,nf] at e;cases e)];exact e
   have un:Un X.fs [] H H' s.heap (h'.push ob):=by
    have nP:∀ b,H b=none->b≠P:=fun b n z=>by rw [z,hP] at n;cases n
    refine ⟨fun b o e n _ _=>kp b o (nP b n) e,fun b o e n _ _=>⟨o.slots,kp b o (nP b n) e⟩,fun b o e n _=>?_,fun b o e _=>?_,fun b xs e=>es b _ e (fun z=>by rw [z,hP] at e;cases e),fun b o u e=>es b _ e (fun z=>by rw [z,hP] at e;cases e),fun b pp e=>?_⟩
    · rw [eo b (nP b n) (VU (Wb (Vx e) Kl)) (VU (Wb (Vx e) hsz))];exact n
    · by_cases hb:b=P
      · exact ⟨_,by rw [hb];exact Vi _ Km⟩
      · exact ⟨o,kp b o hb e⟩
    · by_cases hb:b=P
      · subst hb;rw [hP] at e;cases e;exact ⟨tabOf pos c',by rw [eP];simp⟩
      · exact ⟨#[],by rw [es b _ e hb];simp⟩
   have hok:HOk X.prog X.w H' (h'.push ob):=fun a o e=>by
    by_cases ha:a=P
    · subst ha;rw [eP] at e;cases e;exact Vi _ Km
    by_cases Ao:a=c'
    · subst Ao;rw [ec] at e;cases e;refine ⟨Ih.push _,?_,fun h1 h2 z k=>?_⟩
      · obtain ⟨_,oc,_,_,e1,e2,_⟩:=Ih;cases e1;exact ⟨oc,Vi _ e2⟩
      · obtain ⟨_,oc,vs,t,e1,e2,e3⟩:=z;cases e1;exact ⟨_,oc,vs,t,rfl,k _ e2,e3⟩
    by_cases Pf:a=h'.objs.size
    · subst Pf;rw [ef] at e;cases e;have Ko:ob.isFreed=false:=by rw [Ma];rfl
      exact ⟨Vq _ Ko,⟨_,Vq _ Ko⟩,fun h1 h2 z k=>k _ z⟩
    rw [eo a ha Ao Pf] at e;refine (I.hok a o e).stay (fun b u hb z=>kp b u ?_ z) (fun b z=>es b _ z (fun y=>by rw [y,hP] at z;cases z)) fun b xs z=>es b _ z (fun y=>by rw [y,hP] at z;cases z);rcases hb with hb | hb
    · rw [hb];exact ha
    · exact fun y=>by rw [y,hP] at hb;cases hb
   refine fY (v:=.ref h'.objs.size) (I.un un hok) hN hi Ig rfl (fun s2 I2=>⟨_,H',I2,q _ c' H' (fun b o n e=>es b o e n) eP ⟨_,ec,fun _ z=>z⟩ ⟨_,ef,fun _ z=>⟨_,_,_,by rw [z,Ma]⟩⟩ nf⟩) Pd
 · have Kk:s.heap.get? P=some (PySem.W.tabObj (tabOf pos c')):=I.hok P _ hP;refine PySem.W.makeFunction_hit Bq I.ok.glob L9 hc C Kk (u9 pos c') (sZ pos c') hb fun FN doc h' tk hk hsz=>?_;have nf:H h'.objs.size=none:=I.hok.fresh hsz
   have I':=I.laid (h':=h'.push { cls:=.type "function",data:=.func (PySem.W.fnX name (X.env.qual++name) params body scope cl .none .none doc ((X.mg "__name__").getD .none) none (.ref c') FN) }) (a:=h'.objs.size) (t':=tk)
    (o:=.ext fun h=>h.get? h'.objs.size=some (PySem.W.fnMade name (X.env.qual++name) params body scope cl doc ((X.mg "__name__").getD .none) c' FN)) (fun b u e=>Vi _ (hk b u e)) hsz ⟨Vq _ rfl,⟨_,Vq _ rfl⟩,fun h1 h2 z k=>k _ z⟩
   have sm:Same H (upd H h'.objs.size (.ext fun h=>h.get? h'.objs.size=some (PySem.W.fnMade name (X.env.qual++name) params body scope cl doc ((X.mg "__name__").getD .none) c' FN))):=ad nf _;exact fY (v:=.ref h'.objs.size) I' hN hi Ig rfl (fun s2 I2=>⟨_,_,I2,q _ c' _ (sm.t P) (sm _ _ hP) (Kc.mono sm) ⟨_,ab,fun _ z=>⟨_,_,_,z⟩⟩ nf⟩) Pd
end L2
namespace BB
open PySem L2
end BB
namespace BB
open PySem L2
section
variable {ins mid outs:List (VM×Int)} {S1 S2:Int} {DB DC:Th} {DD DE:List (List Th)} {RT RU RV RW RX RY RZ:Nat}
end
end BB
namespace BB
open PySem L2
theorem lH {H:Hp}:∀ {ts:List Th} {as:List Vd},VW (At H) ts as->Ats H ts as
 | _,_,.nil=>.nil
 | _,_,.cons h g=>.cons h (lH g)
end BB
namespace BB
open PySem L2
end BB
namespace L2
open PySem PySem.Spec PySem.Calls PyProof.Rows
end L2
namespace L2
open PySem PySem.Spec PySem.Calls PyProof.Rows
abbrev cI (z:Int×Nat×Yr):Wq:=.Constant (.int z.1) z.2.1 z.2.2
end L2
namespace BB
open PySem L2
mutual
/-- FO over G4 fits -/
theorem jW {ks:List (VM×Int)} {S C:Int} {f g:Int->Int->Th}:∀ t:Th,t.FitS ks S C->(∀ s k,0<=s->s<S->0<=k->k<C->f s k=g s k)->t.fill f=t.fill g
 | .call s k,h,hf=>by
   rw [Th.FitS] at h;rw [Th.fill,Th.fill];exact hf s k h.1 h.2.1 h.2.2.1 h.2.2.2
 | .knot n ts,h,hf=>by
   rw [Th.FitS] at h;rw [Th.fill,Th.fill,iE ts h.2 hf]
theorem iE {ks:List (VM×Int)} {S C:Int} {f g:Int->Int->Th}:∀ ts:List Th,FitSs ks S C ts->(∀ s k,0<=s->s<S->0<=k->k<C->f s k=g s k)->fills f ts=fills g ts
 | [],_,_=>by rw [fills,fills]
 | t::ts,h,hf=>by
   rw [FitSs] at h;rw [fills,fills,jW t h.1 hf,iE ts h.2 hf]
end
end BB
namespace BB
open PySem L2
section
variable {k0 k1 k2 k3:List (VM×Int)} {SA SB SC:Int} {a0 b0 c0:Th} {Pg Ph Pj:List (List Th)}
end
end BB
namespace BB
open PySem L2
section
variable {ins mid outs:List (VM×Int)} {S1 S2:Int} {DB DC:Th} {DD DE:List (List Th)} {RT RU RV RW RX RY RZ:Nat}
end
end BB
namespace BB
theorem hid {G:Prop} (k:∀ F:Prop,(G->F)->F):G:=k G id
inductive Ex1 {A0:Type} (p:A0->Prop):Prop
 | mk (x0:A0) (h:p x0):Ex1 p
inductive Ex2 {A0 A1:Type} (p:A0->A1->Prop):Prop
 | mk (x0:A0) (x1:A1) (h:p x0 x1):Ex2 p
inductive Ex3 {A0 A1 A2:Type} (p:A0->A1->A2->Prop):Prop
 | mk (x0:A0) (x1:A1) (x2:A2) (h:p x0 x1 x2):Ex3 p
inductive Ex4 {A0 A1 A2 A3:Type} (p:A0->A1->A2->A3->Prop):Prop
 | mk (x0:A0) (x1:A1) (x2:A2) (x3:A3) (h:p x0 x1 x2 x3):Ex4 p
inductive Ex5 {A0 A1 A2 A3 A4:Type} (p:A0->A1->A2->A3->A4->Prop):Prop
 | mk (x0:A0) (x1:A1) (x2:A2) (x3:A3) (x4:A4) (h:p x0 x1 x2 x3 x4):Ex5 p
inductive Ex6 {A0 A1 A2 A3 A4 A5:Type} (p:A0->A1->A2->A3->A4->A5->Prop):Prop
 | mk (x0:A0) (x1:A1) (x2:A2) (x3:A3) (x4:A4) (x5:A5) (h:p x0 x1 x2 x3 x4 x5):Ex6 p
inductive Ex7 {A0 A1 A2 A3 A4 A5 A6:Type} (p:A0->A1->A2->A3->A4->A5->A6->Prop):Prop
 | mk (x0:A0) (x1:A1) (x2:A2) (x3:A3) (x4:A4) (x5:A5) (x6:A6) (h:p x0 x1 x2 x3 x4 x5 x6):Ex7 p
inductive An2 (a0 a1:Prop):Prop
 | mk (h0:a0) (h1:a1):An2 a0 a1
inductive An3 (a0 a1 a2:Prop):Prop
 | mk (h0:a0) (h1:a1) (h2:a2):An3 a0 a1 a2
inductive An4 (a0 a1 a2 a3:Prop):Prop
 | mk (h0:a0) (h1:a1) (h2:a2) (h3:a3):An4 a0 a1 a2 a3
inductive An5 (a0 a1 a2 a3 a4:Prop):Prop
 | mk (h0:a0) (h1:a1) (h2:a2) (h3:a3) (h4:a4):An5 a0 a1 a2 a3 a4
inductive An6 (a0 a1 a2 a3 a4 a5:Prop):Prop
 | mk (h0:a0) (h1:a1) (h2:a2) (h3:a3) (h4:a4) (h5:a5):An6 a0 a1 a2 a3 a4 a5
inductive An7 (a0 a1 a2 a3 a4 a5 a6:Prop):Prop
 | mk (h0:a0) (h1:a1) (h2:a2) (h3:a3) (h4:a4) (h5:a5) (h6:a6):An7 a0 a1 a2 a3 a4 a5 a6
inductive An8 (a0 a1 a2 a3 a4 a5 a6 a7:Prop):Prop
 | mk (h0:a0) (h1:a1) (h2:a2) (h3:a3) (h4:a4) (h5:a5) (h6:a6) (h7:a7):An8 a0 a1 a2 a3 a4 a5 a6 a7
inductive An9 (a0 a1 a2 a3 a4 a5 a6 a7 a8:Prop):Prop
 | mk (h0:a0) (h1:a1) (h2:a2) (h3:a3) (h4:a4) (h5:a5) (h6:a6) (h7:a7) (h8:a8):An9 a0 a1 a2 a3 a4 a5 a6 a7 a8
inductive xw (a0 a1 a2 a3 a4 a5 a6 a7 a8 a9:Prop):Prop
 | mk (h0:a0) (h1:a1) (h2:a2) (h3:a3) (h4:a4) (h5:a5) (h6:a6) (h7:a7) (h8:a8) (h9:a9):xw a0 a1 a2 a3 a4 a5 a6 a7 a8 a9
inductive xy (a0 a1 a2 a3 a4 a5 a6 a7 a8 a9 Pk Pl Pm:Prop):Prop
 | mk (h0:a0) (h1:a1) (h2:a2) (h3:a3) (h4:a4) (h5:a5) (h6:a6) (h7:a7) (h8:a8) (h9:a9) (Uw:Pk) (Ux:Pl) (Uy:Pm):xy a0 a1 a2 a3 a4 a5 a6 a7 a8 a9 Pk Pl Pm
end BB
namespace L2
open PySem PySem.Spec PyProof.Rows
end L2
namespace BB
open PySem L2
section
variable {ins outs:List (VM×Int)} {S:Int} {d:Nat} {head:Th} {rows:List (List Th)}
end
end BB
namespace L2
open PySem PySem.Spec PyProof.Rows
end L2
namespace L2
open PySem PySem.Spec PyProof.Rows
end L2
namespace L2
open PySem PySem.Spec PyProof.Rows
section
variable {X:Cx} {e:Wq} {te:TE} {apos zL:Yr}
end
section
variable {X:Cx} {e:Wq} {te:TE} {apos zL:Yr}
end
end L2
namespace PySem
open Sem (wp)
section
variable {prog:Vu} {w:VI} {A:V2} {E:Vg->Vm->Prop} {s:Vm} {it d:Vd} {i ep:Nat} {od:Xq} {es:Array DictEntry} {ok ov:Vg}
end
end PySem
namespace L2
open PySem PySem.Spec PyProof.Rows
section
variable {X:Cx} {e:Wq} {te:TE} {apos zL:Yr}
end
end L2
namespace L2
open PySem PySem.Spec PyProof.Rows
section
variable {X:Cx} {e1 e2:Wq} {t:TA} {p2 zW:Yr}
end
end L2
namespace L2
open PySem PySem.Spec PyProof.Rows
section
variable {X:Cx} {pins:List (Vd×Xq)} {σ:St}
end
end L2
namespace BB
open PySem L2
theorem og (pre:List Int) (n:VM) (ts:List Th):callsOf (Th.pl pre (.knot n ts))=callsOf (pls pre 0 ts):=by
 rw [Th.pl];rfl
theorem nN (pre:List Int) (s k:Int):callsOf (Th.pl pre (.call s k))=[(pre,s,k)]:=by
 rw [Th.pl];rfl
theorem nF (pre:List Int) (i:Int) (t:Th) (ts:List Th):callsOf (pls pre i (t::ts))=callsOf (t.pl (pre++[i]))++callsOf (pls pre (i+1) ts):=by
 rw [pls,dD]
end BB
namespace BB
open PySem L2
end BB
namespace BB
open PySem L2
mutual
theorem Th.dv_inj:∀ {t u:Th},t.dv=u.dv->t=u
 | .knot n ks,.knot m js,h=>by
   rw [Th.dv,Th.dv] at h;injection h with h;injection h with h1 h2;injection h1 with h1;rw [h1,rF h2]
 | .call s k,.call s' k',h=>by
   rw [Th.dv,Th.dv] at h;injection h with h;injection h with _ h;injection h with h1 h;injection h with h2 _;injection h1 with h1;injection h2 with h2;rw [h1,h2]
 | .knot n ks,.call s k,h=>by
   rw [Th.dv,Th.dv] at h;injection h with h;injection h with _ h;cases ks with
   | nil=>rw [dvs] at h;cases h
   | cons a as =>
     rw [dvs] at h;injection h with h _;cases a <;> rw [Th.dv] at h <;> cases h
 | .call s k,.knot n ks,h=>by
   rw [Th.dv,Th.dv] at h;injection h with h;injection h with _ h;cases ks with
   | nil=>rw [dvs] at h;cases h
   | cons a as =>
     rw [dvs] at h;injection h with h _;cases a <;> rw [Th.dv] at h <;> cases h
theorem rF:∀ {ts us:List Th},dvs ts=dvs us->ts=us
 | [],[],_=>rfl
 | [],u::us,h=>by rw [dvs,dvs] at h;cases h
 | t::ts,[],h=>by rw [dvs,dvs] at h;cases h
 | t::ts,u::us,h=>by
   rw [dvs,dvs] at h;injection h with h1 h2;rw [Th.dv_inj h1,rF h2]
end
theorem rO:∀ ts:List Th,dvs ts=ts.map Th.dv
 | []=>by rw [dvs];rfl
 | t::ts=>by rw [dvs,rO ts];rfl
theorem mU {α:Type}:∀ {l m:List α},l.Nodup->(∀ a∈l,a∈m)->l.length<=m.length
 | [],m,_,_=>VJ _
 | a::l,m,h,hs=>by
   rw [Y0] at h;obtain ⟨m1,m2,rfl⟩:=List.append_of_mem (hs a (VC ..))
   have:l.length<=(m1++m2).length:=mU h.2 fun b hb=>by
    rcases VX.mp (hs b (VB _ hb)) with z | z
    · exact V6 _ z
    · rcases VA.mp z with z | z
      · exact absurd (z ▸ hb) h.1
      · exact VY _ z
   rw [VD,Vo] at *;rw [Vo];omega
theorem iH {B:Nat}:∀ {ts:List Th},(∀ t∈ts,t.tall<=B)->bC (ts.map Th.dv)<=B
 | [],_=>by rw [Xd,bC];exact VJ _
 | t::ts,h=>by
   have h1:=t.dv_deep;have h2:=h t (VC ..);have h3:=iH (ts:=ts) fun u hu=>h u (VB _ hu);rw [V3,bC];omega
end BB
namespace L2
open PySem
theorem uc {K:Vc} {a:Vd} {xs:List V} {g:TG} {tb:TS} {D:Ends} {σ:St} {H:Hp} (Pv:Nat->St->Hp->Prop) (h0:Pv 0 σ H) (hl:∀ i σ H,i<=xs.length->Pv i σ H->SqT K H a xs)
 (hs:∀ i x p σ H,xs[i]?=some x->H p=none->Pv i σ H->g (.ref p) σ (upd H p (.tup [.int (i:Nat),x])) fun zU H2=>tb { D with nx:=Pv (i+1),ct:=Pv (i+1),bk:=D.nx } zU H2) (hd:∀ σ H,Pv xs.length σ H->D.nx σ H) :
 ∃ W:Nat->Nat->St->Hp->Prop,(∃ m,W 0 m σ H)/\∀ i m σ H,W i m σ H →
   ((Ite K a).stop i H/\D.nx σ H)∨((Ite K a).go i H/\∃ N:St->Hp->Prop,(∀ zu H',N zu H'->∃ m',m'<m/\W (i+1) m' zu H')/\∀ x H',(Ite K a).yld i H x H'->g x σ H' fun zU H2=>tb { D with nx:=N,ct:=N,bk:=D.nx } zU H2):=by
 refine ⟨fun i m σ H=>m=xs.length - i/\i<=xs.length/\Pv i σ H,⟨xs.length,by simp,VJ _,h0⟩,?_⟩;rintro i m σ H ⟨rfl,hi,p⟩;have q:=hl i σ H hi p;by_cases zK:i<xs.length
 · refine .inr ⟨⟨xs,xs[i],q,by simp [zK]⟩,Pv (i+1),fun zu H' p'=>⟨xs.length - (i+1),by omega,rfl,zK,p'⟩,fun x H' y=>?_⟩;obtain ⟨pa,y,hp,rfl,rfl,hy⟩:=y;exact hs i y pa σ H (hy xs q) hp p
 · have e:i=xs.length:=by omega
   subst e;exact .inl ⟨⟨xs,q,rfl⟩,hd σ H p⟩
theorem rj {K:Vc} {a b:Vd} {xs ys:List V} {g:TG} {tb:TS} {D:Ends} {σ:St} {H:Hp} (Uz:xs.length=ys.length) (Pv:Nat->St->Hp->Prop) (h0:Pv 0 σ H) (hl:∀ i σ H,i<=xs.length->Pv i σ H->SqT K H a xs/\SqT K H b ys)
 (hs:∀ i x y p σ H,xs[i]?=some x->ys[i]?=some y->H p=none->Pv i σ H->g (.ref p) σ (upd H p (.tup [x,y])) fun zU H2=>tb { D with nx:=Pv (i+1),ct:=Pv (i+1),bk:=D.nx } zU H2) (hd:∀ σ H,Pv xs.length σ H->D.nx σ H) :
 ∃ W:Nat->Nat->St->Hp->Prop,(∃ m,W 0 m σ H)/\∀ i m σ H,W i m σ H →
   ((Itz K a b).stop i H/\D.nx σ H)∨((Itz K a b).go i H/\∃ N:St->Hp->Prop,(∀ zu H',N zu H'->∃ m',m'<m/\W (i+1) m' zu H')/\∀ x H',(Itz K a b).yld i H x H'->g x σ H' fun zU H2=>tb { D with nx:=N,ct:=N,bk:=D.nx } zU H2):=by
 refine ⟨fun i m σ H=>m=xs.length - i/\i<=xs.length/\Pv i σ H,⟨xs.length,by simp,VJ _,h0⟩,?_⟩;rintro i m σ H ⟨rfl,hi,p⟩;obtain ⟨q1,q2⟩:=hl i σ H hi p;by_cases zK:i<xs.length
 · have Mb:i<ys.length:=by omega
   refine .inr ⟨⟨xs,ys,xs[i],ys[i],q1,q2,by simp [zK],by simp [Mb]⟩,Pv (i+1),fun zu H' p'=>⟨xs.length - (i+1),by omega,rfl,zK,p'⟩,fun x H' y=>?_⟩;obtain ⟨pa,x,y,hp,rfl,rfl,hx,hy⟩:=y;exact hs i x y pa σ H (hx xs q1) (hy ys q2) hp p
 · have e:i=xs.length:=by omega
   subst e;exact .inl ⟨⟨xs,ys,q1,q2,.inl (Vj _)⟩,hd σ H p⟩
end L2
namespace BB
open PySem L2
end BB
namespace BB
open PySem L2
end BB
namespace BB
open PySem L2
section
variable {C:Vd} {Dp:DP} {ins:List (VM×Int)} {rows:List (List Th)} {head:Th} {ok:Th->Prop} {H:Hp} {L:Lv} {i:Nat} {n:Nd} {B:Lv} {Hg:Hp} {B':Lv} {sp:List (Key×V)}
end
end BB
namespace BB
open PySem L2
end BB
namespace BB
open PySem L2
end BB
namespace BB
open PySem L2
section
variable {C:Vd} {Dp:DP} {ins:List (VM×Int)} {rows:List (List Th)} {head:Th} {ok:Th->Prop} {H0:Hp} {L B:Lv} {i:Nat} {H:Hp} {L' B':Lv}
end
end BB
namespace BB
open PySem L2
end BB
namespace BB
open PySem L2
end BB
namespace BB
open PySem L2
mutual
theorem jl {ks:List (VM×Int)} {S C:Int}:∀ (t:Th) (pre:List Int),t.FitS ks S C->∀ c∈callsOf (t.pl pre),0<=c.2.1/\c.2.1<S/\0<=c.2.2/\c.2.2<C
 | .call s k,pre,h,c,hc=>by
   rw [nN] at hc;rw [VF.mp hc];rw [Th.FitS] at h;exact h
 | .knot n ts,pre,h,c,hc=>by
   rw [og] at hc;rw [Th.FitS] at h;exact lS ts pre 0 h.2 c hc
theorem lS {ks:List (VM×Int)} {S C:Int}:∀ (ts:List Th) (pre:List Int) (i:Int),FitSs ks S C ts->∀ c∈callsOf (pls pre i ts),0<=c.2.1/\c.2.1<S/\0<=c.2.2/\c.2.2<C
 | [],pre,i,_,c,hc=>by rw [pls] at hc;cases hc
 | t::ts,pre,i,h,c,hc=>by
   rw [nF] at hc;rw [FitSs] at h;rcases VX.mp hc with hc | hc
   · exact jl t _ h.1 c hc
   · exact lS ts _ _ h.2 c hc
end
end BB
namespace BB
open PySem L2
end BB
namespace BB
open PySem L2
section
variable {ins mid outs:List (VM×Int)} {S1 S2:Int} {DB DC:Th} {DD DE:List (List Th)}
end
end BB
namespace BB
open PySem L2
end BB
namespace L2
open PySem PySem.Spec PySem.SeqAt PyProof.Rows
def IsNesm (P:Vu) (w:VI) (h:Wx) (k:aw) (a:Vd):Prop:=∃ (o:Xq) (n:Nat) (b:Vd) (u:Vg),h.get? a=some o/\o.cls=.type "tuple"/\o.data=.seq #[u,.ref b] n/\IsTupleKey (ay P w) h k.1 b/\gQ k.2 u=true
theorem IsNesm.typeIs {P:Vu} {w:VI} {s:Vm} {k:aw} {a:Vd} (x:IsNesm P w s.heap k a):s.TypeIs (.ref a) "tuple":=let ⟨o,_,_,_,ho,hc,_⟩:=x;⟨o,ho,hc⟩
theorem IsNesm.inj {P:Vu} {w:VI} {h:Wx} {a:Vd} {x y:aw} (hx:IsNesm P w h x a) (hy:IsNesm P w h y a):x=y:=by
 obtain ⟨o,n,b,u,ho,_,hd,hb,hu⟩:=hx;obtain ⟨o',n',b',u',Bd,_,AR,Aj,Bv⟩:=hy;obtain rfl:o=o':=VL (ho.symm.trans Bd);rw [hd] at AR;injection AR with h1 _;have h2:=congrArg Array.toList h1;cases h2;exact Prod.ext (hb.inj Aj) ((ay P w).inj _ _ _ hu Bv)
theorem IsNesm.keeps {P:Vu} {w:VI} {h h':Wx} {k:aw} {a d:Vd} {o:Xq} {es ep} (x:IsNesm P w h k a) (ho:h.get? d=some o) (hd:o.data=.dict es ep) (hs:W3 d h h'):IsNesm P w h' k a:=by
 obtain ⟨o',n,b,u,Bd,hc,AR,hb,hu⟩:=x
 have zS:a≠d:=by
  rintro rfl;obtain rfl:o'=o:=VL (Bd.symm.trans ho);rw [hd] at AR;exact nomatch AR
 exact ⟨o',n,b,u,(hs.2 a zS).trans Bd,hc,AR,hb.keeps ho hd hs,hu⟩
theorem tE {P:Vu} {w:VI} {A:V2} {s:Vm} {x y:aw} {a b:Vd} (hx:IsNesm P w s.heap x a) (hy:IsNesm P w s.heap y b) (hu:A.units+1<W7):EqAt A s (.ref a) (.ref b) (decide (x=y)):=by
 by_cases Bh:a=b
 · subst Bh;obtain rfl:=hx.inj hy;rw [decide_eq_true rfl];exact EqAt.same _
 · obtain ⟨o,n,c,u,ho,hc,hd,hb,hk⟩:=hx;obtain ⟨o',n',c',u',Bd,Ao,AR,Aj,Ar⟩:=hy;have p1:s.heap.IsTuple a [u,VO c].toArray:=⟨o,ho,hc,n,by rw [hd]⟩;have p2:s.heap.IsTuple b [u',VO c'].toArray:=⟨o',Bd,Ao,n',by rw [AR]⟩
   have:=lq (A:=A) (ds:=[(YI x.2:Sum (List Key) Key),VR x.1]) (es:=[YI y.2,VR y.1]) p1 p2 rfl rfl (by omega) fun j d e v v' e1 e2 e3 e4=>by
    match j with
    | 0 =>
      cases e1;cases e2;cases e3;cases e4;rw [show decide ((YI x.2:Sum (List Key) Key)=YI y.2)=decide (x.2=y.2) from decide_eq_decide.mpr ⟨fun z=>Sum.inr.inj z,fun z=>congrArg _ z⟩];exact oN (A:=A.in1) (s:=s) hk Ar
    | 1 =>
      cases e1;cases e2;cases e3;cases e4;rw [show decide ((VR x.1:Sum (List Key) Key)=VR y.1)=decide (x.1=y.1) from decide_eq_decide.mpr ⟨fun z=>X9 z,fun z=>congrArg _ z⟩];exact tH (A:=A.in1) hb Aj (show A.units+1<W7 from hu)
    | j+2=>cases e1
   refine EqAt.of_refs Bh ?_
   rw [show decide (x=y)=decide ([(YI x.2:Sum (List Key) Key),VR x.1]=[YI y.2,VR y.1]) from decide_eq_decide.mpr ⟨fun z=>by rw [z],fun z=>by
    injection z with z1 z2;injection z2 with z2 _;exact Prod.ext (X9 z2) (Sum.inr.inj z1)⟩]
   exact this
def kX (P:Vu) (w:VI) (k:aw):Int:=reduceHash (XA [(ay P w).hash k.2,Zi (ay P w) k.1])
theorem pz {P:Vu} {w:VI} {A:V2} {E:Vg->Vm->Prop} {s:Vm} {k:aw} {a:Vd} {Q:Int->Vm->Prop} (hu:A.units+1<W7) (hk:IsNesm P w s.heap k a) (h:Q (kX P w k) { s with toks:=s.toks+(k.1.length+3) }) :
 Vw (VN P w) A (pyHash (.ref a)) Q E s:=by
 have hT:=hk.typeIs;obtain ⟨o,n,c,u,ho,hc,hd,hb,hk⟩:=hk;unfold pyHash
 first | unfold pyHashByItsType | skip
 first | refine Va (wpAny_cRoomFor_or (.inr (by omega)) ?_) | skip
 refine Va (WR hT Z6.lookup ?_);show Vw _ _ (if (some (Value.builtin "tuple.__hash__") == some WI)=true then _ else _) Q E s;rw [if_neg (by rw [beq_builtin_none];exact VG)];refine Va (WR hT Z6.lookup ?_);show Vw _ _ (callSpecialIfBoundUnlessNone? (.ref a) "__hash__" _ >>= _) Q E s;refine Va (wpAny_callSpecialIfBoundUnlessNone?_slot hT Z6 (Wu Z6 hT F.entry_tuple_hash ?_ (F.args_tuple_hash_1 _)));show Vw _ _ (YX (.ref a) >>= _) _ _ s;refine Va (wpAny_tupleItemsOf ho hd ?_);refine Va ?_;rw [<- Y2]
 refine wpAny_forIn_list _
  (fun rest (b:Array Int) s'=>(rest=[u,.ref c]/\b=#[]/\s'=s)∨(rest=[.ref c]/\b=#[(ay P w).hash k.2]/\s'={ s with toks:=s.toks+1 })∨(rest=[]/\b=#[(ay P w).hash k.2,Zi (ay P w) k.1]/\s'={ s with toks:=s.toks+1+(k.1.length+1) }))
  _ ?_ ?_ _ _ (.inl ⟨rfl,rfl,rfl⟩)
 · rintro x rest b s' (⟨e1,rfl,rfl⟩ | ⟨e1,rfl,rfl⟩ | ⟨e1,_⟩)
   · cases e1;refine Va ((ay P w).pyHash hk ?_)
     first
      | exact Vk (.inr (.inl ⟨rfl,rfl,rfl⟩))
      | exact Va (Vk (Vk (.inr (.inl ⟨rfl,rfl,rfl⟩))))
   · cases e1;refine Va (wpAny_pyHash_tuple (by show _<W7;first | exact hu | omega) hb ?_)
     first
      | exact Vk (.inr (.inr ⟨rfl,rfl,rfl⟩))
      | exact Va (Vk (Vk (.inr (.inr ⟨rfl,rfl,rfl⟩))))
   · cases e1
 · rintro b s' (⟨e1,_⟩ | ⟨e1,_⟩ | ⟨_,rfl,rfl⟩)
   · cases e1
   · cases e1
   show Vw _ _ (retInt (XA [(ay P w).hash k.2,Zi (ay P w) k.1])) _ _ _;refine wpAny_ret_mkInt ?_;show Vw _ _ (if (decide (-(2:Int) ^ 63<=XA [(ay P w).hash k.2,Zi (ay P w) k.1]) && decide (XA [(ay P w).hash k.2,Zi (ay P w) k.1]<2 ^ 63))=true then _ else _) Q E _;unfold kX reduceHash at h;by_cases hr:(decide (-(2:Int) ^ 63<=XA [(ay P w).hash k.2,Zi (ay P w) k.1]) && decide (XA [(ay P w).hash k.2,Zi (ay P w) k.1]<2 ^ 63))=true
   · rw [if_pos hr];rw [if_pos hr] at h;exact Vk (by rw [show k.1.length+3=1+(k.1.length+2) by omega] at h;simpa [ZL] using h)
   · rw [if_neg hr];rw [if_neg hr] at h;exact Va (X6 (Vk (by rw [show k.1.length+3=1+(k.1.length+2) by omega] at h;simpa [ZL] using h)))
theorem qp {P:Vu} {w:VI} {A:V2} {E:Vg->Vm->Prop} {s:Vm} {k:aw} {a:Vd} {Q:Bool->Vm->Prop} (hk:IsNesm P w s.heap k a) (h:Q true s):Vw (VN P w) A (eqIsQuiet 8 (.ref a)) Q E s:=by
 have hT:=hk.typeIs;obtain ⟨o,n,c,u,ho,hc,hd,hb,hk⟩:=hk;unfold eqIsQuiet;refine Va (WR hT F.slot_tuple_eq.lookup ?_);show Vw _ _ (isInstance (.ref a) (.type "tuple") >>= _) _ _ s;refine Va (X0 hT isSubtype_tuple_tuple ?_);simp only [Zg,Wy,if_false];refine Va (WG ho hd ?_);refine Va ?_;show Vw _ _ (forIn #[u,VO c] _ _) _ _ s;rw [<- Y2];refine wpAny_forIn_list _ (fun rest r s'=>r.1=none/\s'=s/\∀ v∈rest,v=.ref c∨v=u) _ ?_ ?_ _ _ ⟨rfl,rfl,fun v hv=>by simpa [or_comm] using hv⟩
 · rintro v rest r s' ⟨hr,rfl,zE⟩;have E5:∀ z∈rest,z=.ref c∨z=u:=fun z hz=>zE z (VB _ hz);rcases zE v VC with rfl | rfl
   · refine Va (rb hb ?_);simp only [Zg,Wy,if_false];exact Vk ⟨rfl,rfl,E5⟩
   · rw [eqIsQuiet_byValue _ ((ay P w).byValue _ _ hk)];refine Va (Vk ?_);simp only [Zg,Wy,if_false];exact Vk ⟨rfl,rfl,E5⟩
 · rintro ⟨r1,r2⟩ s' ⟨hr,rfl,_⟩;simp only at hr;subst hr;exact Vk h
def bZ (P:Vu) (w:VI):HeapKind P w aw where
 is:=IsNesm P w
 hash:=kX P w
 draws:=fun k=>k.1.length+3
 room:=fun A=>A.units+1<W7
 inj:=fun hx hy=>hx.inj hy
 keeps:=fun x ho hd hs=>x.keeps ho hd hs
 pyHash:=fun hu hk h=>pz hu hk h
 eqBool:=fun hu hx hy h=>tE hx hy hu _ _ _ _ h
 quiet:=fun hk h=>qp hk h
def pL (P:Vu) (w:VI) (xs:List (aw×Vd×Vg)) (a:Vd) (h:Wx):Prop:=∃ o es ep,h.get? a=some o/\o.ExactDict/\o.data=.dict es ep/\es.toList=xs.map (entryOfKey (bZ P w))/\(xs.map (·.1)).Nodup
def MKAt (H:Hp) (k:aw) (b:Vd):Prop:=∃ c,H b=some (.tup [kV k.2,.ref c])/\H c=some (.tup (k.1.map kV))
abbrev KTm (H:Hp):List (aw×V)->List (aw×Vd×Vg)->Prop:=VW fun p q=>p.1=q.1/\MKAt H q.1 q.2.1/\RelV p.2 q.2.2
def DM (P:Vu) (w:VI) (H:Hp) (a:Vd) (f':List (aw×V)):Prop:=f'.length<=Vz/\(a == Xc)=false/\∃ xs φ,H a=some (.ext φ)/\(∀ h,φ h->pL P w xs a h)/\KTm H f' xs
theorem MKAt.mono {H H':Hp} (k:BB.KT H H') {n:aw} {b:Vd} (h:MKAt H n b):MKAt H' n b:=by
 obtain ⟨c,h1,h2⟩:=h;exact ⟨c,k _ _ h1,k _ _ h2⟩
theorem KTm.mono {H H':Hp} (k:BB.KT H H') {f':List (aw×V)} {xs:List (aw×Vd×Vg)} (r:KTm H f' xs):KTm H' f' xs:=VW.mapP r fun _ _ z=>⟨z.1,z.2.1.mono k,z.2.2⟩
theorem DM.mono {P:Vu} {w:VI} {H H':Hp} (s:Same H H') {a:Vd} {f':List (aw×V)} (h:DM P w H a f'):DM P w H' a f':=by
 obtain ⟨z,hd,xs,φ,e,f,r⟩:=h;exact ⟨z,hd,xs,φ,s _ _ e,f,KTm.mono (BB.Same.kt s) r⟩
theorem fw {P:Vu} {w:VI} {H:Hp} {h:Wx} {k:aw} {b:Vd} (ok:HOk P w H h) (e:MKAt H k b):IsNesm P w h k b:=by
 obtain ⟨c,h1,h2⟩:=e;obtain ⟨_,its,n,r,e1⟩:=(show ObjOk P w H h b (.tup [kV k.2,.ref c]) from ok b _ h1);cases r with
 | cons r1 r =>
 cases r with
 | cons r2 r =>
 cases r;cases r2;exact ⟨_,n,c,_,e1,rfl,rfl,g9 ok h2,jY (P:=P) (w:=w) r1⟩
theorem j3 {P:Vu} {w:VI} {H:Hp} {h:Wx} {a:Vd} {f':List (aw×V)} (ok:HOk P w H h) (e:DM P w H a f'):f'.length<=Vz/\(a == Xc)=false/\∃ xs φ,H a=some (.ext φ)/\KTm H f' xs/\h.DictOfH (bZ P w) a xs:=by
 obtain ⟨z,y,xs,φ,ea,f,r⟩:=e;obtain ⟨o,es,ep,h1,h2,h3,h4,h5⟩:=f h (ok a _ ea).1;refine ⟨z,y,xs,φ,ea,r,o,es,ep,h1,h2,h3,h4,fun x hx=>?_,h5⟩
 have all:∀ {l:List (aw×V)} {m:List (aw×Vd×Vg)},KTm H l m->∀ x∈m,(bZ P w).is h x.1 x.2.1:=by
  intro l m q;induction q with
  | nil=>intro x hx;exact nomatch hx
  | @cons p q ps qs hq t ih =>
    intro x hx;rcases VA.mp hx with e | hx
    · subst e;exact fw ok hq.2.1
    · exact ih x hx
 exact all r x hx
theorem KTm.val {H:Hp} {f':List (aw×V)} {xs:List (aw×Vd×Vg)} (r:KTm H f' xs) (k:aw):RelO (aQ f' k) ((YT xs k).map (·.2)):=by
 induction r with
 | nil=>exact XR
 | @cons p q ps qs hq t ih =>
   by_cases e:p.1=k
   · rw [bE e];have:YT (q::qs) k=some q.2:=by simp [YT,X3,<- hq.1,e]
     rw [this];exact hq.2.2
   · rw [bD e];have:YT (q::qs) k=YT qs k:=by simp [YT,X3,<- hq.1,e]
     rw [this];exact ih
theorem KTm.put {H:Hp} {f':List (aw×V)} {xs:List (aw×Vd×Vg)} (r:KTm H f' xs) (k:aw) {b:Vd} {y:V} {u:Vg} (hb:MKAt H k b) (ry:RelV y u):KTm H (putK f' k y) (Z3 xs k b u):=by
 have hv:=KTm.val r k;cases e:aQ f' k with
 | none =>
   rw [e] at hv
   have hn:YT xs k=none:=by
    cases q:YT xs k with
    | none=>rfl
    | some p=>rw [q] at hv;exact hv.elim
   rw [kE y e,storedH_new hn];exact BB.P2.append r (.cons ⟨rfl,hb,ry⟩ .nil)
 | some v0 =>
   rw [e] at hv
   obtain ⟨p,hp⟩:∃ p,YT xs k=some p:=by
    cases q:YT xs k with
    | none=>rw [q] at hv;exact hv.elim
    | some p=>exact ⟨p,rfl⟩
   rw [storedH_old hp];unfold putK;rw [if_pos (by rw [dk,e];rfl)]
   have all:∀ {l:List (aw×V)} {m:List (aw×Vd×Vg)},KTm H l m->KTm H (l.map fun kv=>if kv.1=k then (kv.1,y) else kv) (m.map (putAt k u)):=by
    intro l m q;induction q with
    | nil=>exact .nil
    | @cons p q ps qs hq t ih =>
      refine .cons ?_ ih;unfold putAt;dsimp only;by_cases z:p.1=k
      · rw [if_pos z,if_pos (by rw [<- hq.1];exact z)];exact ⟨hq.1,hq.2.1,ry⟩
      · rw [if_neg z,if_neg (by rw [<- hq.1];exact z)];exact hq
   exact all r
section
variable {X:Cx} {pins:List (Vd×Xq)} {σ:St} {H:Hp} {s:Vm} {o i value:Wq} {pos pos':Yr} {td ty tv:TE}
inductive t6 (P:Vu) (w:VI) (x y:V) (H:Hp) (Q:VK):Prop
 | mk (a b:Vd) (k:aw) (f':List (aw×V)) (v:V) (z0:x=.ref a) (z1:y=.ref b) (z2:DM P w H a f') (z3:MKAt H k b) (z4:aQ f' k=some v) (z5:Q v H):t6 P w x y H Q
def xD (P:Vu) (w:VI) (td ty:TE):TE:=fun σ H Q=>td σ H fun x H1=>ty σ H1 fun y H2=>t6 P w x y H2 Q
theorem uI (hu:X.A.units+2<W7) (ho:PE X o td) (hi:PE X i ty) (hs:xo i):PE X (.Subscript o i pos) (xD X.prog X.w td ty):=by
 intro pins s σ H Q I h;refine rn PySem.F.slot_dict_getitem.lookup hs (thn (ho pins s σ H _ I h) fun u s1 ⟨x,H1,I1,rx,q1⟩=>thn (hi pins s1 σ H1 _ I1 q1) fun iv s2 ⟨y,H2,I2,ry,q2⟩=>?_);obtain ⟨a,b,k,f',v,rfl,rfl,hd,hk,hv,q⟩:=q2;obtain rfl:u=VO a:=rx;obtain rfl:iv=VO b:=ry;obtain ⟨_,_,xs,φ,ea,rel,dd⟩:=j3 I2.hok hd;obtain ⟨w',hw,CD⟩:=RelO.some_of (v:=v) (o:=(YT xs k).map (·.2)) (by rw [<- hv];exact KTm.val rel k);obtain ⟨p,hp,BS⟩:=Wd.mp hw;refine ⟨dd.typeIs,wpAny_getItem_heap (knd:=bZ X.prog X.w) (show X.A.units+1+1<W7 from hu) (fw I2.hok hk) dd hp ?_⟩;rw [BS];exact ⟨v,H2,I2.tok _,CD,q⟩
inductive uk (P:Vu) (w:VI) (x y v:V) (H:Hp) (R:Hp->Prop):Prop
 | mk (a b:Vd) (k:aw) (f':List (aw×V)) (z0:x=.ref a) (z1:y=.ref b) (z2:DM P w H a f') (z3:MKAt H k b) (z4:f'.length<Vz) (z5:∀ H',(∀ c o,c≠a->H c=some o->H' c=some o)->DM P w H' a (putK f' k v)->R H'):uk P w x y v H R
def w8 (P:Vu) (w:VI) (td ty tv:TE):TS:=fun D σ H=>tv σ H fun v H1=>td σ H1 fun x H2=>ty σ H2 fun y H3=>uk P w x y v H3 fun H4=>D.nx σ H4
theorem uU (hu:X.A.units+2<W7) (ho:PE X o td) (hi:PE X i ty) (hv:PE X value tv) (hs:swapsWith value (some (.Subscript o i pos')) pos.line X.env=pure false) :
 PS X (.Assign [.Subscript o i pos'] value pos) (w8 X.prog X.w td ty tv):=by
 intro pins s σ H D I h;refine wpAny_Assign_Subscript (thn (hv pins s σ H _ I h) fun r s1 ⟨v,H1,I1,rv,q1⟩=>thn (ho pins s1 σ H1 _ I1 q1) fun u s2 ⟨x,H2,I2,rx,q2⟩=>thn (hi pins s2 σ H2 _ I2 q2) fun iv s3 ⟨y,H3,I3,ry,q3⟩=>?_) hs;obtain ⟨a,b,k,f',rfl,rfl,hd,hk,hl,q⟩:=q3;obtain rfl:u=VO a:=rx;obtain rfl:iv=VO b:=ry;obtain ⟨z,AR,xs,φ,ea,rel,dd⟩:=j3 I3.hok hd;have hz:xs.length<=Vz:=by rw [<- Vv rel];exact z
 have K9:(putK f' k v).length<=Vz:=by have:=bo f' k v;omega
 refine wpAny_setItem_heap (knd:=bZ X.prog X.w) (hsz:=hz) (show X.A.units+1+1<W7 from hu) (fw I3.hok hk) dd fun h' B2 hs=>?_;obtain ⟨ob,es,ep,hq,h2,h3,h4,_,h5⟩:=B2;have ne:pL X.prog X.w (Z3 xs k b r) a h':=⟨ob,es,ep,hq,h2,h3,h4,h5⟩
 have I4:=fy (ob:=.ext (pL X.prog X.w (Z3 xs k b r) a)) (t':=s3.toks+(bZ X.prog X.w).draws k) I3 (by rw [ea];exact XR) hs ⟨ob,hq⟩ ⟨ne,⟨ob,hq⟩,fun h1 h2 p kk=>by
  obtain ⟨o1,Ii,Ij,g1,g2⟩:=p;exact ⟨o1,Ii,Ij,kk _ g1,g2⟩⟩
 have kt:BB.KT H3 (upd H3 a (.ext (pL X.prog X.w (Z3 xs k b r) a))):=fun c ys ec=>by
  rw [ag (fN ec ea (fun z=>nomatch z))];exact ec
 exact ⟨σ,_,I4,q _ (fun c o hc e=>by rw [ag hc];exact e) ⟨K9,AR,_,_,ab,fun _ p=>p,KTm.mono kt (KTm.put rel k hk rv)⟩⟩
def xA (P:Vu) (w:VI):TE:=fun _ H Q=>∀ p H',H p=none->Same H H'->DM P w H' p []->Q (.ref p) H'
theorem pW:PE X (.Dict [] [] pos) (xA X.prog X.w):=fun pins s σ H Q I h=>by
 have hn:H s.heap.objs.size=none:=I.hok.fresh (Vj _);have ne:pL X.prog X.w [] s.heap.objs.size (s.heap.push { cls:=.type "dict",data:=.dict #[] }):=⟨_,#[],0,Vq _ rfl,⟨rfl,rfl,rfl⟩,rfl,rfl,Zy⟩;refine wpAny_Dict_empty ⟨.ref s.heap.objs.size,_,I.laid (a:=s.heap.objs.size) (o:=.ext (pL X.prog X.w [] s.heap.objs.size)) (t':=s.toks) (fun _ _ q=>Vi _ q) (Vj _) ⟨ne,⟨_,Vq _ rfl⟩,fun h1 h2 p kk=>?_⟩,rfl,h _ _ hn (ad hn _) ⟨VJ _,beq_eq_false_iff_ne.mpr (W4 (VU I.big)),[],_,ab,fun _ p=>p,.nil⟩⟩;obtain ⟨o1,Ii,Ij,g1,g2⟩:=p;exact ⟨o1,Ii,Ij,kk _ g1,g2⟩
end
end L2
namespace L2
open PySem PySem.Spec PyProof.Rows
section
variable {X:Cx} {pins:List (Vd×Xq)} {σ:St} {H:Hp} {s:Vm} {o i e f:Wq} {pos apos zL:Yr} {td ty tx:TE}
theorem rp {f':List (aw×V)} {xs:List (aw×Vd×Vg)} (rel:KTm H f' xs) (k:aw):(aQ f' k).isSome=(YT xs k).isSome:=by
 have q:=(KTm.val rel k).isSome_eq;rw [Option.isSome_map] at q;exact q
inductive wK (f:Bool->Bool) (P:Vu) (w:VI) (y x:V) (H:Hp) (Q:VK):Prop
 | mk (a b:Vd) (k:aw) (f':List (aw×V)) (z0:x=.ref a) (z1:y=.ref b) (z2:DM P w H a f') (z3:MKAt H k b) (z4:Q (.bl (f (aQ f' k).isSome)) H):wK f P w y x H Q
def wz (f:Bool->Bool) (P:Vu) (w:VI) (ty td:TE):TE:=fun σ H Q=>ty σ H fun y H1=>td σ H1 fun x H2=>wK f P w y x H2 Q
theorem wj (hu:X.A.units+2<W7) (hi:PE X i ty) (ho:PE X o td):PC X .In i o (wz (fun b=>b) X.prog X.w ty td):=by
 intro pins s σ H Q I h;refine thn (hi pins s σ H _ I h) fun iv s1 ⟨y,H1,I1,ry,q1⟩=>thn (ho pins s1 σ H1 _ I1 q1) fun u s2 ⟨x,H2,I2,rx,q2⟩=>?_;obtain ⟨a,b,k,f',rfl,rfl,hd,hk,q⟩:=q2;obtain rfl:u=VO a:=rx;obtain rfl:iv=VO b:=ry;obtain ⟨_,AR,xs,φ,ea,rel,dd⟩:=j3 I2.hok hd;refine wpAny_in_heap (knd:=bZ X.prog X.w) (show X.A.units+1+1<W7 from hu) (fw I2.hok hk) AR dd ?_;rw [<- rp rel k];exact ⟨.bl _,H2,I2.tok _,rfl,q⟩
theorem qo (hu:X.A.units+2<W7) (hi:PE X i ty) (ho:PE X o td):PC X .NotIn i o (wz (fun b=>!b) X.prog X.w ty td):=by
 intro pins s σ H Q I h;refine thn (hi pins s σ H _ I h) fun iv s1 ⟨y,H1,I1,ry,q1⟩=>thn (ho pins s1 σ H1 _ I1 q1) fun u s2 ⟨x,H2,I2,rx,q2⟩=>?_;obtain ⟨a,b,k,f',rfl,rfl,hd,hk,q⟩:=q2;obtain rfl:u=VO a:=rx;obtain rfl:iv=VO b:=ry;obtain ⟨_,AR,xs,φ,ea,rel,dd⟩:=j3 I2.hok hd;refine wpAny_notIn_heap (knd:=bZ X.prog X.w) (show X.A.units+1+1<W7 from hu) (fw I2.hok hk) AR dd ?_;rw [<- rp rel k];exact ⟨.bl _,H2,I2.tok _,rfl,q⟩
inductive rV (P:Vu) (w:VI) (x y z:V) (H:Hp) (Q:VK):Prop
 | mk (a b:Vd) (k:aw) (f':List (aw×V)) (z0:x=.ref a) (z1:y=.ref b) (z2:DM P w H a f') (z3:MKAt H k b) (z4:Q ((aQ f' k).getD z) H):rV P w x y z H Q
def we (P:Vu) (w:VI) (td ty tx:TE):TE:=fun σ H Q=>td σ H fun x H1=>∃ a f',x=.ref a/\DM P w H1 a f'/\ty σ H1 fun y H2=>tx σ H2 fun z H3=>rV P w x y z H3 Q
theorem uC {a:Vd} {f':List (aw×V)} (I:Inv X pins σ H s) (d:DM X.prog X.w H a f'):s.TypeIs (.ref a) "dict"/\(∀ b,VO a=.ref b->∃ ob,s.heap.get? b=some ob/\ob.dict=none):=by
 obtain ⟨_,hd,xs,φ,_,_,dd⟩:=j3 I.hok d;refine ⟨dd.typeIs,fun b q=>?_⟩;cases q;obtain ⟨ob,_,_,h1,h2,_⟩:=dd;exact ⟨ob,h1,h2.2.1⟩
theorem sI (hu:X.A.units+2<W7) (ho:PE X o td) (he:PE X e ty) (hf:PE X f tx) (m:M2 X o "get" apos e f zL):PE X (.Call (.Attribute o "get" apos) [e,f] [] zL) (we X.prog X.w td ty tx):=by
 intro pins s σ H Q I h;refine wpAny_Call_method m.base m.few m.line Y3 Yw PySem.F.type_dict_get (thn (ho pins s σ H _ I h) fun u s1 ⟨x,H1,I1,rx,a,R1,ex,d,q1⟩=>?_);subst ex;obtain rfl:u=VO a:=rx;obtain ⟨t1,t2⟩:=uC I1 d;refine ⟨t1,t2,?_⟩;rw [m.trees]
 refine YB rfl (ZA (WX (thn (he pins s1 σ H1 _ I1 q1) fun iv s2 ⟨y,H2,I2,ry,q2⟩ =>
  WX (thn (hf pins s2 σ H2 _ I2 q2) fun fv s3 ⟨z,H3,I3,rz,q3⟩=>Xv ?_))))
 obtain ⟨a',b,k,f',Ld,rfl,hd,hk,q⟩:=q3;cases Ld;obtain rfl:iv=VO b:=ry;obtain ⟨_,AR,xs,φ,ea,rel,dd⟩:=j3 I3.hok hd;refine call_meetsIn Yw dd.typeIs ZW (ZQ _ _ _) (meetsH_dict_get_default (bZ X.prog X.w) a b AR fv) ⟨(show X.A.units+1+1<W7 from hu),k,xs,fw I3.hok hk,dd,?_⟩;exact ⟨_,H3,I3.tok _,(KTm.val rel k).getD rz,q⟩
inductive pN (P:Vu) (w:VI) (x:V) (vs:List V) (H:Hp) (Q:VK):Prop
 | mk (a b:Vd) (v:V) (k:aw) (f':List (aw×V)) (z0:x=.ref a) (z1:vs=[.ref b,v]) (z2:DM P w H a f') (z3:MKAt H k b) (z4:f'.length<Vz)
  (z5:∀ u,aQ f' k=some u->Q u H) (z6:aQ f' k=none->∀ H',(∀ c o,c≠a->H c=some o->H' c=some o)->DM P w H' a (putK f' k v)->Q v H'):pN P w x vs H Q
theorem fR (hu:X.A.units+2<W7):MtM X "dict.setdefault" (pN X.prog X.w):=by
 intro pins s σ H x vs v us Q I rx rv h;obtain ⟨a,b,y,k,f',rfl,rfl,e,eb,l,q1,q2⟩:=h;cases rx;cases rv with
 | cons r1 rv =>
 cases rv with
 | cons r2 rv =>
 cases rv;cases r1;obtain ⟨z,hd,xs,φ,ea,rel,dd⟩:=j3 I.hok e;have hz:xs.length<=Vz:=by rw [<- Vv rel];exact z
 have hl:(putK f' k y).length<=Vz:=by have:=bo f' k y;omega
 have hT:s.TypeIs (.ref a) "dict":=dd.typeIs;refine call_meetsIn XF hT PySem.F.entry_dict_setdefault (PySem.F.args_dict_setdefault_3 _ _ _) (bb_meets_setdefault (bZ X.prog X.w) a b _ hd) ⟨(show X.A.units+1+1<W7 from hu),k,xs,fw I.hok eb,dd,hz,fun p hp=>?_,fun hn h' B2 hs=>?_⟩
 · have hr:=KTm.val rel k;rw [hp] at hr;cases hv:aQ f' k with
   | none=>rw [hv] at hr;exact hr.elim
   | some u =>
     rw [hv] at hr;exact ⟨u,H,I.tok _,hr,q1 u hv⟩
 · have hr:=KTm.val rel k;rw [hn] at hr;cases hv:aQ f' k with
   | some u=>rw [hv] at hr;exact hr.elim
   | none =>
     obtain ⟨ob,es,ep,hq,h2,h3,h4,_,h5⟩:=B2;have ne:pL X.prog X.w (Z3 xs k b _) a h':=⟨ob,es,ep,hq,h2,h3,h4,h5⟩
     have I4:=fy (t':=s.toks+(bZ X.prog X.w).draws k) I (by rw [ea];exact XR) hs ⟨ob,hq⟩ (ob:=.ext (pL X.prog X.w (Z3 xs k b _) a)) ⟨ne,⟨ob,hq⟩,fun h1 h2 p kk=>by
      obtain ⟨o1,Ii,Ij,g1,g2⟩:=p;exact ⟨o1,Ii,Ij,kk _ g1,g2⟩⟩
     have kt:∀ ψ:Wx->Prop,BB.KT H (upd H a (.ext ψ)):=fun ψ c ys ec=>by
      rw [ag (fN ec ea (fun z=>nomatch z))];exact ec
     exact ⟨y,_,I4,r2,q2 hv _ (fun c o hc e=>by rw [ag hc];exact e) ⟨hl,hd,_,_,ab,fun _ p=>p,KTm.mono (kt _) (KTm.put rel k eb r2)⟩⟩
inductive tP (P:Vu) (w:VI) (xs:List V) (H:Hp) (Q:VK):Prop
 | mk (a:Vd) (f':List (aw×V)) (z0:xs=[.ref a]) (z1:DM P w H a f') (z2:∀ (l:Vd) (bs:List Vd),H l=none->VW (fun kv b=>MKAt H kv.1 b) f' bs->Q (.ref l) (upd H l (.lst (bs.map V.ref)))):tP P w xs H Q
theorem ut {f':List (aw×V)} {ys:List (aw×Vd×Vg)} (rel:KTm H f' ys):VW (fun kv b=>MKAt H kv.1 b) f' (ys.map fun y=>y.2.1):=by
 induction rel with
 | nil=>exact .nil
 | cons h t ih=>exact .cons (by rw [h.1];exact h.2.1) ih
theorem qA (hc:X.calm=true):jI X (.type "list") (tP X.prog X.w):=by
 intro pins s σ H xs us Q I r h;obtain ⟨a,f',rfl,e,q⟩:=h;obtain ⟨u,rfl,rx⟩:=vals1 r;cases rx;obtain ⟨z,hd,ys,φ,ea,rel,dd⟩:=j3 I.hok e;have hT:=dd.typeIs;obtain ⟨o,es,ep,ho,RO,GG,he,Kh,hn⟩:=dd;obtain ⟨o',Bd,Bq⟩:=hT;have eo:o'=o:=VL (Bd.symm.trans ho);subst eo;have hl:f'.length=ys.length:=Vv rel
 have Mc:es.toList.map (·.key)=ys.map fun y=>VO y.2.1:=by
  rw [he,XM];rfl
 have hsz:es.size<=Vz:=by
  have:=congrArg Y4 Mc;rw [Vb,Vb,Wr] at this;omega
 have hh:X.A.in1.in1.handled=none:=I.ok.hd hc;refine bb_list_keys hh hd Bd Bq GG hsz fun h' acc c hk hS zH=>?_;have hp:VW (fun kv b=>MKAt H kv.1 b) f' (ys.map fun y=>y.2.1):=ut rel;refine ⟨.ref s.heap.objs.size,upd H s.heap.objs.size (.lst ((ys.map fun y=>y.2.1).map V.ref)),?_,rfl,q _ _ I.fresh hp⟩;refine I.laid (t':=s.toks) hk (Vj _) ⟨by rw [Vb,Vb];omega,acc.toList,c,?_,hS⟩;rw [zH,Mc];clear hn Kh he Mc zH hS hl z rel hp q;induction ys with
 | nil=>exact .nil
 | cons y ys ih=>exact .cons rfl ih
def yL (P:Vu) (w:VI) (r:V->List V->Hp->VK->Prop) (to:TE) (t:TA):TE:=fun σ H Q=>to σ H fun x H1=>(∃ a f',x=.ref a/\DM P w H1 a f')/\t σ H1 fun xs H2=>r x xs H2 Q
theorem vh {es:List Wq} {to:TE} {t:TA} {name:VM} {id:String} {r:V->List V->Hp->VK->Prop} (slot:Slot "dict" name id) (Hq:typeOf (.builtin id)=pure (.type "method_descriptor")) (hm:MtR X id r) (ho:PE X o to) (ha:PA X (e::es) t)
 (BJ:Zt o name X.env (Xh o X.env)=Xh o X.env:=by rfl)
 (Fs:((Yn zL (V0 (e::es) X.env)).all (fun x=>!x.1) && (backToKw zL (keywordEach [] X.env)).all (fun x=>x.1.isSome)
  && decide ((e::es).length+([]:List Keyword).length+(if ([]:List Keyword).isEmpty then 0 else 1)<30))=true:=by rfl)
 (BK:(apos.endLine == zL.line)=true:=by rfl) (hs:V0 (e::es) X.env=(false,Xh e X.env)::V0 es X.env:=by rfl) (AW:(Yn zL (V0 es X.env)).any (·.1)=false:=by rfl) :
 PE X (.Call (.Attribute o name apos) (e::es) [] zL) (yL X.prog X.w r to t):=by
 intro pins s σ H Q I h;refine wpAny_Call_method_late BJ Fs BK rfl (thn (ho pins s σ H _ I h) fun v s1 ⟨x,H1,I1,r1,⟨a,f',ex,hd⟩,q1⟩=>?_);subst ex;obtain rfl:v=VO a:=r1;obtain ⟨h1,h2⟩:=uC I1 hd;refine ⟨"dict",id,Y3,slot,Hq,h1,h2,?_⟩;have hA:=ha zL pins s1 σ H1 _ I1 q1;rw [hs] at hA ⊢;refine YB (by show (false || (Yn zL (V0 es X.env)).any (·.1))=false;rw [AW] <;> rfl) (ZA ?_);exact thn hA fun vs s2 ⟨xs,H2,I2,rv,q2⟩=>hm pins s2 σ H2 (.ref a) xs (.ref a) vs Q I2 rfl rv q2
end
end L2
namespace BB
open PySem L2
theorem mx {K:Vc} {H:Hp}:∀ {ps:List (List Int×Th)} {as:List Vd},PsAtK K H ps as->∃ bs,VW (fun (p:List Int×Th) b=>H b=some (.tup (p.1.map V.int))) ps bs/\bs.length=as.length/\∀ (i:Nat) x b,(as.map V.ref)[i]?=some x->bs[i]?=some b->∃ a ta,x=.ref a/\H a=some (.tup [.ref b,.ref ta])
 | _,_,.nil=>⟨[],.nil,rfl,fun i x b h=>by simp at h⟩
 | _,_,.cons r h=>by
   obtain ⟨pa,ta,h1,h2,_⟩:=r;obtain ⟨bs,g1,g2,g3⟩:=mx h;refine ⟨pa::bs,.cons h2 g1,by rw [Vo,Vo,g2],fun i x b hx hb=>?_⟩;cases i with
   | zero =>
     simp at hx hb;subst hx;subst hb;exact ⟨_,ta,rfl,h1⟩
   | succ i=>exact g3 i x b (by simpa using hx) (by simpa using hb)
theorem uT {α:Type} {F:Hp->α->Vd->Prop} {js:List (Option Nat)} {g:TG} {tt:TT} {te:TE} {σ:St} {J:It} {H:Hp} {xs:List V} {fin:Vd->Hp->Prop} (zs:List α) (p:α->Bool) (hF:∀ H1 H2 z p,KT H1 H2->F H1 z p->F H2 z p) (hz:zs.length=xs.length) (hn:xs.length<=1000000)
 (Ef:∀ i H2,L2.Same H H2->i<xs.length->J.go i H2) (Ax:∀ H2,L2.Same H H2->J.stop xs.length H2) (Br:∀ (i:Nat) H2 x H3,L2.Same H H2->i<xs.length->J.yld i H2 x H3->H3=H2/\xs[i]?=some x)
 (hb:∀ (i:Nat) x z H2 (R:VK) (W':Hp->Prop),xs[i]?=some x->zs[i]?=some z->L2.Same H H2->(p z=true->∀ H3 q,L2.Same H2 H3->F H3 z q->R (.ref q) H3)->(p z=false->∀ H3,L2.Same H2 H3->W' H3)->g x (cσ js σ) H2 fun zU H3=>tt zU H3 fun b H4=>if b=true then te zU H4 R else W' H4)
 (BU:∀ D H' as,H D=none->L2.Same H H'->H' D=some (.lst (as.map V.ref))->VW (F H') (zs.filter p) as->fin D H') :
 ∀ D,H D=none->∃ (n:Nat) (W:Nat->Hp->Prop),W 0 (upd H D (.lst []))/\gG js g tt te σ J D n W fun H'=>fin D H':=by
 intro D hD;refine ⟨xs.length,fun i H'=>i<=xs.length/\L2.Same H H'/\∃ as:List Vd,H' D=some (.lst (as.map V.ref))/\VW (F H') ((zs.take i).filter p) as,⟨VJ _,ad hD _,[],by rw [ab];rfl,.nil⟩,?_⟩;rintro i H' ⟨hi,s1,as,e1,hp⟩;by_cases zK:i<xs.length
 · refine .inr ⟨zK,Ef i H' s1 zK,fun v H1 hy=>?_⟩;obtain ⟨e,hx⟩:=Br i H' v H1 s1 zK hy;subst e;obtain ⟨z,BE⟩:∃ z,zs[i]?=some z:=⟨_,Ve (by omega)⟩;have hl:((zs.take i).filter p).length=as.length:=Vv hp;have AL:=Yx p (zs.take i);rw [Wl] at AL;refine hb i v z _ _ _ hx BE s1 (fun El H3 q s3 LM=>⟨_,s3 _ _ e1,?_,zK,au (s1.trans s3) hD,as++[q],?_,?_⟩) (fun El H3 s3=>⟨zK,s1.trans s3,as,s3 _ _ e1,?_⟩)
   · rw [Vb];have:Vz=16777216:=YA;omega
   · rw [ab,Vs];rfl
   · have kt:KT H3 (upd H3 D (.lst (as.map V.ref++[.ref q]))):=aK (s3 _ _ e1);rw [take_snoc BE,Yq,Wm,if_pos El,Z5];exact P2.append (P2.mp (fun x y e=>hF _ _ _ _ ((Same.kt s3).trans kt) e) hp) (.cons (hF _ _ _ _ kt LM) .nil)
   · rw [take_snoc BE,Yq,Wm,if_neg (by rw [El];exact VG),Z5,V7];exact P2.mp (fun x y e=>hF _ _ _ _ (Same.kt s3) e) hp
 · have Ak:i=xs.length:=by omega
   subst Ak;refine .inl ⟨Ax _ s1,BU D H' as hD s1 e1 ?_⟩;rw [W5 (by omega)] at hp;exact hp
def aG (ins:List (VM×Int)):Th:=.knot (((ins.filter fun k=>decide (k.2=0))[0]?.map (·.1)).getD (Vf "")) []
theorem eL {ins:List (VM×Int)} {k:VM×Int} (h:(ins.filter fun k=>decide (k.2=0))[0]?=some k):aG ins=.knot k.1 []:=by
 unfold aG;rw [h];rfl
theorem kJ {ins:List (VM×Int)} (g:bR ins):∃ k,(ins.filter fun k=>decide (k.2=0))[0]?=some k/\k.2=0:=by
 obtain ⟨k,hk,hz⟩:=g.zero;have hm:k∈ins.filter fun k=>decide (k.2=0):=WV.mpr ⟨hk,decide_eq_true hz⟩;have hl:0<(ins.filter fun k=>decide (k.2=0)).length:=List.length_pos_of_mem hm;refine ⟨_,Ve hl,?_⟩;exact of_decide_eq_true (WV.mp (YL hl)).2
def cB (ins:List (VM×Int)):Nat:=ins.findIdx fun k=>decide (k.2=0)
theorem eS:∀ {ins:List (VM×Int)} {k:VM×Int},(ins.filter fun k=>decide (k.2=0))[0]?=some k->ins[cB ins]?=some k
 | [],k,h=>by simp at h
 | x::xs,k,h=>by
   unfold cB;by_cases hx:x.2=0
   · rw [Wm,if_pos (decide_eq_true hx)] at h;rw [List.findIdx_cons,decide_eq_true hx];simpa using h
   · rw [Wm,if_neg (by simpa using hx)] at h;rw [List.findIdx_cons,decide_eq_false hx];simpa [cB] using eS h
def MkAt (H:Hp) (ins:List (VM×Int)) (rows:List (List Th)) (f':List (List Key×V)):Prop :=
 ∀ (s k:Nat) (row:List Th) (p:Th),k<3->rows[s]?=some row->row[cB ins]?=some p->∃ a,aQ f' [VR (s:Int),VR (k:Int)]=some (.ref a)/\At H p a
theorem MkAt.mono {H H':Hp} (kt:KT H H') {ins:List (VM×Int)} {rows:List (List Th)} {f':List (List Key×V)} (h:MkAt H ins rows f'):MkAt H' ins rows f':=fun s k row p hk hr hp=>by
 obtain ⟨a,h1,h2⟩:=h s k row p hk hr hp;exact ⟨a,h1,h2.mono kt⟩
theorem rc:∀ {ts:List Th} {i:Nat},(dvs ts)[i]?=(ts[i]?).map Th.dv
 | [],i=>by rw [dvs];simp
 | t::ts,0=>by rw [dvs];rfl
 | t::ts,i+1=>by rw [dvs,W2,W2];exact rc
theorem r8:∀ ts:List Th,(dvs ts).length=ts.length
 | []=>by rw [dvs];rfl
 | t::ts=>by rw [dvs,Vo,Vo,r8 ts]
theorem p5 {α:Type} {f:α->Th} {H:Hp}:∀ {zs:List α} {as:List Vd},VW (fun z a=>At H (f z) a) zs as->Ats H (zs.map f) as
 | _,_,.nil=>.nil
 | _,_,.cons r h=>.cons r (p5 h)
end BB
namespace BB
open PySem L2
theorem cA {x:List Int×Th} {pre:List Int}:∀ {ts:List Th} {i:Int},x∈pls pre i ts↔∃ (j:Nat) (t:Th),ts[j]?=some t/\x∈t.pl (pre++[i+(j:Int)])
 | [],i=>by rw [pls];simp
 | t::ts,i=>by
   rw [pls,VX,cA (ts:=ts) (i:=i+1)];constructor
   · rintro (h | ⟨j,u,hu,h⟩)
     · exact ⟨0,t,rfl,by simpa using h⟩
     · refine ⟨j+1,u,by simpa using hu,?_⟩;rw [show i+((j+1:Nat):Int)=i+1+(j:Int) by omega];exact h
   · rintro ⟨j,u,hu,h⟩;cases j with
     | zero =>
       simp at hu;subst hu;exact .inl (by simpa using h)
     | succ j =>
       refine .inr ⟨j,u,by simpa using hu,?_⟩;rw [show i+1+(j:Int)=i+((j+1:Nat):Int) by omega];exact h
theorem qV {n:VM} {ks:List Th} {pre:List Int} {j:Nat} {t:Th} (h:ks[j]?=some t) {x:List Int×Th} (hx:x∈t.pl (pre++[(j:Int)])):x∈(Th.knot n ks).pl pre:=by
 rw [Th.pl];refine VB _ (cA.mpr ⟨j,t,h,?_⟩);rw [Xl];exact hx
theorem gu (t:Th) (pre:List Int):(pre,t)∈t.pl pre:=by rw [Th.pl_eq];exact VC ..
theorem uB:∀ (n:Nat) (l r:Th) (pre:List Int),l.size<=n->∀ x∈(l.com r).pl pre,∃ u,(x.1,u)∈l.pl pre
 | 0,l,r,pre,hn=>by have:=l.size_pos;omega
 | n+1,.call a b,r,pre,hn=>fun x hx=>by
   rw [hX,aD] at hx
   · rw [if_neg VG,hole,Th.pl,pls] at hx;rw [VF.mp hx];exact ⟨_,gu _ _⟩
   · intro _ _ _ _ h;cases h
 | n+1,.knot m ks,r,pre,hn=>fun x hx=>by
   rw [hX] at hx;by_cases hs:aD (.knot m ks) r=true
   · rw [if_pos hs,Th.pl] at hx;rcases VA.mp hx with rfl | hx
     · exact ⟨_,gu _ _⟩
     · obtain ⟨j,t,ht,hx⟩:=cA.mp hx;rw [Xl] at hx;rw [Vp,Wd] at ht;obtain ⟨p,hp,rfl⟩:=ht;obtain ⟨h1,h2⟩:=W9.mp hp;rw [Th.size] at hn;have hz:p.1.size<=ao ks:=aI (Vh h1);obtain ⟨u,hu⟩:=uB n p.1 p.2 _ (by omega) x hx;exact ⟨u,qV h1 hu⟩
   · rw [if_neg hs,hole,Th.pl,pls] at hx;rw [VF.mp hx];exact ⟨_,gu _ _⟩
mutual
/-- a front with holes at some places -/
def Th.cut (D:List Int->Bool) (pre:List Int):Th->Th
 | .knot n ks=>if (Th.knot n ks).isHole=true∨D pre=true then hole else .knot n (fK D pre 0 ks)
 | .call _ _=>hole
def fK (D:List Int->Bool) (pre:List Int) (i:Int):List Th->List Th
 | []=>[]
 | t::ts=>t.cut D (pre++[i])::fK D pre (i+1) ts
end
theorem oV {D:List Int->Bool} {pre:List Int}:∀ {ts:List Th} {i:Int} {j:Nat},(fK D pre i ts)[j]?=(ts[j]?).map fun t=>t.cut D (pre++[i+(j:Int)])
 | [],i,j=>by rw [fK];simp
 | t::ts,i,0=>by rw [fK];simp
 | t::ts,i,j+1=>by
   rw [fK,W2,W2,oV,show i+1+(j:Int)=i+((j+1:Nat):Int) by omega]
theorem oP {D:List Int->Bool} {pre:List Int}:∀ {ts:List Th} {i:Int},(fK D pre i ts).length=ts.length
 | [],i=>by rw [fK]
 | t::ts,i=>by rw [fK,Vo,Vo,oP]
theorem kL:∀ {as bs:List Th},(∀ (i:Nat) (a b:Th),as[i]?=some a->bs[i]?=some b->a.lies b=true)->bG as bs=true
 | [],bs,_=>by rw [bG]
 | a::as,[],_=>by rw [bG]
 | a::as,b::bs,h=>by
   rw [bG,h 0 a b rfl rfl,kL fun i x y hx hy=>h (i+1) x y (by simpa using hx) (by simpa using hy)];rfl
theorem m7:∀ {as bs:List Th},bG as bs=true->∀ (i:Nat) (a b:Th),as[i]?=some a->bs[i]?=some b->a.lies b=true
 | [],bs,_,i,a,b,ha,_=>by simp at ha
 | x::as,[],_,i,a,b,_,hb=>by simp at hb
 | x::as,y::bs,h,i,a,b,ha,hb=>by
   rw [bG,WY] at h;cases i with
   | zero =>
     simp at ha hb;subst ha;subst hb;exact h.1
   | succ i=>exact m7 h.2 i a b (by simpa using ha) (by simpa using hb)
theorem jP {n:VM} {ks:List Th} {r:Th} (h:aD (.knot n ks) r=true):∃ us,r=.knot n us/\ks.length=us.length/\(Th.knot n ks).isHole=false:=by
 cases r with
 | call a b=>rw [aD] at h;exact absurd h VG;intro _ _ _ _ _ h;cases h
 | knot m us =>
   rw [aD,WY,WY] at h;obtain ⟨⟨h1,h2⟩,h3⟩:=h;obtain rfl:=of_decide_eq_true h2;exact ⟨us,rfl,of_decide_eq_true h3,by simpa using h1⟩
theorem ig {n:VM} {ks us:List Th} (h1:(Th.knot n ks).isHole=false) (h2:ks.length=us.length):aD (.knot n ks) (.knot n us)=true:=by
 rw [aD,h1,decide_eq_true rfl,decide_eq_true h2];rfl
theorem lies_of {n:VM} {ks:List Th} {r:Th} (h:(Th.knot n ks).lies r=true) (hh:(Th.knot n ks).isHole=false):∃ us,r=.knot n us/\ks.length=us.length/\bG ks us=true:=by
 rw [Th.lies,hh,Yv,WY] at h;obtain ⟨us,rfl,hl,_⟩:=jP h.1;exact ⟨us,rfl,hl,h.2⟩
theorem gd {c:List Int×Int×Int} {ps:List (List Int×Th)}:c∈callsOf ps↔(c.1,Th.call c.2.1 c.2.2)∈ps:=by
 unfold callsOf;rw [List.mem_filterMap];constructor
 · rintro ⟨⟨pl,t⟩,hx,e⟩;cases t with
   | knot n ks=>rw [oj] at e;cases e
   | call a b=>rw [oj] at e;cases e;exact hx
 · intro h;exact ⟨_,h,by rw [oj]⟩
section
variable {D:Int->List Int->Bool} {mk f0:Int->Th}
end
theorem jC:∀ (n:Nat) (t:Th),t.size<=n->t.noCall->t.lies t=true
 | 0,t,hn,_=>by have:=t.size_pos;omega
 | n+1,.call a b,_,h=>by rw [Th.noCall] at h;exact h.elim
 | n+1,.knot m ks,hn,h=>by
   by_cases hh:(Th.knot m ks).isHole=true
   · rw [Th.lies,hh];rfl
   · have Md:(Th.knot m ks).isHole=false:=WO.mpr hh;rw [Th.size] at hn;rw [Th.noCall] at h;rw [Th.lies,ig Md rfl]
     have:bG ks ks=true:=kL fun i a b ha hb=>by
      rw [ha] at hb;cases hb;have:=aI (Vh ha);exact jC n a (by omega) (bX h (Vh ha))
     show ((Th.knot m ks).isHole || (true && bG ks (Th.knot m ks).kids))=true;rw [show (Th.knot m ks).kids=ks from rfl,this,Bool.or_comm];rfl
def mkF (ins:List (VM×Int)) (rows:List (List Th)) (l:Int):Th:=(rowOf rows l).getD (cB ins) hole
def frF (mk:Int->Th) (m:Th) (row:List Th):Th:=row.foldl (fun f p=>f.com (p.fill fun l _=>mk l)) m
theorem iV (mk:Int->Th) (m:Th) (row:List Th) (p:Th):frF mk m (row++[p])=(frF mk m row).com (p.fill fun l _=>mk l):=by
 unfold frF;rw [List.foldl_append];rfl
theorem hG {mk:Int->Th} {m:Th} (h:m.noCall):∀ row:List Th,(frF mk m row).noCall:=fun row=>by
 cases hr:row.reverse with
 | nil =>
   have:row=[]:=by simpa using hr
   subst this;exact h
 | cons p ps =>
   have:row=ps.reverse++[p]:=by
    have:=congrArg List.reverse hr;simpa using this
   rw [this,iV];exact lX _ _
theorem lp (mk:Int->Th) (m:Th) (row:List Th):(frF mk m row).size<=m.size/\(frF mk m row).tall<=m.tall:=by
 unfold frF;induction row generalizing m with
 | nil=>exact ⟨Vj _,Vj _⟩
 | cons p row ih =>
   rw [List.foldl_cons];have h1:=ih (m.com (p.fill fun l _=>mk l));have h2:=oM m (p.fill fun l _=>mk l);omega
theorem qC (mk:Int->Th) (m:Th) (row:List Th):∀ x∈(frF mk m row).pl [],∃ u,(x.1,u)∈m.pl []:=by
 unfold frF;induction row generalizing m with
 | nil=>exact fun x hx=>⟨x.2,hx⟩
 | cons p row ih =>
   rw [List.foldl_cons];intro x hx;obtain ⟨u,hu⟩:=ih _ x hx;exact uB _ m _ [] (Vj _) (x.1,u) hu
theorem o7 {mk:Int->Th} (f:Th):∀ (row:List Th) (m:Th),f.lies (frF mk m row)=true->f.lies m=true/\∀ p∈row,f.lies (p.fill fun l _=>mk l)=true
 | [],m,h=>⟨h,fun p hp=>by cases hp⟩
 | p::row,m,h=>by
   have h':f.lies (frF mk (m.com (p.fill fun l _=>mk l)) row)=true:=h;obtain ⟨h1,h2⟩:=o7 f row _ h';rw [pU,WY] at h1;refine ⟨h1.1,fun x hx=>?_⟩;rcases VA.mp hx with rfl | hx
   · exact h1.2
   · exact h2 x hx
def nk (s:Int) (pl:List Int):aw:=(pl.map VR,VR s)
theorem uO {s s':Int} {p p':List Int} (h:nk s p=nk s' p'):s=s'/\p=p':=by
 unfold nk at h;injection h with h1 h2;refine ⟨X9 h2,?_⟩;exact (Zz (fun _ _ e=>X9 e)).mp h1
theorem mM {H:Hp} {s:Int} {pl:List Int} {b c:Vd} (h1:H b=some (.tup [.int s,.ref c])) (h2:H c=some (.tup (pl.map V.int))):MKAt H (nk s pl) b:=by
 refine ⟨c,h1,?_⟩;rw [h2];unfold nk;rw [XM];rfl
def But (p:Vd) (H H':Hp):Prop:=∀ c o,c≠p->H c=some o->H' c=some o
theorem But.refl (p:Vd) (H:Hp):But p H H:=fun _ _ _ e=>e
theorem But.trans {p:Vd} {H H' Ik:Hp} (a:But p H H') (b:But p H' Ik):But p H Ik:=fun c o hc e=>b c o hc (a c o hc e)
theorem Same.but {p:Vd} {H H':Hp} (a:L2.Same H H'):But p H H':=fun c o _ e=>a c o e
theorem But.kt {p:Vd} {H H':Hp} {φ:Wx->Prop} (a:But p H H') (e:H p=some (.ext φ)):KT H H':=fun c ys ec=>a c _ (fun z=>by rw [z,e] at ec;cases ec) ec
abbrev VlT:=List aw->aw->Th->Th->Prop
def PtV (H:Hp) (R:Th->Th->Prop) (v:V):Prop:=∃ (pr ta tb:Vd) (t1 t2:Th),v=.ref pr/\H pr=some (.tup [.ref ta,.ref tb])/\At H t1 ta/\At H t2 tb/\R t1 t2
theorem PtV.mono {H H':Hp} (k:KT H H') {R:Th->Th->Prop} {v:V} (h:PtV H R v):PtV H' R v:=by
 obtain ⟨pr,ta,tb,t1,t2,e,h1,h2,h3,h4⟩:=h;exact ⟨pr,ta,tb,t1,t2,e,k _ _ h1,h2.mono k,h3.mono k,h4⟩
structure Pt (P:Vu) (w:VI) (Vl:VlT) (H:Hp) (pt:Vd) (f':List (aw×V)) (Al:List aw):Prop where
 dm:DM P w H pt f'
 nd:(f'.map (·.1)).Nodup
 al:∀ p∈f',p.1∈Al
 vl:∀ (j:Nat) (p:aw×V),f'[j]?=some p->PtV H (Vl ((f'.map (·.1)).take j) p.1) p.2
theorem bY {P:Vu} {w:VI} {H:Hp} {a:Vd} {f':List (aw×V)} (h:DM P w H a f'):∃ φ,H a=some (.ext φ):=by
 obtain ⟨_,_,xs,φ,e,_⟩:=h;exact ⟨φ,e⟩
theorem Pt.same {P:Vu} {w:VI} {Vl:VlT} {H H':Hp} {pt:Vd} {f':List (aw×V)} {Al:List aw} (h:Pt P w Vl H pt f' Al) (s:L2.Same H H'):Pt P w Vl H' pt f' Al:=⟨h.dm.mono s,h.nd,h.al,fun j p hp=>(h.vl j p hp).mono (Same.kt s)⟩
theorem Pt.len {P:Vu} {w:VI} {Vl:VlT} {H:Hp} {pt:Vd} {f':List (aw×V)} {Al:List aw} (h:Pt P w Vl H pt f' Al):f'.length<=Al.length:=by
 have:=mU (m:=Al) h.nd fun k hk=>by
  obtain ⟨p,hp,rfl⟩:=V1.mp hk;exact h.al p hp
 rwa [Vb] at this
theorem cE {f':List (aw×V)} {k:aw} (h:aQ f' k=none):k∉f'.map (·.1):=by
 intro hk;obtain ⟨p,hp,rfl⟩:=V1.mp hk;have:=dk p.1 f';rw [h] at this;have h2:(f'.any fun kv=>decide (kv.1=p.1))=true:=List.any_eq_true.mpr ⟨p,hp,decide_eq_true rfl⟩;rw [h2] at this;cases this
theorem eT {f':List (aw×V)} {k:aw} {v:V} (h:aQ f' k=some v):(k,v)∈f':=by
 induction f' with
 | nil=>cases h
 | cons p f' ih =>
   by_cases e:p.1=k
   · rw [bE e] at h;cases h;rw [<- e];exact VC ..
   · rw [bD e] at h;exact VB _ (ih h)
theorem Pt.put {P:Vu} {w:VI} {Vl:VlT} {H H':Hp} {pt:Vd} {f':List (aw×V)} {Al:List aw} (h:Pt P w Vl H pt f' Al) {k:aw} {v:V} (hn:aQ f' k=none) (hb:But pt H H') (hd:DM P w H' pt (putK f' k v)) (hv:PtV H (Vl (f'.map (·.1)) k) v) (hk:k∈Al):Pt P w Vl H' pt (putK f' k v) Al/\(putK f' k v).map (·.1)=f'.map (·.1)++[k]:=by
 obtain ⟨φ,e⟩:=bY h.dm;have kt:=hb.kt e;rw [kE v hn] at hd ⊢;refine ⟨⟨hd,?_,fun p hp=>?_,fun j p hp=>?_⟩,by rw [Vs];rfl⟩
 · rw [Vs];refine ZH.mpr ⟨h.nd,by simp,fun a ha b Aj=>?_⟩;simp at Aj;subst Aj;exact fun z=>cE hn (z ▸ ha)
 · rcases VX.mp hp with hp | hp
   · exact h.al p hp
   · rw [VF.mp hp];exact hk
 · by_cases hj:j<f'.length
   · rw [Xr hj] at hp;rw [Vs,Zm (by rw [Vb];omega)];exact (h.vl j p hp).mono kt
   · rw [YF (by omega)] at hp
     have R4:j - f'.length=0:=by
      have:=(Vn.mp hp).1;have h1:[(k,v)].length=1:=rfl;omega
     rw [R4] at hp;have E4:j=f'.length:=by omega
     cases hp;rw [E4,Vs,Zm (by rw [Vb];omega),W5 (by rw [Vb];omega)];exact hv.mono kt
mutual
theorem rh {u:Th}:∀ (t:Th) (pre:List Int),u∈t.walk->∃ pl,(pl,u)∈t.pl pre
 | .call a b,pre,h=>by
   rw [Th.walk] at h;rw [VF.mp h];exact ⟨pre,gu _ _⟩
 | .knot n ks,pre,h=>by
   rw [Th.walk] at h;rcases VA.mp h with rfl | h
   · exact ⟨pre,gu _ _⟩
   · obtain ⟨pl,hp⟩:=lP ks pre 0 h;exact ⟨pl,by rw [Th.pl];exact VB _ hp⟩
theorem lP {u:Th}:∀ (ts:List Th) (pre:List Int) (i:Int),u∈walks ts->∃ pl,(pl,u)∈pls pre i ts
 | [],pre,i,h=>by rw [walks] at h;cases h
 | t::ts,pre,i,h=>by
   rw [walks] at h;rw [pls];rcases VX.mp h with h | h
   · obtain ⟨pl,hp⟩:=rh t (pre++[i]) h;exact ⟨pl,V6 _ hp⟩
   · obtain ⟨pl,hp⟩:=lP ts pre (i+1) h;exact ⟨pl,VY _ hp⟩
end
theorem m5 {ks:List (VM×Int)} {S C:Int} {t:Th} (h:t.FitS ks S C) {s k:Int} (hm:Th.call s k∈t.walk):0<=s/\s<S/\0<=k/\k<C:=by
 obtain ⟨pl,hp⟩:=rh t [] hm;exact jl t [] h (pl,s,k) (gd.mpr hp)
theorem cK {ks:List (VM×Int)} {S:Int}:∀ (n:Nat) (t:Th),t.size<=n->t.FitS ks S 0->t.noCall
 | 0,t,hn,_=>by have:=t.size_pos;omega
 | n+1,.call a b,_,h=>by rw [Th.FitS] at h;omega
 | n+1,.knot m us,hn,h=>by
   rw [Th.FitS] at h;rw [Th.size] at hn;rw [Th.noCall]
   have:∀ (l:List Th),(∀ t∈l,t.noCall)->bn l:=fun l=>by
    induction l with
    | nil=>intro _;rw [bn];trivial
    | cons x l ih=>intro hl;rw [bn];exact ⟨hl x (VC ..),ih fun t ht=>hl t (VB _ ht)⟩
   refine this us fun t ht=>?_;have hz:=aI ht;exact cK n t (by omega) (FitSs.mem' h.2 t ht)
mutual
theorem uD:∀ (t:Th) (a b:List Int),t.pl (a++b)=(t.pl b).map fun x=>(a++x.1,x.2)
 | .call s k,a,b=>by rw [Th.pl,Th.pl];rfl
 | .knot n ks,a,b=>by rw [Th.pl,Th.pl,V3,rH ks a b 0]
theorem rH:∀ (ts:List Th) (a b:List Int) (i:Int),pls (a++b) i ts=(pls b i ts).map fun x=>(a++x.1,x.2)
 | [],a,b,i=>by rw [pls,pls];rfl
 | t::ts,a,b,i=>by rw [pls,pls,Vs,V8,uD t a (b++[i]),rH ts a b (i+1)]
end
theorem dW {t:Th} {a:List Int} {x:List Int×Th}:x∈t.pl a↔∃ r,x.1=a++r/\(r,x.2)∈t.pl []:=by
 have:=uD t a [];rw [V7] at this;rw [this,V1];constructor
 · rintro ⟨y,hy,rfl⟩;exact ⟨y.1,rfl,hy⟩
 · rintro ⟨r,h1,h2⟩;exact ⟨(r,x.2),h2,by rw [<- h1]⟩
theorem n6:∀ (n:Nat) {t u v:Th} {a r:List Int},t.size<=n->(a,u)∈t.pl []->(r,v)∈u.pl []->(a++r,v)∈t.pl []
 | 0,t,_,_,_,_,hn=>by have:=t.size_pos;omega
 | n+1,.call s k,u,v,a,r,hn=>fun h1 h2=>by
   rw [Th.pl] at h1;cases VF.mp h1;exact h2
 | n+1,.knot m ks,u,v,a,r,hn=>fun h1 h2=>by
   rw [Th.pl] at h1;rcases VA.mp h1 with h1 | h1
   · cases h1;exact h2
   · obtain ⟨j,t,ht,hx⟩:=cA.mp h1;obtain ⟨r',e,Bw⟩:=dW.mp hx;dsimp only at e Bw;rw [Xl,Xp] at e;rw [Th.size] at hn;have hz:=aI (Vh ht);have:=n6 n (by omega) Bw h2;refine qV ht (dW.mpr ⟨r'++r,?_,this⟩);show a++r=[]++[(j:Int)]++(r'++r);rw [e,Xp,V8]
end BB
namespace BB
open PySem L2
theorem qu:∀ (n:Nat) {t u v:Th} {a:List Int},t.size<=n->(a,u)∈t.pl []->(a,v)∈t.pl []->u=v
 | 0,t,_,_,_,hn=>by have:=t.size_pos;omega
 | n+1,.call s k,u,v,a,hn=>fun h1 h2=>by
   rw [Th.pl] at h1 h2;cases VF.mp h1;cases VF.mp h2;rfl
 | n+1,.knot m ks,u,v,a,hn=>fun h1 h2=>by
   rw [Th.pl] at h1 h2;rcases VA.mp h1 with h1 | h1
   · cases h1;rcases VA.mp h2 with h2 | h2
     · cases h2;rfl
     · obtain ⟨j,t,ht,hx⟩:=cA.mp h2;obtain ⟨r',e,_⟩:=dW.mp hx;cases e
   · obtain ⟨j,t,ht,hx⟩:=cA.mp h1;obtain ⟨r',e,Bw⟩:=dW.mp hx;rcases VA.mp h2 with h2 | h2
     · cases h2;cases e
     · obtain ⟨j2,t2,Kp,Ci⟩:=cA.mp h2;obtain ⟨r2,e2,FP⟩:=dW.mp Ci;dsimp only at e e2 Bw FP;rw [e] at e2;have e3:(0+(j:Int))::r'=(0+(j2:Int))::r2:=e2;injection e3 with e4 e5;have:j=j2:=by omega
       subst this;rw [ht] at Kp;cases Kp;subst e5;rw [Th.size] at hn;have hz:=aI (Vh ht);exact qu n (by omega) Bw FP
abbrev LkT:=aw->Int->List Int->VM×Int->Int->Prop
def LE (H:Hp) (ins:List (VM×Int)) (Al:List aw) (Lk:LkT) (k0:aw) (a:Vd):Prop:=∃ (s kid:Int) (pl:List Int) (pa ka:Vd) (kd:VM×Int),H a=some (.tup [.int s,.ref pa,.ref ka,.int kid])/\H pa=some (.tup (pl.map V.int))/\KAt H kd ka/\kd∈ins/\nk s pl∈Al/\Lk k0 s pl kd kid
theorem LE.mono {H H':Hp} (k:KT H H') {ins:List (VM×Int)} {Al:List aw} {Lk:LkT} {k0:aw} {a:Vd} (h:LE H ins Al Lk k0 a):LE H' ins Al Lk k0 a:=by
 obtain ⟨s,kid,pl,pa,ka,kd,h1,h2,h3,h4,h5⟩:=h;exact ⟨s,kid,pl,pa,ka,kd,k _ _ h1,k _ _ h2,k _ _ h3,h4,h5⟩
abbrev LG:=List (aw×Vd×List Vd)
def lkv (G:LG):List (aw×V):=G.map fun g=>(g.1,V.ref g.2.1)
structure LkI (P:Vu) (w:VI) (ins:List (VM×Int)) (Al:List aw) (Lk:LkT) (H0 H:Hp) (la:Vd) (G:LG) (N:Nat):Prop where
 sm:L2.Same H0 H
 la0:H0 la=none
 dm:DM P w H la (lkv G)
 kn:(G.map (·.1)).Nodup
 an:(G.map (·.2.1)).Nodup
 ls:∀ g∈G,H0 g.2.1=none/\H g.2.1=some (.lst (g.2.2.map V.ref))/\g.2.2.length<=N/\∀ a∈g.2.2,LE H ins Al Lk g.1 a
 le:G.length<=N
def gC (H:Hp) (G:LG) (k:aw) (s:Int) (pl:List Int):Prop:=∃ g∈G,g.1=k/\∃ a∈g.2.2,∃ (pa ka:Vd) (kid:Int),H a=some (.tup [.int s,.ref pa,.ref ka,.int kid])/\H pa=some (.tup (pl.map V.int))
def LSub (H H':Hp) (G G':LG):Prop:=∀ k s pl,gC H G k s pl->gC H' G' k s pl
theorem LSub.refl (H:Hp) (G:LG):LSub H H G G:=fun _ _ _ h=>h
theorem LSub.trans {H H' Ik:Hp} {G G' Pn:LG} (a:LSub H H' G G') (b:LSub H' Ik G' Pn):LSub H Ik G Pn:=fun k s pl h=>b k s pl (a k s pl h)
theorem LSub.kt {H H':Hp} (k:KT H H') (G:LG):LSub H H' G G:=fun _ _ _ ⟨g,hg,e,a,ha,pa,ka,kid,h1,h2⟩=>⟨g,hg,e,a,ha,pa,ka,kid,k _ _ h1,k _ _ h2⟩
theorem rQ {P:Vu} {w:VI} {H H':Hp} {a:Vd} {f':List (aw×V)} (h:DM P w H a f') (k:KT H H') (e:∀ o,H a=some o->H' a=some o):DM P w H' a f':=by
 obtain ⟨z,hd,xs,φ,e1,f,r⟩:=h;exact ⟨z,hd,xs,φ,e _ e1,f,KTm.mono k r⟩
section
variable {P:Vu} {w:VI} {ins:List (VM×Int)} {Al:List aw} {Lk:LkT} {H0 H:Hp} {la:Vd} {G:LG} {N:Nat}
theorem LkI.ne (h:LkI P w ins Al Lk H0 H la G N) {g:aw×Vd×List Vd} (hg:g∈G):g.2.1≠la:=fun z=>by
 obtain ⟨φ,e⟩:=bY h.dm;have:=(h.ls g hg).2.1;rw [z,e] at this;cases this
theorem LkI.same {H':Hp} (h:LkI P w ins Al Lk H0 H la G N) (s:L2.Same H H'):LkI P w ins Al Lk H0 H' la G N:=by
 refine ⟨h.sm.trans s,h.la0,h.dm.mono s,h.kn,h.an,fun g hg=>?_,h.le⟩;obtain ⟨a,b,c,d⟩:=h.ls g hg;exact ⟨a,s _ _ b,c,fun x hx=>(d x hx).mono (Same.kt s)⟩
theorem LkI.up (h:LkI P w ins Al Lk H0 H la G N) {M:Nat} (hm:N<=M):LkI P w ins Al Lk H0 H la G M:=by
 refine ⟨h.sm,h.la0,h.dm,h.kn,h.an,fun g hg=>?_,WZ h.le hm⟩;obtain ⟨a,b,c,d⟩:=h.ls g hg;exact ⟨a,b,WZ c hm,d⟩
theorem LkI.new {H':Hp} (h:LkI P w ins Al Lk H0 H la G N) {k:aw} {l:Vd} (hn:aQ (lkv G) k=none) (hb:But la H H') (hd:DM P w H' la (putK (lkv G) k (.ref l))) (DX:H0 l=none) (hl:H l=some (.lst [])) (hf:∀ g∈G,g.2.1≠l):LkI P w ins Al Lk H0 H' la (G++[(k,l,[])]) (N+1)/\LSub H H' G (G++[(k,l,[])]):=by
 obtain ⟨φ,e⟩:=bY h.dm;have kt:=hb.kt e;have Me:l≠la:=fun z=>by rw [z,e] at hl;cases hl
 refine ⟨⟨fun c o ec=>hb c o (fun z=>by rw [z,h.la0] at ec;cases ec) (h.sm _ _ ec),h.la0,?_,?_,?_,fun g hg=>?_,by rw [VD];have:=h.le;show G.length+1<=N+1;omega⟩,fun k' s pl h'=>?_⟩
 · rw [kE _ hn] at hd;unfold lkv at hd ⊢;rw [Vs];exact hd
 · rw [Vs];refine ZH.mpr ⟨h.kn,by simp,fun a ha b Aj=>?_⟩;simp at Aj;subst Aj;intro z;subst z;refine cE hn ?_;unfold lkv;rw [XM];exact ha
 · rw [Vs];refine ZH.mpr ⟨h.an,by simp,fun a ha b Aj=>?_⟩;simp at Aj;subst Aj;obtain ⟨g,hg,rfl⟩:=V1.mp ha;exact hf g hg
 · rcases VX.mp hg with hg | hg
   · obtain ⟨a,b,c,d⟩:=h.ls g hg;exact ⟨a,hb _ _ (h.ne hg) b,by omega,fun x hx=>(d x hx).mono kt⟩
   · rw [VF.mp hg];exact ⟨DX,hb _ _ Me hl,VJ _,fun x hx=>by cases hx⟩
 · obtain ⟨g,hg,r⟩:=LSub.kt kt G k' s pl h';exact ⟨g,V6 _ hg,r⟩
def fk (l en:Vd) (g:aw×Vd×List Vd):aw×Vd×List Vd:=if g.2.1=l then (g.1,g.2.1,g.2.2++[en]) else g
theorem di (l en:Vd) (g:aw×Vd×List Vd):(fk l en g).1=g.1/\(fk l en g).2.1=g.2.1:=by
 unfold fk;split <;> exact ⟨rfl,rfl⟩
theorem LkI.app (h:LkI P w ins Al Lk H0 H la G N) {g:aw×Vd×List Vd} (hg:g∈G) {en:Vd} (he:LE H ins Al Lk g.1 en):LkI P w ins Al Lk H0 (upd H g.2.1 (.lst (g.2.2.map V.ref++[.ref en]))) la (G.map (fk g.2.1 en)) (N+1)/\KT H (upd H g.2.1 (.lst (g.2.2.map V.ref++[.ref en])))/\LSub H (upd H g.2.1 (.lst (g.2.2.map V.ref++[.ref en]))) G (G.map (fk g.2.1 en))/\(∀ (s:Int) (pl:List Int) (pa ka:Vd) (kid:Int),H en=some (.tup [.int s,.ref pa,.ref ka,.int kid])->H pa=some (.tup (pl.map V.int))->gC (upd H g.2.1 (.lst (g.2.2.map V.ref++[.ref en]))) (G.map (fk g.2.1 en)) g.1 s pl):=by
 obtain ⟨gl,ge,gn,R5⟩:=h.ls g hg;have kt:KT H (upd H g.2.1 (.lst (g.2.2.map V.ref++[.ref en]))):=aK ge;have Eh:=h.ne hg;have k1:(G.map (fk g.2.1 en)).map (·.1)=G.map (·.1):=by rw [XM];exact List.map_congr_left fun x _=>(di _ _ x).1
 have k2:(G.map (fk g.2.1 en)).map (·.2.1)=G.map (·.2.1):=by rw [XM];exact List.map_congr_left fun x _=>(di _ _ x).2
 have k3:lkv (G.map (fk g.2.1 en))=lkv G:=by
  unfold lkv;rw [XM];refine List.map_congr_left fun x _=>?_;show ((fk g.2.1 en x).1,V.ref (fk g.2.1 en x).2.1)=_;rw [(di _ _ x).1,(di _ _ x).2]
 refine ⟨⟨au h.sm gl,h.la0,?_,by rw [k1];exact h.kn,by rw [k2];exact h.an,fun x hx=>?_,by rw [Vb];have:=h.le;omega⟩,kt,fun k s pl hh=>?_,fun s pl pa ka kid h1 h2=>?_⟩
 · rw [k3];exact rQ h.dm kt fun o eo=>by rw [ag Eh.symm];exact eo
 · obtain ⟨y,hy,rfl⟩:=V1.mp hx;obtain ⟨a,b,c,d⟩:=h.ls y hy;by_cases hc:y.2.1=g.2.1
   · have R6:y=g:=by
      obtain ⟨i,hi⟩:=VH.mp hy;obtain ⟨j,hj⟩:=VH.mp hg
      have E6:i=j:=by
       have h1:(G.map (·.2.1))[i]?=some y.2.1:=by rw [Vp,hi];rfl
       have h2:(G.map (·.2.1))[j]?=some y.2.1:=by rw [Vp,hj,hc];rfl
       exact (List.getElem?_inj (by have:=(Vn.mp h1).1;exact this) h.an).mp (h1.trans h2.symm)
      subst E6;rw [hi] at hj;exact VL hj
     subst R6;unfold fk;rw [if_pos rfl];refine ⟨a,?_,?_,fun x hx=>?_⟩
     · show (upd H y.2.1 _) y.2.1=_;rw [ab];show some (HO.lst (y.2.2.map V.ref++[.ref en]))=some (.lst ((y.2.2++[en]).map V.ref));rw [Vs];rfl
     · show (y.2.2++[en]).length<=N+1;rw [VD];show y.2.2.length+1<=N+1;omega
     · rcases VX.mp hx with hx | hx
       · exact (d x hx).mono kt
       · rw [VF.mp hx];exact he.mono kt
   · unfold fk;rw [if_neg hc];exact ⟨a,by rw [ag hc];exact b,by omega,fun x hx=>(d x hx).mono kt⟩
 · obtain ⟨x,hx,e,a,ha,pa,ka,kid,h1,h2⟩:=hh;refine ⟨fk g.2.1 en x,V1.mpr ⟨x,hx,rfl⟩,by rw [(di _ _ x).1];exact e,a,?_,pa,ka,kid,kt _ _ h1,kt _ _ h2⟩;unfold fk;split
   · exact V6 _ ha
   · exact ha
 · refine ⟨fk g.2.1 en g,V1.mpr ⟨g,hg,rfl⟩,(di _ _ g).1,en,?_,pa,ka,kid,kt _ _ h1,kt _ _ h2⟩;unfold fk;rw [if_pos rfl];exact VY _ (VC ..)
end
theorem tU {K:Vc} {H:Hp}:∀ {ps:List (List Int×Th)} {as:List Vd},PsAtK K H ps as->∃ prs:List (List Key×V),VW (PrA H) prs as/\(∀ p∈prs,∃ x∈ps,p.1=x.1.map VR/\∃ a,p.2=.ref a/\AtK K H x.2 a)/\∀ x∈ps,∃ p∈prs,p.1=x.1.map VR
 | _,_,.nil=>⟨[],.nil,(fun p hp=>by cases hp),(fun p hp=>by cases hp)⟩
 | _,_,.cons (a:=x) r h=>by
   obtain ⟨pa,ta,h1,h2,h3⟩:=r;obtain ⟨prs,g1,g2,g3⟩:=tU h;refine ⟨(x.1.map VR,.ref ta)::prs,.cons ⟨pa,h1,by rw [h2,XM];rfl⟩ g1,fun p hp=>?_,fun y hy=>?_⟩
   · rcases VA.mp hp with rfl | hp
     · exact ⟨x,VC ..,rfl,ta,rfl,h3⟩
     · obtain ⟨y,hy,r⟩:=g2 p hp;exact ⟨y,VB _ hy,r⟩
   · rcases VA.mp hy with rfl | hy
     · exact ⟨_,VC ..,rfl⟩
     · obtain ⟨p,hp,e⟩:=g3 y hy;exact ⟨p,VB _ hp,e⟩
structure LQ (P:Vu) (w:VI) (ins:List (VM×Int)) (Al:List aw) (Lk:LkT) (H0:Hp) (la:Vd) (Hb:Hp) (Gb:LG) (Hc:Hp) (Gc:LG) (n:Nat):Prop where
 lk:LkI P w ins Al Lk H0 Hc la Gc n
 sub:LSub Hb Hc Gb Gc
 fr:∀ c o,Hb c=some o->c≠la->(∀ g∈Gb,g.2.1≠c)->Hc c=some o
 dom:∀ c o,Hb c=some o->∃ o',Hc c=some o'
 ext:∀ g∈Gc,(∃ g0∈Gb,g0.2.1=g.2.1)∨Hb g.2.1=none
section
variable {P:Vu} {w:VI} {ins:List (VM×Int)} {Al:List aw} {Lk:LkT} {H0 Hb Hc Hd:Hp} {la:Vd} {Gb Gc Gd:LG} {n m:Nat}
theorem LQ.refl (h:LkI P w ins Al Lk H0 Hb la Gb n):LQ P w ins Al Lk H0 la Hb Gb Hb Gb n:=⟨h,LSub.refl _ _,fun _ _ e _ _=>e,fun c o e=>⟨o,e⟩,fun g hg=>.inl ⟨g,hg,rfl⟩⟩
theorem LQ.same (h:LQ P w ins Al Lk H0 la Hb Gb Hc Gc n) (s:L2.Same Hc Hd):LQ P w ins Al Lk H0 la Hb Gb Hd Gc n :=
 ⟨h.lk.same s,h.sub.trans (LSub.kt (Same.kt s) _),fun c o e h1 h2=>s _ _ (h.fr c o e h1 h2),fun c o e=>by obtain ⟨o',e'⟩:=h.dom c o e;exact ⟨o',s _ _ e'⟩,h.ext⟩
theorem LQ.up (h:LQ P w ins Al Lk H0 la Hb Gb Hc Gc n) (hm:n<=m):LQ P w ins Al Lk H0 la Hb Gb Hc Gc m:=⟨h.lk.up hm,h.sub,h.fr,h.dom,h.ext⟩
theorem LQ.trans (a:LQ P w ins Al Lk H0 la Hb Gb Hc Gc n) (b:LQ P w ins Al Lk H0 la Hc Gc Hd Gd m):LQ P w ins Al Lk H0 la Hb Gb Hd Gd m:=by
 refine ⟨b.lk,a.sub.trans b.sub,fun c o e h1 h2=>b.fr c o (a.fr c o e h1 h2) h1 fun g hg=>?_,fun c o e=>?_,fun g hg=>?_⟩
 · rcases a.ext g hg with ⟨g0,h3,h4⟩ | h3
   · rw [<- h4];exact h2 g0 h3
   · intro z;rw [z,e] at h3;cases h3
 · obtain ⟨o',e'⟩:=a.dom c o e;exact b.dom c o' e'
 · rcases b.ext g hg with ⟨g0,h3,h4⟩ | h3
   · rw [<- h4];exact a.ext g0 h3
   · refine .inr ?_;cases hh:Hb g.2.1 with
     | none=>rfl
     | some o =>
       obtain ⟨o',e'⟩:=a.dom _ o hh;rw [h3] at e';cases e'
theorem LQ.kt (h:LQ P w ins Al Lk H0 la Hb Gb Hc Gc n) (L:LkI P w ins Al Lk H0 Hb la Gb m):KT Hb Hc:=fun c ys e=>by
 obtain ⟨φ,el⟩:=bY L.dm;refine h.fr c _ e (fun z=>by rw [z,el] at e;cases e) fun g hg z=>?_;have:=(L.ls g hg).2.1;rw [z,e] at this;cases this
theorem LQ.newG (a:LQ P w ins Al Lk H0 la Hb Gb Hc Gc n) {k:aw} {l:Vd} {He:Hp} (hl:Hc l=none) (hn:aQ (lkv Gc) k=none) (hb:But la (upd Hc l (.lst [])) He) (hd:DM P w He la (putK (lkv Gc) k (.ref l))):LQ P w ins Al Lk H0 la Hb Gb He (Gc++[(k,l,[])]) (n+1):=by
 have s1:L2.Same Hc (upd Hc l (.lst [])):=ad hl _;have L1:=a.lk.same s1
 obtain ⟨h1,h2⟩:=L1.new hn hb hd (a.lk.sm.free hl) ab fun g hg z=>by
  have:=(a.lk.ls g hg).2.1;rw [z,hl] at this;cases this
 refine a.trans ⟨h1,(LSub.kt (Same.kt s1) _).trans h2,fun c o e hc _=>hb c o hc (s1 _ _ e),fun c o e=>?_,fun g hg=>?_⟩
 · by_cases hc:c=la
   · obtain ⟨φ,e'⟩:=bY hd;exact ⟨_,by rw [hc];exact e'⟩
   · exact ⟨o,hb c o hc (s1 _ _ e)⟩
 · rcases VX.mp hg with hg | hg
   · exact .inl ⟨g,hg,rfl⟩
   · rw [VF.mp hg];exact .inr hl
theorem LQ.appG (a:LQ P w ins Al Lk H0 la Hb Gb Hc Gc n) {g:aw×Vd×List Vd} (hg:g∈Gc) {en:Vd} (he:LE Hc ins Al Lk g.1 en):LQ P w ins Al Lk H0 la Hb Gb (upd Hc g.2.1 (.lst (g.2.2.map V.ref++[.ref en]))) (Gc.map (fk g.2.1 en)) (n+1)/\∀ (s:Int) (pl:List Int) (pa ka:Vd) (kid:Int),Hc en=some (.tup [.int s,.ref pa,.ref ka,.int kid])->Hc pa=some (.tup (pl.map V.int))->gC (upd Hc g.2.1 (.lst (g.2.2.map V.ref++[.ref en]))) (Gc.map (fk g.2.1 en)) g.1 s pl:=by
 obtain ⟨h1,h2,h3,h4⟩:=a.lk.app hg he;refine ⟨⟨h1,a.sub.trans h3,fun c o e hc hf=>?_,fun c o e=>?_,fun x hx=>?_⟩,h4⟩
 · rw [ag]
   · exact a.fr c o e hc hf
   · intro z;rcases a.ext g hg with ⟨g0,h5,h6⟩ | h5
     · exact hf g0 h5 (h6.trans z.symm)
     · rw [<- z,e] at h5;cases h5
 · by_cases hc:c=g.2.1
   · exact ⟨_,by rw [hc];exact ab⟩
   · rw [ag hc];exact a.dom c o e
 · obtain ⟨y,hy,rfl⟩:=V1.mp hx;rw [(di _ _ y).2];exact a.ext y hy
theorem sk {G:LG} {k:aw} {u:V} (h:aQ (lkv G) k=some u):∃ g∈G,g.1=k/\u=.ref g.2.1:=by
 have:=eT h;unfold lkv at this;obtain ⟨g,hg,e⟩:=V1.mp this;cases e;exact ⟨g,hg,rfl,rfl⟩
end
theorem wy:∀ (n:Nat) (t:Th) (pre:List Int),t.size<=n->∀ x∈t.pl pre,x.2.size<=t.size/\x.2.tall<=t.tall
 | 0,t,_,hn=>by have:=t.size_pos;omega
 | n+1,.call a b,pre,hn=>fun x hx=>by
   rw [Th.pl] at hx;rw [VF.mp hx];exact ⟨Vj _,Vj _⟩
 | n+1,.knot m ks,pre,hn=>fun x hx=>by
   rw [Th.pl] at hx;rcases VA.mp hx with rfl | hx
   · exact ⟨Vj _,Vj _⟩
   · obtain ⟨j,t,ht,hx⟩:=cA.mp hx;rw [Th.size] at hn;have hz:=aI (Vh ht);have Kp:=bT (Vh ht);obtain ⟨h1,h2⟩:=wy n t _ (by omega) x hx;rw [Th.size,Th.tall];omega
theorem eO {n:Nat} (h:n<=16000000):n<Vz:=by
 have:Vz=16777216:=YA;omega
theorem uF:∀ (n:Nat) (t:Th) (pre:List Int),t.size<=n->∀ x∈t.pl pre,x.1.length<=pre.length+t.tall
 | 0,t,_,hn=>by have:=t.size_pos;omega
 | n+1,.call a b,pre,hn=>fun x hx=>by
   rw [Th.pl] at hx;rw [VF.mp hx];exact Xx _ _
 | n+1,.knot m ks,pre,hn=>fun x hx=>by
   rw [Th.pl] at hx;rcases VA.mp hx with rfl | hx
   · exact Xx _ _
   · obtain ⟨j,t,ht,hx⟩:=cA.mp hx;rw [Th.size] at hn;have hz:=aI (Vh ht);have Kp:=bT (Vh ht);have h1:=uF n t _ (by omega) x hx;rw [VD] at h1;rw [Th.tall];have h2:[(0:Int)+(j:Int)].length=1:=rfl;omega
structure LkR (P:Vu) (w:VI) (ins:List (VM×Int)) (Al:List aw) (Lk:LkT) (H:Hp) (la:Vd) (G:LG):Prop where
 dm:DM P w H la (lkv G)
 ls:∀ g∈G,H g.2.1=some (.lst (g.2.2.map V.ref))/\∀ a∈g.2.2,LE H ins Al Lk g.1 a
 kn:(G.map (·.1)).Nodup
theorem LkI.r {P:Vu} {w:VI} {ins:List (VM×Int)} {Al:List aw} {Lk:LkT} {H0 H:Hp} {la:Vd} {G:LG} {N:Nat} (h:LkI P w ins Al Lk H0 H la G N):LkR P w ins Al Lk H la G:=⟨h.dm,fun g hg=>⟨(h.ls g hg).2.1,(h.ls g hg).2.2.2⟩,h.kn⟩
theorem LkR.but {P:Vu} {w:VI} {ins:List (VM×Int)} {Al:List aw} {Lk:LkT} {H H':Hp} {la pt:Vd} {G:LG} {φ:Wx->Prop} (h:LkR P w ins Al Lk H la G) (hb:But pt H H') (e:H pt=some (.ext φ)) (hn:pt≠la):LkR P w ins Al Lk H' la G:=by
 have kt:=hb.kt e;refine ⟨rQ h.dm kt fun o eo=>hb _ _ hn.symm eo,fun g hg=>?_,h.kn⟩;obtain ⟨h1,h2⟩:=h.ls g hg;exact ⟨hb _ _ (fun z=>by rw [z,e] at h1;cases h1) h1,fun a ha=>(h2 a ha).mono kt⟩
theorem LkR.at {P:Vu} {w:VI} {ins:List (VM×Int)} {Al:List aw} {Lk:LkT} {H:Hp} {la:Vd} {G:LG} (h:LkR P w ins Al Lk H la G) {g:aw×Vd×List Vd} (hg:g∈G) {s:Int} {pl:List Int} (hh:gC H G g.1 s pl):∃ a∈g.2.2,∃ (pa ka:Vd) (kid:Int),H a=some (.tup [.int s,.ref pa,.ref ka,.int kid])/\H pa=some (.tup (pl.map V.int)):=by
 obtain ⟨g',Lo,e,r⟩:=hh
 have:g'=g:=by
  obtain ⟨i,hi⟩:=VH.mp Lo;obtain ⟨j,hj⟩:=VH.mp hg;have h1:(G.map (·.1))[i]?=some g.1:=by rw [Vp,hi,<- e];rfl
  have h2:(G.map (·.1))[j]?=some g.1:=by rw [Vp,hj];rfl
  have E6:i=j:=(List.getElem?_inj (by have:=(Vn.mp h1).1;exact this) h.kn).mp (h1.trans h2.symm);subst E6;rw [hi] at hj;exact VL hj
 subst this;exact r
theorem uX {G:LG} {k:aw} (h:aQ (lkv G) k=none) {H:Hp} {s:Int} {pl:List Int}:¬ gC H G k s pl:=fun ⟨g,hg,e,_⟩=>by
 refine cE h ?_;unfold lkv;rw [XM];exact V1.mpr ⟨g,hg,e⟩
theorem p9 {a b:List Int} (h:a.map V.int=b.map V.int):a=b:=(Zz (fun _ _ e=>V.int.inj e)).mp h
theorem LkR.back {P:Vu} {w:VI} {ins:List (VM×Int)} {Al:List aw} {Lk:LkT} {H H':Hp} {la:Vd} {G:LG} (R:LkR P w ins Al Lk H la G) (kt:KT H H') {k:aw} {s:Int} {pl:List Int} (hh:gC H' G k s pl):gC H G k s pl:=by
 obtain ⟨g,hg,e,a,ha,pa,ka,kid,h1,h2⟩:=hh;obtain ⟨s',Bx,AU,DZ,DA,UA,g1,g2,_⟩:=(R.ls g hg).2 a ha;have e1:=kt _ _ g1;rw [h1] at e1;cases e1;have e2:=kt _ _ g2;rw [h2] at e2;have:pl=AU:=p9 (by injection e2 with e3;injection e3);subst this;exact ⟨g,hg,e,a,ha,pa,ka,kid,g1,g2⟩
def Dk (f':List (aw×V)) (s:Int) (pl:List Int):Bool:=(aQ f' (nk s pl)).isSome
theorem uv {f':List (aw×V)} {s:Int} {pl:List Int}:Dk f' s pl=true↔nk s pl∈f'.map (·.1):=by
 unfold Dk;constructor
 · intro h;obtain ⟨v,hv⟩:=YV.mp h;exact V1.mpr ⟨_,eT hv,rfl⟩
 · intro h;cases hv:aQ f' (nk s pl) with
   | none=>exact absurd h (cE hv)
   | some v=>rfl
def iu (D:List Int->Bool) (As:List (List Int×Th)):List Th:=As.flatMap fun x=>(x.2.cut D x.1).walk
theorem om (D:List Int->Bool) (a b:List (List Int×Th)):iu D (a++b)=iu D a++iu D b:=by unfold iu;rw [List.flatMap_append]
theorem mY (D:List Int->Bool) (pre:List Int):∀ (i:Int) (ks:List Th),iu D (cC pre i ks)=walks (fK D pre i ks)
 | i,[]=>by rw [cC,fK,walks];rfl
 | i,k::ks=>by
   rw [cC,fK,walks,<- mY D pre (i+1) ks];rfl
end BB
namespace BB
open PySem L2
inductive In:Th->List Int->Th->Prop
 | here {t:Th}:In t [] t
 | kid {n:VM} {ks:List Th} {j:Nat} {u v:Th} {r:List Int} (h:ks[j]?=some u) (i:In u r v):In (.knot n ks) ((j:Int)::r) v
theorem In.of:∀ (n:Nat) {t v:Th} {pl:List Int},t.size<=n->(pl,v)∈t.pl []->In t pl v
 | 0,t,_,_,hn,_=>by have:=t.size_pos;omega
 | n+1,.call s k,v,pl,hn,h=>by
   rw [Th.pl] at h;cases VF.mp h;exact .here
 | n+1,.knot m ks,v,pl,hn,h=>by
   rw [Th.pl] at h;rcases VA.mp h with h | h
   · cases h;exact .here
   · obtain ⟨j,t,ht,hx⟩:=cA.mp h;obtain ⟨r,e,hr⟩:=dW.mp hx;dsimp only at e hr;rw [Xl,Xp] at e;rw [Th.size] at hn;have hz:=aI (Vh ht);have e2:pl=(j:Int)::r:=e;rw [e2];exact .kid ht (In.of n (by omega) hr)
theorem In.to {t v:Th} {pl:List Int} (h:In t pl v):(pl,v)∈t.pl []:=by
 induction h with
 | here=>exact gu _ _
 | kid h i ih =>
   refine qV h (dW.mpr ⟨_,?_,ih⟩);rfl
theorem In.iff {t v:Th} {pl:List Int}:(pl,v)∈t.pl []↔In t pl v:=⟨In.of _ (Vj _),In.to⟩
theorem gA {f:Int->Int->Th}:∀ {ts:List Th} {j:Nat},(fills f ts)[j]?=(ts[j]?).map (Th.fill f)
 | [],j=>by rw [fills];simp
 | t::ts,0=>by rw [fills];rfl
 | t::ts,j+1=>by rw [fills,W2,W2];exact gA
theorem eV {ks:List (VM×Int)} {S C:Int} {n:VM} {us:List Th} (h:(Th.knot n us).FitS ks S C) {j:Nat} {u:Th} (hu:us[j]?=some u):u.FitS ks S C:=by
 rw [Th.FitS] at h;exact FitSs.mem' h.2 u (Vh hu)
theorem ng {ks:List (VM×Int)} {S C C':Int} {f:Int->Int->Th} (hf:∀ l k,0<=l->l<S->(f l k).FitS ks S C'):∀ (n:Nat) (p:Th),p.size<=n->p.FitS ks S C->(p.fill f).FitS ks S C'
 | 0,p,hn,_=>by have:=p.size_pos;omega
 | n+1,.call l k,_,h=>by
   rw [Th.FitS] at h;rw [Th.fill];exact hf l k h.1 h.2.1
 | n+1,.knot m us,hn,h=>by
   rw [Th.fill,Th.FitS,gy];have h0:=h;rw [Th.FitS] at h0;rw [Th.size] at hn;refine ⟨h0.1,FitSs.of fun t ht=>?_⟩;obtain ⟨j,hj⟩:=VH.mp ht;rw [gA,Wd] at hj;obtain ⟨u,hu,rfl⟩:=hj;have hz:=aI (Vh hu);exact ng hf n u (by omega) (eV h hu)
theorem sg {outs:List (VM×Int)} (go:bR outs) {S:Int}:∀ (n:Nat) (f g m h:Th) (pl:List Int),f.size<=n->In (f.com g) pl h->h.isHole=true->(∀ v,In f pl v->v.isHole=false)->f.lies m=true->f.noCall->m.FitS outs S 0->g.FitS outs S 0->∃ m1 m2 k1 k2,m1≠m2/\In m pl (.knot m1 k1)/\In g pl (.knot m2 k2)
 | 0,f,_,_,_,_,hn=>by have:=f.size_pos;omega
 | n+1,.call a b,_,_,_,_,_=>fun _ _ _ _ hc=>by rw [Th.noCall] at hc;exact hc.elim
 | n+1,.knot nm ks,g,m,h,pl,hn=>fun hi hh hv hl hc fm fg=>by
   rw [hX] at hi;by_cases hs:aD (.knot nm ks) g=true
   · rw [if_pos hs] at hi;obtain ⟨vs,rfl,hlen,FQ⟩:=jP hs;obtain ⟨us,rfl,R7,Po⟩:=lies_of hl FQ;have Ak:In (.knot nm ((ks.zip vs).map fun p=>p.1.com p.2)) pl h:=hi;cases Ak with
     | here =>
       have:=hv _ .here;exfalso;rw [Th.isHole,decide_eq_true_iff] at hh;rw [Th.isHole,decide_eq_false_iff_not] at FQ;refine FQ ⟨hh.1,?_⟩;have h2:=congrArg Y4 hh.2;rw [Vb,Yu,<- hlen,ZX] at h2;exact WA.mp h2
     | kid hj hr =>
       rename_i j u r
       rw [Vp,Wd] at hj;obtain ⟨p,hp,rfl⟩:=hj;obtain ⟨h1,h2⟩:=W9.mp hp;obtain ⟨w,hw⟩:∃ w,us[j]?=some w:=⟨_,Ve (by have:=(Vn.mp h1).1;omega)⟩;rw [Th.size] at hn;have hz:=aI (Vh h1);rw [Th.noCall] at hc;obtain ⟨m1,m2,k1,k2,e,a1,a2⟩:=sg go n p.1 p.2 w h r (by omega) hr hh (fun v AK=>hv v (.kid h1 AK)) (m7 Po j _ _ h1 hw) (bX hc (Vh h1)) (eV fm hw) (eV fg h2);exact ⟨m1,m2,k1,k2,e,.kid hw a1,.kid h2 a2⟩
   · rw [if_neg hs] at hi;rw [hole] at hi;cases hi with
     | here =>
       have FQ:=hv _ .here;obtain ⟨us,rfl,R7,Po⟩:=lies_of hl FQ;cases g with
       | call a b=>rw [Th.FitS] at fg;omega
       | knot gm vs =>
         refine ⟨nm,gm,us,vs,fun e=>hs ?_,.here,.here⟩;subst e;rw [Th.FitS] at fm fg;obtain ⟨i1,g1⟩:=VH.mp fm.1;obtain ⟨i2,g2⟩:=VH.mp fg.1;have:=go.nd i1 i2 _ _ g1 g2 rfl;subst this;rw [g1] at g2;injection g2 with g2;injection g2 with _ g2;exact ig FQ (by omega)
     | kid hj _=>simp at hj
inductive NmAt (ins:List (VM×Int)) (rows:List (List Th)):Nat->Th->Th->List Int->VM->Prop
 | here {m:VM} {ks:List Th} {t:Th}:NmAt ins rows 0 (.knot m ks) t [] m
 | step {n:Nat} {nm m:VM} {ks:List Th} {j:Nat} {u t:Th} {r:List Int} (h:ks[j]?=some u) (i:NmAt ins rows n u t r m):NmAt ins rows (n+1) (.knot nm ks) t ((j:Int)::r) m
 | call {n:Nat} {s k:Int} {tm vm m:VM} {us vs:List Th} {row:List Th} {i:Nat} {kd:VM×Int} {p:Th} {r:List Int} (hk:0<=k) (hs:0<=s) (hu:us[k.toNat]?=some (.knot vm vs)) (hr:rows[s.toNat]?=some row) (hi:ins[i]?=some kd) (hn:kd.1=vm) (hp:row[i]?=some p) (h:NmAt ins rows n p (.knot vm vs) r m):NmAt ins rows (n+1) (.call s k) (.knot tm us) r m
theorem NmAt.of {ins:List (VM×Int)} {rows:List (List Th)} {t v:Th} {pl:List Int} (h:In t pl v):∀ {m:VM} {ks:List Th} (tree:Th),v=.knot m ks->∃ n,NmAt ins rows n t tree pl m:=by
 induction h with
 | here=>intro m ks tree e;subst e;exact ⟨0,.here⟩
 | kid h i ih =>
   intro m ks tree e;obtain ⟨n,hn⟩:=ih tree e;exact ⟨n+1,.step h hn⟩
def vp (ins:List (VM×Int)) (rows:List (List Th)) (s:Int) (t:Th) (pl:List Int) (m:VM):Prop:=∃ (vm:VM) (vs row:List Th) (i:Nat) (kd:VM×Int) (p:Th) (n:Nat),0<=s/\t=.knot vm vs/\rows[s.toNat]?=some row/\ins[i]?=some kd/\kd.1=vm/\row[i]?=some p/\NmAt ins rows n p t pl m
theorem NmAt.goes {ins:List (VM×Int)} {rows:List (List Th)} {p v:Th} {q r:List Int} (h:In p q v):∀ {l k:Int} {tm m:VM} {us:List Th} {t1:Th},v=.call l k->0<=k->us[k.toNat]?=some t1->vp ins rows l t1 r m->∃ n,NmAt ins rows n p (.knot tm us) (q++r) m:=by
 induction h with
 | here =>
   intro l k tm m us t1 e hk hu hs;subst e;obtain ⟨vm,vs,row,i,kd,p,n,h0,rfl,hr,hi,hn,hp,h⟩:=hs;exact ⟨n+1,.call hk h0 hu hr hi hn hp h⟩
 | kid h i ih =>
   intro l k tm m us t1 e hk hu hs;obtain ⟨n,hn⟩:=ih e hk hu hs;exact ⟨n+1,.step h hn⟩
theorem NmAt.fill {ins outs:List (VM×Int)} {rows:List (List Th)} {S C:Int} {f:Int->Int->Th} {us:List Th} {tm:VM} (hf:∀ l k,0<=l->l<S->0<=k->k<C->∃ t1,us[k.toNat]?=some t1/\∀ pl m ks,In (f l k) pl (.knot m ks)->vp ins rows l t1 pl m):∀ (n:Nat) (p:Th) (pl:List Int) (m:VM) (ks:List Th),p.size<=n->p.FitS outs S C->In (p.fill f) pl (.knot m ks)->∃ n,NmAt ins rows n p (.knot tm us) pl m
 | 0,p,_,_,_,hn,_,_=>by have:=p.size_pos;omega
 | n+1,.call l k,pl,m,ks,_,h,hi=>by
   rw [Th.FitS] at h;rw [Th.fill] at hi;obtain ⟨t1,h1,h2⟩:=hf l k h.1 h.2.1 h.2.2.1 h.2.2.2;have:=NmAt.goes (p:=.call l k) (q:=[]) (tm:=tm) .here rfl h.2.2.1 h1 (h2 pl m ks hi);exact this
 | n+1,.knot nm vs,pl,m,ks,hn,h,hi=>by
   rw [Th.fill] at hi;cases hi with
   | here=>exact ⟨0,.here⟩
   | kid hj hr =>
     rename_i j u r
     rw [gA,Wd] at hj;obtain ⟨v,hv,rfl⟩:=hj;rw [Th.size] at hn;have hz:=aI (Vh hv);obtain ⟨k,hk⟩:=NmAt.fill hf n v r m ks (by omega) (eV h hv) hr;exact ⟨k+1,.step hv hk⟩
end BB
namespace BB
open PySem L2
structure FrK (ins outs:List (VM×Int)) (rows:List (List Th)):Prop where
 gi:bR ins
 fit:yu ins outs (rows.length:Nat) rows
 le:rows.length<=20
 sz:∀ row∈rows,∀ p∈row,p.size<=200/\p.tall<=100
theorem FrK.mkd {ins outs:List (VM×Int)} {rows:List (List Th)} (F:FrK ins outs rows) {l:Int} (h0:0<=l) (h1:l<(rows.length:Nat)):∃ row p,rows[l.toNat]?=some row/\row[cB ins]?=some p/\mkF ins rows l=p/\p.size<=200/\p.tall<=100/\p.FitS outs (rows.length:Nat) 0:=by
 obtain ⟨k0,AA,EX⟩:=kJ F.gi;have hI:=eS AA;obtain ⟨row,hr,er,hl,_⟩:=sS F.fit h0 h1;have R8:=(Vn.mp hI).1;obtain ⟨p,hp⟩:∃ p,row[cB ins]?=some p:=⟨_,Ve (by omega)⟩;have hm:=Vh hr;obtain ⟨z1,z2⟩:=F.sz row hm p (Vh hp);have hf:=(F.fit.row row hm).2 _ p k0 hp hI;rw [EX] at hf;exact ⟨row,p,hr,hp,by unfold mkF;rw [er,ZT,hp];rfl,z1,z2,hf⟩
def bF (ins:List (VM×Int)) (n:Nat) (kid:Int) (t:Th):List Th:=(V9 n).map fun (i:Nat)=>if (i:Int)=kid then t else aG ins
theorem ip (ins:List (VM×Int)) (n:Nat) (kid:Int) (t:Th):(bF ins n kid t).length=n:=by unfold bF;rw [Vb,VT]
theorem qR {ins:List (VM×Int)} {n:Nat} {kid:Int} {t:Th} (h0:0<=kid) (h1:kid<(n:Int)):(bF ins n kid t)[kid.toNat]?=some t:=by
 unfold bF;rw [Vp,Wz (by omega),X2,if_pos (by omega)]
theorem kM {ins:List (VM×Int)} {n:Nat} {kid:Int} {t u:Th} (h:u∈bF ins n kid t):u=t∨u=aG ins:=by
 unfold bF at h;obtain ⟨i,_,rfl⟩:=V1.mp h;by_cases hk:(i:Int)=kid
 · rw [if_pos hk];exact .inl rfl
 · rw [if_neg hk];exact .inr rfl
theorem iq (ins:List (VM×Int)):(aG ins).size=1:=by unfold aG;rw [Th.size,ao]
theorem oy {ins:List (VM×Int)} {n:Nat} (hn:n<=3) {kid:Int} {t:Th}:ao (bF ins n kid t)<=t.size+2:=by
 have h1:=iq ins;have h2:=t.size_pos
 have hp:∀ i:Nat,(if (i:Int)=kid then t else aG ins).size<=t.size/\((i:Int)≠kid->(if (i:Int)=kid then t else aG ins).size=1):=fun i=>by
  by_cases hk:(i:Int)=kid
  · rw [if_pos hk];exact ⟨Vj _,fun z=>absurd hk z⟩
  · rw [if_neg hk];exact ⟨by omega,fun _=>h1⟩
 obtain ⟨a0,b0⟩:=hp 0;obtain ⟨a1,b1⟩:=hp 1;obtain ⟨a2,b2⟩:=hp 2;have e0:ao (bF ins 0 kid t)=0:=by show ao []=0;rw [ao]
 have e1:ao (bF ins 1 kid t)=(if ((0:Nat):Int)=kid then t else aG ins).size:=by show ao [if ((0:Nat):Int)=kid then t else aG ins]=_;rw [ao,ao];omega
 have e2:ao (bF ins 2 kid t)=(if ((0:Nat):Int)=kid then t else aG ins).size+(if ((1:Nat):Int)=kid then t else aG ins).size:=by show ao [if ((0:Nat):Int)=kid then t else aG ins,if ((1:Nat):Int)=kid then t else aG ins]=_;rw [ao,ao,ao];omega
 have e3:ao (bF ins 3 kid t)=(if ((0:Nat):Int)=kid then t else aG ins).size+(if ((1:Nat):Int)=kid then t else aG ins).size+(if ((2:Nat):Int)=kid then t else aG ins).size:=by show ao [if ((0:Nat):Int)=kid then t else aG ins,if ((1:Nat):Int)=kid then t else aG ins,if ((2:Nat):Int)=kid then t else aG ins]=_;rw [ao,ao,ao,ao];omega
 generalize Ig:(if ((0:Nat):Int)=kid then t else aG ins).size=x0 at *;generalize Il:(if ((1:Nat):Int)=kid then t else aG ins).size=x1 at *;generalize Ci:(if ((2:Nat):Int)=kid then t else aG ins).size=x2 at *
 have hc:x0+x1+x2<=t.size+2:=by
  by_cases k0:((0:Nat):Int)=kid
  · have:=b1 (by omega);have:=b2 (by omega);omega
  · have:=b0 k0;by_cases k1:((1:Nat):Int)=kid
    · have:=b2 (by omega);omega
    · have:=b1 k1;omega
 match n,hn with
 | 0,_=>rw [e0];omega
 | 1,_=>rw [e1];omega
 | 2,_=>rw [e2];omega
 | 3,_=>rw [e3];omega
theorem ij (ins:List (VM×Int)):(aG ins).tall=1:=by unfold aG;rw [Th.tall,bf]
theorem jd {ins:List (VM×Int)} (g:bR ins):(aG ins).FitS ins 0 0:=by
 obtain ⟨k0,AA,EX⟩:=kJ g;have hI:=eS AA;rw [eL AA,Th.FitS,FitSs];refine ⟨?_,trivial⟩;have:(k0.1,(([]:List Th).length:Int))=k0:=by rw [show (([]:List Th).length:Int)=k0.2 by rw [EX];rfl]
 rw [this];exact Vh hI
theorem oq {ins:List (VM×Int)} (g:bR ins) {kd:VM×Int} (hk:kd∈ins) {us:List Th} (hl:us.length=kd.2.toNat) (h:∀ u∈us,u.FitS ins 0 0):(Th.knot kd.1 us).FitS ins 0 0:=by
 rw [Th.FitS];refine ⟨?_,FitSs.of h⟩;have hn:=g.num kd hk;have:(kd.1,(us.length:Int))=kd:=by rw [show (us.length:Int)=kd.2 by omega]
 rw [this];exact hk
theorem o5 {ins outs:List (VM×Int)} {rows:List (List Th)} (F:FrK ins outs rows) {l:Int} (h0:0<=l) (h1:l<(rows.length:Nat)) {pl:List Int} {m:VM} {ks:List Th} (h:In (mkF ins rows l) pl (.knot m ks)):vp ins rows l (aG ins) pl m:=by
 obtain ⟨k0,AA,EX⟩:=kJ F.gi;have hI:=eS AA;obtain ⟨row,p,hr,hp,e,_⟩:=F.mkd h0 h1;rw [e] at h;obtain ⟨n,hn⟩:=NmAt.of (ins:=ins) (rows:=rows) h (aG ins) rfl;exact ⟨k0.1,[],row,cB ins,k0,p,n,h0,eL AA,hr,hI,rfl,hp,hn⟩
def frS (ins:List (VM×Int)) (rows:List (List Th)) (s:Nat):Th:=frF (mkF ins rows) (mkF ins rows (s:Nat)) ((rows[s]?).getD [])
inductive Met (ins:List (VM×Int)) (rows:List (List Th)):Nat->List Int->Prop
 | hol {s i:Nat} {row:List Th} {x:List Int×Th} (hr:rows[s]?=some row) (hi:i<=row.length) (hx:x∈(frF (mkF ins rows) (mkF ins rows (s:Nat)) (row.take i)).pl []) (hh:x.2.isHole=true):Met ins rows s x.1
 | lnk {s:Nat} {row:List Th} {p u:Th} {c:List Int×Int×Int} {x:List Int×Th} (hr:rows[s]?=some row) (hp:p∈row) (hc:c∈callsOf (p.pl [])) (hu:(c.1,u)∈(frS ins rows s).pl []) (hx:x∈u.pl []) (m:Met ins rows c.2.1.toNat x.1):Met ins rows s (c.1++x.1)
def Lk0 (ins:List (VM×Int)) (rows:List (List Th)):LkT:=fun k s pl kd kid=>∃ (sn:Nat) (row:List Th) (i:Nat) (p:Th) (q x:List Int) (l:Int),s=(sn:Nat)/\rows[sn]?=some row/\row[i]?=some p/\ins[i]?=some kd/\In p q (.call l kid)/\k=nk l x/\pl=q++x/\(∃ u y,(q,u)∈(frS ins rows sn).pl []/\(x,y)∈u.pl [])
structure Way (ks:List aw) (S D:Nat) (L:List (Nat×List Int)):Prop where
 nd:L.Nodup
 inn:∀ x∈L,nk (x.1:Nat) x.2∈ks/\x.1<S/\x.2.length<D
 suf:∀ (i j:Nat) (x y:Nat×List Int),i<=j->L[i]?=some x->L[j]?=some y->∃ q,x.2=q++y.2
theorem Way.mono {ks GB:List aw} {S D:Nat} {L:List (Nat×List Int)} (h:Way ks S D L) (hs:∀ k∈ks,k∈GB):Way GB S D L:=⟨h.nd,fun x hx=>⟨hs _ (h.inn x hx).1,(h.inn x hx).2⟩,h.suf⟩
theorem Way.one {s S D:Nat} {pl:List Int} (h1:s<S) (h2:pl.length<D):Way [nk (s:Nat) pl] S D [(s,pl)]:=by
 refine ⟨by simp,fun x hx=>?_,fun i j x y _ hi hj=>?_⟩
 · rw [VF.mp hx];exact ⟨VC ..,h1,h2⟩
 · have Ak:=VF.mp (Vh hi);have zR:=VF.mp (Vh hj);rw [Ak,zR];exact ⟨[],rfl⟩
theorem Way.cons {ks:List aw} {S D:Nat} {L:List (Nat×List Int)} (h:Way ks S D L) {s:Nat} {q pl:List Int} {s0:Nat} (h0:L[0]?=some (s0,pl)) (h1:s<S) (h2:(q++pl).length<D) (hn:nk (s:Nat) (q++pl)∉ks):Way (ks++[nk (s:Nat) (q++pl)]) S D ((s,q++pl)::L):=by
 refine ⟨Y0.mpr ⟨fun z=>hn (h.inn _ z).1,h.nd⟩,fun x hx=>?_,fun i j x y E6 hi hj=>?_⟩
 · rcases VA.mp hx with rfl | hx
   · exact ⟨VY _ (VC ..),h1,h2⟩
   · exact ⟨V6 _ (h.inn x hx).1,(h.inn x hx).2⟩
 · cases i with
   | zero =>
     cases hi;cases j with
     | zero=>cases hj;exact ⟨[],rfl⟩
     | succ j =>
       obtain ⟨q',e⟩:=h.suf 0 j _ _ (VJ _) h0 (by simpa using hj);exact ⟨q++q',by show q++pl=_;rw [show pl=q'++y.2 from e,V8]⟩
   | succ i =>
     cases j with
     | zero=>omega
     | succ j=>exact h.suf i j _ _ (by omega) (by simpa using hi) (by simpa using hj)
def Vt (ins:List (VM×Int)) (rows:List (List Th)) (c:Nat) (s:Nat) (pl:List Int) (t:Th) (m:VM):Prop:=t.FitS ins 0 0/\t.size<=1+3 * c/\t.tall<=1+c/\vp ins rows (s:Nat) t pl m
def Vl0 (ins:List (VM×Int)) (rows:List (List Th)) (D:Nat):VlT:=fun ks k t1 t2=>∃ (s:Nat) (pl:List Int) (m1 m2:VM) (L:List (Nat×List Int)),k=nk (s:Nat) pl/\Met ins rows s pl/\m1≠m2/\Way (ks++[k]) rows.length D L/\L[0]?=some (s,pl)/\Vt ins rows L.length s pl t1 m1/\Vt ins rows L.length s pl t2 m2
theorem In.len {t v:Th} {pl:List Int} (h:In t pl v):pl.length<t.tall:=by
 induction h with
 | here=>rename_i t;have:=t.tall_eq;show 0<_;omega
 | kid hj i ih =>
   rw [Vo,Th.tall];have:=bT (Vh hj);omega
theorem uz {ins:List (VM×Int)} {rows:List (List Th)} {D:Nat} (hD:∀ s:Nat,s<rows.length->(mkF ins rows (s:Nat)).tall<=D) {s:Nat} (hs:s<rows.length) {row:List Th} {pl:List Int} {v:Th} (h:(pl,v)∈(frF (mkF ins rows) (mkF ins rows (s:Nat)) row).pl []):pl.length<D:=by
 obtain ⟨u,hu⟩:=qC _ _ _ _ h;have h1:pl.length<_:=(In.of _ (Vj _) hu).len;have:=hD s hs;omega
theorem vU {ins outs:List (VM×Int)} {rows:List (List Th)} (F:FrK ins outs rows) (go:bR outs) {D:Nat} (hD:∀ s:Nat,s<rows.length->(mkF ins rows (s:Nat)).tall<=D) {s:Nat} {row:List Th} (zy:rows[s]?=some row) (i:Nat) (p:Th) (kd:VM×Int) (pl:List Int) (u:Th) (ks:List aw) (hp:row[i]?=some p) (hk:ins[i]?=some kd) (hu:(pl,u)∈(frF (mkF ins rows) (mkF ins rows (s:Nat)) (row.take (i+1))).pl []) (hh:u.isHole=true) (hv:∀ v,(pl,v)∈(frF (mkF ins rows) (mkF ins rows (s:Nat)) (row.take i)).pl []->v.isHole=false) :
 Vl0 ins rows D ks (nk (s:Nat) pl) (aG ins) (.knot kd.1 (YE kd.2.toNat (aG ins))):=by
 have hs:=(Vn.mp zy).1;have g:=F.gi;have Pp:=Vh hk;have Cj:=g.num kd Pp;have Bf:row.take (i+1)=row.take i++[p]:=by rw [Ww,hp];rfl
 have Mf:=uz hD hs hu;have FR:Met ins rows s pl:=.hol (x:=(pl,u)) (i:=i+1) zy (by have:=(Vn.mp hp).1;omega) hu hh;rw [Bf,iV,In.iff] at hu;obtain ⟨R9,p0,Mg,D0,D1,_,_,f0⟩:=F.mkd (l:=(s:Nat)) (by omega) (by omega);have Lg:(mkF ins rows (s:Nat)).noCall:=by rw [D1];exact cK _ _ (Vj _) f0
 have hl:=(o7 (mk:=mkF ins rows) (frF (mkF ins rows) (mkF ins rows (s:Nat)) (row.take i)) (row.take i) (mkF ins rows (s:Nat)) (jC _ _ (Vj _) (hG Lg _))).1;have Kq:=(F.fit.row row (Vh zy)).2 i p kd hp hk
 have A8:(p.fill fun l _=>mkF ins rows l).FitS outs (rows.length:Nat) 0:=ng (fun l k h0 h1=>by
  obtain ⟨_,p1,_,_,e,_,_,f1⟩:=F.mkd h0 h1;rw [e];exact f1) _ p (Vj _) Kq
 obtain ⟨m1,m2,k1,k2,zS,i1,i2⟩:=sg go _ _ _ (mkF ins rows (s:Nat)) u pl (Vj _) hu hh (fun v h=>hv v (In.iff.mpr h)) hl (hG Lg _) (by rw [D1];exact f0) A8;refine ⟨s,pl,m1,m2,[(s,pl)],rfl,FR,zS,(Way.one hs Mf).mono (fun k hk=>VY _ hk),rfl,⟨jd g,by rw [iq];omega,by rw [ij];omega,o5 F (by omega) (by omega) i1⟩,⟨oq g Pp (Z9 ..) (fun u hu=>by rw [ZM hu];exact jd g),?_,?_,?_⟩⟩
 · rw [Th.size]
   have:∀ n:Nat,ao (YE n (aG ins))=n:=fun n=>by
    induction n with
    | zero=>rw [List.replicate_zero,ao]
    | succ n ih=>rw [List.replicate_succ,ao,ih,iq];omega
   rw [this];have:[(s,pl)].length=1:=rfl;omega
 · rw [Th.tall];have:bf (YE kd.2.toNat (aG ins))<=1:=eQ fun t ht=>by rw [ZM ht,ij];exact Vj _
   have:[(s,pl)].length=1:=rfl;omega
 · obtain ⟨n,hn⟩:=NmAt.fill (ins:=ins) (rows:=rows) (tm:=kd.1) (us:=YE kd.2.toNat (aG ins)) (fun l k h0 h1 h2 h3=>⟨aG ins,by rw [List.getElem?_replicate,if_pos (by omega)],fun pl m ks hi=>o5 F h0 h1 hi⟩) _ p pl m2 k2 (Vj _) Kq i2;exact ⟨kd.1,_,row,i,kd,p,n,by omega,rfl,zy,hk,rfl,hp,hn⟩
theorem In.fit {ks:List (VM×Int)} {S C:Int} {p v:Th} {q:List Int} (h:In p q v):p.FitS ks S C->v.FitS ks S C:=by
 induction h with
 | here=>exact fun h=>h
 | kid h i ih=>exact fun hf=>ih (eV hf h)
theorem xf {ins outs:List (VM×Int)} {rows:List (List Th)} (F:FrK ins outs rows) {D:Nat} (hD:∀ s:Nat,s<rows.length->(mkF ins rows (s:Nat)).tall<=D) (ks:List aw) (i:Nat) (k:aw) (t1 t2:Th) (s:Int) (pl:List Int) (kd:VM×Int) (kid:Int) (R':ks[i]?=some k) (hv:Vl0 ins rows D (ks.take i) k t1 t2) (hk:kd∈ins) (hL:Lk0 ins rows k s pl kd kid) (FI:nk s pl∉ks) :
 Vl0 ins rows D ks (nk s pl) (.knot kd.1 (bF ins kd.2.toNat kid t1)) (.knot kd.1 (bF ins kd.2.toNat kid t2)):=by
 obtain ⟨s',AU,m1,m2,L,e,FR,zS,hW,Sa,v1,v2⟩:=hv;obtain ⟨sn,row,i',p,q,x,l,rfl,hr,hp,hi,Ct,e2,rfl,u0,y0,Kr,Pq⟩:=hL;have e3:=e.symm.trans e2;obtain ⟨rfl,rfl⟩:=uO e3;have g:=F.gi;have Cj:=g.num kd hk;have Pr:=(Vn.mp hr).1;have Kq:=(F.fit.row row (Vh hr)).2 i' p kd hp hi;have hc:=Ct.fit Kq;rw [Th.FitS] at hc
 have Mf:(q++AU).length<D:=by
  have h1:=n6 _ (Vj _) Kr Pq;rw [frS] at h1;exact uz hD Pr h1
 have Sb:Way ks rows.length D L:=hW.mono fun z hz=>by
  rcases VX.mp hz with hz | hz
  · exact List.mem_of_mem_take hz
  · rw [VF.mp hz];exact Vh R'
 have one:∀ (t:Th) (m:VM),Vt ins rows L.length s' AU t m->Vt ins rows (L.length+1) sn (q++AU) (.knot kd.1 (bF ins kd.2.toNat kid t)) m:=fun t m ⟨a1,a2,a4,a3⟩=>by
  refine ⟨oq g hk (ip ..) fun u hu=>?_,?_,?_,?_⟩
  · rcases kM hu with rfl | rfl
    · exact a1
    · exact jd g
  · rw [Th.size];have:=oy (ins:=ins) (n:=kd.2.toNat) (by omega) (kid:=kid) (t:=t);omega
  · rw [Th.tall]
    have:bf (bF ins kd.2.toNat kid t)<=1+L.length:=eQ fun u hu=>by
     rcases kM hu with rfl | rfl
     · exact a4
     · rw [ij];omega
    omega
  · obtain ⟨n,hn⟩:=NmAt.goes (ins:=ins) (rows:=rows) (tm:=kd.1) Ct rfl hc.2.2.1 (qR (ins:=ins) (n:=kd.2.toNat) (t:=t) hc.2.2.1 (by omega)) a3;exact ⟨kd.1,_,row,i',kd,p,n,by omega,rfl,hr,hi,rfl,hp,hn⟩
 exact ⟨sn,q++AU,m1,m2,(sn,q++AU)::L,rfl,.lnk (c:=(q,((s':Nat):Int),kid)) (x:=(AU,y0)) hr (Vh hp) (gd.mpr (In.to Ct)) Kr Pq (by rw [Wg];exact FR),zS,Sb.cons Sa Pr Mf FI,rfl,one t1 m1 v1,one t2 m2 v2⟩
theorem vP {f':List (aw×V)} (hn:(f'.map (·.1)).Nodup) {j:Nat} {p:aw×V} (h:f'[j]?=some p) {v:V} (hv:aQ f' p.1=some v):v=p.2:=by
 obtain ⟨i,hi⟩:=VH.mp (eT hv);have h1:(f'.map (·.1))[i]?=some p.1:=by rw [Vp,hi];rfl
 have h2:(f'.map (·.1))[j]?=some p.1:=by rw [Vp,h];rfl
 have E6:i=j:=(List.getElem?_inj (by have:=(Vn.mp h1).1;exact this) hn).mp (h1.trans h2.symm);subst E6;rw [h] at hi;have e:=VL hi;rw [e]
theorem t9 {ins:List (VM×Int)} {rows:List (List Th)} {s:Nat} {row:List Th} (h:rows[s]?=some row):frS ins rows s=frF (mkF ins rows) (mkF ins rows (s:Nat)) row:=by
 unfold frS;rw [h];rfl
structure FrD (ins:List (VM×Int)) (rows:List (List Th)) (ks:List aw):Prop where
 hl:∀ (s i:Nat) (row:List Th),rows[s]?=some row->i<=row.length->∀ x∈(frF (mkF ins rows) (mkF ins rows (s:Nat)) (row.take i)).pl [],x.2.isHole=true->nk (s:Nat) x.1∈ks
 cl:∀ (s:Nat) (row:List Th),rows[s]?=some row->∀ p∈row,∀ c∈callsOf (p.pl []),∀ u,(c.1,u)∈(frS ins rows s).pl []->∀ x∈u.pl [],nk c.2.1 x.1∈ks->nk (s:Nat) (c.1++x.1)∈ks
theorem FrD.met {ins outs:List (VM×Int)} {rows:List (List Th)} (F:FrK ins outs rows) {ks:List aw} (h:FrD ins rows ks) {s:Nat} {pl:List Int} (m:Met ins rows s pl):nk (s:Nat) pl∈ks:=by
 induction m with
 | hol hr hi hx hh=>exact h.hl _ _ _ hr hi _ hx hh
 | lnk hr hp hc hu hx m ih =>
   rename_i s row p u c x
   refine h.cl _ _ hr _ hp _ hc _ hu _ hx ?_;obtain ⟨j,hj⟩:=VH.mp hp;have D3:=(F.fit.row row (Vh hr)).1;obtain ⟨k0,AA⟩:∃ k0,ins[j]?=some k0:=⟨_,Ve (by have:=(Vn.mp hj).1;omega)⟩;have:=jl p [] ((F.fit.row row (Vh hr)).2 j p k0 hj AA) c hc;rw [Xn this.1] at ih;exact ih
def wt (ins:List (VM×Int)) (rows:List (List Th)) (f':List (aw×V)):Prop:=∀ (s:Nat) (pl:List Int),Dk f' (s:Nat) pl=true↔Met ins rows s pl
theorem wb {ins outs:List (VM×Int)} {rows:List (List Th)} (F:FrK ins outs rows) {f':List (aw×V)} (h:FrD ins rows (f'.map (·.1))) {D:Nat} (hv:∀ p∈f',∃ ks t1 t2,Vl0 ins rows D ks p.1 t1 t2):wt ins rows f':=fun s pl=>by
 constructor
 · intro hd;obtain ⟨p,hp,e⟩:=V1.mp (uv.mp hd);obtain ⟨j,t1,t2,s',AU,m1,m2,L,e2,hm,_⟩:=hv p hp;have e3:=e2.symm.trans e;obtain ⟨e4,rfl⟩:=uO e3;have:s'=s:=by omega
   subst this;exact hm
 · exact fun m=>uv.mpr (h.met F m)
end BB
namespace L2
open PySem PySem.Spec PyProof.Rows
def tN (K:Vc) (a:Vd):It:=⟨fun i H=>∃ xs x,SqL K H a xs/\xs[i]?=some x,fun i H x H'=>∃ p y,H p=none/\x=.ref p/\H'=upd H p (.tup [.int (i:Nat),y])/\∀ xs,SqL K H a xs->xs[i]?=some y,fun i H=>∃ xs,SqL K H a xs/\xs.length=i⟩
theorem qv {P:Vu} {w:VI} {K:Vc} {elts:List Wq} {k1} {pos:Yr} (a e it:Vd):Turn P w K (.Tuple elts k1 pos) (tN K a) [e,it] e (fun i h=>(∃ old,IsEnum h e it ((i:Nat):Int) old)/\h.IsListIter it a i) where
 mem:=by simp
 obj:=fun i h st b hb=>by
  obtain ⟨⟨old,he⟩,o,e1,e2,e3⟩:=st;rcases VA.mp hb with rfl | hb
  · exact ⟨_,he,fun v z=>by cases z⟩
  · have:b=it:=by simpa using hb
    subst this;exact ⟨o,e1,fun v z=>by rw [e3] at z;cases z⟩
 keep:=fun i h h' st k=>by
  obtain ⟨⟨old,he⟩,o,e1,e2⟩:=st;exact ⟨⟨old,k e (by simp) _ he⟩,o,k it (by simp) _ e1,e2⟩
 item:=by
  intro X hP hw hK hc i pins s σ H E I hf st hg;subst hP hw hK;obtain ⟨xs,x,hq,hx⟩:=hg;obtain ⟨its,rv,p,hz⟩:=I.list hq;obtain ⟨u,hu,ru⟩:=rv.get hx;obtain ⟨⟨old,he⟩,hi⟩:=st
  have Fw:e≠it:=by
   rintro rfl;obtain ⟨o,e1,e2,_⟩:=hi;rw [he] at e1;cases e1;exact absurd (W8 e2) (by decide)
  have Fx:a≠it:=by
   rintro rfl;obtain ⟨o,e1,e2,_⟩:=hi;obtain ⟨o',BP,BD,_⟩:=p.isList;rw [BP] at e1;cases e1;rw [BD] at e2;exact absurd (W8 e2) (by decide)
  have Lr:a≠e:=by
   rintro rfl;obtain ⟨o',BP,BD,_⟩:=p.isList;rw [he] at BP;cases BP;exact absurd (W8 BD) (by decide)
  have zK:i<its.toArray.size:=by
   have:=(Vn.mp hu).1;simpa using this
  have Lu:e<s.heap.objs.size:=Vx he;have B1:it<s.heap.objs.size:=by obtain ⟨o,e1,_⟩:=hi;exact Vx e1
  refine wpAny_pyNext_enum_itemD (Draws.list (A:=X.A.in1) (show X.A.in1.handled=none from I.ok.hd hc) it a Fx its.toArray) he ⟨hi,p.isList⟩ zK Fw (by simp [Fw,Lr.symm]) fun y h1 tk hy ho Lw hT hsz hk=>?_
  have Lx:y=u:=by
   have:its[i]?=some y:=by simpa using hy
   rw [hu] at this;exact (VL this).symm
  subst Lx;refine ⟨_,rfl,wpAny_letOwnedTupleGo_enum ho fun h2 Ly Dn=>?_⟩;replace Dn:W3 e h1 h2:=Dn
  have zS:∀ b∈[e,it],b<s.heap.objs.size:=fun b hb=>by
   rcases VA.mp hb with rfl | hb
   · exact Lu
   · have:b=it:=by simpa using hb
     subst this;exact B1
  have HK:H s.heap.objs.size=none:=I.hok.fresh (Vj _)
  have IA:Inv X pins σ (upd H s.heap.objs.size (.tup [.int (i:Nat),x])) { s with heap:=s.heap.push { cls:=.type "tuple",data:=.seq #[.int (i:Nat) tk,y] },toks:=tk } :=
   I.laid (o:=.tup [.int (i:Nat),x]) (fun b ob q=>Vi _ q) (Vj _) ⟨by show 2<=Vz;decide,[.int (i:Nat) tk,y],0,.cons ⟨tk,rfl⟩ (.cons ru .nil),Vq _ rfl⟩
  refine ⟨.ref s.heap.objs.size,upd H s.heap.objs.size (.tup [.int (i:Nat),x]),?_,rfl,⟨_,x,HK,rfl,rfl,fun ys HH=>by rw [I.list_inj HH hq];exact hx⟩,⟨⟨y,by simpa using Ly⟩,?_⟩,fun b hb=>?_⟩
  · have IB:Inv X pins σ (upd H s.heap.objs.size (.tup [.int (i:Nat),x])) { s with heap:=h2,toks:=tk+1 }:=by
     refine Inv.turnedL (s:={ s with heap:=s.heap.push { cls:=.type "tuple",data:=.seq #[.int (i:Nat) tk,y] },toks:=tk }) (h':=h2) (fp:=[e,it]) (t':=tk+1) IA (fun b o hb q=>?_) fun b hb=>?_
     · have CB:b≠e:=fun z=>hb (by simp [z]);have Lz:b≠it:=fun z=>hb (by simp [z]);rw [Dn.2 b CB];by_cases zT:b=s.heap.objs.size
       · subst zT;rw [hT];have q':(s.heap.push { cls:=.type "tuple",data:=.seq #[.int (i:Nat) tk,y] }).get? s.heap.objs.size=some o:=q;rw [Vq _ rfl] at q';exact q'
       · have AM:b<(s.heap.push { cls:=.type "tuple",data:=.seq #[.int (i:Nat) tk,y] }).objs.size:=Vx q;rw [Wo] at AM;refine hk b o CB Lz ?_;have q':(s.heap.push { cls:=.type "tuple",data:=.seq #[.int (i:Nat) tk,y] }).get? b=some o:=q;rw [Heap.get?_push_ne _ _ _ zT] at q';exact q'
     · obtain ⟨f0,f1⟩:=hf b hb;exact ⟨by rw [ag (VU (zS b hb))];exact f0,f1⟩
    exact IB
  · obtain ⟨o,e1,r⟩:=Lw.1;exact ⟨o,(Dn.2 it (W4 Fw)).trans e1,r⟩
  · rw [ag (VU (zS b hb))];exact (hf b hb).1
 done:=by
  intro X hP hw hK hc i pins s σ H E I hf st hg;subst hP hw hK;obtain ⟨xs,hq,hx⟩:=hg;obtain ⟨its,rv,p,hz⟩:=I.list hq;obtain ⟨⟨old,he⟩,hi⟩:=st
  have Fx:a≠it:=by
   rintro rfl;obtain ⟨o,e1,e2,_⟩:=hi;obtain ⟨o',BP,BD,_⟩:=p.isList;rw [BP] at e1;cases e1;rw [BD] at e2;exact absurd (W8 e2) (by decide)
  have hn:its.toArray.size=i:=by
   have:=rv.length;rw [Vr];omega
  refine wpAny_pyNext_enum_endD (Draws.list (A:=X.A.in1) (show X.A.in1.handled=none from I.ok.hd hc) it a Fx its.toArray) he (by rw [hn];exact ⟨hi,p.isList⟩) fun h' eb=>⟨rfl,?_⟩;exact I.turnedL (fp:=[e,it]) (t':=s.toks) (fun b o hb q=>eb b o (fun z=>hb (by simp [z])) q) hf
 self:=fun _ _ _ _ _ st h=>by
  obtain ⟨⟨old,he⟩,_⟩:=st;exact Z0 he h
section
variable {X:Cx} {e:Wq} {te:TE} {p2 zW:Yr}
def w9 (K:Vc) (tl:TE):TI:=fun σ H R=>tl σ H fun x H1=>∃ a,x=.ref a/\(∃ xs,SqL K H1 a xs)/\R (tN K a) H1
theorem lu {elts:List Wq} {k1} {pos:Yr} (g2:Gl X "enumerate") (m2:X.mg "enumerate"=none) (he:PE X e te) (h2:V0 [e] X.env=[(false,Xh e X.env)]:=by rfl):PI X (.Tuple elts k1 pos) (.Call (.Name "enumerate" p2) [e] [] zW) (w9 X.K te):=by
 intro pins s σ H R I h;refine WC (cU I g2 m2 boot_enumerate (We ?_ h2 rfl));rw [h2];show Vw _ _ (spliced ((false,Xh e X.env)::[])) _ _ s;refine WX (thn (he pins s σ H _ I h) fun u s1 ⟨x,H1,I1,r1,a,ex,⟨xs,hq⟩,q⟩=>Xv ?_);subst ex;cases r1;obtain ⟨its,rv,p,hz⟩:=I1.list hq;refine call_enumerate_list (show s1.heap.IsList a its.toArray from p.isList) fun h' g1 g2 g3 g4=>?_;refine Z0 (s:={ s1 with heap:=h' }) g1 ?_;refine ⟨s1.heap.objs.size+1,[s1.heap.objs.size+1,s1.heap.objs.size],_,_,H1,rfl,I1.kept (t':=s1.toks) g4,qv a _ _,⟨⟨_,g1⟩,g2⟩,fun b hb=>?_,q⟩
 have Aj:s1.heap.objs.size<=b:=by
  rcases VA.mp hb with rfl | hb
  · omega
  · have:b=s1.heap.objs.size:=by simpa using hb
    exact ZY this.symm
 exact I1.fpOk Aj (I1.hok.fresh Aj)
end
theorem mQ {K:Vc} {a:Vd} {xs:List V} {g:TG} {tb:TS} {D:Ends} {σ:St} {H:Hp} (Pv:Nat->St->Hp->Prop) (h0:Pv 0 σ H) (hl:∀ i σ H,i<=xs.length->Pv i σ H->SqL K H a xs)
 (hs:∀ i x p σ H,xs[i]?=some x->H p=none->Pv i σ H->g (.ref p) σ (upd H p (.tup [.int (i:Nat),x])) fun zU H2=>tb { D with nx:=Pv (i+1),ct:=Pv (i+1),bk:=D.nx } zU H2) (hd:∀ σ H,Pv xs.length σ H->D.nx σ H) :
 ∃ W:Nat->Nat->St->Hp->Prop,(∃ m,W 0 m σ H)/\∀ i m σ H,W i m σ H →
   ((tN K a).stop i H/\D.nx σ H)∨((tN K a).go i H/\∃ N:St->Hp->Prop,(∀ zu H',N zu H'->∃ m',m'<m/\W (i+1) m' zu H')/\∀ x H',(tN K a).yld i H x H'->g x σ H' fun zU H2=>tb { D with nx:=N,ct:=N,bk:=D.nx } zU H2):=by
 refine ⟨fun i m σ H=>m=xs.length - i/\i<=xs.length/\Pv i σ H,⟨xs.length,by simp,VJ _,h0⟩,?_⟩;rintro i m σ H ⟨rfl,hi,p⟩;have q:=hl i σ H hi p;by_cases zK:i<xs.length
 · refine .inr ⟨⟨xs,xs[i],q,by simp [zK]⟩,Pv (i+1),fun zu H' p'=>⟨xs.length - (i+1),by omega,rfl,zK,p'⟩,fun x H' y=>?_⟩;obtain ⟨pa,y,hp,rfl,rfl,hy⟩:=y;exact hs i y pa σ H (hy xs q) hp p
 · have e:i=xs.length:=by omega
   subst e;exact .inl ⟨⟨xs,q,rfl⟩,hd σ H p⟩
end L2
namespace L2
open PySem PySem.Spec PySem.SeqAt PyProof.Rows BB
end L2
namespace L2
open PySem PySem.Spec PyProof.Rows BB
def zc (K:Vc) (B:Nat):R2:=fun x y H Q=>∃ b ws d es,y=.ref b/\SqL K H b ws/\DAt H d x/\DAts H es ws/\bC es<=B/\∀ r:Bool,(r=true↔d∈es)->Q (.bl r) H
open Classical in
theorem xF {X:Cx} {B:Nat} (hu:X.A.units+B+2<W7):OpR X (Za .In) (zc X.K B):=by
 intro pins s σ H x y v u Q I rx ry h;obtain ⟨b,ws,d,es,rfl,hb,hd,hws,hB,q⟩:=h;cases ry;obtain ⟨its,r1,p1,_⟩:=I.list hb;have l1:=r1.length;have l2:=hws.length;refine SeqAt.in_listAt (fun z=>decide (∃ y',DAt H d y'/\RelV y' z)) p1.isList (fun z hz=>?_) ⟨.bl _,H,I,rfl,q _ ?_⟩
 · obtain ⟨j,hj⟩:=VH.mp (show z∈its by simpa using hz);obtain ⟨e,y',he,dy,ry⟩:=xq r1 hws j z hj;have hq:=eW he
   have e3:decide (∃ y',DAt H d y'/\RelV y' z)=decide (e=d):=by
    by_cases h:e=d
    · rw [decide_eq_true h,decide_eq_true ⟨y',h ▸ dy,ry⟩]
    · rw [decide_eq_false h,decide_eq_false];rintro ⟨Ib,h1,h2⟩;exact h (tL dy ry h1 h2)
   rw [e3];refine n8 I _ e d (Vj _) y' x z v X.A.in1 dy hd ry rx ?_;show X.A.units+1+_<W7;omega
 · constructor
   · intro z;obtain ⟨v',h1,h2⟩:=Array.any_eq_true'.mp z;obtain ⟨j,hj⟩:=VH.mp (show v'∈its by simpa using h1);obtain ⟨e,y',he,dy,ry⟩:=xq r1 hws j v' hj;obtain ⟨Ib,h3,h4⟩:=of_decide_eq_true h2;rw [<- tL dy ry h3 h4];exact Vh he
   · intro z;obtain ⟨j,hj⟩:=VH.mp z;obtain ⟨y',Di,dy⟩:=hws.at hj;obtain ⟨v',AK,CK⟩:=r1.get Di;refine Array.any_eq_true'.mpr ⟨v',?_,decide_eq_true ⟨y',dy,CK⟩⟩;have:=Vh AK;simpa using this
end L2
namespace L2
open PySem PySem.Spec PySem.Calls PyProof.Rows BB
abbrev cL (z:List (Int×Nat×Yr)×Yr):Wq:=.List (z.1.map cI) z.2
def vj (zs:List Int):TA:=fun _ H Q=>Q (zs.map V.int) H
theorem rf {X:Cx}:∀ (zs:List (Int×Nat×Yr)),PA X (zs.map cI) (vj (zs.map (·.1)))
 | []=>@ac X
 | z::zs=>by
   have h:PA X (cI z::zs.map cI) (aJ (tC (.int z.1)) (vj (zs.map (·.1)))):=@aa X _ _ _ _ (@am X _ _ _) (rf zs) rfl;exact h
def sy:List (List Int)->TA
 | []=>cy
 | z::zs=>aJ (tQ (vj z)) (sy zs)
theorem vf {X:Cx}:∀ (zs:List (List (Int×Nat×Yr)×Yr)),PA X (zs.map cL) (sy (zs.map fun z=>z.1.map (·.1)))
 | []=>@ac X
 | z::zs=>@aa X _ _ _ _ (@bq X _ _ _ (rf z.1)) (vf zs) rfl
theorem xl {X:Cx} {pos:Yr} (zs:List (List (Int×Nat×Yr)×Yr)):PE X (.List (zs.map cL) pos) (tQ (sy (zs.map fun z=>z.1.map (·.1)))):=@bq X _ _ _ (vf zs)
theorem mS {X:Cx} {i:Nat} {x:VM} {p0 p1 p2 p3:Yr} {e:Wq} {te:TE} (zs:List (List (Int×Nat×Yr)×Yr)) (hN:X.N.Nodup) (hi:X.N[i]?=some x) (hx:Loc X.env.scope x) (hf:X.fn x=true∨X.env.scope.names.lookup x=some .local) (he:PE X e te) (hs:rq e) :
 PS X (.Assign [.Name x p0] (.Subscript (.List (zs.map cL) p1) e p2) p3) (wg (tOp (uK X.K) (tQ (sy (zs.map fun z=>z.1.map (·.1)))) te) (ax i)):=aA hN hi hx (aZ bu (xl zs) he hs) rfl hf
theorem pP:∀ (zs:List (List Int)) (σ:St) (H:Hp) (Q:List V->Hp->Prop),(∀ z∈zs,z.length<=1000)->(∀ (as:List Vd) (H':Hp),L2.Same H H'->VW (fun z a=>H' a=some (.lst (z.map V.int))) zs as->Q (as.map V.ref) H')->sy zs σ H Q
 | [],σ,H,Q,_,q=>q [] H (.refl _) .nil
 | z::zs,σ,H,Q,hz,q=>by
   have hl:=hz z (VC ..);refine ⟨ak (by rw [Vb];omega),fun p hp=>?_⟩;have s1:L2.Same H (upd H p (.lst (z.map V.int))):=ad hp _;have e1:(upd H p (.lst (z.map V.int))) p=some (.lst (z.map V.int)):=ab;generalize (upd H p (.lst (z.map V.int)))=H1 at s1 e1 ⊢;refine pP zs σ H1 _ (fun y hy=>hz y (VB _ hy)) fun as H' s2 h2=>?_;exact q (p::as) H' (s1.trans s2) (.cons (s2 _ _ e1) h2)
theorem jX {K:Vc} {te:TE} {zs:List (List Int)} {σ:St} {H:Hp} {Q:VK} (hz:∀ z∈zs,z.length<=1000) (hl:zs.length<=1000) (q:∀ (D:Vd) (as:List Vd) (H1:Hp),L2.Same H H1->H1 D=some (.lst (as.map V.ref))->VW (fun z a=>H1 a=some (.lst (z.map V.int))) zs as->te σ H1 fun y H2=>uK K (.ref D) y H2 Q):tOp (uK K) (tQ (sy zs)) te σ H Q:=by
 refine pP zs σ H _ hz fun as H1 s1 h1=>⟨ak (by rw [Vb,<- Vv h1];omega),fun p hp=>?_⟩;exact q p as _ (s1.trans (ad hp _)) ab (P2.mp (fun _ _ e=>(ad hp _) _ _ e) h1)
end L2
namespace LAW
open PySem L2 BB
def top (i:Nat):WL:=PySem.Challenge.pw_boughbook_k69_sure_states_go.main.body.getD i (.Pass ⟨0,0,0,0⟩)
theorem scm {N P:List VM} {sc:YN} (a:sc.kind=.function:=by rfl) (b:sc.isCoroutine=false:=by rfl) (c:sc.isGenerator=false:=by rfl) (d:N.Nodup:=by decide +kernel) (e:N.take P.length=P:=by rfl) (f:∀ x∈P,sc.names.lookup x=some .local∨sc.names.lookup x=some .cell:=by decide +kernel) (g:∀ y∈sc.names,y.2≠.free:=by decide +kernel):av N P sc:=⟨a,b,c,d,e,f,g⟩
abbrev jH:WL:=top 8
abbrev lQ:WL:=top 9
abbrev jw:WL:=top 10
theorem qU:av ["thing"] ["thing"] (ai jw):=scm
abbrev kB:WL:=top 11
theorem gx:av ["thing","met","ahead","part"] ["thing"] (ai kB):=scm
abbrev ll:WL:=top 12
theorem df:av ["thing","met","ahead","place","part","kids"] ["thing"] (ai ll):=scm
abbrev oi:WL:=top 13
theorem iN:av ["tops","done","top","many"] ["tops"] (ai oi):=scm
abbrev lV:WL:=top 14
theorem tq:av ["tree"] ["tree"] (ai lV):=scm
abbrev pC:WL:=top 15
abbrev mL:WL:=top 16
abbrev jh:WL:=top 19
theorem qc:av ["thing"] ["thing"] (ai jh):=scm
abbrev jo:WL:=top 20
theorem qB:av ["thing"] ["thing"] (ai jo):=scm
abbrev jg:WL:=top 21
theorem qE:av ["thing"] ["thing"] (ai jg):=scm
abbrev f7:WL:=top 22
theorem nU:av ["call"] ["call"] (ai f7):=scm
abbrev ie:WL:=top 23
theorem pk:av ["pattern"] ["pattern"] (ai ie):=scm
abbrev fW:WL:=top 24
theorem nK:av ["pattern"] ["pattern"] (ai fW):=scm
abbrev g7:WL:=top 25
theorem p8:av ["front"] ["front"] (ai g7):=scm
abbrev lU:WL:=top 26
theorem np:av ["part","many"] ["part"] (ai lU):=scm
abbrev kS:WL:=top 27
theorem jB:av ["pattern","table","tops","part"] ["pattern","table"] (ai kS):=scm
abbrev ik:WL:=top 28
theorem dU:av ["pattern","names","table","state","kid"] ["pattern","names"] (ai ik):=scm
abbrev qH:WL:=top 29
theorem iY:av ["front","parts","tops","used","part"] ["front","parts"] (ai qH):=scm
abbrev gY:WL:=top 30
theorem pQ:av ["one","two"] ["one","two"] (ai gY):=scm
abbrev dE:WL:=top 31
theorem bS:av ["one","two","met","ahead","left","right"] ["one","two"] (ai dE):=scm
abbrev lA:WL:=top 32
theorem gw:av ["one","two","tops","left","right"] ["one","two"] (ai lA):=scm
abbrev bM:WL:=inClass (top 38) 0
theorem j9:av ["self"] ["self"] (ai bM):=scm
abbrev bx:WL:=inClass (top 38) 1
theorem jj:av ["self","part","row"] ["self","part","row"] (ai bx):=scm
abbrev iw:WL:=top 39
theorem cN:av ["pattern","measure","ahead","part","row"] ["pattern"] (ai iw):=scm
abbrev lj:WL:=top 40
theorem sX:av ["book"] ["book"] (ai lj):=scm
abbrev i8:WL:=top 41
theorem qN:av ["book"] ["book"] (ai i8):=scm
abbrev jE:WL:=top 42
theorem qt:av ["book"] ["book"] (ai jE):=scm
abbrev gW:WL:=top 43
theorem pe:av ["book"] ["book"] (ai gW):=scm
abbrev fX:WL:=top 44
theorem nz:av ["book"] ["book"] (ai fX):=scm
abbrev fo:WL:=top 46
theorem mn:av ["ins"] ["ins"] (ai fo):=scm
abbrev fu:WL:=top 47
theorem ej:av ["ins","kind","kids","name","many"] ["ins","kind","kids"] (ai fu):=scm
abbrev cR:WL:=top 48
theorem bd:av ["book","names","at","made","state","patterns","kid"] ["book"] (ai cR):=scm
abbrev eI:WL:=top 49
theorem bt:av ["book","state","made","partings","ins","front","kind","pattern","place"] ["book","state","made","partings"] (ai eI):=scm
abbrev fZ:WL:=top 50
theorem bB:av ["book","state","front","links","parts","kind","pattern","place","lower","kid","inner"] ["book","state","front","links"] (ai fZ):=scm
abbrev kQ:WL:=top 51
theorem bV:av ["ins","links","partings","holes","at","one","two","state","place","kind","kid"] ["ins","links","partings"] (ai kQ):=scm
abbrev fP:WL:=top 52
theorem b8:av ["front","state","partings","tops","ahead","place","part","kids"] ["front","state","partings"] (ai fP):=scm
abbrev dj:WL:=top 53
theorem bh:av ["book","made","partings","firsts","links","state","front"] ["book"] (ai dj):=scm
abbrev gb:WL:=top 54
theorem fz:av ["book","fronts","partings"] ["book"] (ai gb):=scm
abbrev jk:WL:=top 56
theorem hZ:av ["pattern","numbers","thing","kid"] ["pattern","numbers"] (ai jk):=scm
abbrev io:WL:=top 57
theorem cM:av ["ins","outs","head","patterns_of","numbers","fresh_head","rules","thing"] ["ins","outs","head","patterns_of"] (ai io):=scm
abbrev d4:WL:=top 59
theorem bJ:av ["fronts","table","state","front","kid","calls"] ["fronts"] (ai d4):=scm
abbrev jt:WL:=top 60
theorem qQ:av ["pattern"] ["pattern"] (ai jt):=scm
abbrev bN:WL:=top 61
theorem dL:av ["book","fronts","table","patterns_of"] ["book"] (ai bN):=scm
abbrev dA:WL:=top 63
theorem j8:av ["script","k"] ["script","k"] (ai dA):=scm
abbrev fB:WL:=top 64
theorem gI:av ["cell","k","stir"] ["cell","k"] (ai fB):=scm
abbrev fS:WL:=top 65
theorem iA:av ["base","n","tail"] ["base","n"] (ai fS):=scm
abbrev fA:WL:=top 66
theorem mq:av ["base","menu"] ["base","menu"] (ai fA):=scm
abbrev gg:WL:=top 67
theorem fC:av ["cell","deep","outs","some","kind"] ["cell","deep","outs"] (ai gg):=scm
abbrev cp:WL:=top 68
theorem bj:av ["script","first","menu","ins"] ["script"] (ai cp):=scm
abbrev du:WL:=top 69
theorem fH:av ["tree","made","kids","cell","parts"] ["tree","made","kids","cell"] (ai du):=scm
abbrev fb:WL:=top 70
theorem cH:av ["tree","found","part"] ["tree"] (ai fb):=scm
abbrev iS:WL:=top 71
theorem cg:av ["script","ins","outs","whole_tree","parts","cells","k","many","made","s","rules","row","j","head","book"] ["script"] (ai iS):=scm
structure FX (K:Vc) (mg:VM->Option Vg) (n:VM) (s:WL) (ps:List VM) where
 f:Vd
 d:XJ
 F:Fun K n n s f d
 b:Binds K d ps []
 m:mg n=some (.ref f)
section
open PySem.W
variable {K:Frag} {mg:VM->Option Vg} {h:Wx} {n:VM} {st:WL} {f:Vd} {oc kV dc pm cd ct:Vg} {od an:Option Vd} {sl:Array (Option Vg)} (X:K.In h) (G:h.Ns VS mg)
noncomputable def fx1 {p0:VM} (a:nsIn K VS n=some (some (.ref f)):=by k_is) (l:K.lookup f=some ⟨oc,od,.func (fnOf n n (bv st) (bg st) (ai st) .none kV dc pm an cd ct),sl⟩:=by k_is) (c:codeIn K cd n=true:=by k_is) (k:keepIn K (.ref f)=true:=by k_is) (hb:∀ (kV dc pm:Vg) (an:Option Vd) (cd ct u0:Vg),bindArgs (fnOf n n (bv st) (bg st) (ai st) .none kV dc pm an cd ct) ⟨[u0],[]⟩=pure [(p0,u0)]:=by intros;rfl):FX K mg n st [p0] :=
 ⟨f,_,cQ l c k,(cQ l c k).binds fun a b c d e f us hl=>by obtain ⟨u0,rfl⟩:=us1 hl;exact hb a b c d e f u0,mg_of X G a⟩
noncomputable def fx2 {p0 p1:VM} (a:nsIn K VS n=some (some (.ref f)):=by k_is) (l:K.lookup f=some ⟨oc,od,.func (fnOf n n (bv st) (bg st) (ai st) .none kV dc pm an cd ct),sl⟩:=by k_is) (c:codeIn K cd n=true:=by k_is) (k:keepIn K (.ref f)=true:=by k_is) (hb:∀ (kV dc pm:Vg) (an:Option Vd) (cd ct u0 u1:Vg),bindArgs (fnOf n n (bv st) (bg st) (ai st) .none kV dc pm an cd ct) ⟨[u0,u1],[]⟩=pure [(p0,u0),(p1,u1)]:=by intros;rfl):FX K mg n st [p0,p1] :=
 ⟨f,_,cQ l c k,(cQ l c k).binds fun a b c d e f us hl=>by obtain ⟨u0,u1,rfl⟩:=us2 hl;exact hb a b c d e f u0 u1,mg_of X G a⟩
noncomputable def fx3 {p0 p1 p2:VM} (a:nsIn K VS n=some (some (.ref f)):=by k_is) (l:K.lookup f=some ⟨oc,od,.func (fnOf n n (bv st) (bg st) (ai st) .none kV dc pm an cd ct),sl⟩:=by k_is) (c:codeIn K cd n=true:=by k_is) (k:keepIn K (.ref f)=true:=by k_is) (hb:∀ (kV dc pm:Vg) (an:Option Vd) (cd ct u0 u1 u2:Vg),bindArgs (fnOf n n (bv st) (bg st) (ai st) .none kV dc pm an cd ct) ⟨[u0,u1,u2],[]⟩=pure [(p0,u0),(p1,u1),(p2,u2)]:=by intros;rfl):FX K mg n st [p0,p1,p2] :=
 ⟨f,_,cQ l c k,(cQ l c k).binds fun a b c d e f us hl=>by obtain ⟨u0,u1,u2,rfl⟩:=us3 hl;exact hb a b c d e f u0 u1 u2,mg_of X G a⟩
noncomputable def fx4 {p0 p1 p2 p3:VM} (a:nsIn K VS n=some (some (.ref f)):=by k_is) (l:K.lookup f=some ⟨oc,od,.func (fnOf n n (bv st) (bg st) (ai st) .none kV dc pm an cd ct),sl⟩:=by k_is) (c:codeIn K cd n=true:=by k_is) (k:keepIn K (.ref f)=true:=by k_is) (hb:∀ (kV dc pm:Vg) (an:Option Vd) (cd ct u0 u1 u2 u3:Vg),bindArgs (fnOf n n (bv st) (bg st) (ai st) .none kV dc pm an cd ct) ⟨[u0,u1,u2,u3],[]⟩=pure [(p0,u0),(p1,u1),(p2,u2),(p3,u3)]:=by intros;rfl):FX K mg n st [p0,p1,p2,p3] :=
 ⟨f,_,cQ l c k,(cQ l c k).binds fun a b c d e f us hl=>by obtain ⟨u0,u1,u2,u3,rfl⟩:=us4 hl;exact hb a b c d e f u0 u1 u2 u3,mg_of X G a⟩
end
theorem pcF {X:Cx} {kk k:Nat} {sp:Sp} {n:VM} {st:WL} {ps:List VM} {e:Wq} {es:List Wq} {t:TA} {p pos:Yr} (g:FX X.K X.mg n st ps) (F:aW X.prog X.w X.K X.mg X.base CX0 k g.f g.d ps sp) (hr:Room kk X.A) (ha:PA X (e::es) t) (hle:k<=kk:=by first | decide | omega) (hg:Gl X n:=by rfl) (Df:(n == ("__debug__":VM))=false:=by decide) (he:V0 (e::es) X.env=(false,Xh e X.env)::V0 es X.env:=by rfl) (Av:(Yn pos (V0 es X.env)).any (·.1)=false:=by rfl):PE X (.Call (.Name n p) (e::es) [] pos) (cW sp [] E0 t) :=
 kj F (hr.mono hle) hg g.m g.F.kp g.b .nil lv ha Df he Av
structure TX (K:Vc) (mg:VM->Option Vg) where
 c_CALL_SIGN:∃ tk,mg "CALL_SIGN"=some (.str (Vf "?") tk)
 c_MOST_KIDS:∃ tk,mg "MOST_KIDS"=some (.int (3) tk)
 a_HOLE:Vd
 c_HOLE:mg "HOLE"=some (.ref a_HOLE)
 q_HOLE:∀ H:Hp,SqT K H a_HOLE [.str (Vf "*")]
 c_MOST_STATES:∃ tk,mg "MOST_STATES"=some (.int (20) tk)
 c_MOST_ROWS:∃ tk,mg "MOST_ROWS"=some (.int (20) tk)
 c_MOST_KNOTS:∃ tk,mg "MOST_KNOTS"=some (.int (400) tk)
 c_MOST_CALLS:∃ tk,mg "MOST_CALLS"=some (.int (200) tk)
 g_is_number:FX K mg "is_number" jH ["thing"]
 g_is_below:FX K mg "is_below" lQ ["number","bound"]
 g_kids_of:FX K mg "kids_of" jw ["thing"]
 g_walked:FX K mg "walked" kB ["thing"]
 g_placed:FX K mg "placed" ll ["thing"]
 g_built:FX K mg "built" oi ["tops"]
 g_places:FX K mg "places" lV ["tree"]
 g_kid_at:FX K mg "kid_at" pC ["thing","number"]
 g_knot_at:FX K mg "knot_at" mL ["tree","place"]
 g_is_call:FX K mg "is_call" jh ["thing"]
 g_is_hole:FX K mg "is_hole" jo ["thing"]
 g_is_knot:FX K mg "is_knot" jg ["thing"]
 g_called_by:FX K mg "called_by" f7 ["call"]
 g_calls_in:FX K mg "calls_in" ie ["pattern"]
 g_called_in:FX K mg "called_in" fW ["pattern"]
 g_holes_in:FX K mg "holes_in" g7 ["front"]
 g_top_of:FX K mg "top_of" lU ["part"]
 g_filled:FX K mg "filled" kS ["pattern","table"]
 g_restated:FX K mg "restated" ik ["pattern","names"]
 g_hung:FX K mg "hung" qH ["front","parts"]
 g_same_top:FX K mg "same_top" gY ["one","two"]
 g_side_by_side:FX K mg "side_by_side" dE ["one","two"]
 g_common:FX K mg "common" lA ["one","two"]
 f_Measure_init:Vd
 d_Measure_init:XJ
 F_Measure_init:Fun K "__init__" "Measure.__init__" bM f_Measure_init d_Measure_init
 b_Measure_init:Binds K d_Measure_init ["self"] []
 f_Measure_takes:Vd
 d_Measure_takes:XJ
 F_Measure_takes:Fun K "takes" "Measure.takes" bx f_Measure_takes d_Measure_takes
 b_Measure_takes:Binds K d_Measure_takes ["self","part","row"] []
 g_is_small:FX K mg "is_small" iw ["pattern"]
 g_ins_of:FX K mg "ins_of" lj ["book"]
 g_outs_of:FX K mg "outs_of" i8 ["book"]
 g_head_of:FX K mg "head_of" jE ["book"]
 g_rules_of:FX K mg "rules_of" gW ["book"]
 g_states_of:FX K mg "states_of" fX ["book"]
 g_small_tree:FX K mg "small_tree" fo ["ins"]
 g_knot_above:FX K mg "knot_above" fu ["ins","kind","kids"]
 g_first_makings:FX K mg "first_makings" cR ["book"]
 g_first_front:FX K mg "first_front" eI ["book","state","made","partings"]
 g_put_links:FX K mg "put_links" fZ ["book","state","front","links"]
 g_spread:FX K mg "spread" kQ ["ins","links","partings"]
 g_cut_front:FX K mg "cut_front" fP ["front","state","partings"]
 g_found_fronts:FX K mg "found_fronts" dj ["book"]
 g_fronts_of:FX K mg "fronts_of" gb ["book"]
 g_renamed:FX K mg "renamed" jk ["pattern","numbers"]
 g_numbered:FX K mg "numbered" io ["ins","outs","head","patterns_of"]
 g_early_table:FX K mg "early_table" d4 ["fronts"]
 g_checked:FX K mg "checked" jt ["pattern"]
 g_earliest:FX K mg "earliest" bN ["book"]
 tc_earliest:Vd
 tp_earliest:Vd
 th_earliest:g_earliest.d.code=.ref tc_earliest
 g__law_cell_at:FX K mg "_law_cell_at" dA ["script","k"]
 g__law_mixed:FX K mg "_law_mixed" fB ["cell","k"]
 g__law_name:FX K mg "_law_name" fS ["base","n"]
 g__law_kinds:FX K mg "_law_kinds" fA ["base","menu"]
 g__law_full:FX K mg "_law_full" gg ["cell","deep","outs"]
 g__law_kinds_drawn:FX K mg "_law_kinds_drawn" cp ["script"]
 g__law_written:FX K mg "_law_written" du ["tree","made","kids","cell"]
 g__law_parts:FX K mg "_law_parts" fb ["tree"]
 g_law:FX K mg "law" iS ["script"]
 e_Measure:Vd
 x_Measure:mg "Measure"=some (.ref e_Measure)
 cl_Measure:Cls K e_Measure
 mk_Measure:Mk K e_Measure f_Measure_init
 na_Measure_met_knots:NoAttr K e_Measure "met_knots"
 na_Measure_met_calls:NoAttr K e_Measure "met_calls"
 me_Measure_takes:Meth K e_Measure "takes" f_Measure_takes
 n_bool:mg "bool"=none
 n_dict:mg "dict"=none
 n_enumerate:mg "enumerate"=none
 n_int:mg "int"=none
 n_isinstance:mg "isinstance"=none
 n_len:mg "len"=none
 n_list:mg "list"=none
 n_range:mg "range"=none
 n_reversed:mg "reversed"=none
 n_tuple:mg "tuple"=none
 n_zip:mg "zip"=none
theorem vR:([Vf "number",Vf "kid",Vf "place"]:List VM).Nodup:=by decide +kernel
theorem zj:([Vf "number",Vf "done"]:List VM).Nodup:=by decide +kernel
theorem xV:([Vf "place",Vf "knot"]:List VM).Nodup:=by decide +kernel
theorem vN:([Vf "place",Vf "part"]:List VM).Nodup:=by decide +kernel
theorem vM:([Vf "name",Vf "many"]:List VM).Nodup:=by decide +kernel
theorem zo:([Vf "kid",Vf "kids",Vf "ins"]:List VM).Nodup:=by decide +kernel
theorem zg:([Vf "state",Vf "book",Vf "made",Vf "partings"]:List VM).Nodup:=by decide +kernel
theorem yn:([Vf "state",Vf "front",Vf "partings"]:List VM).Nodup:=by decide +kernel
theorem yK:([Vf "hole",Vf "kid",Vf "state"]:List VM).Nodup:=by decide +kernel
theorem yT:([Vf "part"]:List VM).Nodup:=by decide +kernel
theorem xS:([Vf "pattern",Vf "numbers"]:List VM).Nodup:=by decide +kernel
theorem yc:([Vf "kid",Vf "row"]:List VM).Nodup:=by decide +kernel
theorem yH:([Vf "n",Vf "base",Vf "menu"]:List VM).Nodup:=by decide +kernel
theorem xR:([Vf "kind",Vf "deep"]:List VM).Nodup:=by decide +kernel
theorem xQ:([Vf "j",Vf "outs",Vf "cell",Vf "deep"]:List VM).Nodup:=by decide +kernel
theorem yh:([Vf "k",Vf "made",Vf "kids",Vf "tree",Vf "cell"]:List VM).Nodup:=by decide +kernel
theorem xX:([Vf "k"]:List VM).Nodup:=by decide +kernel
section
variable {P:Vu} {w:VI} {K:Vc} {mg:VM->Option Vg} {base:Wx} (T:TX K mg)
inductive jZ (K:Vc) (vs:List V) (H:Hp) (Q:VK) (_E:XK):Prop
 | mk (a:Vd) (t:Th) (zI:vs=[.ref a]) (zJ:AtK K H t a) (zP:∀ (r:Vd) (as:List Vd) (H':Hp),L2.Same H H'->H' r=some (.tup (as.map V.ref))->AtsK K H' t.kids as->Q (.ref r) H'):jZ K vs H Q _E
def ql (K:Vc):Sp:=jZ K
theorem ff:aW P w K mg base CX0 1 T.g_kids_of.f T.g_kids_of.d ["thing"] (ql K):=by
 refine T.g_kids_of.F.ok qU (fun vs H Q E h=>?_) (fun zG A outer s H vs Q E hr h=>?_)
 · obtain ⟨a,t,rfl,_⟩:=h;rfl
 obtain ⟨a,t,rfl,hA,k⟩:=h
 refine ⟨_,(ae (dF (ci mF (aZ bL (pv 0) am (fun _ _=>rfl)) (b9 (v:=.str (Vf "?")) rfl T.c_CALL_SIGN.choose_spec ⟨_,rfl⟩) (bP _)) (af (aC (aB ac))) cX)
  (af (aC (dw jz (pv 0) (dJ am) ft)))),?_⟩
 try dsimp only [zV,zC]
 cases t with
 | knot n ks =>
   rw [AtK] at hA;refine hid fun ZZ kZ=>?_;obtain ⟨hn,as,h1,h2⟩:=hA;refine kZ ?_;refine ⟨_,rfl,a,_,0,.str n,rfl,rfl,h1.sq,at0,rfl,_,rfl,?_⟩;refine eK (fun c=>absurd (of_decide_eq_true c) (fun z=>hn (V.str.inj z))) (fun _=>?_);refine ⟨_,rfl,1,rfl,a,_,rfl,h1.sq,?_,fun r hr=>?_⟩
   · intro z;have:=z.1;simp [HT.sIx] at this
   · rw [fU];exact k r as _ (ad hr _) ab (h2.mono (cS hr))
 | call sn kn =>
   rw [AtK] at hA;refine ⟨_,rfl,a,_,0,.str q,rfl,rfl,hA.sq,at0,rfl,_,rfl,?_⟩;refine eK (fun _=>?_) (fun c=>absurd (decide_eq_true rfl) c);refine ⟨by show 0<=Vz;decide,fun r hr=>?_⟩;exact k r [] _ (ad hr _) ab .nil
inductive l5 (K:Vc) (vs:List V) (H:Hp) (Q:VK) (_E:XK):Prop
 | mk (a:Vd) (t:Th) (zI:vs=[.ref a]) (zJ:AtK K H t a) (zP:t.size<=100000) (zZ:∀ (r:Vd) (as:List Vd) (H':Hp),L2.Same H H'->H r=none->H' r=some (.lst (as.map V.ref))->AtsK K H' t.walk as->Q (.ref r) H'):l5 K vs H Q _E
def sU (K:Vc):Sp:=l5 K
theorem jc:aW P w K mg base CX0 2 T.g_walked.f T.g_walked.d ["thing"] (sU K):=by
 refine T.g_walked.F.ok gx (fun vs H Q E h=>?_) (fun zG A outer s H vs Q E hr h=>?_)
 · obtain ⟨a,t,rfl,_⟩:=h;rfl
 obtain ⟨a,t,rfl,hA,hsz,k⟩:=h
 refine ⟨_,(ae (aA (i:=1) gx.nd rfl (VE rfl) (bq ac))
  (ae (aA (i:=2) gx.nd rfl (VE rfl) (bq (aa (pv 0) ac)))
  (ae (dB VZ (bi (pv 2) (fun _=>rfl)) (ae (aA (i:=3) gx.nd rfl (VE rfl) (jm Vy XU XT jx (pv 2)))
  (ae (aP (bK Vy VQ VP aL (pv 1) (aa (pv 3) ac)))
  (af (aP (bK Vy Yg Ye qX (pv 2) (aa (rD xp (pcF T.g_kids_of (ff T) hr (aa (pv 3) ac))) ac)))))))
  (af (aC (pv 1)))))),?_⟩
 try dsimp only [zV,zC]
 refine ⟨by show 0<=Vz;decide,fun mt Bj=>?_⟩;refine ⟨_,rfl,by show 1<=Vz;decide,fun ah AV=>?_⟩;have Bn:H ah=none:=(ad Bj _).free AV;have zS:ah≠mt:=fun z=>by rw [z,ab] at AV;cases AV
 refine ⟨fun m σ H2=>Ex5 fun (ms as:List Vd) (Ms As:List Th) (p:Option V)=>An8 (σ=[some (.ref a),some (.ref mt),some (.ref ah),p]) (L2.Same H H2) (H2 mt=some (.lst (ms.map V.ref))) (H2 ah=some (.lst (as.map V.ref))) (AtsK K H2 Ms ms) (AtsK K H2 As as) (Ms++walks As.reverse=t.walk) (m=ao As),⟨_,[],[a],[],[t],none,rfl,?_,?_,?_,.nil,.cons (hA.mono ?_) .nil,?_,rfl⟩,?_⟩
 · exact au (ad Bj _) Bn
 · rw [ag zS.symm,ab];rfl
 · rw [ab];rfl
 · exact Same.kt (au (ad Bj _) Bn)
 · simp [walks]
 rintro m σ H2 ⟨ms,as,Ms,As,p,rfl,sm,e1,e2,a1,a2,hw,rfl⟩
 have hlen:ms.length+ao As<=100000:=by
  have h1:=congrArg Y4 hw;rw [VD,de,Th.walk_len,<- a1.length] at h1;have h2:=mZ As;omega
 refine ⟨_,rfl,_,.inl ⟨_,SqL.of e2,rfl⟩,?_⟩;refine eK (fun c=>?_) (fun c=>?_)
 · -- a part is taken off
   refine ⟨fun zu H'=>∃ m',m'<ao As/\Ex5 fun (ms as:List Vd) (Ms As:List Th) (p:Option V)=>An8 (zu=[some (.ref a),some (.ref mt),some (.ref ah),p]) (L2.Same H H') (H' mt=some (.lst (ms.map V.ref))) (H' ah=some (.lst (as.map V.ref))) (AtsK K H' Ms ms) (AtsK K H' As as) (Ms++walks As.reverse=t.walk) (m'=ao As),fun zu H' h=>h,?_⟩;have Ay:as≠[]:=by intro z;subst z;simp at c
   obtain ⟨zN,b,rfl⟩:∃ zN b,as=zN++[b]:=⟨as.dropLast,as.getLast Ay,(Xe Ay).symm⟩;obtain ⟨Us,x,rfl,a3,a4⟩:=a2.snoc_inv;have hs:ao (Us++[x])=ao Us+x.size:=by rw [aU,ao,ao];omega
   have Im:=x.size_eq;rw [hs] at hlen;refine ⟨_,rfl,.inl ⟨rfl,_,SqL.of e2⟩,ah,_,.ref b,rfl,rfl,e2,by simp,?_⟩;have d1:((zN++[b]).map V.ref).dropLast=zN.map V.ref:=by simp
   rw [d1];refine ⟨_,rfl,.inl ⟨rfl,_,SqL.of (by rw [ag zS.symm];exact e1)⟩,_,rfl,mt,_,.ref b,rfl,rfl,by rw [ag zS.symm];exact e1,aE (by rw [Vb];omega),?_⟩;have k1:KT H2 (upd (upd H2 ah (.lst (zN.map V.ref))) mt (.lst (ms.map V.ref++[.ref b]))):=(aK e2).trans (aK (xs:=ms.map V.ref) (by rw [ag zS.symm];exact e1));refine ⟨_,rfl,.inl ⟨rfl,_,SqL.of (by rw [ag zS,ab])⟩,_,rfl,b,x,rfl,a4.mono k1,fun r ks H3 s3 e3 a5=>?_⟩;refine ⟨r,_,rfl,SqT.of e3,fun l hl=>?_⟩;have l1:l≠ah:=fun z=>by rw [z,s3 ah _ (by rw [ag zS,ab])] at hl;cases hl
   have l2:l≠mt:=fun z=>by rw [z,s3 mt _ ab] at hl;cases hl
   refine ⟨ah,l,_,_,rfl,rfl,by rw [ag l1.symm];exact s3 ah _ (by rw [ag zS,ab]),SqT.of ab,Yb (aE ?_),?_⟩
   · have q1:=a3.length;have q2:=a5.length;have q3:=bU Us;have q4:=bU x.kids;rw [Vb,WB,Vb];omega
   · have k2:KT H2 (upd (upd H3 l (.tup (ks.map V.ref).reverse)) ah (.lst (zN.map V.ref++(ks.map V.ref).reverse))) :=
      k1.trans ((Same.kt s3).trans ((cS hl).trans (aK (xs:=zN.map V.ref) (by rw [ag l1.symm];exact s3 ah _ (by rw [ag zS,ab])))))
     have k3:KT H3 (upd (upd H3 l (.tup (ks.map V.ref).reverse)) ah (.lst (zN.map V.ref++(ks.map V.ref).reverse))) :=
      (cS hl).trans (aK (xs:=zN.map V.ref) (by rw [ag l1.symm];exact s3 ah _ (by rw [ag zS,ab])))
     refine ⟨ao (Us++x.kids.reverse),?_,ms++[b],zN++ks.reverse,Ms++[x],Us++x.kids.reverse,some (.ref b),rfl,?_,?_,?_,?_,?_,?_,rfl⟩
     · rw [aU,mZ,hs];omega
     · have s4:L2.Same H (upd (upd H2 ah (.lst (zN.map V.ref))) mt (.lst (ms.map V.ref++[.ref b]))):=au (au sm Bn) Bj;have nl:H l=none:=s4.free (s3.free hl);exact au (au (s4.trans s3) nl) Bn
     · rw [ag zS.symm,ag l2.symm,s3 mt _ ab,Vs];rfl
     · rw [ab,Vs,ZS]
     · exact (a1.mono k2).append (.cons (a4.mono k2) .nil)
     · exact (a3.mono k2).append (a5.mono k3).reverse
     · rw [<- hw,V8,WJ,WJ,Xf,iB];show Ms++([x]++(walks x.kids++walks Us.reverse))=Ms++walks (x::Us.reverse);rw [walks,x.walk_eq];rfl
 · have hz:as=[]:=by
    cases as with
    | nil=>rfl
    | cons y ys=>simp at c
   subst hz;have CN:As=[]:=WA.mp a2.length.symm;subst CN;refine ⟨_,rfl,k mt ms H2 sm Bj e1 ?_⟩;have FT:Ms=t.walk:=by simpa [walks] using hw
   rw [<- FT];exact a1
inductive lW (K:Vc) (vs:List V) (H:Hp) (Q:VK) (_E:XK):Prop
 | mk (a:Vd) (t:Th) (zI:vs=[.ref a]) (zJ:AtK K H t a) (zP:t.size<=100000) (zZ:t.tall<=100000) (Ai:∀ (r:Vd) (as:List Vd) (H':Hp),L2.Same H H'->H r=none->H' r=some (.lst (as.map V.ref))->PsAtK K H' (t.pl []) as->Q (.ref r) H'):lW K vs H Q _E
def sr (K:Vc):Sp:=lW K
theorem gr:aW P w K mg base CX0 2 T.g_placed.f T.g_placed.d ["thing"] (sr K):=by
 refine T.g_placed.F.ok df (fun vs H Q E h=>?_) (fun zG A outer s H vs Q E hr h=>?_)
 · obtain ⟨a,t,rfl,_⟩:=h;rfl
 obtain ⟨a,t,rfl,hA,hsz,zY,k⟩:=h
 refine ⟨_,(ae (aA (i:=1) df.nd rfl (VE rfl) (bq ac))
  (ae (aA (i:=2) df.nd rfl (VE rfl) (bq (aa (aB (aa (aB ac) (aa (pv 0) ac))) ac)))
  (ae (dB VZ (bi (pv 2) (fun _=>rfl)) (ae (fE (jm Vy XU XT jx (pv 2)) (ba rfl (aq (aj (i:=3) df.nd rfl (Zo rfl)) (aq (aj (i:=4) df.nd rfl (VE rfl)) aN))))
  (ae (aP (bK Vy VQ VP aL (pv 1) (aa (aB (aa (pv 3) (aa (pv 4) ac))) ac)))
  (ae (dM (i:=5) (N:=[Vf "number",Vf "kid",Vf "place"]) (js:=[none,none,some 3]) (g:=(mh K 2 (cD (ax 0) (cD (ax 1) mi)))) (tt:=bH) (te:=(kb (aJ (tOp (pZ K) (bc 2) (kb (aJ (bc 0) cy))) (aJ (bc 1) cy)))) df.nd rfl (VE rfl) rfl (cv rfl (by decide +kernel) (by decide +kernel) rfl rfl rfl) (nI rfl T.n_enumerate (pcF T.g_kids_of (ff T) hr (aa (pv 4) ac))) (fun _ _ _ _ _ _=>(ba rfl (aq (aj (i:=0) vR rfl (VE rfl)) (aq (aj (i:=1) vR rfl (VE rfl)) aN)))) (gh (bI aS (aO rfl) (bI aS (aO rfl) f8))) (fun _ _ _ _ _ _=>bO) (fun _ _ _ _ _ _=>(aB (aa (aH eZ (pv 2) (aB (aa (pv 0) ac))) (aa (pv 1) ac)))))
  (af (aP (bK Vy Yg Ye gj (pv 2) (aa (rD vC (pv 5)) ac))))))))
  (af (aC (pv 1)))))),?_⟩
 try dsimp only [zV,zC]
 refine ⟨ak (by show 0<=1000000;decide),fun mt Bj=>?_⟩;have s1:L2.Same H (upd H mt (.lst [])):=ad Bj _;have FU:(upd H mt (.lst [])) mt=some (.lst []):=ab;generalize upd H mt (.lst [])=H1 at s1 FU ⊢;refine ⟨ak (by show 0<=1000000;decide),fun p0 D0=>?_⟩;refine ⟨_,rfl,ak (by show 2<=1000000;decide),fun p1 Cw=>?_⟩;refine ⟨ak (by show 1<=1000000;decide),fun ah AV=>?_⟩;have s2:L2.Same H1 (upd (upd H1 p0 (.tup [])) p1 (.tup [.ref p0,.ref a])):=(ad D0 _).trans (ad Cw _);have e1:(upd (upd H1 p0 (.tup [])) p1 (.tup [.ref p0,.ref a])) p1=some (.tup [.ref p0,.ref a]):=ab;have e0:(upd (upd H1 p0 (.tup [])) p1 (.tup [.ref p0,.ref a])) p0=some (.tup []):=ad Cw _ _ _ ab;generalize (upd (upd H1 p0 (.tup [])) p1 (.tup [.ref p0,.ref a]))=H2 at s2 e1 e0 AV ⊢;have Ck:H1 ah=none:=s2.free AV;have Bn:H ah=none:=s1.free Ck;have zS:ah≠mt:=fun z=>by rw [z,FU] at Ck;cases Ck
 refine ⟨fun m σ H3=>Ex7 fun (ms as:List Vd) (Ms As:List (List Int×Th)) (c3 c4 c5:Option V)=>An9 (σ=[some (.ref a),some (.ref mt),some (.ref ah),c3,c4,c5]) (L2.Same H H3) (H3 mt=some (.lst (ms.map V.ref))) (H3 ah=some (.lst (as.map V.ref))) (PsAtK K H3 Ms ms) (PsAtK K H3 As as) (Ms++plP As.reverse=t.pl []) ((∀ p∈As,p.1.length+p.2.tall<=100000)) (m=szP As),⟨_,[],[p1],[],[([],t)],none,none,none,rfl,?_,?_,?_,.nil,.cons ⟨p0,a,?_,?_,?_⟩ .nil,?_,?_,rfl⟩,?_⟩
 · exact au (s1.trans s2) Bn
 · rw [ag zS.symm];exact s2 _ _ FU
 · rw [ab];rfl
 · exact ad AV _ _ _ e1
 · exact ad AV _ _ _ e0
 · exact hA.mono (Same.kt (au (s1.trans s2) Bn))
 · simp [plP]
 · intro p hp;rw [VF] at hp;subst hp;simpa using zY
 rintro m σ H3 ⟨ms,as,Ms,As,c3,c4,c5,rfl,sm,em,ea,a1,a2,hw,hb,rfl⟩
 have hlen:ms.length+szP As<=100000:=by
  have h1:=congrArg Y4 hw;rw [VD,rJ,Th.pl_len,ko] at h1;have h2:=Vv a1;omega
 refine ⟨_,rfl,_,.inl ⟨_,SqL.of ea,rfl⟩,?_⟩;refine eK (fun c=>?_) (fun c=>?_)
 · refine ⟨fun zu H'=>∃ m',m'<szP As/\Ex7 fun (ms as:List Vd) (Ms As:List (List Int×Th)) (c3 c4 c5:Option V)=>An9 (zu=[some (.ref a),some (.ref mt),some (.ref ah),c3,c4,c5]) (L2.Same H H') (H' mt=some (.lst (ms.map V.ref))) (H' ah=some (.lst (as.map V.ref))) (PsAtK K H' Ms ms) (PsAtK K H' As as) (Ms++plP As.reverse=t.pl []) ((∀ p∈As,p.1.length+p.2.tall<=100000)) (m'=szP As),fun zu H' h=>h,?_⟩;have Ay:as≠[]:=by intro z;subst z;simp at c
   refine hid fun ZZ kZ=>?_;obtain ⟨zN,b,rfl⟩:∃ zN b,as=zN++[b]:=⟨as.dropLast,as.getLast Ay,(Xe Ay).symm⟩;obtain ⟨Us,⟨pre,x⟩,rfl,a3,pa,ta,eb,B3,B4⟩:=P2.snoc_inv a2;refine kZ ?_;have Io:szP (Us++[(pre,x)])=szP Us+x.size:=by rw [ck,szP,szP];rfl
   have Im:=x.size_eq;rw [Io] at hlen;have Ks:=hb (pre,x) (by simp);simp only at Ks B3 B4;refine ⟨_,rfl,.inl ⟨rfl,_,SqL.of ea⟩,ah,_,.ref b,rfl,rfl,ea,by simp,?_⟩;have d1:((zN++[b]).map V.ref).dropLast=zN.map V.ref:=by simp
   rw [d1];have k1:KT H3 (upd H3 ah (.lst (zN.map V.ref))):=aK ea;have E7:L2.Same H (upd H3 ah (.lst (zN.map V.ref))):=au sm Bn;have Cy:(upd H3 ah (.lst (zN.map V.ref))) mt=some (.lst (ms.map V.ref)):=by rw [ag zS.symm];exact em
   have FV:(upd H3 ah (.lst (zN.map V.ref))) ah=some (.lst (zN.map V.ref)):=ab;generalize (upd H3 ah (.lst (zN.map V.ref)))=H4 at k1 E7 Cy FV ⊢;refine ⟨b,_,rfl,SqT.of (k1 _ _ eb),rfl,_,_,rfl,_,_,rfl,rfl,?_⟩
   -- met.append((place,part))
   refine ⟨_,rfl,.inl ⟨rfl,_,SqL.of Cy⟩,_,rfl,_,rfl,ak (by show 2<=1000000;decide),fun pr Bo=>?_⟩;have Mh:mt≠pr:=az Cy Bo;refine ⟨mt,_,_,rfl,rfl,ad Bo _ _ _ Cy,aE (by rw [Vb];omega),?_⟩;have Mi:(upd H4 pr (.tup [.ref pa,.ref ta])) mt=some (.lst (ms.map V.ref)):=ad Bo _ _ _ Cy;have k2:KT H4 (upd (upd H4 pr (.tup [.ref pa,.ref ta])) mt (.lst (ms.map V.ref++[.ref pr]))):=(cS Bo).trans (aK Mi);have Mj:L2.Same H (upd (upd H4 pr (.tup [.ref pa,.ref ta])) mt (.lst (ms.map V.ref++[.ref pr]))):=au (au E7 (E7.free Bo)) Bj;have Pu:(upd (upd H4 pr (.tup [.ref pa,.ref ta])) mt (.lst (ms.map V.ref++[.ref pr]))) mt=some (.lst ((ms++[pr]).map V.ref)):=by rw [ab,Vs];rfl
   have Pw:(upd (upd H4 pr (.tup [.ref pa,.ref ta])) mt (.lst (ms.map V.ref++[.ref pr]))) ah=some (.lst (zN.map V.ref)):=by rw [ag zS,ag (az FV Bo)];exact FV
   have GH:(upd (upd H4 pr (.tup [.ref pa,.ref ta])) mt (.lst (ms.map V.ref++[.ref pr]))) pr=some (.tup [.ref pa,.ref ta]):=by rw [ag Mh.symm,ab]
   generalize (upd (upd H4 pr (.tup [.ref pa,.ref ta])) mt (.lst (ms.map V.ref++[.ref pr])))=H5 at k2 Mj Pu Pw GH ⊢;have GI:KT H3 H5:=k1.trans k2;have Ml:=GI _ _ B3
   -- kids
   refine ⟨_,rfl,ta,x,rfl,B4.mono GI,fun r ks H6 s6 er CL=>⟨r,rfl,⟨_,SqT.of er⟩,?_⟩⟩;have BV:ks.length=x.kids.length:=CL.length;have Mm:=bU x.kids;intro D hD;have Ip:=s6 _ _ Ml;refine ⟨ks.length,fun j H7=>An3 (j<=ks.length) (L2.Same H6 H7) (Ex1 fun (bs:List Vd)=>An2 (H7 D=some (.lst (bs.map V.ref))) (PsAtK K H7 ((cC pre 0 x.kids).take j) bs)),⟨VJ _,ad hD _,[],ab,.nil⟩,?_⟩;rintro j H7 ⟨hj,s7,bs,eD,zO⟩;by_cases BF:j=ks.length
   · left;refine ⟨⟨_,SqT.of (s7 _ _ er),by rw [Vb];exact BF.symm⟩,?_⟩;have zE:(cC pre 0 x.kids).take j=cC pre 0 x.kids:=by rw [BF,BV,<- f9 pre 0 x.kids,W6]
     rw [zE] at zO;have Mn:=s7 _ _ (s6 _ _ Pw);have Iq:=s7 _ _ (s6 _ _ Pu)
     have AM:bs.length=x.kids.length:=by
      have:=Vv zO;rw [f9] at this;exact this.symm
     refine ⟨_,rfl,.inl ⟨rfl,_,SqL.of Mn⟩,_,rfl,D,_,rfl,SqL.of eD,fun l hl=>?_⟩;have Eh:ah≠l:=az Mn hl;have GJ:mt≠l:=az Iq hl;have Ir:(upd H7 l (.lst (bs.map V.ref).reverse)) ah=some (.lst (zN.map V.ref)):=by rw [ag Eh];exact Mn
     have q3:zN.length=Us.length:=(Vv a3).symm;have q4:=nu Us;refine ⟨ah,l,_,_,rfl,rfl,Ir,ab,ak ?_,?_⟩
     · rw [Vb,WB,Vb];omega
     have k8:KT H7 (upd (upd H7 l (.lst (bs.map V.ref).reverse)) ah (.lst (zN.map V.ref++(bs.map V.ref).reverse))):=(cS hl).trans (aK Ir);have E8:KT H3 (upd (upd H7 l (.lst (bs.map V.ref).reverse)) ah (.lst (zN.map V.ref++(bs.map V.ref).reverse))):=GI.trans ((Same.kt (s6.trans s7)).trans k8);refine ⟨szP (Us++(cC pre 0 x.kids).reverse),?_,ms++[pr],zN++bs.reverse,Ms++[(pre,x)],Us++(cC pre 0 x.kids).reverse,_,_,_,rfl,?_,?_,?_,?_,?_,?_,?_,rfl⟩
     · rw [ck,ko,iF,Io];omega
     · exact au (au ((Mj.trans s6).trans s7) ((Mj.trans s6).trans s7 |>.free hl)) Bn
     · rw [ag zS.symm,ag GJ];exact Iq
     · rw [ab,Vs,ZS]
     · exact P2.append (a1.mono E8) (.cons ⟨pa,ta,k8 _ _ (s7 _ _ (s6 _ _ GH)),E8 _ _ B3,B4.mono E8⟩ .nil)
     · exact P2.append (PsAtK.mono E8 a3) (P2.reverse (PsAtK.mono k8 zO))
     · rw [<- hw,V8,WJ,WJ,Xf,lh,pR];show Ms++([(pre,x)]++(pls pre 0 x.kids++plP Us.reverse))=Ms++plP ((pre,x)::Us.reverse);rw [plP,x.pl_eq pre];rfl
     · intro p hp;rcases VX.mp hp with hp | hp
       · exact hb p (V6 _ hp)
       · obtain ⟨g1,g2⟩:=lO pre 0 x.kids p (List.mem_reverse.mp hp);have:=nL g2;omega
   · right;have zR:j<ks.length:=by omega
     refine ⟨zR,⟨_,.ref ks[j],SqT.of (s7 _ _ er),by rw [Vp,Ve zR];rfl⟩,?_⟩;rintro y H8 ⟨p,v,hp,rfl,rfl,hv⟩;have AK:=hv _ (SqT.of (s7 _ _ er));obtain ⟨kd,rfl,GK⟩:=aV AK;obtain ⟨tk,Bf,Mo⟩:=CL.get GK;have s8:L2.Same H7 (upd H7 p (.tup [.int (j:Nat),.ref kd])):=ad hp _;refine ⟨p,_,rfl,SqT.of ab,rfl,_,_,rfl,_,_,rfl,rfl,?_⟩;generalize (upd H7 p (.tup [.int (j:Nat),.ref kd]))=H8 at s8 ⊢;refine ⟨_,rfl,_,rfl,ak (by show 1<=1000000;decide),fun n1 E9=>?_⟩;have s9:L2.Same H8 (upd H8 n1 (.tup [.int (j:Nat)])):=ad E9 _;have e9:(upd H8 n1 (.tup [.int (j:Nat)])) n1=some (.tup [.int (j:Nat)]):=ab;generalize (upd H8 n1 (.tup [.int (j:Nat)]))=H9 at s9 e9 ⊢;refine qx (s9 _ _ (s8 _ _ (s7 _ _ Ip))) e9 (by rw [Vb];show pre.length+1<=1000000;omega) fun n2 Az Ag D4=>?_;refine ⟨_,rfl,ak (by show 2<=1000000;decide),fun n3 E'=>?_⟩;have Be:L2.Same H7 (upd Az n3 (.tup [.ref n2,.ref kd])):=(s8.trans (s9.trans Ag)).trans (ad E' _);have Iu:=Be _ _ eD;refine ⟨_,Iu,aE ?_,zR,?_,bs++[n3],?_,?_⟩
     · have:=Vv zO;rw [Wl] at this;rw [Vb];omega
     · exact au (s7.trans Be) hD
     · rw [ab,Vs];rfl
     · have Kt:KT (upd Az n3 (.tup [.ref n2,.ref kd])) (upd (upd Az n3 (.tup [.ref n2,.ref kd])) D (.lst (bs.map V.ref++[.ref n3]))):=aK Iu;rw [Ww,lM pre 0 x.kids j tk Bf];refine P2.append (PsAtK.mono ((Same.kt Be).trans Kt) zO) (.cons ⟨n2,kd,Kt _ _ ab,Kt _ _ (ad E' _ _ _ ?_),?_⟩ .nil)
       · rw [D4,Vs,Xl];rfl
       · exact Mo.mono ((Same.kt (s7.trans Be)).trans Kt)
 · have hz:as=[]:=by
    cases as with
    | nil=>rfl
    | cons y ys=>simp at c
   subst hz;have CN:As=[]:=WA.mp (Vv a2);subst CN;refine ⟨_,rfl,k mt ms H3 sm Bj em ?_⟩;have FT:Ms=t.pl []:=by simpa [plP] using hw
   rw [<- FT];exact a1
inductive mT (K:Vc) (vs:List V) (H:Hp) (Q:VK) (_E:XK):Prop
 | mk (l:Vd) (as:List Vd) (tops:List Top) (u:Th) (zI:vs=[.ref l]) (zJ:H l=some (.lst (as.map V.ref))) (zP:VW (TopAtK K H) tops as) (zZ:tops.length<=100000) (Ai:TopsOk tops) (AX:(∀ t,Top.th t∈tops->t.size<=100000)) (Eg:bl tops=[u]) (Fy:∀ (r:Vd) (H':Hp),L2.Same H H'->AtK K H' u r->Q (.ref r) H'):mT K vs H Q _E
def t7 (K:Vc):Sp:=mT K
theorem i3:aW P w K mg base CX0 1 T.g_built.f T.g_built.d ["tops"] (t7 K):=by
 refine T.g_built.F.ok iN (fun vs H Q E h=>?_) (fun zG A outer s H vs Q E hr h=>?_)
 · obtain ⟨l,as,tops,u,rfl,_⟩:=h;rfl
 obtain ⟨l,as,tops,u,rfl,el,hT,hlen,hok,Mp,hu,k⟩:=h
 refine ⟨_,(ae (aA (i:=1) iN.nd rfl (Zo rfl) (bq ac))
  (ae (bw VZ rfl (wV rfl T.n_reversed (pv 0)) (ba rfl (aq (aj (i:=2) iN.nd rfl (VE rfl)) (aq (aj (i:=3) iN.nd rfl (VE rfl)) aN))) (af (dF (ci pq (pv 3) am (bP _)) (af (aP (bK Vy VQ VP aL (pv 1) (aa (aH eZ (pv 2) (bz be rfl T.n_tuple WM (aa (cj (N:=[Vf "number",Vf "done"]) (js:=[none,some 1]) (g:=(ax 0)) (tt:=bH) (te:=(x8 K "list" (yE) (bc 1))) rfl (cv rfl (by decide +kernel) (by decide +kernel) rfl rfl rfl) (bp rfl T.n_range (aa (pv 3) ac)) (fun _ _ _ _ _ _=>(aj (i:=0) zj rfl (VE rfl))) (aO rfl) (fun _ _ _ _ _ _=>bO) (fun _ _ _ _ _ _=>(jm Vy XU XT jx (pv 1)))) ac))) ac)))) (af (aP (bK Vy VQ VP aL (pv 1) (aa (pv 2) ac)))))))
  (af (aC (aZ bu (pv 1) am (fun _ _=>rfl)))))),?_⟩
 try dsimp only [zV,zC]
 have AN:tops.length=as.length:=Vv hT;refine ⟨ak (by show 0<=1000000;decide),fun dn Ku=>?_⟩;refine ⟨_,rfl,l,_,rfl,SqL.of (ad Ku _ _ _ el),?_⟩
 refine wn (K:=K) (a:=l) (xs:=as.map V.ref) (fun i σ H2=>Ex3 fun c2 c3 ds=>An4 (σ=[some (.ref l),some (.ref dn),c2,c3]) (L2.Same H H2) (H2 dn=some (.lst (ds.map V.ref))) (AtsK K H2 (bl (tops.drop (tops.length - i))).reverse ds))
  ⟨none,none,[],rfl,ad Ku _,ab,by rw [Nat.sub_zero,List.drop_length];exact .nil⟩ (fun i σ H2 _ ⟨_,_,_,_,s2,_,_⟩=>SqL.of (s2 _ _ el)) ?_ ?_
 · rintro i y σ H2 hi hy ⟨c2,c3,ds,rfl,s2,Em,BC⟩;rw [Vb,<- AN] at hi hy;obtain ⟨pr,rfl,Bo⟩:=aV hy;obtain ⟨x,hx,Mq⟩:=P2.get' hT Bo;have Iv:=Mq.mono (Same.kt s2);have hn:tops.length - 1 - i<tops.length:=by omega
   have Kv:tops.drop (tops.length - 1 - i)=x::tops.drop (tops.length - i):=by
    rw [ZE hn,show tops.length - 1 - i+1=tops.length - i by omega];congr 1;rw [Ve hn] at hx;exact VL hx
   have En:=hok.drop (tops.length - 1 - i);rw [Kv] at En;have Fb:tops.length - (i+1)=tops.length - 1 - i:=by omega
   have LH:(bl (tops.drop (tops.length - i))).length<=100000:=by
    have:=qF (tops.drop (tops.length - i));rw [Ze] at this;omega
   generalize tops.drop (tops.length - i)=S at Kv BC En LH;refine hid fun ZZ kZ=>?_
   obtain ⟨ta,m,xs,GH,eta,hm,UB,BU⟩:∃ (ta:Vd) (m:Nat) (xs:List V),H2 pr=some (.tup [.ref ta,.int (m:Nat)])/\TK K H2 ta xs/\m<=(bl S).length/\xs.length<=200000/\∀ (H':Hp) (p:Vd) (ks:List Vd),KT H2 H'->AtsK K H' ((bl S).take m) ks->TK K H' p (xs++ks.map V.ref)->∃ u',bl (x::S)=u'::(bl S).drop m/\AtK K H' u' p:=by
    cases x with
    | nm n m =>
      rw [TopsOk] at En;obtain ⟨ta,h1,h2,h3⟩:=Iv;refine ⟨ta,m,_,h1,h3,En.1,(by show 1<=200000;decide),fun H' p ks kt hk hp=>⟨_,by rw [bl],?_⟩⟩;rw [AtK];exact ⟨h2,ks,hp,hk⟩
    | th t =>
      obtain ⟨ta,h1,h2⟩:=Iv;obtain ⟨xs,h3,hw,h4⟩:=h2.whole;have Aj:=Mp t (Vh hx);refine ⟨ta,0,_,h1,h3,VJ _,by omega,fun H' p ks kt hk hp=>⟨t,by rw [bl,YG],?_⟩⟩;rw [Yi,AtsK] at hk;subst hk;rw [Xd,V7] at hp;exact h4 _ _ kt hp
   refine kZ ?_;refine ⟨pr,_,rfl,SqT.of GH,rfl,_,_,rfl,_,_,rfl,rfl,?_⟩;have Mr:=BC.length;rw [WB] at Mr;refine dq (fun b H'=>An2 (H'=H2) (b=decide ((0:Int)<(m:Int)))) (fun kk By=>?_) (fun H' hb=>?_) (fun H' hb=>?_)
   · exact ⟨_,rfl,_,_,rfl,rfl,_,rfl,By _ _ ⟨rfl,rfl⟩⟩
   rotate_left
   · obtain ⟨rfl,hb⟩:=hb
     have Sd:m=0:=by
      have:=of_decide_eq_false hb.symm;omega
     subst Sd;obtain ⟨u',Bv,B5⟩:=BU H' ta [] (Same.kt (.refl _)) (by rw [Yi];exact .nil) (by rw [Xd,V7];exact eta);refine ⟨_,rfl,.inl ⟨rfl,_,SqL.of Em⟩,_,rfl,dn,_,_,rfl,rfl,Em,aE (by rw [Vb];omega),?_⟩;have k6:KT H' (upd H' dn (.lst (ds.map V.ref++[.ref ta]))):=aK Em;refine ⟨_,_,ds++[ta],rfl,?_,by rw [ab,Vs];rfl,?_⟩
     · intro b o e;rw [ag (az e Ku)];exact s2 b o e
     · rw [Fb,Kv,Bv,Wj];rw [YG];exact (BC.mono k6).append (.cons (B5.mono k6) .nil)
   obtain ⟨rfl,hb⟩:=hb;refine ⟨_,rfl,.inl ⟨rfl,_,SqL.of Em⟩,_,rfl,?_⟩;refine ⟨_,rfl,(m:Int),rfl,by omega,by omega,fun D hD=>?_⟩;have Mt:D≠dn:=fun z=>by rw [z,Em] at hD;cases hD
   have Bj:((m:Nat):Int).toNat=m:=Wg m
   refine ⟨m,fun j H3=>An3 (j<=m) ((∀ b o,H' b=some o->b≠dn->H3 b=some o)) (Ex2 fun (Eo ks:List Vd)=>An4 (H3 dn=some (.lst (Eo.map V.ref))) (H3 D=some (.lst (ks.map V.ref))) (AtsK K H3 ((bl S).drop j).reverse Eo) (AtsK K H3 ((bl S).take j) ks)),
    ⟨VJ _,fun b o e hb=>?_,ds,[],?_,?_,?_,?_⟩,?_⟩
   · rw [ag (az e hD)];exact e
   · rw [ag Mt.symm];exact Em
   · rw [ab];rfl
   · rw [YG];exact BC.mono (cS hD)
   · rw [Yi];exact .nil
   rintro j H3 ⟨hj,kp,Eo,ks,ed,eD,Iw,hd2⟩;by_cases Px:j=m
   · left;refine ⟨(by show ((m:Nat):Int).toNat<=j;rw [Bj,Px];exact Vj _),?_⟩;subst Px;have Iy:KT H' H3:=fun b UC e=>kp b _ e (fN e Em (by intro z;cases z));refine ⟨D,_,rfl,.inl ⟨SqL.of eD,fun tp C7=>?_⟩⟩;have s4:L2.Same H3 (upd H3 tp (.tup (ks.map V.ref))):=ad C7 _;have e4:(upd H3 tp (.tup (ks.map V.ref))) tp=some (.tup (ks.map V.ref)):=ab;generalize (upd H3 tp (.tup (ks.map V.ref)))=H4 at s4 e4 ⊢;have BV:=hd2.length;refine zb ((eta.mono Iy).mono (Same.kt s4)) (.of e4) (by rw [Vb,BV,Wl];omega) fun p H5 s5 e5=>?_;have Iz:=s4.trans s5;have Py:=Iz _ _ ed;have Ep:=Iy.trans (Same.kt Iz);obtain ⟨u',Bv,B5⟩:=BU H5 p ks Ep (hd2.mono (Same.kt Iz)) e5;have GF:=Iw.length;rw [WB,Ze] at GF;refine ⟨dn,_,_,rfl,rfl,Py,aE (by rw [Vb];omega),?_⟩;have k6:KT H5 (upd H5 dn (.lst (Eo.map V.ref++[.ref p]))):=aK Py;refine ⟨_,_,Eo++[p],rfl,?_,by rw [ab,Vs];rfl,?_⟩
     · intro b o e;have hb:b≠dn:=az e Ku;rw [ag hb];exact Iz _ _ (kp b o (s2 b o e) hb)
     · rw [Fb,Kv,Bv,Wj];exact (Iw.mono ((Same.kt Iz).trans k6)).append (.cons (B5.mono k6) .nil)
   · right;have zR:j<m:=by omega
     refine ⟨zR,(by show j<((m:Nat):Int).toNat;rw [Bj];exact zR),?_⟩;rintro x' H4 ⟨e1,e2⟩;have BD:H4=H3:=e1;subst BD;have Pz:j<(bl S).length:=by omega
     have Se:(bl S).drop j=(bl S)[j]::(bl S).drop (j+1):=ZE Pz;rw [Se,Wj] at Iw
     have zS:Eo≠[]:=by
      intro z;subst z;have:=Iw.length;rw [VD] at this;simp at this
     refine hid fun ZZ kZ=>?_;obtain ⟨FW,b,rfl⟩:∃ FW b,Eo=FW++[b]:=⟨Eo.dropLast,Eo.getLast zS,(Xe zS).symm⟩;obtain ⟨Us,x2,e3,hU,zT⟩:=Iw.snoc_inv;have e4:=List.append_inj' e3 rfl;obtain ⟨e5,e6⟩:=e4;refine kZ ?_;cases e6;subst e5;refine ⟨_,rfl,.inl ⟨rfl,_,SqL.of ed⟩,dn,_,.ref b,rfl,rfl,ed,by simp,?_⟩;have d1:((FW++[b]).map V.ref).dropLast=FW.map V.ref:=by simp
     rw [d1];have GL:(upd H4 dn (.lst (FW.map V.ref))) D=some (.lst (ks.map V.ref)):=by rw [ag Mt];exact eD
     have k5:KT H4 (upd (upd H4 dn (.lst (FW.map V.ref))) D (.lst (ks.map V.ref++[.ref b]))):=(aK ed).trans (aK GL);refine ⟨_,GL,aE (by rw [Vb,hd2.length,Wl];omega),zR,fun b' o e Aj=>?_,FW,ks++[b],?_,?_,hU.mono k5,?_⟩
     · rw [ag (az e hD),ag Aj];exact kp b' o e Aj
     · rw [ag Mt.symm,ab]
     · rw [ab,Vs];rfl
     · rw [Ww,Ve Pz];exact (hd2.mono k5).append (.cons (zT.mono k5) .nil)
 · rintro σ H2 ⟨c2,c3,ds,rfl,s2,Em,BC⟩;rw [Vb,<- AN,Nat.sub_self,YG,hu] at BC;have IC:AtsK K H2 [u] ds:=BC;rw [AtsK] at IC;obtain ⟨b,r,rfl,hb,FP⟩:=IC;exact ⟨_,rfl,dn,_,0,.ref b,rfl,rfl,SqL.of Em,at0,k b H2 s2 hb⟩
inductive lG (K:Vc) (vs:List V) (H:Hp) (Q:VK) (_E:XK):Prop
 | mk (a:Vd) (t:Th) (zI:vs=[.ref a]) (zJ:AtK K H t a) (zP:t.size<=100000) (zZ:t.tall<=100000) (Ai:∀ (r:Vd) (ps:List Vd) (H':Hp),L2.Same H H'->H r=none->H' r=some (.lst (ps.map V.ref))->VW (fun (p:List Int×Th) b=>H' b=some (.tup (p.1.map V.int))) (t.pl []) ps->Q (.ref r) H'):lG K vs H Q _E
def sN (K:Vc):Sp:=lG K
theorem sO:aW P w K mg base CX0 3 T.g_places.f T.g_places.d ["tree"] (sN K):=by
 refine T.g_places.F.ok tq (fun vs H Q E h=>?_) (fun zG A outer s H vs Q E hr h=>?_)
 · obtain ⟨a,t,rfl,_⟩:=h;rfl
 obtain ⟨a,t,rfl,hA,hsz,zY,k⟩:=h;refine ⟨_,(af (aC (cj (N:=[Vf "place",Vf "knot"]) (js:=[none,none]) (g:=(mh K 2 (cD (ax 0) (cD (ax 1) mi)))) (tt:=bH) (te:=(bc 0)) rfl (cv rfl (by decide +kernel) (by decide +kernel) rfl rfl rfl) (cf (pcF T.g_placed (gr T) hr (aa (pv 0) ac))) (fun _ _ _ _ _ _=>(ba rfl (aq (aj (i:=0) xV rfl (VE rfl)) (aq (aj (i:=1) xV rfl (VE rfl)) aN)))) (gh (bI aS (aO rfl) (bI aS (aO rfl) f8))) (fun _ _ _ _ _ _=>bO) (fun _ _ _ _ _ _=>(pv 0))))),?_⟩
 try dsimp only [zV,zC]
 refine ⟨_,rfl,a,t,rfl,hA,hsz,zY,fun r as H1 s1 nr er Am=>⟨r,rfl,⟨_,SqL.of er⟩,?_⟩⟩;have AN:(t.pl []).length=as.length:=Vv Am;rw [Th.pl_len] at AN;refine hid fun ZZ kZ=>?_;obtain ⟨bs,CO,zT,Mu⟩:=mx Am;refine kZ ?_;refine gN bs (fun _=>true) V.ref (SqL.of er) (by rw [Vb];exact zT) (by rw [Vb];omega) (fun i x z H2 R R0 hx hz sm g1 g2=>?_) (fun D hD=>?_)
 · obtain ⟨a',ta,rfl,ea⟩:=Mu i x z hx hz;refine ⟨a',_,rfl,SqT.of (sm _ _ ea),rfl,_,_,rfl,_,_,rfl,rfl,?_⟩;refine wZ (B:=R0 H2) ?_;exact ⟨_,rfl,g1 rfl⟩
 · rw [filter_tt];exact k D bs _ (s1.trans (ad hD _)) (s1.free hD) ab (P2.mp (fun _ _ e=>ad hD _ _ _ e) CO)
inductive jR (K:Vc) (vs:List V) (H:Hp) (Q:VK) (_E:XK):Prop
 | mk (a:Vd) (t:Th) (zI:vs=[.ref a]) (zJ:AtK K H t a) (zP:Q (.bl t.isCall) H):jR K vs H Q _E
def g8 (K:Vc):Sp:=jR K
theorem dr:aW P w K mg base CX0 1 T.g_is_call.f T.g_is_call.d ["thing"] (g8 K):=by
 refine T.g_is_call.F.ok qc (fun vs H Q E h=>?_) (fun zG A outer s H vs Q E hr h=>?_)
 · obtain ⟨a,t,rfl,_⟩:=h;rfl
 obtain ⟨a,t,rfl,hA,k⟩:=h;refine ⟨_,(af (aC (dS mF (aZ bL (pv 0) am (fun _ _=>rfl)) (b9 (v:=.str (Vf "?")) rfl T.c_CALL_SIGN.choose_spec ⟨_,rfl⟩) (bP _)))),?_⟩
 try dsimp only [zV,zC]
 cases t with
 | knot n ks =>
   rw [AtK] at hA;refine hid fun ZZ kZ=>?_;obtain ⟨hn,as,h1,h2⟩:=hA;refine kZ ?_;refine ⟨_,rfl,a,_,0,.str n,rfl,rfl,h1.sq,at0,rfl,?_⟩;have e:decide (V.str n=V.str (Vf "?"))=false:=decide_eq_false (fun z=>hn (V.str.inj z));rw [e];exact k
 | call sn kn =>
   rw [AtK] at hA;refine ⟨_,rfl,a,_,0,.str q,rfl,rfl,hA.sq,at0,rfl,?_⟩;have e:decide (V.str q=V.str (Vf "?"))=true:=decide_eq_true rfl;rw [e];exact k
inductive jJ (K:Vc) (vs:List V) (H:Hp) (Q:VK) (_E:XK):Prop
 | mk (a:Vd) (t:Th) (zI:vs=[.ref a]) (zJ:AtK K H t a) (zP:t.tall<=150) (zZ:Q (.bl t.isHole) H):jJ K vs H Q _E
def kI (K:Vc):Sp:=jJ K
theorem fq:aW P w K mg base CX0 1 T.g_is_hole.f T.g_is_hole.d ["thing"] (kI K):=by
 refine T.g_is_hole.F.ok qB (fun vs H Q E h=>?_) (fun zG A outer s H vs Q E hr h=>?_)
 · obtain ⟨a,t,rfl,_⟩:=h;rfl
 obtain ⟨a,t,rfl,hA,zY,k⟩:=h;refine ⟨_,(af (aC (dS (se (B:=150) (iX hr)) (pv 0) (b9 (v:=.ref T.a_HOLE) rfl T.c_HOLE rfl) (bP _)))),?_⟩
 try dsimp only [zV,zC]
 refine ⟨_,rfl,?_⟩;exact vI hA (TK.const T.q_HOLE) zY k
inductive jM (K:Vc) (vs:List V) (H:Hp) (Q:VK) (_E:XK):Prop
 | mk (a:Vd) (t:Th) (zI:vs=[.ref a]) (zJ:AtK K H t a) (zP:t.tall<=150) (zZ:Q (.bl t.isKnot) H):jM K vs H Q _E
def qr (K:Vc):Sp:=jM K
theorem qw:aW P w K mg base CX0 2 T.g_is_knot.f T.g_is_knot.d ["thing"] (qr K):=by
 refine T.g_is_knot.F.ok qE (fun vs H Q E h=>?_) (fun zG A outer s H vs Q E hr h=>?_)
 · obtain ⟨a,t,rfl,_⟩:=h;rfl
 obtain ⟨a,t,rfl,hA,zY,k⟩:=h;refine ⟨_,(af (aC (lw (tZ (pcF T.g_is_call (dr T) hr (aa (pv 0) ac))) (qz (tZ (pcF T.g_is_hole (fq T) hr (aa (pv 0) ac))))))),?_⟩
 try dsimp only [zV,zC]
 refine ⟨_,rfl,a,t,rfl,hA,_,rfl,_,rfl,?_⟩;refine eK (fun c=>?_) (fun c=>?_)
 · refine ⟨_,rfl,a,t,rfl,hA,zY,_,rfl,?_⟩;have e:t.isKnot=!t.isHole:=by unfold Th.isKnot;rw [c];rfl
   rw [e] at k;exact k
 · have e:t.isKnot=false:=by unfold Th.isKnot;rw [WO.mpr c];rfl
   rw [e] at k;exact k
inductive gS (K:Vc) (vs:List V) (H:Hp) (Q:VK) (_E:XK):Prop
 | mk (a:Vd) (sn kn:Int) (zI:vs=[.ref a]) (zJ:AtK K H (.call sn kn) a) (zP:∀ p,H p=none->Q (.ref p) (upd H p (.tup [.int sn,.int kn]))):gS K vs H Q _E
def fc (K:Vc):Sp:=gS K
theorem fj:aW P w K mg base CX0 1 T.g_called_by.f T.g_called_by.d ["call"] (fc K):=by
 refine T.g_called_by.F.ok nU (fun vs H Q E h=>?_) (fun zG A outer s H vs Q E hr h=>?_)
 · obtain ⟨a,sn,kn,rfl,_⟩:=h;rfl
 obtain ⟨a,sn,kn,rfl,hA,k⟩:=h;refine ⟨_,(af (aC (aB (aa (aZ bL (pv 0) am (fun _ _=>rfl)) (aa (aZ bL (pv 0) am (fun _ _=>rfl)) ac))))),?_⟩
 try dsimp only [zV,zC]
 rw [AtK] at hA;exact ⟨_,rfl,a,_,1,_,rfl,rfl,hA.sq,at1,_,rfl,a,_,2,_,rfl,rfl,hA.sq,at2,ak (by show 2<=1000000;decide),fun p hp=>k p hp⟩
inductive iZ (K:Vc) (vs:List V) (H:Hp) (Q:VK) (_E:XK):Prop
 | mk (a:Vd) (t:Th) (zI:vs=[.ref a]) (zJ:AtK K H t a) (zP:t.size<=100000) (zZ:t.tall<=100000) (Ai:∀ (r:Vd) (as:List Vd) (H':Hp),L2.Same H H'->H r=none->H' r=some (.lst (as.map V.ref))->CsAt H' (callsOf (t.pl [])) as->Q (.ref r) H'):iZ K vs H Q _E
def pK (K:Vc):Sp:=iZ K
theorem oZ:aW P w K mg base CX0 3 T.g_calls_in.f T.g_calls_in.d ["pattern"] (pK K):=by
 refine T.g_calls_in.F.ok pk (fun vs H Q E h=>?_) (fun zG A outer s H vs Q E hr h=>?_)
 · obtain ⟨a,t,rfl,_⟩:=h;rfl
 obtain ⟨a,t,rfl,hA,hsz,zY,k⟩:=h;refine ⟨_,(af (aC (cj (N:=[Vf "place",Vf "part"]) (js:=[none,none]) (g:=(mh K 2 (cD (ax 0) (cD (ax 1) mi)))) (tt:=(fun σ H Q=>(cW (g8 K) [] E0 (aJ (bc 1) cy)) σ H fun x H1=>∃ k,tS K x H1 k/\Q k H1)) (te:=(kb (aJ (bc 0) (aJ (cW (fc K) [] E0 (aJ (bc 1) cy)) cy)))) rfl (cv rfl (by decide +kernel) (by decide +kernel) rfl rfl rfl) (cf (pcF T.g_placed (gr T) hr (aa (pv 0) ac))) (fun _ _ _ _ _ _=>(ba rfl (aq (aj (i:=0) vN rfl (VE rfl)) (aq (aj (i:=1) vN rfl (VE rfl)) aN)))) (gh (bI aS (aO rfl) (bI aS (aO rfl) f8))) (fun _ _ _ _ _ _=>i5 (bi (pcF T.g_is_call (dr T) hr (aa (pv 1) ac)) (fun _=>rfl))) (fun _ _ _ _ _ _=>(aB (aa (pv 0) (aa (pcF T.g_called_by (fj T) hr (aa (pv 1) ac)) ac))))))),?_⟩
 try dsimp only [zV,zC]
 refine ⟨_,rfl,a,t,rfl,hA,hsz,zY,fun r as H1 s1 nr er Am=>⟨r,rfl,⟨_,SqL.of er⟩,?_⟩⟩;have AN:(t.pl []).length=as.length:=Vv Am;have Av:=Th.pl_len [] t;intro D hD;refine ⟨as.length,fun j H2=>An3 (j<=as.length) (L2.Same H1 H2) (Ex1 fun (bs:List Vd)=>An2 (H2 D=some (.lst (bs.map V.ref))) (CsAt H2 (callsOf ((t.pl []).take j)) bs)),⟨VJ _,ad hD _,[],ab,.nil⟩,?_⟩;rintro j H2 ⟨hj,s2,bs,eD,zO⟩;by_cases BF:j=as.length
 · left;refine ⟨⟨_,SqL.of (s2 _ _ er),by rw [Vb,BF];exact Vj _⟩,?_⟩;have zE:(t.pl []).take j=t.pl []:=by rw [BF,<- AN,W6]
   rw [zE] at zO;exact k D bs H2 (s1.trans s2) (s1.free hD) eD zO
 · right;have zR:j<as.length:=by omega
   refine ⟨zR,⟨_,.ref as[j],SqL.of (s2 _ _ er),by rw [Vp,Ve zR];rfl⟩,?_⟩;rintro y H3 ⟨rfl,hv⟩;have AK:=hv _ (SqL.of (s2 _ _ er));refine hid fun ZZ kZ=>?_;obtain ⟨pr,rfl,Bo⟩:=aV AK;obtain ⟨⟨p,u⟩,Mv,pa,ta,e1,e2,e3⟩:=P2.get' (Am.mono (Same.kt s2)) Bo;refine kZ ?_;simp only at e2 e3;have Bf:(t.pl []).take (j+1)=(t.pl []).take j++[(p,u)]:=by rw [Ww,Mv];rfl
   have AM:bs.length<=j:=by
    have g1:=Vv zO;have g2:=jU ((t.pl []).take j);rw [Wl] at g2;omega
   refine ⟨pr,_,rfl,SqT.of e1,rfl,_,_,rfl,_,_,rfl,rfl,?_⟩;refine ⟨_,rfl,ta,u,rfl,e3,_,rfl,?_⟩;cases u with
   | knot n ks =>
     refine tw ⟨zR,s2,bs,eD,?_⟩;rw [Bf,dD];show CsAt H3 (callsOf ((t.pl []).take j)++[]) bs;rw [V7];exact zO
   | call sn kn =>
     refine wZ ?_;refine ⟨_,rfl,_,rfl,ta,sn,kn,rfl,e3,fun ca Mw=>⟨ak (by show 2<=1000000;decide),fun n3 E'=>?_⟩⟩;have s4:L2.Same H3 (upd (upd H3 ca (.tup [.int sn,.int kn])) n3 (.tup [.ref pa,.ref ca])):=(ad Mw _).trans (ad E' _);have Fc:=s4 _ _ eD;refine ⟨_,Fc,aE (by rw [Vb];omega),zR,au (s2.trans s4) hD,bs++[n3],?_,?_⟩
     · rw [ab,Vs];rfl
     · have k5:KT (upd (upd H3 ca (.tup [.int sn,.int kn])) n3 (.tup [.ref pa,.ref ca])) (upd (upd (upd H3 ca (.tup [.int sn,.int kn])) n3 (.tup [.ref pa,.ref ca])) D (.lst (bs.map V.ref++[.ref n3]))):=aK Fc;rw [Bf,dD];exact P2.append (CsAt.mono ((Same.kt s4).trans k5) zO) (.cons ⟨pa,ca,k5 _ _ ab,k5 _ _ (s4 _ _ e2),k5 _ _ (ad E' _ _ _ ab)⟩ .nil)
inductive i6 (K:Vc) (vs:List V) (H:Hp) (Q:VK) (_E:XK):Prop
 | mk (a:Vd) (t:Th) (zI:vs=[.ref a]) (zJ:AtK K H t a) (zP:t.size<=100000) (zZ:t.tall<=150) (Ai:∀ (r:Vd) (ps:List Vd) (H':Hp),L2.Same H H'->H' r=some (.lst (ps.map V.ref))->VW (fun (p:List Int) b=>H' b=some (.tup (p.map V.int))) (((t.pl []).filter fun p=>p.2.isHole).map (·.1)) ps->Q (.ref r) H'):i6 K vs H Q _E
def pJ (K:Vc):Sp:=i6 K
theorem j1:aW P w K mg base CX0 3 T.g_holes_in.f T.g_holes_in.d ["front"] (pJ K):=by
 refine T.g_holes_in.F.ok p8 (fun vs H Q E h=>?_) (fun zG A outer s H vs Q E hr h=>?_)
 · obtain ⟨a,t,rfl,_⟩:=h;rfl
 obtain ⟨a,t,rfl,hA,hsz,zY,k⟩:=h;refine ⟨_,(af (aC (cj (N:=[Vf "place",Vf "part"]) (js:=[none,none]) (g:=(mh K 2 (cD (ax 0) (cD (ax 1) mi)))) (tt:=(fun σ H Q=>(cW (kI K) [] E0 (aJ (bc 1) cy)) σ H fun x H1=>∃ k,tS K x H1 k/\Q k H1)) (te:=(bc 0)) rfl (cv rfl (by decide +kernel) (by decide +kernel) rfl rfl rfl) (cf (pcF T.g_placed (gr T) hr (aa (pv 0) ac))) (fun _ _ _ _ _ _=>(ba rfl (aq (aj (i:=0) vN rfl (VE rfl)) (aq (aj (i:=1) vN rfl (VE rfl)) aN)))) (gh (bI aS (aO rfl) (bI aS (aO rfl) f8))) (fun _ _ _ _ _ _=>i5 (bi (pcF T.g_is_hole (fq T) hr (aa (pv 1) ac)) (fun _=>rfl))) (fun _ _ _ _ _ _=>(pv 0))))),?_⟩
 try dsimp only [zV,zC]
 refine ⟨_,rfl,a,t,rfl,hA,hsz,by omega,fun r as H1 s1 nr er Am=>⟨r,rfl,⟨_,SqL.of er⟩,?_⟩⟩;have AN:(t.pl []).length=as.length:=Vv Am;have Av:=Th.pl_len [] t;obtain ⟨bs,CO,zT⟩:=pick (G:=fun (p:List Int×Th) a b=>∃ ta,H1 a=some (.tup [.ref b,.ref ta])/\H1 b=some (.tup (p.1.map V.int))/\AtK K H1 p.2 ta) (fun p a ⟨pa,ta,h1,h2,h3⟩=>⟨pa,ta,h1,h2,h3⟩) Am;refine gN ((t.pl []).zip bs) (fun z=>z.1.2.isHole) (fun z=>V.ref z.2) (SqL.of er) (by rw [Vb,Yu];omega) (by rw [Vb];omega) (fun i x z H2 R R0 hx hz sm g1 g2=>?_) (fun D hD=>?_)
 · rw [W9] at hz;refine hid fun ZZ kZ=>?_;obtain ⟨a',rfl,CF⟩:=aV hx;obtain ⟨ta,f1,f2,f3⟩:=zT i _ _ _ hz.1 CF hz.2;obtain ⟨_,_,_,UD,_⟩:=uQ t [] z.1.1 z.1.2 (Vh hz.1);refine kZ ?_;refine ⟨a',_,rfl,SqT.of (sm _ _ f1),rfl,_,_,rfl,_,_,rfl,rfl,?_⟩;refine ⟨_,rfl,ta,z.1.2,rfl,f3.mono (Same.kt sm),by omega,_,rfl,?_⟩;refine eK (fun c=>?_) (fun c=>?_)
   · exact ⟨_,rfl,g1 c⟩
   · exact g2 (WO.mpr c)
 · refine k D ((((t.pl []).zip bs).filter fun z=>z.1.2.isHole).map (·.2)) _ (s1.trans (ad hD _)) (by rw [ab,XM];rfl) ?_;refine P2.mapl (·.1) (rg (xs:=t.pl []) (cs:=bs) (fun p:List Int×Th=>p.2.isHole) (by omega) fun i x c e1 e2=>?_);refine hid fun ZZ kZ=>?_;obtain ⟨a',CF⟩:∃ a',as[i]?=some a':=⟨_,Ve (by have:=(Vn.mp e2).1;omega)⟩;obtain ⟨ta,f1,f2,f3⟩:=zT i _ _ _ e1 CF e2;refine kZ ?_;exact ad hD _ _ _ f2
inductive kW (K:Vc) (vs:List V) (H:Hp) (Q:VK) (_E:XK):Prop
 | mk (a:Vd) (n:VM) (ks:List Th) (zI:vs=[.ref a]) (zJ:AtK K H (.knot n ks) a) (zP:∀ (r:Vd) (H':Hp),L2.Same H H'->TopAtK K H' (.nm n ks.length) r->Q (.ref r) H'):kW K vs H Q _E
def sw (K:Vc):Sp:=kW K
theorem jD:aW P w K mg base CX0 2 T.g_top_of.f T.g_top_of.d ["part"] (sw K):=by
 refine T.g_top_of.F.ok np (fun vs H Q E h=>?_) (fun zG A outer s H vs Q E hr h=>?_)
 · obtain ⟨a,n,ks,rfl,_⟩:=h;rfl
 obtain ⟨a,n,ks,rfl,hA,k⟩:=h
 refine ⟨_,(ae (aA (i:=1) np.nd rfl (VE rfl) (aX aF rfl T.n_len Wh (aa (pcF T.g_kids_of (ff T) hr (aa (pv 0) ac)) ac)))
  (af (aC (aB (aa (dw rX (pv 0) ft (dJ (aH qZ (aX aF rfl T.n_len Wh (aa (pv 0) ac)) (pv 1)))) (aa (pv 1) ac)))))),?_⟩
 try dsimp only [zV,zC]
 refine ⟨_,rfl,a,.knot n ks,rfl,hA,fun r as H1 s1 er CL=>⟨r,_,rfl,.inr (SqT.of er),?_⟩⟩;rw [AtK] at hA;refine hid fun ZZ kZ=>?_;obtain ⟨hn,ka,ea,BW⟩:=hA;refine kZ ?_;have BV:ka.length=ks.length:=BW.length;have AN:as.length=ks.length:=CL.length;refine ⟨_,rfl,_,rfl,a,_,rfl,.inr ((ea.mono (Same.kt s1)).sq),_,rfl,_,_,rfl,rfl,_,rfl,a,_,rfl,ea.mono (Same.kt s1),fun p H2 s2 e2=>?_⟩
 have e1:((V.str n::ka.map V.ref).length:Int) - ((as.map V.ref).length:Int)=1:=by
  rw [Vo,Vb,Vb,BV,AN];omega
 have e3:TK K H2 p [.str n]:=by
  have BD:TK K H2 p (iM (V.str n::ka.map V.ref) none (some (((V.str n::ka.map V.ref).length:Int) - ((as.map V.ref).length:Int)))):=e2;rw [e1,rm] at BD;exact BD
 refine ⟨_,rfl,ak (by show 2<=1000000;decide),fun l hl=>?_⟩;refine k l _ (s1.trans (s2.trans (ad hl _))) ⟨p,?_,hn,e3.mono (cS hl)⟩;rw [ab,Vb,AN]
inductive pE (K:Vc) (vs:List V) (H:Hp) (Q:VK) (_E:XK):Prop
 | mk (a pl:Vd) (f t:Th) (as:List Vd) (zI:vs=[.ref a,.ref pl]) (zJ:AtK K H f a) (zP:f.size<=100000) (zZ:f.tall<=150) (Ai:f.noCall) (AX:f.lies t=true) (Eg:(∀ p∈f.hw [] t,p.2.size<=100000)) (Fy:H pl=some (.lst (as.map V.ref))) (ID:AtsK K H ((f.hw [] t).map (·.2)) as) (IE:∀ (r:Vd) (H':Hp),L2.Same H H'->AtK K H' t r->Q (.ref r) H'):pE K vs H Q _E
def vt (K:Vc):Sp:=pE K
theorem wc:aW P w K mg base CX0 3 T.g_hung.f T.g_hung.d ["front","parts"] (vt K):=by
 refine T.g_hung.F.ok iY (fun vs H Q E h=>?_) (fun zG A outer s H vs Q E hr h=>?_)
 · obtain ⟨a,pl,f,t,as,rfl,_⟩:=h;rfl
 obtain ⟨a,pl,f,t,ps,rfl,hA,hsz,zY,B6,hl,Sf,IF,Am,k⟩:=h
 refine ⟨_,(ae (aA (i:=2) iY.nd rfl (VE rfl) (bq ac))
  (ae (aA (i:=3) iY.nd rfl (VE rfl) am)
  (ae (bw VZ rfl (cf (pcF T.g_walked (jc T) hr (aa (pv 0) ac))) (aj (i:=4) iY.nd rfl (VE rfl)) (af (dF (bi (pcF T.g_is_hole (fq T) hr (aa (pv 4) ac)) (fun _=>rfl)) (ae (aP (bK Vy VQ VP aL (pv 2) (aa (aB (aa (aZ bu (pv 1) (pv 3) (fun _ _=>rfl)) (aa am ac))) ac)))
  (af (ud (i:=3) iY.nd rfl (VE rfl) am vd))) (af (aP (bK Vy VQ VP aL (pv 2) (aa (pcF T.g_top_of (jD T) hr (aa (pv 4) ac)) ac)))))))
  (af (aC (pcF T.g_built (i3 T) hr (aa (pv 2) ac))))))),?_⟩
 try dsimp only [zV,zC]
 obtain ⟨CO,zT,Mu⟩:=vx [] hl;have El:=vH [] hl;generalize hW:(f.hw [] t).map (·.2)=W at Am CO zT;have Sg:W.length=aR f.walk:=by rw [<- hW,Vb,Mu]
 have Sh:∀ u∈W,u.size<=100000:=fun u hu=>by
  rw [<- hW] at hu;obtain ⟨p,hp,rfl⟩:=V1.mp hu;exact Sf p hp
 have Av:ps.length=W.length:=Am.length;refine ⟨ak (by show 0<=1000000;decide),fun tl A9=>?_⟩;refine ⟨_,rfl,a,f,rfl,hA.mono (cS A9),hsz,fun wl ws H1 s1 IG IH hw=>?_⟩;have DW:ws.length=f.walk.length:=hw.length;have Si:=Th.walk_len f;have II:L2.Same H H1:=(ad A9 _).trans s1;have Mx:wl≠tl:=fun z=>by rw [z,ab] at IG;cases IG
 have CP:pl≠tl:=fun z=>by rw [z,A9] at IF;cases IF
 refine ⟨wl,rfl,⟨_,SqL.of IH⟩,?_⟩
 refine cz (K:=K) (a:=wl) (xs:=ws.map V.ref) (fun i σ H2=>Ex2 fun c bs=>An6 (σ=[some (.ref a),some (.ref pl),some (.ref tl),some (.int (aR (f.walk.take i):Nat)),c]) (L2.Same H H2) (H2 wl=some (.lst (ws.map V.ref))) (AtsK K H2 f.walk ws) (H2 tl=some (.lst (bs.map V.ref))) (VW (TopAtK K H2) (aT (f.walk.take i) W) bs))
  ⟨none,[],rfl,II,IH,hw,s1 _ _ ab,.nil⟩ (fun i σ H2 _ ⟨_,_,_,_,e,_,_,_⟩=>SqL.of e) ?_ ?_
 · rintro i x σ H2 hx ⟨c,bs,rfl,s2,DF,FY,A',zO⟩;obtain ⟨xa,rfl,My⟩:=aV hx;obtain ⟨tx,IJ,GN⟩:=FY.get My;have Kw:tx∈f.walk:=Vh IJ;have Iv:=mG f tx Kw;have Bf:f.walk.take (i+1)=f.walk.take i++[tx]:=by rw [Ww,IJ];rfl
   have AM:bs.length<=100000:=by
    have:=Vv zO;rw [gz,Wl] at this;omega
   refine ⟨_,rfl,xa,tx,rfl,GN,by omega,_,rfl,?_⟩
   have push:∀ (H3:Hp) (p:Vd) (tp:Top) (nx:Nat),L2.Same H2 H3->TopAtK K H3 tp p->aT (f.walk.take (i+1)) W=aT (f.walk.take i) W++[tp]->aR (f.walk.take (i+1))=nx->Ex2 fun c Fd=>An6 (([some (.ref a),some (.ref pl),some (.ref tl),some (.int (nx:Nat)),some (.ref xa)]:St)=[some (.ref a),some (.ref pl),some (.ref tl),some (.int (aR (f.walk.take (i+1)):Nat)),c]) (L2.Same H (upd H3 tl (.lst (bs.map V.ref++[.ref p])))) ((upd H3 tl (.lst (bs.map V.ref++[.ref p]))) wl=some (.lst (ws.map V.ref))) (AtsK K (upd H3 tl (.lst (bs.map V.ref++[.ref p]))) f.walk ws) ((upd H3 tl (.lst (bs.map V.ref++[.ref p]))) tl=some (.lst (Fd.map V.ref))) (VW (TopAtK K (upd H3 tl (.lst (bs.map V.ref++[.ref p])))) (aT (f.walk.take (i+1)) W) Fd):=by
    intro H3 p tp nx s3 hp e1 e2;have k3:KT H3 (upd H3 tl (.lst (bs.map V.ref++[.ref p]))):=aK (s3 _ _ A');refine ⟨_,bs++[p],by rw [e2],au (s2.trans s3) A9,by rw [ag Mx];exact s3 _ _ DF,FY.mono ((Same.kt s3).trans k3),by rw [ab,Vs];rfl,?_⟩;rw [e1];exact P2.append (cF ((Same.kt s3).trans k3) zO) (.cons (hp.mono k3) .nil)
   refine eK (fun ch=>?_) (fun ch=>?_)
   · have E9:aR (f.walk.take (i+1))=aR (f.walk.take i)+1:=by
      rw [Bf,cG];show _+(List.filter Th.isHole [tx]).length=_;rw [Wm,if_pos ch];rfl
     have zK:aR (f.walk.take i)<W.length:=by
      rw [Sg];have h1:aR f.walk=aR (f.walk.take (i+1))+aR (f.walk.drop (i+1)):=by rw [<- cG,Zb]
      omega
     refine hid fun ZZ kZ=>?_;obtain ⟨u,hu⟩:∃ u,W[aR (f.walk.take i)]?=some u:=⟨_,Ve zK⟩;obtain ⟨ua,C8,FZ⟩:=Am.at hu;refine kZ ?_
     have Ei:aT (f.walk.take (i+1)) W=aT (f.walk.take i) W++[.th u]:=by
      rw [Bf,ce];congr 1;rw [aT,if_pos ch,aT,List.headD_eq_head?_getD,List.head?_drop,hu];rfl
     have Mz:H2 pl=some (.lst (ps.map V.ref)):=s2 _ _ IF;refine ⟨_,rfl,.inl ⟨rfl,_,SqL.of A'⟩,_,rfl,_,rfl,pl,_,_,.ref ua,rfl,rfl,SqL.of Mz,at_nonneg (by omega) (by rw [Wg,Vp,C8];rfl),ak (by show 2<=1000000;decide),fun p hp=>?_⟩;have s3:L2.Same H2 (upd H2 p (.tup [.ref ua,.int 0])):=ad hp _;refine ⟨tl,_,_,rfl,rfl,s3 _ _ A',aE (by rw [Vb];omega),?_⟩;refine ⟨_,rfl,_,_,rfl,rfl,?_⟩;exact push _ p (.th u) (aR (f.walk.take i)+1) s3 ⟨ua,ab,FZ.mono (Same.kt (s2.trans s3))⟩ Ei E9
   · have zS:tx.isHole=false:=WO.mpr ch
     have E9:aR (f.walk.take (i+1))=aR (f.walk.take i):=by
      rw [Bf,cG];show _+(List.filter Th.isHole [tx]).length=_;rw [Wm,if_neg (by rw [zS];exact VG)];rfl
     have Ei:aT (f.walk.take (i+1)) W=aT (f.walk.take i) W++[.nm tx.name tx.wid]:=by
      rw [Bf,ce];congr 1;rw [aT,if_neg (by rw [zS];exact VG),aT]
     have IK:=cu f B6 tx Kw;cases tx with
     | call sn kn=>rw [Th.noCall] at IK;exact IK.elim
     | knot nm us =>
     refine ⟨_,rfl,.inl ⟨rfl,_,SqL.of A'⟩,_,rfl,xa,nm,us,rfl,GN,fun p H3 s3 hp=>?_⟩;refine ⟨tl,_,_,rfl,rfl,s3 _ _ A',aE (by rw [Vb];omega),?_⟩;exact push _ p (.nm nm us.length) (aR (f.walk.take i)) s3 hp Ei E9
 · rintro σ H2 ⟨c,bs,rfl,s2,DF,FY,A',zO⟩;rw [Vb,DW,W6] at zO;refine ⟨_,rfl,tl,bs,_,t,rfl,A',zO,by rw [gz];omega,zT,?_,CO,fun r H3 s3 F0=>k r H3 (s2.trans s3) F0⟩;intro u hu;rcases iy _ _ _ hu with h | h
   · exact Sh u h
   · rw [h,gv];omega
inductive l8 (K:Vc) (vs:List V) (H:Hp) (Q:VK) (_E:XK):Prop
 | mk (a ta:Vd) (t:Th) (f:Int->Int->Th) (f':List (List Key×V)) (zI:vs=[.ref a,.ref ta]) (zJ:AtK K H t a) (zP:t.size<=100000) (zZ:Rd H ta (.dT f')) (Ai:(∀ s k,Th.call s k∈t.walk->∃ v,aQ f' [VR s,VR k]=some (.ref v)/\AtK K H (f s k) v/\(f s k).size<=100000)) (AX:∀ (r:Vd) (H':Hp),L2.Same H H'->AtK K H' (t.fill f) r->Q (.ref r) H'):l8 K vs H Q _E
def tK (K:Vc):Sp:=l8 K
theorem ja:aW P w K mg base CX0 3 T.g_filled.f T.g_filled.d ["pattern","table"] (tK K):=by
 refine T.g_filled.F.ok jB (fun vs H Q E h=>?_) (fun zG A outer s H vs Q E hr h=>?_)
 · obtain ⟨a,ta,t,f,f',rfl,_⟩:=h;rfl
 obtain ⟨a,ta,t,f,f',rfl,hA,hsz,OV,Er,k⟩:=h
 refine ⟨_,(ae (aA (i:=2) jB.nd rfl (VE rfl) (bq ac))
  (ae (bw VZ rfl (cf (pcF T.g_walked (jc T) hr (aa (pv 0) ac))) (aj (i:=3) jB.nd rfl (VE rfl)) (af (dF (bi (pcF T.g_is_call (dr T) hr (aa (pv 3) ac)) (fun _=>rfl)) (af (aP (bK Vy VQ VP aL (pv 2) (aa (aB (aa (kl (iU hr) (pv 1) (pcF T.g_called_by (fj T) hr (aa (pv 3) ac)) (fun _ _=>rfl)) (aa am ac))) ac)))) (af (aP (bK Vy VQ VP aL (pv 2) (aa (pcF T.g_top_of (jD T) hr (aa (pv 3) ac)) ac)))))))
  (af (aC (pcF T.g_built (i3 T) hr (aa (pv 2) ac)))))),?_⟩
 try dsimp only [zV,zC]
 refine ⟨ak (by show 0<=1000000;decide),fun tl zY=>?_⟩;refine ⟨_,rfl,a,t,rfl,hA.mono (cS zY),hsz,fun wl as H1 s1 IG IH hw=>?_⟩;have DW:as.length=t.walk.length:=hw.length;have Si:=Th.walk_len t;have II:L2.Same H H1:=(ad zY _).trans s1;have Mx:wl≠tl:=fun z=>by rw [z,ab] at IG;cases IG
 refine ⟨wl,rfl,⟨_,SqL.of IH⟩,?_⟩
 refine cz (K:=K) (a:=wl) (xs:=as.map V.ref) (fun i σ H2=>Ex2 fun c bs=>An6 (σ=[some (.ref a),some (.ref ta),some (.ref tl),c]) (L2.Same H H2) (H2 wl=some (.lst (as.map V.ref))) (AtsK K H2 t.walk as) (H2 tl=some (.lst (bs.map V.ref))) (VW (TopAtK K H2) ((t.walk.take i).map (dP f)) bs))
  ⟨none,[],rfl,II,IH,hw,s1 _ _ ab,.nil⟩ (fun i σ H2 _ ⟨_,_,_,_,e,_,_,_⟩=>SqL.of e) ?_ ?_
 · rintro i x σ H2 hx ⟨c,bs,rfl,s2,DF,FY,A',zO⟩;obtain ⟨xa,rfl,My⟩:=aV hx;obtain ⟨tx,IJ,GN⟩:=FY.get My;have Kw:tx∈t.walk:=Vh IJ;have Bf:t.walk.take (i+1)=t.walk.take i++[tx]:=by rw [Ww,IJ];rfl
   have AM:bs.length<=100000:=by
    have:=Vv zO;rw [Vb,Wl] at this;omega
   refine ⟨_,rfl,xa,tx,rfl,GN,_,rfl,?_⟩
   have push:∀ (H3:Hp) (p:Vd),L2.Same H2 H3->TopAtK K H3 (dP f tx) p->Ex2 fun c Fd=>An6 (([some (.ref a),some (.ref ta),some (.ref tl),some (.ref xa)]:St)=[some (.ref a),some (.ref ta),some (.ref tl),c]) (L2.Same H (upd H3 tl (.lst (bs.map V.ref++[.ref p])))) ((upd H3 tl (.lst (bs.map V.ref++[.ref p]))) wl=some (.lst (as.map V.ref))) (AtsK K (upd H3 tl (.lst (bs.map V.ref++[.ref p]))) t.walk as) ((upd H3 tl (.lst (bs.map V.ref++[.ref p]))) tl=some (.lst (Fd.map V.ref))) (VW (TopAtK K (upd H3 tl (.lst (bs.map V.ref++[.ref p])))) ((t.walk.take (i+1)).map (dP f)) Fd):=by
    intro H3 p s3 hp;have k3:KT H3 (upd H3 tl (.lst (bs.map V.ref++[.ref p]))):=aK (s3 _ _ A');refine ⟨_,bs++[p],rfl,au (s2.trans s3) zY,by rw [ag Mx];exact s3 _ _ DF,FY.mono ((Same.kt s3).trans k3),by rw [ab,Vs];rfl,?_⟩;rw [Bf,Vs];exact P2.append (cF ((Same.kt s3).trans k3) zO) (.cons (hp.mono k3) .nil)
   cases tx with
   | call sn kn =>
     refine wZ ?_;refine hid fun ZZ kZ=>?_;obtain ⟨v,hv,Sj,_⟩:=Er sn kn Kw;refine kZ ?_;refine ⟨_,rfl,.inl ⟨rfl,_,SqL.of A'⟩,_,rfl,_,rfl,xa,sn,kn,rfl,GN,fun cb Sk=>?_⟩;have s3:L2.Same H2 (upd H2 cb (.tup [.int sn,.int kn])):=ad Sk _
     have MA:Rd (upd H2 cb (.tup [.int sn,.int kn])) ta (.dT f'):=by
      rcases OV with h | ⟨o,h⟩
      · exact .inl (s3 _ _ (s2 _ _ h))
      · exact .inr ⟨o,s3 _ _ (s2 _ _ h)⟩
     refine ⟨ta,.ref v,rfl,.inr ⟨f',[VR sn,VR kn],cb,MA,rfl,ab,hv.symm⟩,ak (by show 2<=1000000;decide),fun p hp=>?_⟩;have s4:=s3.trans (ad hp (.tup [.ref v,.int 0]));refine ⟨tl,_,_,rfl,rfl,s4 _ _ A',aE (by rw [Vb];omega),?_⟩;exact push _ p s4 ⟨v,ab,Sj.mono (Same.kt (s2.trans s4))⟩
   | knot nm us =>
     refine tw ?_;refine ⟨_,rfl,.inl ⟨rfl,_,SqL.of A'⟩,_,rfl,xa,nm,us,rfl,GN,fun p H3 s3 hp=>?_⟩;refine ⟨tl,_,_,rfl,rfl,s3 _ _ A',aE (by rw [Vb];omega),?_⟩;exact push _ p s3 hp
 · rintro σ H2 ⟨c,bs,rfl,s2,DF,FY,A',zO⟩;rw [Vb,DW,W6] at zO;obtain ⟨b1,b2⟩:=rL f t;refine ⟨_,rfl,tl,bs,_,t.fill f,rfl,A',zO,by rw [Vb];omega,b2,?_,b1,fun r H3 s3 F0=>k r H3 (s2.trans s3) F0⟩;intro u hu;obtain ⟨x,hx,e⟩:=V1.mp hu;cases x with
   | knot nm us=>cases e
   | call sn kn =>
     cases e;refine hid fun ZZ kZ=>?_;obtain ⟨v,_,_,hz⟩:=Er sn kn hx;refine kZ ?_;exact hz
inductive iQ (K:Vc) (vs:List V) (H:Hp) (Q:VK) (_E:XK):Prop
 | mk (x y:Vd) (l r:Th) (zI:vs=[.ref x,.ref y]) (zJ:AtK K H l x) (zP:AtK K H r y) (zZ:l.tall<=150) (Ai:Q (.bl (aD l r)) H):iQ K vs H Q _E
def pT (K:Vc):Sp:=iQ K
theorem jL:aW P w K mg base CX0 3 T.g_same_top.f T.g_same_top.d ["one","two"] (pT K):=by
 refine T.g_same_top.F.ok pQ (fun vs H Q E h=>?_) (fun zG A outer s H vs Q E hr h=>?_)
 · obtain ⟨x,y,l,r,rfl,_⟩:=h;rfl
 obtain ⟨x,y,l,r,rfl,hx,hy,zY,k⟩:=h;refine ⟨_,(af (aC (lw (pcF T.g_is_knot (qw T) hr (aa (pv 0) ac)) (lw (dS mF (aZ bL (pv 0) am (fun _ _=>rfl)) (aZ bL (pv 1) am (fun _ _=>rfl)) (bP _)) (qz (dS mF (aX aF rfl T.n_len Wh (aa (pv 0) ac)) (aX aF rfl T.n_len Wh (aa (pv 1) ac)) (bP _))))))),?_⟩
 try dsimp only [zV,zC]
 rw [o6 hx r] at k;refine hid fun ZZ kZ=>?_;obtain ⟨xr,ex,lx⟩:=hx.row;obtain ⟨yr,ey,ly⟩:=hy.row;refine kZ ?_;refine ⟨_,rfl,x,l,rfl,hx,zY,_,rfl,?_⟩;refine eK (fun c=>?_) (fun c=>?_)
 · rw [c] at k;refine ⟨_,rfl,x,_,0,.str l.name,rfl,rfl,ex.sq,at0,_,rfl,y,_,0,.str r.name,rfl,rfl,ey.sq,at0,rfl,_,rfl,?_⟩;refine eK (fun c2=>?_) (fun c2=>?_)
   · have e2:l.name=r.name:=V.str.inj (of_decide_eq_true c2);refine ⟨_,rfl,x,_,rfl,.inr (ex.sq),_,rfl,y,_,rfl,.inr (ey.sq),rfl,?_⟩
     have e3:decide (V.int ((V.str l.name::xr).length:Nat)=V.int ((V.str r.name::yr).length:Nat))=decide (l.wid=r.wid):=by
      rw [Vo,Vo,lx,ly];by_cases e:l.wid=r.wid
      · rw [e];simp
      · rw [decide_eq_false e,decide_eq_false];intro z;exact e (by have:=V.int.inj z;omega)
     rw [e3];rw [decide_eq_true e2] at k;exact k
   · have e2:l.name≠r.name:=fun e=>c2 (decide_eq_true (by rw [e]));rw [decide_eq_false e2] at k;exact k
 · rw [WO.mpr c] at k;exact k
inductive eR (K:Vc) (vs:List V) (H:Hp) (Q:VK) (_E:XK):Prop
 | mk (x y:Vd) (l r:Th) (zI:vs=[.ref x,.ref y]) (zJ:AtK K H l x) (zP:AtK K H r y) (zZ:l.tall<=150) (Ai:l.size<=100000) (AX:∀ (m:Vd) (as:List Vd) (H':Hp),L2.Same H H'->H m=none->H' m=some (.lst (as.map V.ref))->VW (PPK K H') (l.sbs r) as->Q (.ref m) H'):eR K vs H Q _E
def kh (K:Vc):Sp:=eR K
theorem kg:aW P w K mg base CX0 4 T.g_side_by_side.f T.g_side_by_side.d ["one","two"] (kh K):=by
 refine T.g_side_by_side.F.ok bS (fun vs H Q E h=>?_) (fun zG A outer s H vs Q E hr h=>?_)
 · obtain ⟨x,y,l,r,rfl,_⟩:=h;rfl
 obtain ⟨x,y,l,r,rfl,hx,hy,zY,hsz,k⟩:=h
 refine ⟨_,(ae (aA (i:=2) bS.nd rfl (VE rfl) (bq ac))
  (ae (aA (i:=3) bS.nd rfl (VE rfl) (bq (aa (aB (aa (pv 0) (aa (pv 1) ac))) ac)))
  (ae (dB VZ (bi (pv 3) (fun _=>rfl)) (ae (fE (jm Vy XU XT jx (pv 3)) (ba rfl (aq (aj (i:=4) bS.nd rfl (VE rfl)) (aq (aj (i:=5) bS.nd rfl (VE rfl)) aN))))
  (ae (aP (bK Vy VQ VP aL (pv 2) (aa (aB (aa (pv 4) (aa (pv 5) ac))) ac)))
  (af (dF (bi (pcF T.g_same_top (jL T) hr (aa (pv 4) (aa (pv 5) ac))) (fun _=>rfl)) (af (aP (bK Vy Yg Ye gj (pv 3) (aa (ld rfl rfl T.n_list rfl T.n_reversed (qS rfl rfl T.n_list rfl T.n_zip (aa (dw jz (pv 4) (dJ am) ft) (aa (dw jz (pv 5) (dJ am) ft) ac)))) ac)))) cX)))))
  (af (aC (pv 2)))))),?_⟩
 try dsimp only [zV,zC]
 refine ⟨by show 0<=Vz;decide,fun mt Bj=>?_⟩;refine ⟨_,rfl,_,rfl,by show 2<=Vz;decide,fun t0 MB=>⟨by show 1<=Vz;decide,fun ah AV=>?_⟩⟩;have s0:L2.Same H (upd (upd H mt (.lst [])) t0 (.tup [.ref x,.ref y])):=(ad Bj _).trans (ad MB _);have e0:(upd (upd H mt (.lst [])) t0 (.tup [.ref x,.ref y])) mt=some (.lst []):=ad MB _ _ _ ab;have e1:(upd (upd H mt (.lst [])) t0 (.tup [.ref x,.ref y])) t0=some (.tup [.ref x,.ref y]):=ab;generalize (upd (upd H mt (.lst [])) t0 (.tup [.ref x,.ref y]))=H1 at s0 e0 e1 AV ⊢;have Bn:H ah=none:=s0.free AV;have zS:ah≠mt:=fun z=>by rw [z,e0] at AV;cases AV
 refine ⟨fun m σ H2=>Ex6 fun (ms as:List Vd) (Ms As:List (Th×Th)) (p p':Option V)=>xw (σ=[some (.ref x),some (.ref y),some (.ref mt),some (.ref ah),p,p']) (L2.Same H H2) (H2 mt=some (.lst (ms.map V.ref))) (H2 ah=some (.lst (as.map V.ref))) (VW (PPK K H2) Ms ms) (VW (PPK K H2) As as) (Ms++wks As.reverse=l.sbs r) ((∀ p∈As,p.1.tall<=150)) (Ms.length+szL As<=100000) (m=szL As),⟨_,[],[t0],[],[(l,r)],none,none,rfl,?_,?_,?_,.nil,.cons ⟨x,y,?_,hx.mono ?_,hy.mono ?_⟩ .nil,?_,?_,?_,rfl⟩,?_⟩
 · exact au s0 Bn
 · rw [ag zS.symm];exact e0
 · rw [ab];rfl
 · rw [ag (az e1 AV)];exact e1
 · exact Same.kt (au s0 Bn)
 · exact Same.kt (au s0 Bn)
 · show wks [(l,r)]=_;rw [wks,wks,V7]
 · intro p hp;rw [VF] at hp;subst hp;exact zY
 · show 0+(l.size+0)<=100000;omega
 rintro m σ H2 ⟨ms,as,Ms,As,p,p',rfl,sm,e1,e2,a1,a2,hw,B4,hlen,rfl⟩;have GO:Ms.length=ms.length:=Vv a1;refine ⟨_,rfl,_,.inl ⟨_,SqL.of e2,rfl⟩,?_⟩;refine eK (fun c=>?_) (fun c=>?_)
 · refine ⟨fun zu H'=>∃ m',m'<szL As/\Ex6 fun (ms as:List Vd) (Ms As:List (Th×Th)) (p p':Option V)=>xw (zu=[some (.ref x),some (.ref y),some (.ref mt),some (.ref ah),p,p']) (L2.Same H H') (H' mt=some (.lst (ms.map V.ref))) (H' ah=some (.lst (as.map V.ref))) (VW (PPK K H') Ms ms) (VW (PPK K H') As as) (Ms++wks As.reverse=l.sbs r) ((∀ p∈As,p.1.tall<=150)) (Ms.length+szL As<=100000) (m'=szL As),fun zu H' h=>h,?_⟩;have Ay:as≠[]:=by intro z;subst z;simp at c
   refine hid fun ZZ kZ=>?_;obtain ⟨zN,b,rfl⟩:∃ zN b,as=zN++[b]:=⟨as.dropLast,as.getLast Ay,(Xe Ay).symm⟩;obtain ⟨Us,u,rfl,a3,u1,u2,a4,a5,a6⟩:=P2.snoc_inv a2;obtain ⟨ul,ur⟩:=u;refine kZ ?_;simp only at a5 a6;have hs:szL (Us++[(ul,ur)])=szL Us+ul.size:=by rw [dC,szL,szL];rfl
   have Im:=ul.size_eq;rw [hs] at hlen;have MC:ul.tall<=150:=B4 (ul,ur) (by simp);have PB:∀ p∈Us,p.1.tall<=150:=fun p hp=>B4 p (by simp [hp]);refine ⟨_,rfl,.inl ⟨rfl,_,SqL.of e2⟩,ah,_,.ref b,rfl,rfl,e2,by simp,?_⟩;have d1:((zN++[b]).map V.ref).dropLast=zN.map V.ref:=by simp
   rw [d1];have k0:KT H2 (upd H2 ah (.lst (zN.map V.ref))):=aK e2;have f1:(upd H2 ah (.lst (zN.map V.ref))) mt=some (.lst (ms.map V.ref)):=by rw [ag zS.symm];exact e1
   have f2:(upd H2 ah (.lst (zN.map V.ref))) ah=some (.lst (zN.map V.ref)):=ab;have s3:L2.Same H (upd H2 ah (.lst (zN.map V.ref))):=au sm Bn;generalize (upd H2 ah (.lst (zN.map V.ref)))=H3 at k0 f1 f2 s3 ⊢;refine ⟨b,_,rfl,SqT.of (k0 _ _ a4),rfl,_,_,rfl,_,_,rfl,rfl,?_⟩;refine ⟨_,rfl,.inl ⟨rfl,_,SqL.of f1⟩,_,rfl,_,rfl,by show 2<=Vz;decide,fun t1 Sl=>?_⟩;have s4:L2.Same H3 (upd H3 t1 (.tup [.ref u1,.ref u2])):=ad Sl _;have e4:(upd H3 t1 (.tup [.ref u1,.ref u2])) t1=some (.tup [.ref u1,.ref u2]):=ab;generalize (upd H3 t1 (.tup [.ref u1,.ref u2]))=H4 at s4 e4 ⊢;refine ⟨mt,_,_,rfl,rfl,s4 _ _ f1,aE (by rw [Vb];omega),?_⟩;have k5:KT H4 (upd H4 mt (.lst (ms.map V.ref++[.ref t1]))):=aK (s4 _ _ f1);have g1:(upd H4 mt (.lst (ms.map V.ref++[.ref t1]))) mt=some (.lst ((ms++[t1]).map V.ref)):=by rw [ab,Vs];rfl
   have g2:(upd H4 mt (.lst (ms.map V.ref++[.ref t1]))) ah=some (.lst (zN.map V.ref)):=by rw [ag zS];exact s4 _ _ f2
   have s5:L2.Same H (upd H4 mt (.lst (ms.map V.ref++[.ref t1]))):=au (s3.trans s4) Bj;generalize (upd H4 mt (.lst (ms.map V.ref++[.ref t1])))=H5 at k5 g1 g2 s5 ⊢;have Es:KT H2 H5:=(k0.trans (Same.kt s4)).trans k5;have aM:VW (PPK K H5) (Ms++[(ul,ur)]) (ms++[t1]):=P2.append (dh Es a1) (.cons ⟨u1,u2,k5 _ _ e4,a5.mono Es,a6.mono Es⟩ .nil);refine ⟨_,rfl,_,rfl,u1,u2,ul,ur,rfl,a5.mono Es,a6.mono Es,MC,_,rfl,?_⟩
   have IL:Ms++((ul,ur)::((if aD ul ur=true then wks (ul.kids.zip ur.kids) else [])++wks Us.reverse))=l.sbs r:=by
    rw [<- hw,WJ];show _=Ms++wks ((ul,ur)::Us.reverse);rw [uu]
   refine eK (fun ct=>?_) (fun ct=>?_)
   · refine hid fun ZZ kZ=>?_;obtain ⟨n,ks,us,rfl,rfl,UE,FQ⟩:=bA ct;have PD:=a5.mono Es;have PF:=a6.mono Es;rw [AtK] at PD PF;obtain ⟨E9,ka,ek,BW⟩:=PD;obtain ⟨Hk,ua,eu,C8⟩:=PF;refine kZ ?_;rw [if_pos ct] at IL;have hz:=iW ks us;refine ⟨_,rfl,.inl ⟨rfl,_,SqL.of g2⟩,_,rfl,1,rfl,u1,_,rfl,ek.sq,?_,fun c1 PH=>?_⟩
     · intro z;have:=z.1;simp [HT.sIx] at this
     rw [fU];have s6:L2.Same H5 (upd H5 c1 (.tup (ka.map V.ref))):=ad PH _;have e6:(upd H5 c1 (.tup (ka.map V.ref))) c1=some (.tup (ka.map V.ref)):=ab;generalize (upd H5 c1 (.tup (ka.map V.ref)))=H6 at s6 e6 ⊢;refine ⟨_,rfl,1,rfl,u2,_,rfl,(eu.mono (Same.kt s6)).sq,?_,fun c2 Dg=>?_⟩
     · intro z;have:=z.1;simp [HT.sIx] at this
     rw [fU];have s7:L2.Same H6 (upd H6 c2 (.tup (ua.map V.ref))):=ad Dg _;have e7:(upd H6 c2 (.tup (ua.map V.ref))) c2=some (.tup (ua.map V.ref)):=ab;generalize (upd H6 c2 (.tup (ua.map V.ref)))=H7 at s7 e7 ⊢;refine ⟨c1,c2,_,_,rfl,SqT.of (s7 _ _ e6),SqT.of e7,fun zl zs H8 s8 UG Sm HY=>?_⟩;have Et:L2.Same H5 H8:=s6.trans (s7.trans s8);have PJ:VW (PPK K H8) (ks.zip us) zs:=pf (BW.mono (Same.kt Et)) (C8.mono (Same.kt Et)) HY;have O9:(ks.zip us).length=zs.length:=Vv PJ;have UH:(ks.zip us).length<=szL (ks.zip us):=nw _;refine ⟨true,zl,_,rfl,SqB.l (SqL.of Sm),fun rl D3=>?_⟩;have s9:L2.Same H8 (upd H8 rl (.lst (zs.map V.ref).reverse)):=ad D3 _;have e9:(upd H8 rl (.lst (zs.map V.ref).reverse)) rl=some (.lst (zs.map V.ref).reverse):=ab;have UI:H5 rl=none:=Et.free D3;generalize (upd H8 rl (.lst (zs.map V.ref).reverse))=H9 at s9 e9 ⊢;have IM:=Et.trans s9;have PK:Us.length=zN.length:=Vv a3;have PL:=nw Us;refine ⟨ah,rl,_,_,rfl,rfl,IM _ _ g2,e9,Yb (aE ?_),?_⟩
     · rw [Vb,WB,Vb];simp only [Th.kids] at Im;omega
     have PM:KT H9 (upd H9 ah (.lst (zN.map V.ref++(zs.map V.ref).reverse))):=aK (IM _ _ g2);have PN:KT H5 (upd H9 ah (.lst (zN.map V.ref++(zs.map V.ref).reverse))):=(Same.kt IM).trans PM;simp only [Th.kids] at Im IL;refine ⟨szL (Us++(ks.zip us).reverse),?_,ms++[t1],zN++zs.reverse,Ms++[(.knot n ks,.knot n us)],Us++(ks.zip us).reverse,_,_,rfl,?_,?_,?_,dh PN aM,?_,?_,?_,?_,rfl⟩
     · rw [dC,rT,hs];omega
     · exact au (s5.trans IM) Bn
     · rw [ag zS.symm];exact IM _ _ g1
     · rw [ab,Vs,ZS]
     · exact P2.append (dh (Es.trans PN) a3) (P2.reverse (dh ((Same.kt s9).trans PM) PJ))
     · rw [WJ,Xf,lm,<- IL,V8];rfl
     · intro p hp;rcases VX.mp hp with hp | hp
       · exact PB p hp
       · have AD:=(YZ (List.mem_reverse.mp hp)).1;have:=bT AD;rw [Th.tall] at MC;omega
     · rw [dC,rT,VD];show Ms.length+1+_<=_;omega
   · rw [if_neg ct] at IL;refine ⟨szL Us,?_,ms++[t1],zN,Ms++[(ul,ur)],Us,_,_,rfl,s5,g1,g2,aM,dh Es a3,?_,PB,?_,rfl⟩
     · rw [hs];omega
     · rw [<- IL,V8];rfl
     · rw [VD];show Ms.length+1+_<=_;omega
 · have hz:as=[]:=by
    cases as with
    | nil=>rfl
    | cons y ys=>simp at c
   subst hz;have CN:As=[]:=WA.mp (Vv a2);subst CN;refine ⟨_,rfl,k mt ms H2 sm Bj e1 ?_⟩
   have FT:Ms=l.sbs r:=by
    rw [<- hw,List.reverse_nil,wks,V7]
   rw [<- FT];exact a1
inductive kK (K:Vc) (vs:List V) (H:Hp) (Q:VK) (_E:XK):Prop
 | mk (x y:Vd) (l r:Th) (zI:vs=[.ref x,.ref y]) (zJ:AtK K H l x) (zP:AtK K H r y) (zZ:l.tall<=150) (Ai:l.size<=100000) (AX:∀ (m:Vd) (H':Hp),L2.Same H H'->AtK K H' (l.com r) m->Q (.ref m) H'):kK K vs H Q _E
def tu (K:Vc):Sp:=kK K
theorem tD:aW P w K mg base CX0 5 T.g_common.f T.g_common.d ["one","two"] (tu K):=by
 refine T.g_common.F.ok gw (fun vs H Q E h=>?_) (fun zG A outer s H vs Q E hr h=>?_)
 · obtain ⟨x,y,l,r,rfl,_⟩:=h;rfl
 obtain ⟨x,y,l,r,rfl,hx,hy,zY,hsz,k⟩:=h
 refine ⟨_,(ae (aA (i:=2) gw.nd rfl (VE rfl) (bq ac))
  (ae (bw VZ rfl (cf (pcF T.g_side_by_side (kg T) hr (aa (pv 0) (aa (pv 1) ac)))) (ba rfl (aq (aj (i:=3) gw.nd rfl (VE rfl)) (aq (aj (i:=4) gw.nd rfl (VE rfl)) aN))) (af (dF (bi (pcF T.g_same_top (jL T) hr (aa (pv 3) (aa (pv 4) ac))) (fun _=>rfl)) (af (aP (bK Vy VQ VP aL (pv 2) (aa (pcF T.g_top_of (jD T) hr (aa (pv 3) ac)) ac)))) (af (aP (bK Vy VQ VP aL (pv 2) (aa (aB (aa (b9 (v:=.ref T.a_HOLE) rfl T.c_HOLE rfl) (aa am ac))) ac)))))))
  (af (aC (pcF T.g_built (i3 T) hr (aa (pv 2) ac)))))),?_⟩
 try dsimp only [zV,zC]
 refine ⟨ak (by show 0<=1000000;decide),fun tl A9=>?_⟩;refine ⟨_,rfl,_,rfl,x,y,l,r,rfl,hx.mono (cS A9),hy.mono (cS A9),zY,hsz,fun m as H1 s1 nm em hp=>⟨m,rfl,⟨_,SqL.of em⟩,?_⟩⟩;have Av:(l.sbs r).length=as.length:=Vv hp;have PQ:=vy l r;have II:L2.Same H H1:=(ad A9 _).trans s1;have Bj:m≠tl:=fun z=>by rw [z,ab] at nm;cases nm
 refine cz (K:=K) (a:=m) (xs:=as.map V.ref) (fun i σ H2=>Ex3 fun c c' bs=>An6 (σ=[some (.ref x),some (.ref y),some (.ref tl),c,c']) (L2.Same H H2) (H2 m=some (.lst (as.map V.ref))) (VW (PPK K H2) (l.sbs r) as) (H2 tl=some (.lst (bs.map V.ref))) (VW (TopAtK K H2) (((l.sbs r).take i).map topC) bs)) ⟨none,none,[],rfl,II,em,hp,s1 _ _ ab,.nil⟩ (fun i σ H2 _ ⟨_,_,_,_,_,e,_,_,_⟩=>SqL.of e) ?_ ?_
 · rintro i v σ H2 hv ⟨c,c',bs,rfl,s2,Cy,BS,A',zO⟩;refine hid fun ZZ kZ=>?_;obtain ⟨b,rfl,hb⟩:=aV hv;obtain ⟨⟨ul,ur⟩,hu,u1,u2,e1,e2,e3⟩:=P2.get' BS hb;refine kZ ?_;simp only at e2 e3;have hm:=r9 (Vh hu);simp only at hm;have Bf:((l.sbs r).take (i+1)).map topC=((l.sbs r).take i).map topC++[topC (ul,ur)]:=by rw [Ww,hu,Vs];rfl
   have AM:bs.length<=100000:=by
    have:=Vv zO;rw [Vb,Wl] at this;omega
   refine ⟨b,_,rfl,SqT.of e1,rfl,_,_,rfl,_,_,rfl,rfl,?_⟩
   have push:∀ (H3:Hp) (p:Vd),L2.Same H2 H3->TopAtK K H3 (topC (ul,ur)) p->Ex3 fun c c' Fd=>An6 (([some (.ref x),some (.ref y),some (.ref tl),some (.ref u1),some (.ref u2)]:St)=[some (.ref x),some (.ref y),some (.ref tl),c,c']) (L2.Same H (upd H3 tl (.lst (bs.map V.ref++[.ref p])))) ((upd H3 tl (.lst (bs.map V.ref++[.ref p]))) m=some (.lst (as.map V.ref))) (VW (PPK K (upd H3 tl (.lst (bs.map V.ref++[.ref p])))) (l.sbs r) as) ((upd H3 tl (.lst (bs.map V.ref++[.ref p]))) tl=some (.lst (Fd.map V.ref))) (VW (TopAtK K (upd H3 tl (.lst (bs.map V.ref++[.ref p])))) (((l.sbs r).take (i+1)).map topC) Fd):=by
    intro H3 p s3 MD;have k3:KT H3 (upd H3 tl (.lst (bs.map V.ref++[.ref p]))):=aK (s3 _ _ A');refine ⟨_,_,bs++[p],rfl,au (s2.trans s3) A9,by rw [ag Bj];exact s3 _ _ Cy,dh ((Same.kt s3).trans k3) BS,by rw [ab,Vs];rfl,?_⟩;rw [Bf];exact P2.append (cF ((Same.kt s3).trans k3) zO) (.cons (MD.mono k3) .nil)
   refine ⟨_,rfl,_,rfl,u1,u2,ul,ur,rfl,e2,e3,by omega,_,rfl,?_⟩;refine eK (fun ct=>?_) (fun ct=>?_)
   · have ht:topC (ul,ur)=.nm ul.name ul.kids.length:=by unfold topC;rw [if_pos ct]
     obtain ⟨n,ks,us,rfl,rfl,_,_⟩:=bA ct;refine ⟨_,rfl,.inl ⟨rfl,_,SqL.of A'⟩,_,rfl,u1,n,ks,rfl,e2,fun p H3 s3 MD=>?_⟩;refine ⟨tl,_,_,rfl,rfl,s3 _ _ A',aE (by rw [Vb];omega),?_⟩;exact push _ p s3 (by rw [ht];exact MD)
   · have ht:topC (ul,ur)=.th hole:=by unfold topC;rw [if_neg ct]
     refine ⟨_,rfl,.inl ⟨rfl,_,SqL.of A'⟩,ak (by show 2<=1000000;decide),fun p Sn=>?_⟩;have s3:L2.Same H2 (upd H2 p (.tup [.ref T.a_HOLE,.int 0])):=ad Sn _;refine ⟨tl,_,_,rfl,rfl,s3 _ _ A',aE (by rw [Vb];omega),?_⟩;exact push _ p s3 (by rw [ht];exact ⟨T.a_HOLE,ab,uw (TK.const T.q_HOLE)⟩)
 · rintro σ H2 ⟨c,c',bs,rfl,s2,Cy,BS,A',zO⟩;rw [Vb,<- Av,W6] at zO;obtain ⟨b1,b2⟩:=xm l r;refine ⟨_,rfl,tl,bs,_,l.com r,rfl,A',zO,by rw [Vb];omega,b2,?_,b1,fun rr H3 s3 F0=>k rr H3 (s2.trans s3) F0⟩;intro u hu;obtain ⟨p,AD,e⟩:=V1.mp hu;unfold topC at e;split at e
   · cases e
   · cases e;rw [gv];omega
inductive lB (vs:List V) (H:Hp) (Q:VK) (_E:XK):Prop
 | mk (b:Vd) (v1 v2 v3 v4:V) (zI:vs=[.ref b]) (zJ:H b=some (.tup [v1,v2,v3,v4])) (zP:Q v1 H):lB  vs H Q _E
def sV:Sp:=lB
inductive iI (vs:List V) (H:Hp) (Q:VK) (_E:XK):Prop
 | mk (b:Vd) (v1 v2 v3 v4:V) (zI:vs=[.ref b]) (zJ:H b=some (.tup [v1,v2,v3,v4])) (zP:Q v4 H):iI  vs H Q _E
def oI:Sp:=iI
theorem db:aW P w K mg base CX0 1 T.g_ins_of.f T.g_ins_of.d ["book"] sV:=by
 refine T.g_ins_of.F.ok sX (fun vs H Q E h=>?_) (fun zG A outer s H vs Q E hr h=>?_)
 · obtain ⟨b,v1,v2,v3,v4,rfl,_⟩:=h;rfl
 obtain ⟨b,v1,v2,v3,v4,rfl,e,q⟩:=h;refine ⟨_,(af (aC (aZ bL (pv 0) am (fun _ _=>rfl)))),?_⟩
 try dsimp only [zV,zC]
 exact ⟨_,rfl,b,_,0,v1,rfl,rfl,SqT.of e,at0,q⟩
theorem dR:aW P w K mg base CX0 1 T.g_rules_of.f T.g_rules_of.d ["book"] oI:=by
 refine T.g_rules_of.F.ok pe (fun vs H Q E h=>?_) (fun zG A outer s H vs Q E hr h=>?_)
 · obtain ⟨b,v1,v2,v3,v4,rfl,_⟩:=h;rfl
 obtain ⟨b,v1,v2,v3,v4,rfl,e,q⟩:=h;refine ⟨_,(af (aC (aZ bL (pv 0) am (fun _ _=>rfl)))),?_⟩
 try dsimp only [zV,zC]
 exact ⟨_,rfl,b,_,3,v4,rfl,rfl,SqT.of e,cx (j:=3) rfl,q⟩
inductive gM (vs:List V) (H:Hp) (Q:VK) (_E:XK):Prop
 | mk (b:Vd) (v1 v2 v3:V) (ra:Vd) (xs:List V) (zI:vs=[.ref b]) (zJ:H b=some (.tup [v1,v2,v3,.ref ra])) (zP:H ra=some (.tup xs)) (zZ:Q (.int xs.length) H):gM  vs H Q _E
def nT:Sp:=gM
theorem nM:aW P w K mg base CX0 2 T.g_states_of.f T.g_states_of.d ["book"] nT:=by
 refine T.g_states_of.F.ok nz (fun vs H Q E h=>?_) (fun zG A outer s H vs Q E hr h=>?_)
 · obtain ⟨b,v1,v2,v3,ra,xs,rfl,_⟩:=h;rfl
 obtain ⟨b,v1,v2,v3,ra,xs,rfl,e,e2,q⟩:=h;refine ⟨_,(af (aC (aX aF rfl T.n_len Wh (aa (pcF T.g_rules_of (dR T) hr (aa (pv 0) ac)) ac)))),?_⟩
 try dsimp only [zV,zC]
 exact ⟨_,rfl,b,_,_,_,_,rfl,e,ra,_,rfl,.inr (SqT.of e2),q⟩
inductive fT (vs:List V) (H:Hp) (Q:VK) (_E:XK):Prop
 | mk (ia:Vd) (zQ:List Vd) (ins:List (VM×Int)) (zI:vs=[.ref ia]) (zJ:H ia=some (.tup (zQ.map V.ref))) (zP:KsAt H ins zQ) (zZ:bR ins) (Ai:∀ (r:Vd) (H':Hp),L2.Same H H'->At H' (aG ins) r->Q (.ref r) H'):fT  vs H Q _E
def gE:Sp:=fT
theorem dZ:aW P w K mg base CX0 1 T.g_small_tree.f T.g_small_tree.d ["ins"] gE:=by
 refine T.g_small_tree.F.ok mn (fun vs H Q E h=>?_) (fun zG A outer s H vs Q E hr h=>?_)
 · obtain ⟨ia,zQ,ins,rfl,_⟩:=h;rfl
 obtain ⟨ia,zQ,ins,rfl,ei,D5,g,q⟩:=h;refine ⟨_,(af (aC (aZ bu (cj (N:=[Vf "name",Vf "many"]) (js:=[none,none]) (g:=(mh K 2 (cD (ax 0) (cD (ax 1) mi)))) (tt:=(re (tOp (rEq) (bc 1) (tC (.int 0))))) (te:=(kb (aJ (bc 0) cy))) rfl (cv rfl (by decide +kernel) (by decide +kernel) rfl rfl rfl) (l6 (pv 0)) (fun _ _ _ _ _ _=>(ba rfl (aq (aj (i:=0) vM rfl (VE rfl)) (aq (aj (i:=1) vM rfl (VE rfl)) aN)))) (gh (bI aS (aO rfl) (bI aS (aO rfl) f8))) (fun _ _ _ _ _ _=>i5 (ci mF (pv 1) am (bP _))) (fun _ _ _ _ _ _=>(aB (aa (pv 0) ac)))) am (fun _ _=>rfl)))),?_⟩
 try dsimp only [zV,zC]
 have B1:ins.length=zQ.length:=Vv D5;have ME:=g.le;refine ⟨_,rfl,ia,rfl,⟨_,SqT.of ei⟩,uT (F:=fun H (k:VM×Int) a=>At H (.knot k.1 []) a) (xs:=zQ.map V.ref) ins (fun k=>decide (k.2=0)) (fun H1 H2 z p kt h=>h.mono kt) (by rw [Vb];exact B1) (by rw [Vb];omega) (fun i Hx sx hi=>⟨_,_,SqT.of (sx _ _ ei),Ve hi⟩) (fun Hx sx=>⟨_,SqT.of (sx _ _ ei),Vj _⟩) (fun i Hx x Hy sx hi hy=>⟨hy.1,hy.2 _ (SqT.of (sx _ _ ei))⟩) (fun i x z Hx R W' hx CQ sx hR hW=>?_) (fun D H1 as hD s1 eD Eu=>?_)⟩
 · obtain ⟨ka,rfl,BW⟩:=aV hx;obtain ⟨z',BE,ez⟩:=P2.get' D5 BW;rw [CQ] at BE;cases BE;have MF:Hx ka=some (.tup [.str z.1,.int z.2]):=sx _ _ ez;refine ⟨ka,_,rfl,SqT.of MF,rfl,_,_,rfl,_,_,rfl,rfl,_,rfl,rfl,_,rfl,?_⟩;have hm:=Vh CQ;by_cases hc:z.2=0
   · rw [if_pos (decide_eq_true (by rw [hc]))];refine ⟨_,rfl,ak (by show 1<=1000000;decide),fun p hp=>hR (decide_eq_true hc) _ p (ad hp _) ?_⟩;rw [At];exact ⟨rC (g.low z hm).1,[],ab,.nil⟩
   · rw [if_neg (fun z2=>hc (V.int.inj (of_decide_eq_true z2)))];exact hW (decide_eq_false hc) _ (.refl _)
 · refine hid fun ZZ kZ=>?_;obtain ⟨k0,AA,EX⟩:=kJ g;obtain ⟨r,MG,hA⟩:=P2.get Eu (i:=0) AA;refine kZ ?_;exact ⟨D,_,0,.ref r,rfl,rfl,SqL.of eD,at_nonneg (Int.le_refl _) (by rw [Vp];show Option.map V.ref as[0]?=_;rw [MG];rfl),q r H1 s1 (by rw [eL AA];exact hA)⟩
def wG (H:Hp) (ins:List (VM×Int)) (f':List (Key×V)) (us:List Th):Prop:=∀ (i:Nat) (u:Th),us[i]?=some u->(∃ a,aQ f' (VR (i:Int))=some (.ref a)/\At H u a)∨(aQ f' (VR (i:Int))=none/\u=aG ins)
inductive f6 (vs:List V) (H:Hp) (Q:VK) (_E:XK):Prop
 | mk (ia ka da:Vd) (zQ:List Vd) (ins:List (VM×Int)) (kd:VM×Int) (f':List (Key×V)) (us:List Th) (zI:vs=[.ref ia,.ref ka,.ref da]) (zJ:H ia=some (.tup (zQ.map V.ref))) (zP:KsAt H ins zQ) (zZ:bR ins) (Ai:KAt H kd ka) (AX:kd∈ins) (Eg:H da=some (.dK f')) (Fy:us.length=kd.2.toNat) (ID:wG H ins f' us) (IE:∀ (r:Vd) (H':Hp),L2.Same H H'->At H' (.knot kd.1 us) r->Q (.ref r) H'):f6  vs H Q _E
def mr:Sp:=f6
set_option maxHeartbeats 1000000 in
theorem dY:aW P w K mg base CX0 2 T.g_knot_above.f T.g_knot_above.d ["ins","kind","kids"] mr:=by
 refine T.g_knot_above.F.ok ej (fun vs H Q E h=>?_) (fun zG A outer s H vs Q E hr h=>?_)
 · obtain ⟨ia,ka,da,zQ,ins,kd,f',us,rfl,_⟩:=h;rfl
 obtain ⟨ia,ka,da,zQ,ins,kd,f',us,rfl,ei,D5,g,ek,hm,ed,PR,Hr,q⟩:=h
 refine ⟨_,(ae (fE (pv 1) (ba rfl (aq (aj (i:=3) ej.nd rfl (VE rfl)) (aq (aj (i:=4) ej.nd rfl (VE rfl)) aN))))
  (af (aC (aH eZ (aB (aa (pv 3) ac)) (bz be rfl T.n_tuple WM (aa (cj (N:=[Vf "kid",Vf "kids",Vf "ins"]) (js:=[none,some 2,some 0]) (g:=(ax 0)) (tt:=bH) (te:=(uY (bc 1) (bc 0) (cW gE [] E0 (aJ (bc 2) cy)))) rfl (cv rfl (by decide +kernel) (by decide +kernel) rfl rfl rfl) (bp rfl T.n_range (aa (pv 4) ac)) (fun _ _ _ _ _ _=>(aj (i:=0) zo rfl (VE rfl))) (aO rfl) (fun _ _ _ _ _ _=>bO) (fun _ _ _ _ _ _=>(tW (iU hr) (pv 1) (pv 0) (pcF T.g_small_tree (dZ T) hr (aa (pv 2) ac)) ⟨rfl,rfl,rfl,rfl⟩))) ac)))))),?_⟩
 try dsimp only [zV,zC]
 have Cj:=g.num kd hm;have So:H ka=some (.tup [.str kd.1,.int kd.2]):=ek;refine ⟨_,rfl,ka,_,rfl,SqT.of So,rfl,_,_,rfl,_,_,rfl,rfl,?_⟩;refine ⟨_,rfl,ak (by show 1<=1000000;decide),fun p1 Cw=>?_⟩;dsimp only;have s1:L2.Same H (upd H p1 (.tup [.str kd.1])):=ad Cw _;have e1:(upd H p1 (.tup [.str kd.1])) p1=some (.tup [.str kd.1]):=ab;generalize (upd H p1 (.tup [.str kd.1]))=H1 at s1 e1 ⊢;have hlen:us.length=((V9 kd.2.toNat).map fun i=>V.int (i:Nat)).length:=by rw [PR,Vb,VT]
 refine ⟨_,rfl,kd.2,rfl,by omega,by omega,km (F:=At) (xs:=(V9 kd.2.toNat).map fun i=>V.int (i:Nat)) us (fun H1 H2 z p kt h=>h.mono kt) hlen (by rw [Vb,VT];omega) (fun i Hx sx hi=>by rw [Vb,VT] at hi;exact hi) (fun Hx sx=>by rw [Vb,VT];exact Vj _) (fun i Hx x Hy sx hi hy=>⟨hy.1,?_⟩) (fun i y z Hx R W' hy CQ sx hR=>?_) (fun D H2 as hD s2 eD Eu=>?_)⟩
 · rw [Vb,VT] at hi;rw [Vp,Wz hi,hy.2];show some (V.int ((i:Nat):Int))=some (V.int (0+((i:Nat):Int)));rw [Xl]
 · have hi:i<kd.2.toNat:=by have:=(Vn.mp CQ).1;rwa [PR] at this
   rw [Vp,Wz hi] at hy;cases hy;have Kx:=s1.trans sx;have PU:Hx da=some (.dK f'):=Kx _ _ ed;refine ⟨_,rfl,da,rfl,.inl ⟨f',.inl PU⟩,_,rfl,_,rfl,ia,zQ,ins,rfl,Kx _ _ ei,D5.mono (Same.kt Kx),g,fun r H3 s3 F0=>?_⟩;refine ⟨_,DGet.k (k:=VR ((i:Nat):Int)) (s3 _ _ PU),?_⟩;rcases Hr i z CQ with ⟨a,hv,ha⟩ | ⟨hv,rfl⟩
   · rw [hv];exact hR H3 a s3 (ha.mono (Same.kt (Kx.trans s3)))
   · rw [hv];exact hR H3 r s3 F0
 have AN:=Vv Eu;refine ⟨D,_,rfl,.inl ⟨SqL.of eD,fun tp C7=>?_⟩⟩;have s3:L2.Same H2 (upd H2 tp (.tup (as.map V.ref))):=ad C7 _;have e3:(upd H2 tp (.tup (as.map V.ref))) tp=some (.tup (as.map V.ref)):=ab;generalize (upd H2 tp (.tup (as.map V.ref)))=H3 at s3 e3 ⊢;refine qx ((s2.trans s3) _ _ e1) e3 (by rw [Vb];show 1+as.length<=1000000;omega) fun p H4 s4 e4=>?_;refine q p H4 (s1.trans (s2.trans (s3.trans s4))) ?_;rw [At];exact ⟨rC (g.low kd hm).1,as,e4,(lH Eu).mono (Same.kt (s3.trans s4))⟩
theorem oB {k:Nat} {A:V2} (hr:L2.Room k A):A.units+148+4<W7:=by
 have:=iX hr;omega
inductive dX (vs:List V) (H:Hp) (Q:VK) (_E:XK):Prop
 | mk (b:Vd) (ins outs:List (VM×Int)) (head:Th) (rows:List (List Th)) (zI:vs=[.ref b]) (zJ:Bk H ins outs head rows b) (zP:bR ins) (zZ:rows.length<=100) (Ai:(∀ row∈rows,row.length=ins.length)) (AX:∀ (r:Vd) (f':List (List Key×V)) (H':Hp),L2.Same H H'->H r=none->H' r=some (.dT f')->MkAt H' ins rows f'->Q (.ref r) H'):dX  vs H Q _E
def jr:Sp:=dX
def yq (H:Hp) (ins:List (VM×Int)) (rows:List (List Th)) (f':List (List Key×V)) (i j:Nat):Prop :=
 ∀ (s k:Nat) (row:List Th) (p:Th),k<3->(s<i∨(s=i/\k<j))->rows[s]?=some row->row[cB ins]?=some p->∃ a,aQ f' [VR (s:Int),VR (k:Int)]=some (.ref a)/\At H p a
set_option maxHeartbeats 2000000 in
theorem jp:aW P w K mg base CX0 2 T.g_first_makings.f T.g_first_makings.d ["book"] jr:=by
 refine T.g_first_makings.F.ok bd (fun vs H Q E h=>?_) (fun zG A outer s H vs Q E hr h=>?_)
 · obtain ⟨b,ins,outs,head,rows,rfl,_⟩:=h;rfl
 obtain ⟨b,ins,outs,head,rows,rfl,hB,g,D3,Ba,q⟩:=h;refine hid fun ZZ kZ=>?_;obtain ⟨ia,oa,ha,ra,zQ,An,Bi,hB⟩:=hB;refine kZ ?_
 refine ⟨_,(ae (dM (i:=1) (N:=[Vf "name",Vf "many"]) (js:=[none,none]) (g:=(mh K 2 (cD (ax 0) (cD (ax 1) mi)))) (tt:=bH) (te:=(kb (aJ (bc 0) cy))) bd.nd rfl (VE rfl) rfl (cv rfl (by decide +kernel) (by decide +kernel) rfl rfl rfl) (l6 (pcF T.g_ins_of (db T) hr (aa (pv 0) ac))) (fun _ _ _ _ _ _=>(ba rfl (aq (aj (i:=0) vM rfl (VE rfl)) (aq (aj (i:=1) vM rfl (VE rfl)) aN)))) (gh (bI aS (aO rfl) (bI aS (aO rfl) f8))) (fun _ _ _ _ _ _=>bO) (fun _ _ _ _ _ _=>(aB (aa (pv 0) ac))))
  (ae (aA (i:=2) bd.nd rfl (VE rfl) (bK Vy ZO PySem.F.type_list_index (mO (B:=148) (oB hr)) (pv 1) (aa (pcF T.g_small_tree (dZ T) hr (aa (pcF T.g_ins_of (db T) hr (aa (pv 0) ac)) ac)) ac)))
  (ae (aA (i:=3) bd.nd rfl (VE rfl) l4)
  (ae (bw VZ rfl (nI rfl T.n_enumerate (pcF T.g_rules_of (dR T) hr (aa (pv 0) ac))) (ba rfl (aq (aj (i:=4) bd.nd rfl (VE rfl)) (aq (aj (i:=5) bd.nd rfl (VE rfl)) aN))) (af (bw VZ rfl (bp rfl T.n_range (aa (b9 (v:=.int (3)) rfl T.c_MOST_KIDS.choose_spec ⟨_,rfl⟩) ac)) (aj (i:=6) bd.nd rfl (VE rfl)) (af (nJ (iU hr) (pv 3) (aB (aa (pv 4) (aa (pv 6) ac))) (aZ bL (pv 5) (pv 2) (fun _ _=>rfl)) rfl)))))
  (af (aC (pv 3))))))),?_⟩
 try dsimp only [zV,zC]
 have B1:ins.length=zQ.length:=Vv hB.inK;have F1:rows.length=Bi.length:=Vv hB.rw;have ME:=g.le;refine ⟨_,rfl,b,_,_,_,_,rfl,hB.bk,ia,rfl,⟨_,SqT.of hB.inE⟩,km (F:=fun H (k:VM×Int) a=>At H (.knot k.1 []) a) (xs:=zQ.map V.ref) ins (fun H1 H2 z p kt h=>h.mono kt) (by rw [Vb];exact B1) (by rw [Vb];omega) (fun i Hx sx hi=>⟨_,_,SqT.of (sx _ _ hB.inE),Ve hi⟩) (fun Hx sx=>⟨_,SqT.of (sx _ _ hB.inE),Vj _⟩) (fun i Hx x Hy sx hi hy=>⟨hy.1,hy.2 _ (SqT.of (sx _ _ hB.inE))⟩) (fun i x z Hx R W' hx CQ sx hR=>?_) (fun D H1 as hD s1 eD Eu=>?_)⟩
 · obtain ⟨ka,rfl,BW⟩:=aV hx;obtain ⟨z',BE,ez⟩:=P2.get' hB.inK BW;rw [CQ] at BE;cases BE;have MF:Hx ka=some (.tup [.str z.1,.int z.2]):=sx _ _ ez;refine ⟨ka,_,rfl,SqT.of MF,rfl,_,_,rfl,_,_,rfl,rfl,?_⟩;refine ⟨_,rfl,ak (by show 1<=1000000;decide),fun p hp=>hR _ p (ad hp _) ?_⟩;rw [At];exact ⟨rC (g.low z (Vh CQ)).1,[],ab,.nil⟩
 -- at
 obtain ⟨k0,AA,EX⟩:=kJ g;have hI:=eS AA;refine ⟨_,rfl,.inl ⟨rfl,_,SqL.of eD⟩,_,rfl,b,_,_,_,_,rfl,s1 _ _ hB.bk,ia,zQ,ins,rfl,s1 _ _ hB.inE,hB.inK.mono (Same.kt s1),g,fun st H2 s2 AB=>?_⟩;have BX:=s1.trans s2;have MH:Ats H2 (ins.map fun k=>Th.knot k.1 []) as:=(p5 Eu).mono (Same.kt s2);refine ⟨D,.ref st,_,(aG ins).dv,dvs (ins.map fun k=>Th.knot k.1 []),cB ins,rfl,rfl,SqL.of (s2 _ _ eD),AB.dv,MH.dvs,?_,?_,fun i hi hz=>?_,?_,?_⟩
 · have h1:=iJ (ins.map fun k=>Th.knot k.1 [])
   have h2:bf (ins.map fun k=>Th.knot k.1 [])<=1:=eQ fun u hu=>by
    obtain ⟨k,_,rfl⟩:=V1.mp hu;rw [Th.tall,bf];exact Vj _
   omega
 · rw [rc,Vp,hI,eL AA];rfl
 · rw [rc,Vp] at hz;cases Ky:ins[i]? with
   | none=>rw [Ky] at hz;cases hz
   | some k =>
     rw [Ky,eL AA] at hz;have PV:(Th.knot k.1 []).dv=(Th.knot k0.1 []).dv:=VL hz;rw [Th.dv,Th.dv] at PV;have Sq:=Dv.tup.inj PV;injection Sq with Sr _;injection Sr with PX;have:=g.nd i (cB ins) k k0 Ky hI PX;omega
 · rw [r8,Vb];omega
 -- made
 intro td F2;dsimp only [ax];have s3:L2.Same H2 (upd H2 td (.dT [])):=ad F2 _;have e3:(upd H2 td (.dT [])) td=some (.dT []):=ab;have IP:H td=none:=BX.free F2;generalize (upd H2 td (.dT []))=H3 at s3 e3 ⊢;have Fe:=BX.trans s3;refine ⟨_,rfl,b,_,_,_,_,rfl,Fe _ _ hB.bk,ra,rfl,⟨_,SqT.of (Fe _ _ hB.rl)⟩,?_⟩
 refine uc (K:=K) (a:=ra) (xs:=Bi.map V.ref) (fun i σ H4=>Ex4 fun (c4 c5 c6:Option V) (tk:List (List Key×V))=>An5 (σ=[some (.ref b),some (.ref D),some (.int (cB ins:Nat)),some (.ref td),c4,c5,c6]) (L2.Same H H4) (H4 td=some (.dT tk)) (tk.length<=3 * i) (yq H4 ins rows tk i 0))
  ⟨none,none,none,[],rfl,Fe,e3,VJ _,fun s k row p _ h=>by rcases h with h | ⟨_,h⟩ <;> cases h⟩ (fun i σ H4 _ ⟨_,_,_,_,_,s4,_,_,_⟩=>SqT.of (s4 _ _ hB.rl)) ?_ ?_
 · rintro i x pr σ H4 hx Bo ⟨c4,c5,c6,tk,rfl,s4,F3,hlen,zE⟩;refine hid fun ZZ kZ=>?_;obtain ⟨rwa,rfl,MI⟩:=aV hx;obtain ⟨row,zy,IQ,F4,Ff⟩:=P2.get' hB.rw MI;refine kZ ?_;have Ss:i<100:=by have:=(Vn.mp zy).1;omega
   have Su:=Ba row (Vh zy);have Ew:=Ff.length;have R8:=(Vn.mp hI).1;have s5:L2.Same H4 (upd H4 pr (.tup [.int ((i:Nat):Int),.ref rwa])):=ad Bo _;have e5:(upd H4 pr (.tup [.int ((i:Nat):Int),.ref rwa])) pr=some (.tup [.int ((i:Nat):Int),.ref rwa]):=ab;generalize (upd H4 pr (.tup [.int ((i:Nat):Int),.ref rwa]))=H5 at s5 e5 ⊢;have MJ:=s4.trans s5;refine ⟨pr,_,rfl,SqT.of e5,rfl,_,_,rfl,_,_,rfl,rfl,?_⟩;dsimp only [ax];refine ⟨3,rfl,by decide,by decide,?_⟩
   refine dg (n:=3) (fun j σ H6=>Ex2 fun (c6:Option V) (tk:List (List Key×V))=>An5 (σ=[some (.ref b),some (.ref D),some (.int (cB ins:Nat)),some (.ref td),some (.int ((i:Nat):Int)),some (.ref rwa),c6]) (L2.Same H H6) (H6 td=some (.dT tk)) (tk.length<=3 * i+j) (yq H6 ins rows tk i j))
    ⟨_,tk,rfl,MJ,s5 _ _ F3,hlen,fun s k row p hk h h1 h2=>by
     obtain ⟨a,a1,a2⟩:=zE s k row p hk h h1 h2;exact ⟨a,a1,a2.mono (Same.kt s5)⟩⟩ ?_ ?_
   · rintro j σ H6 hj ⟨c6,tk,rfl,s6,MK,hlen,zE⟩;refine hid fun ZZ kZ=>?_;obtain ⟨pa,E3⟩:∃ a,IQ[cB ins]?=some a:=⟨_,Ve (by omega)⟩;obtain ⟨p0,D0,DG⟩:=Ff.get E3;refine kZ ?_;refine ⟨_,rfl,_,rfl,rwa,_,_,.ref pa,rfl,rfl,SqT.of (s6 _ _ F4),cx (by rw [Vp,E3];rfl),_,rfl,_,rfl,_,rfl,ak (by show 2<=1000000;decide),fun kp CS=>?_⟩;have s7:L2.Same H6 (upd H6 kp (.tup [.int ((i:Nat):Int),.int (0+((j:Nat):Int))])):=ad CS _;have e7:(upd H6 kp (.tup [.int ((i:Nat):Int),.int (0+((j:Nat):Int))])) kp=some (.tup ([VR ((i:Nat):Int),VR (0+((j:Nat):Int))].map kV)):=ab;generalize (upd H6 kp (.tup [.int ((i:Nat):Int),.int (0+((j:Nat):Int))]))=H7 at s7 e7 ⊢;have PY:=s7 _ _ MK;refine ⟨td,_,rfl,DPut.t PY e7 (aE (by omega)),?_⟩
     have D6:KT H7 (upd H7 td (.dT (putK tk [VR ((i:Nat):Int),VR (0+((j:Nat):Int))] (.ref pa)))):=fun c ys ec=>by
      rw [ag (fN ec PY (fun z=>nomatch z))];exact ec
     refine ⟨_,_,rfl,au (s6.trans s7) IP,ab,?_,fun s k CT p' hk h h1 h2=>?_⟩
     · have:=bo tk [VR ((i:Nat):Int),VR (0+((j:Nat):Int))] (V.ref pa);omega
     · rw [fQ];by_cases By:([VR ((s:Nat):Int),VR ((k:Nat):Int)]:List Key)=[VR ((i:Nat):Int),VR (0+((j:Nat):Int))]
       · rw [if_pos By];injection By with e1 e2;have BP:((s:Nat):Int)=(i:Nat):=X9 e1;have:s=i:=by omega
         subst this;rw [zy] at h1;cases h1;rw [D0] at h2;cases h2;exact ⟨pa,rfl,DG.mono ((Same.kt (s6.trans s7)).trans D6)⟩
       · rw [if_neg By]
         have Kz:s<i∨(s=i/\k<j):=by
          rcases h with h | ⟨rfl,h⟩
          · exact .inl h
          · refine .inr ⟨rfl,?_⟩;by_cases Sv:k=j
            · exact absurd (by rw [Sv,Xl]) By
            · omega
         obtain ⟨a,a1,a2⟩:=zE s k CT p' hk Kz h1 h2;exact ⟨a,a1,a2.mono ((Same.kt s7).trans D6)⟩
   · rintro σ H6 ⟨c6,tk,rfl,s6,MK,hlen,zE⟩;exact ⟨_,_,_,tk,rfl,s6,MK,by omega,fun s k row p hk h h1 h2=>zE s k row p hk (by rcases h with h | ⟨_,h⟩;(· by_cases hs:s=i;exact .inr ⟨hs,hk⟩;exact .inl (by omega));exact absurd h (Yt _)) h1 h2⟩
 · rintro σ H4 ⟨c4,c5,c6,tk,rfl,s4,F3,hlen,zE⟩;refine ⟨_,rfl,q td tk H4 s4 IP F3 fun s k row p hk h1 h2=>zE s k row p hk (.inl ?_) h1 h2⟩;rw [Vb,<- F1];exact (Vn.mp h1).1
inductive fF (P:Vu) (w:VI) (K:Vc) (vs:List V) (H:Hp) (Q:VK) (_E:XK):Prop
 | mk (b md pt:Vd) (s:Nat) (ins outs:List (VM×Int)) (head:Th) (rows:List (List Th)) (row:List Th) (Bz:List (List Key×V)) (f':List (aw×V)) (Al:List aw) (Vl:VlT) (zI:vs=[.ref b,.int (s:Nat),.ref md,.ref pt]) (zJ:Bk H ins outs head rows b) (zP:FrK ins outs rows) (zZ:rows[s]?=some row) (Ai:H md=some (.dT Bz)) (AX:MkAt H ins rows Bz) (Eg:Pt P w Vl H pt f' Al) (Fy:Al.length<=1000000) (ID:(∀ x∈(mkF ins rows (s:Nat)).pl [],nk (s:Nat) x.1∈Al)) (IE:(∀ x∈(mkF ins rows (s:Nat)).pl [],x.2.isHole=false)) (IS:(∀ (i:Nat) (p:Th) (kd:VM×Int) (pl:List Int) (u:Th) (ks:List aw),row[i]?=some p->ins[i]?=some kd->(pl,u)∈(frF (mkF ins rows) (mkF ins rows (s:Nat)) (row.take (i+1))).pl []->u.isHole=true->(∀ v,(pl,v)∈(frF (mkF ins rows) (mkF ins rows (s:Nat)) (row.take i)).pl []->v.isHole=false)->Vl ks (nk (s:Nat) pl) (aG ins) (.knot kd.1 (YE kd.2.toNat (aG ins))))) (IT:∀ (r:Vd) (Au:List (aw×V)) (H':Hp),But pt H H'->AtK K H' (frF (mkF ins rows) (mkF ins rows (s:Nat)) row) r->Pt P w Vl H' pt Au Al->(∀ k∈f'.map (·.1),k∈Au.map (·.1))->(∀ i,i<=row.length->∀ x∈(frF (mkF ins rows) (mkF ins rows (s:Nat)) (row.take i)).pl [],x.2.isHole=true->nk (s:Nat) x.1∈Au.map (·.1))->Q (.ref r) H'):fF P w K vs H Q _E
def fV (P:Vu) (w:VI) (K:Vc):Sp:=fF P w K
set_option maxHeartbeats 4000000 in
theorem lb:aW P w K mg base CX0 6 T.g_first_front.f T.g_first_front.d ["book","state","made","partings"] (fV P w K):=by
 refine T.g_first_front.F.ok bt (fun vs H Q E h=>?_) (fun zG A outer s0 H vs Q E hr h=>?_)
 · obtain ⟨b,md,pt,s,ins,outs,head,rows,row,Bz,f',Al,Vl,rfl,_⟩:=h;rfl
 obtain ⟨b,md,pt,s,ins,outs,head,rows,row,Bz,f',Al,Vl,rfl,hB,F,zy,GP,F5,CP,KA,Ct,Cb,hV,q⟩:=h;refine hid fun ZZ kZ=>?_;obtain ⟨ia,oa,ha,ra,zQ,An,Bi,hB⟩:=hB;refine kZ ?_
 refine ⟨_,(ae (aA (i:=4) bt.nd rfl (VE rfl) (pcF T.g_ins_of (db T) hr (aa (pv 0) ac)))
  (ae (aA (i:=5) bt.nd rfl (VE rfl) (kl (iU hr) (pv 2) (aB (aa (pv 1) (aa am ac))) (fun _ _=>rfl)))
  (ae (bw VZ rfl (tX rfl T.n_zip (aa (pv 4) (aa (aZ bL (pcF T.g_rules_of (dR T) hr (aa (pv 0) ac)) (pv 1) (fun _ _=>rfl)) ac))) (ba rfl (aq (aj (i:=6) bt.nd rfl (VE rfl)) (aq (aj (i:=7) bt.nd rfl (VE rfl)) aN))) (ae (aA (i:=5) bt.nd rfl (VE rfl) (pcF T.g_common (tD T) hr (aa (pv 5) (aa (pcF T.g_filled (ja T) hr (aa (pv 7) (aa (pv 2) ac))) ac))))
  (af (bw VZ rfl (cf (pcF T.g_holes_in (j1 T) hr (aa (pv 5) ac))) (aj (i:=8) bt.nd rfl (VE rfl)) (af (aP (vh XF Zn (fR (im hr)) (pv 3) (aa (aB (aa (pv 1) (aa (pv 8) ac))) (aa (aB (aa (pcF T.g_small_tree (dZ T) hr (aa (pv 4) ac)) (aa (pcF T.g_knot_above (dY T) hr (aa (pv 4) (aa (pv 6) (aa pA ac)))) ac))) ac)))))))))
  (af (aC (pv 5)))))),?_⟩
 try dsimp only [zV,zC]
 have g:=F.gi;have B1:ins.length=zQ.length:=Vv hB.inK;have F1:rows.length=Bi.length:=Vv hB.rw;have ME:=g.le;have PQ:=(Vn.mp zy).1;obtain ⟨φ,Ex⟩:=bY CP.dm;have IU:md≠pt:=fun z=>by rw [z,Ex] at GP;cases GP
 -- ins,front
 refine ⟨_,rfl,b,_,_,_,_,rfl,hB.bk,?_⟩;refine hid fun ZZ kZ=>?_;obtain ⟨CT,p0,Mg,D0,D1,z1,z2,f0⟩:=F.mkd (l:=(s:Nat)) (by omega) (by omega);rw [Wg,zy] at Mg;cases Mg;obtain ⟨fa,Sw,CN⟩:=F5 s 0 row p0 (by decide) zy D0;refine kZ ?_;refine ⟨_,rfl,_,rfl,ak (by show 2<=1000000;decide),fun kp CS=>?_⟩;have s1:L2.Same H (upd H kp (.tup [.int ((s:Nat):Int),.int 0])):=ad CS _;have e1:(upd H kp (.tup [.int ((s:Nat):Int),.int 0])) kp=some (.tup (([VR ((s:Nat):Int),VR 0]:List Key).map kV)):=ab;generalize (upd H kp (.tup [.int ((s:Nat):Int),.int 0]))=H1 at s1 e1 ⊢;refine ⟨md,.ref fa,rfl,.inr ⟨Bz,_,kp,.inl (s1 _ _ GP),rfl,e1,Sw.symm⟩,?_⟩
 -- C4 loop
 refine hid fun ZZ kZ=>?_;obtain ⟨Cm,DH,IQ,F4,DI⟩:=P2.get hB.rw zy;refine kZ ?_;have Av:=DI.length;have ML:=(F.fit.row row (Vh zy)).1;refine ⟨_,rfl,_,rfl,b,_,_,_,_,rfl,s1 _ _ hB.bk,_,rfl,ra,_,_,.ref Cm,rfl,rfl,SqT.of (s1 _ _ hB.rl),cx (by rw [Vp,DH];rfl),ia,Cm,rfl,⟨_,SqT.of (s1 _ _ hB.inE)⟩,⟨_,SqT.of (s1 _ _ F4)⟩,?_⟩
 have IV:∀ (i:Nat) (p:Th),row[i]?=some p->∀ l k,Th.call l k∈p.walk->∃ v,aQ Bz [VR l,VR k]=some (.ref v)/\At H (mkF ins rows l) v/\(mkF ins rows l).size<=200:=fun i p hp l k hc=>by
  have zK:=(Vn.mp hp).1;obtain ⟨kd,GK⟩:∃ kd,ins[i]?=some kd:=⟨_,Ve (by omega)⟩;have hf:=(F.fit.row row (Vh zy)).2 i p kd hp GK;have Cj:=g.num kd (Vh GK);obtain ⟨a1,a2,a3,a4⟩:=m5 hf hc;obtain ⟨Sx,p1,b1,b2,b3,b4,_⟩:=F.mkd a1 a2;obtain ⟨v,v1,v2⟩:=F5 l.toNat k.toNat Sx p1 (by omega) b1 b2;rw [Xn a1,Xn a3] at v1;exact ⟨v,v1,by rw [b3];exact v2,by rw [b3];exact b4⟩
 have Sy:∀ i',i'<=0->∀ x∈(frF (mkF ins rows) (mkF ins rows (s:Nat)) (row.take i')).pl [],x.2.isHole=true->nk (s:Nat) x.1∈f'.map (·.1):=fun i' Ak x hx hh=>by
  rw [Nat.le_zero.mp Ak,Yi] at hx;have:=Cb x hx;rw [hh] at this;cases this
 refine rj (K:=K) (a:=ia) (b:=Cm) (xs:=zQ.map V.ref) (ys:=IQ.map V.ref) (by rw [Vb,Vb];omega) (fun i σ H2=>Ex5 fun (fa:Vd) (c6 c7 c8:Option V) (AE:List (aw×V))=>An6 (σ=[some (.ref b),some (.int ((s:Nat):Int)),some (.ref md),some (.ref pt),some (.ref ia),some (.ref fa),c6,c7,c8]) (But pt H H2) (AtK K H2 (frF (mkF ins rows) (mkF ins rows (s:Nat)) (row.take i)) fa) (Pt P w Vl H2 pt AE Al) ((∀ k∈f'.map (·.1),k∈AE.map (·.1))) ((∀ i',i'<=i->∀ x∈(frF (mkF ins rows) (mkF ins rows (s:Nat)) (row.take i')).pl [],x.2.isHole=true->nk (s:Nat) x.1∈AE.map (·.1))))
  ⟨fa,none,none,none,f',rfl,Same.but s1,by rw [Yi,D1];exact (CN.mono (Same.kt s1)).k,CP.same s1,fun _ h=>h,Sy⟩ (fun i σ H2 _ ⟨_,_,_,_,_,_,b2,_,_,_,_⟩=>?_) ?_ ?_
 · have kt:=b2.kt Ex;exact ⟨SqT.of (kt _ _ hB.inE),SqT.of (kt _ _ F4)⟩
 · rintro i x y p2 σ H2 hx hy BS ⟨fa,c6,c7,c8,AE,rfl,b2,BA,Bb,CH,PZ⟩;refine hid fun ZZ kZ=>?_;obtain ⟨ka,rfl,BW⟩:=aV hx;obtain ⟨pa,rfl,E3⟩:=aV hy;obtain ⟨kd,hk,ek⟩:=P2.get' hB.inK BW;obtain ⟨p,hp,DG⟩:=DI.get E3;refine kZ ?_;have MM:=b2.kt Ex;have s3:L2.Same H2 (upd H2 p2 (.tup [.ref ka,.ref pa])):=ad BS _;have e3:(upd H2 p2 (.tup [.ref ka,.ref pa])) p2=some (.tup [.ref ka,.ref pa]):=ab;generalize (upd H2 p2 (.tup [.ref ka,.ref pa]))=H3 at s3 e3 ⊢;have P0:=MM.trans (Same.kt s3);have b3:=b2.trans (Same.but s3);refine ⟨p2,_,rfl,SqT.of e3,rfl,_,_,rfl,_,_,rfl,rfl,?_⟩;dsimp only [ax]
   -- filled,common
   have El:=F.sz row (Vh zy) p (Vh hp);refine ⟨_,rfl,_,rfl,_,rfl,pa,md,p,(fun l _=>mkF ins rows l),Bz,rfl,(DG.mono P0).k,by omega,.inl (b3 _ _ IU GP),fun l k hc=>?_,fun fl H4 s4 GQ=>?_⟩
   · refine hid fun ZZ kZ=>?_;obtain ⟨v,v1,v2,v3⟩:=IV i p hp l k hc;refine kZ ?_;exact ⟨v,v1,(v2.mono P0).k,by omega⟩
   have hsz:=lp (mkF ins rows) (mkF ins rows (s:Nat)) (row.take i);rw [D1] at hsz;have IW:=BA.mono (Same.kt (s3.trans s4));rw [D1] at IW;refine ⟨fa,fl,_,_,rfl,IW,GQ,by omega,by omega,fun cm H5 s5 MN=>?_⟩;have Bf:row.take (i+1)=row.take i++[p]:=by rw [Ww,hp];rfl
   have IX:AtK K H5 (frF (mkF ins rows) (mkF ins rows (s:Nat)) (row.take (i+1))) cm:=by
    rw [Bf,iV,D1];exact MN
   have b5:=b3.trans (Same.but (s4.trans s5));have MO:=Bb.same (s3.trans (s4.trans s5));have UJ:=b5.kt Ex;have MP:=lp (mkF ins rows) (mkF ins rows (s:Nat)) (row.take (i+1));rw [D1] at MP;have IY:=IX;rw [D1] at IY
   -- holes
   refine ⟨_,rfl,cm,_,rfl,IY,by omega,by omega,fun hl bs H6 s6 GR zO=>?_⟩;rw [<- D1] at zO;have b6:=b5.trans (Same.but s6);have IZ:=MO.same s6;have F6:=b6.kt Ex;obtain ⟨Sz,CU⟩:=bY IZ.dm;have MQ:=IX.mono (Same.kt s6);have F7:hl≠pt:=fun z=>by rw [z,CU] at GR;cases GR
   have BV:=Vv zO;have SD:=Yx (fun p:List Int×Th=>p.2.isHole) ((frF (mkF ins rows) (mkF ins rows (s:Nat)) (row.take (i+1))).pl []);rw [Th.pl_len] at SD;have Cj:=g.num kd (Vh hk);refine ⟨hl,rfl,⟨_,SqL.of GR⟩,?_⟩
   refine cz (K:=K) (a:=hl) (xs:=bs.map V.ref) (fun j σ H7=>Ex2 fun (c8:Option V) (Ey:List (aw×V))=>An5 (σ=[some (.ref b),some (.int ((s:Nat):Int)),some (.ref md),some (.ref pt),some (.ref ia),some (.ref cm),some (.ref ka),some (.ref pa),c8]) (But pt H6 H7) (Pt P w Vl H7 pt Ey Al) ((∀ k∈AE.map (·.1),k∈Ey.map (·.1))) (∀ (j':Nat) (pl:List Int),j'<j->((((frF (mkF ins rows) (mkF ins rows (s:Nat)) (row.take (i+1))).pl []).filter fun p=>p.2.isHole).map (·.1))[j']?=some pl->nk (s:Nat) pl∈Ey.map (·.1)))
    ⟨_,AE,rfl,But.refl _ _,IZ,fun _ h=>h,fun _ _ h=>absurd h (Yt _)⟩ (fun j σ H7 _ ⟨_,_,_,b7,_,_,_⟩=>SqL.of (b7 _ _ F7 GR)) ?_ ?_
   · rintro j x σ H7 hx ⟨c8,Ey,rfl,b7,DJ,AI,zE⟩;refine hid fun ZZ kZ=>?_;obtain ⟨pb,rfl,SE⟩:=aV hx;obtain ⟨pl,Ez,MR⟩:=P2.get' zO SE;have D6:=b7.kt CU;have MS:=F6.trans D6;have SF:=D6 _ _ MR
     obtain ⟨Kr,Ig,SG⟩:∃ u,(pl,u)∈(frF (mkF ins rows) (mkF ins rows (s:Nat)) (row.take (i+1))).pl []/\u.isHole=true:=by
      obtain ⟨x,Il,rfl⟩:=V1.mp (Vh Ez);exact ⟨x.2,(WV.mp Il).1,(WV.mp Il).2⟩
     refine kZ ?_
     have MT:nk (s:Nat) pl∈Al:=by
      obtain ⟨x,Il,rfl⟩:=V1.mp (Vh Ez);obtain ⟨u,hu⟩:=qC (mkF ins rows) (mkF ins rows (s:Nat)) (row.take (i+1)) x (WV.mp Il).1;exact Ct (x.1,u) hu
     have UK:=DJ.len;refine ⟨_,rfl,⟨pt,Ey,rfl,DJ.dm⟩,_,rfl,_,rfl,ak (by show 2<=1000000;decide),fun FF MU=>?_⟩;have s8:L2.Same H7 (upd H7 FF (.tup [.int ((s:Nat):Int),.ref pb])):=ad MU _;have e8:(upd H7 FF (.tup [.int ((s:Nat):Int),.ref pb])) FF=some (.tup [.int ((s:Nat):Int),.ref pb]):=ab;generalize (upd H7 FF (.tup [.int ((s:Nat):Int),.ref pb]))=H8 at s8 e8 ⊢;have CV:=MS.trans (Same.kt s8);refine ⟨_,rfl,ia,zQ,ins,rfl,CV _ _ hB.inE,hB.inK.mono CV,g,fun st H9 s9 AB=>?_⟩;have MV:=CV.trans (Same.kt s9);refine ⟨_,rfl,_,rfl,fun dd I0=>?_⟩;have Ag:L2.Same H9 (upd H9 dd (.dK [])):=ad I0 _;have D4:(upd H9 dd (.dK [])) dd=some (.dK []):=ab;generalize (upd H9 dd (.dK []))=Az at Ag D4 ⊢;have F8:=MV.trans (Same.kt Ag);refine ⟨ia,ka,dd,zQ,ins,kd,[],YE kd.2.toNat (aG ins),rfl,F8 _ _ hB.inE,hB.inK.mono F8,g,F8 _ _ ek,Vh hk,D4,by rw [Z9],fun i' u hu=>.inr ⟨rfl,ZM (Vh hu)⟩,fun r2 AY Be FP=>?_⟩;refine ⟨ak (by show 2<=1000000;decide),fun pr Bo=>?_⟩;have Bl:L2.Same AY (upd AY pr (.tup [.ref st,.ref r2])):=ad Bo _;have CW:(upd AY pr (.tup [.ref st,.ref r2])) pr=some (.tup [.ref st,.ref r2]):=ab;generalize (upd AY pr (.tup [.ref st,.ref r2]))=DK at Bl CW ⊢;have F9:=Ag.trans (Be.trans Bl);have EA:=s8.trans (s9.trans F9);have DL:=DJ.same EA;refine ⟨pt,FF,.ref pr,nk (s:Nat) pl,Ey,rfl,rfl,DL.dm,mM ((s9.trans F9) _ _ e8) (EA _ _ SF),aE (by omega),fun u hu=>?_,fun hn EB P1 MW=>?_⟩
     · refine ⟨_,Ey,rfl,b7.trans (Same.but EA),DL,AI,fun j' AU zR AD=>?_⟩;by_cases C9:j'=j
       · subst C9;rw [Ez] at AD;cases AD;exact V1.mpr ⟨_,eT hu,rfl⟩
       · exact zE j' AU (by omega) AD
     · have SH:∀ v,(pl,v)∈(frF (mkF ins rows) (mkF ins rows (s:Nat)) (row.take i)).pl []->v.isHole=false:=fun v hv=>by
        cases SI:v.isHole with
        | false=>rfl
        | true =>
          exfalso;exact cE hn (AI _ (PZ i (Vj _) (pl,v) hv SI))
       obtain ⟨GS,Ja⟩:=DL.put hn P1 MW ⟨pr,st,r2,_,_,rfl,CW,AB.mono (Same.kt F9),FP.mono (Same.kt Bl),hV i p kd pl Kr _ hp hk Ig SG SH⟩ MT;refine ⟨_,_,rfl,(b7.trans (Same.but EA)).trans P1,GS,fun k By=>by rw [Ja];exact V6 _ (AI k By),fun j' AU zR AD=>?_⟩;rw [Ja];by_cases C9:j'=j
       · subst C9;rw [Ez] at AD;cases AD;exact VY _ (VC ..)
       · exact V6 _ (zE j' AU (by omega) AD)
   · rintro σ H7 ⟨c8,Ey,rfl,b7,DJ,AI,zE⟩;refine ⟨cm,_,_,_,Ey,rfl,b6.trans b7,MQ.mono (b7.kt CU),DJ,fun k By=>AI k (CH k By),fun i' Ak x hx hh=>?_⟩;by_cases SJ:i'<=i
     · exact AI _ (PZ i' SJ x hx hh)
     obtain rfl:i'=i+1:=by omega
     have hm:x.1∈(((frF (mkF ins rows) (mkF ins rows (s:Nat)) (row.take (i+1))).pl []).filter fun p=>p.2.isHole).map (·.1):=V1.mpr ⟨x,WV.mpr ⟨hx,hh⟩,rfl⟩;obtain ⟨j',zR⟩:=VH.mp hm;exact zE j' x.1 (by have:=(Vn.mp zR).1;rw [Vb];omega) zR
 · rintro σ H2 ⟨fa,c6,c7,c8,AE,rfl,b2,BA,Bb,CH,hh⟩;rw [Vb] at BA hh;rw [W5 (by omega)] at BA;exact ⟨_,rfl,q fa AE H2 b2 BA Bb CH fun i hi=>hh i (by omega)⟩
def LDone (H:Hp) (G:LG) (s:Nat) (ps:List Th) (f0:Th):Prop:=∀ p∈ps,∀ c∈callsOf (p.pl []),∀ u,(c.1,u)∈f0.pl []->∀ x∈u.pl [],gC H G (nk c.2.1 x.1) (s:Nat) (c.1++x.1)
theorem LDone.sub {H H':Hp} {G G':LG} {s:Nat} {ps:List Th} {f0:Th} (h:LDone H G s ps f0) (k:LSub H H' G G'):LDone H' G' s ps f0:=fun p hp c hc u hu x hx=>k _ _ _ (h p hp c hc u hu x hx)
inductive gO (P:Vu) (w:VI) (K:Vc) (vs:List V) (H:Hp) (Q:VK) (_E:XK):Prop
 | mk (b fa la:Vd) (s:Nat) (ins outs:List (VM×Int)) (head:Th) (rows:List (List Th)) (row:List Th) (f0:Th) (H0:Hp) (G:LG) (N:Nat) (Al:List aw) (Lk:LkT) (zI:vs=[.ref b,.int (s:Nat),.ref fa,.ref la]) (zJ:Bk H ins outs head rows b) (zP:FrK ins outs rows) (zZ:rows[s]?=some row) (Ai:AtK K H f0 fa) (AX:f0.size<=200) (Eg:f0.tall<=100) (Fy:LkI P w ins Al Lk H0 H la G N) (ID:N<=15000000) (IE:(∀ x∈f0.pl [],nk (s:Nat) x.1∈Al)) (IS:(∀ (i:Nat) (p:Th) (kd:VM×Int) (c:List Int×Int×Int) (u:Th) (x:List Int×Th),row[i]?=some p->ins[i]?=some kd->c∈callsOf (p.pl [])->(c.1,u)∈f0.pl []->x∈u.pl []->Lk (nk c.2.1 x.1) (s:Nat) (c.1++x.1) kd c.2.2)) (IT:∀ (G':LG) (H':Hp),KT H H'->LkI P w ins Al Lk H0 H' la G' (N+640000)->LSub H H' G G'->LDone H' G' s row f0->Q .non H'):gO P w K vs H Q _E
def nB (P:Vu) (w:VI) (K:Vc):Sp:=gO P w K
set_option maxHeartbeats 4000000 in
theorem nX:aW P w K mg base CX0 6 T.g_put_links.f T.g_put_links.d ["book","state","front","links"] (nB P w K):=by
 refine T.g_put_links.F.ok bB (fun vs H Q E h=>?_) (fun zG A outer s0 H vs Q E hr h=>?_)
 · obtain ⟨b,fa,la,s,ins,outs,head,rows,row,f0,H0,G,N,Al,Lk,rfl,_⟩:=h;rfl
 obtain ⟨b,fa,la,s,ins,outs,head,rows,row,f0,H0,G,N,Al,Lk,rfl,hB,F,zy,BA,UL,UM,L,hN,Ct,hL,q⟩:=h;refine hid fun ZZ kZ=>?_;obtain ⟨ia,oa,ha,ra,zQ,An,Bi,hB⟩:=hB;refine kZ ?_
 refine ⟨_,(ae (aA (i:=4) bB.nd rfl (VE rfl) (bz (kP (wq hr) rfl) rfl T.n_dict PyProof.Rows.boot_dict (aa (pcF T.g_placed (gr T) hr (aa (pv 2) ac)) ac)))
  (af (bw VZ rfl (tX rfl T.n_zip (aa (pcF T.g_ins_of (db T) hr (aa (pv 0) ac)) (aa (aZ bL (pcF T.g_rules_of (dR T) hr (aa (pv 0) ac)) (pv 1) (fun _ _=>rfl)) ac))) (ba rfl (aq (aj (i:=5) bB.nd rfl (VE rfl)) (aq (aj (i:=6) bB.nd rfl (VE rfl)) aN))) (af (bw VZ rfl (cf (pcF T.g_calls_in (oZ T) hr (aa (pv 6) ac))) (ba rfl (aq (aj (i:=7) bB.nd rfl (VE rfl)) (aq (ba rfl (aq (aj (i:=8) bB.nd rfl (VE rfl)) (aq (aj (i:=9) bB.nd rfl (VE rfl)) aN))) aN))) (af (dF (qe (xn (iU hr) (pv 7) (pv 4))) (af (bw VZ rfl (cf (pcF T.g_places (sO T) hr (aa (kl (iU hr) (pv 4) (pv 7) (fun _ _=>rfl)) ac))) (aj (i:=10) bB.nd rfl (VE rfl)) (af (aP (bK Vy VQ VP aL (vh XF Zn (fR (im hr)) (pv 3) (aa (aB (aa (pv 8) (aa (pv 10) ac))) (aa (bq ac) ac))) (aa (aB (aa (pv 1) (aa (aH eZ (pv 7) (pv 10)) (aa (pv 5) (aa (pv 9) ac))))) ac)))))) cX))))))),?_⟩
 try dsimp only [zV,zC]
 have g:=F.gi;have B1:ins.length=zQ.length:=Vv hB.inK;have ME:=g.le;have PQ:=(Vn.mp zy).1
 -- parts
 refine ⟨_,rfl,fa,f0,rfl,BA,by omega,by omega,fun SK KC H1 s1 UN IF Am=>?_⟩;have MX:(f0.pl []).length=KC.length:=Vv Am;rw [Th.pl_len] at MX;refine hid fun ZZ kZ=>?_;obtain ⟨prs,Jb,MY,MZ⟩:∃ prs:List (List Key×V),VW (PrA H1) prs KC/\(∀ p∈prs,∃ x∈f0.pl [],p.1=x.1.map VR/\∃ a,p.2=.ref a/\AtK K H1 x.2 a)/\∀ x∈f0.pl [],∃ p∈prs,p.1=x.1.map VR:=tU Am;refine kZ ?_;have P4:prs.length=KC.length:=Vv Jb;refine ⟨SK,KC,prs,rfl,IF,Jb,by omega,fun pd SM=>?_⟩;have s2:L2.Same H1 (upd H1 pd (.dT (bW [] prs))):=ad SM _;have e2:(upd H1 pd (.dT (bW [] prs))) pd=some (.dT (bW [] prs)):=ab;generalize (upd H1 pd (.dT (bW [] prs)))=H2 at s2 e2 ⊢;refine hid fun ZZ kZ=>?_;obtain ⟨f1,f2⟩:=jF (R:=fun k v=>∃ x∈f0.pl [],k=x.1.map VR/\∃ a,v=.ref a/\AtK K H1 x.2 a) prs [] (fun k v hv=>by cases hv) MY;have BX:=s1.trans s2;have F':=L.same BX;obtain ⟨Cm,DH,IQ,F4,DI⟩:=P2.get hB.rw zy;refine kZ ?_;have Av:=DI.length;have ML:=(F.fit.row row (Vh zy)).1
 have M0:∀ (q:List Int) (u:Th),(q,u)∈f0.pl []->∃ a,aQ (bW [] prs) (q.map VR)=some (.ref a)/\AtK K H1 u a:=fun q u hu=>by
  obtain ⟨p,hp,e⟩:=MZ (q,u) hu;obtain ⟨v,hv⟩:=f2 (q.map VR) (.inr ⟨p,hp,e⟩);obtain ⟨x,hx,ex,a,rfl,ha⟩:=f1 _ v hv;have hq:q=x.1:=(Zz (fun _ _ e=>X9 e)).mp ex;have:u=x.2:=qu _ (Vj _) hu (by rw [hq];exact hx);rw [this];exact ⟨a,hv,ha⟩
 have M1:∀ (q:List Int) (v:V),aQ (bW [] prs) (q.map VR)=some v->∃ u a,(q,u)∈f0.pl []/\v=.ref a/\AtK K H1 u a:=fun q v hv=>by
  obtain ⟨x,hx,ex,a,rfl,ha⟩:=f1 _ v hv;have hq:q=x.1:=(Zz (fun _ _ e=>X9 e)).mp ex;exact ⟨x.2,a,by rw [hq];exact hx,rfl,ha⟩
 have Fg:pd≠la:=fun z=>by
  obtain ⟨φ,e⟩:=bY F'.dm;rw [z,e] at e2;cases e2
 have M3:∀ g∈G,g.2.1≠pd:=fun g hg z=>by
  have:=(F'.ls g hg).2.1;rw [z,e2] at this;cases this
 refine ⟨_,rfl,b,_,_,_,_,rfl,BX _ _ hB.bk,_,rfl,b,_,_,_,_,rfl,BX _ _ hB.bk,_,rfl,ra,_,_,.ref Cm,rfl,rfl,SqT.of (BX _ _ hB.rl),cx (by rw [Vp,DH];rfl),ia,Cm,rfl,⟨_,SqT.of (BX _ _ hB.inE)⟩,⟨_,SqT.of (BX _ _ F4)⟩,?_⟩
 refine rj (K:=K) (a:=ia) (b:=Cm) (xs:=zQ.map V.ref) (ys:=IQ.map V.ref) (by rw [Vb,Vb];omega) (fun i σ H3=>Ex7 fun (c5 c6 c7 c8 c9 Cz:Option V) (G3:LG)=>An3 (σ=[some (.ref b),some (.int ((s:Nat):Int)),some (.ref fa),some (.ref la),some (.ref pd),c5,c6,c7,c8,c9,Cz]) (LQ P w ins Al Lk H0 la H2 G H3 G3 (N+i * 80000)) (LDone H3 G3 s (row.take i) f0))
  ⟨none,none,none,none,none,none,G,rfl,(LQ.refl F').up (by omega),fun p hp=>by rw [Yi] at hp;cases hp⟩ (fun i σ H3 _ ⟨_,_,_,_,_,_,_,_,q3,_⟩=>?_) ?_ ?_
 · have kt:=(Same.kt BX).trans (q3.kt F');exact ⟨SqT.of (kt _ _ hB.inE),SqT.of (kt _ _ F4)⟩
 · rintro i x y p2 σ H3 hx hy BS ⟨c5,c6,c7,c8,c9,Cz,G3,rfl,q3,d3⟩;refine hid fun ZZ kZ=>?_;obtain ⟨ka,rfl,BW⟩:=aV hx;obtain ⟨pa,rfl,E3⟩:=aV hy;obtain ⟨kd,hk,ek⟩:=P2.get' hB.inK BW;obtain ⟨p,hp,DG⟩:=DI.get E3;refine kZ ?_;have SN:i<8:=by have:=(Vn.mp hk).1;omega
   have s4:L2.Same H3 (upd H3 p2 (.tup [.ref ka,.ref pa])):=ad BS _;have e4:(upd H3 p2 (.tup [.ref ka,.ref pa])) p2=some (.tup [.ref ka,.ref pa]):=ab;generalize (upd H3 p2 (.tup [.ref ka,.ref pa]))=H4 at s4 e4 ⊢;have q4:=q3.same s4;have KD:=(Same.kt BX).trans (q4.kt F');refine ⟨p2,_,rfl,SqT.of e4,rfl,_,_,rfl,_,_,rfl,rfl,?_⟩;dsimp only [ax];have El:=F.sz row (Vh zy) p (Vh hp);refine ⟨_,rfl,pa,p,rfl,(DG.mono KD).k,by omega,by omega,fun cl cs H5 s5 SO GU DV=>?_⟩;have q5:=q4.same s5;have d5:=d3.sub (LSub.kt (Same.kt (s4.trans s5)) G3);have L5:=q5.lk;have M4:(callsOf (p.pl [])).length=cs.length:=Vv DV;have M5:=jU (p.pl []);rw [Th.pl_len] at M5
   have M6:∀ g∈G3,g.2.1≠cl:=fun g hg z=>by
    have:=(q4.lk.ls g hg).2.1;rw [z,SO] at this;cases this
   have Jc:cl≠la:=fun z=>by
    obtain ⟨φ,e⟩:=bY L5.dm;rw [z,e] at GU;cases GU
   refine ⟨cl,rfl,⟨_,SqL.of GU⟩,?_⟩
   refine cz (K:=K) (a:=cl) (xs:=cs.map V.ref) (fun j σ H6=>Ex5 fun (c7 c8 c9 Cz:Option V) (G6:LG)=>An3 (σ=[some (.ref b),some (.int ((s:Nat):Int)),some (.ref fa),some (.ref la),some (.ref pd),some (.ref ka),some (.ref pa),c7,c8,c9,Cz]) (LQ P w ins Al Lk H0 la H5 G3 H6 G6 (N+i * 80000+j * 400)) (∀ (j':Nat) (c:List Int×Int×Int),j'<j->(callsOf (p.pl []))[j']?=some c->∀ u,(c.1,u)∈f0.pl []->∀ x∈u.pl [],gC H6 G6 (nk c.2.1 x.1) (s:Nat) (c.1++x.1)))
    ⟨_,_,_,_,G3,rfl,(LQ.refl L5).up (by omega),fun _ _ h=>absurd h (Yt _)⟩ (fun j σ H6 _ ⟨_,_,_,_,_,_,q6,_⟩=>SqL.of (q6.fr _ _ GU Jc M6)) ?_ ?_
   · rintro j x σ H6 hx ⟨c7,c8,c9,Cz,G6,rfl,q6,d6⟩;refine hid fun ZZ kZ=>?_;obtain ⟨ca,rfl,Mw⟩:=aV hx;obtain ⟨c,hc,P5,SQ,SR,P6,M7⟩:=P2.get' DV Mw;refine kZ ?_;have F6:=q6.kt L5;have FL:j<200:=by have:=(Vn.mp hc).1;omega
     have Jd:H5 pd=some (.dT (bW [] prs)):=q5.fr _ _ e2 Fg M3
     have Je:∀ g∈G3,g.2.1≠pd:=fun g hg z=>by
      have:=(L5.ls g hg).2.1;rw [z,Jd] at this;cases this
     have Jf:=q6.fr _ _ Jd Fg Je
     have P7:H6 P5=some (.tup ((c.1.map VR).map kV)):=by
      rw [F6 _ _ P6,XM];rfl
     have EC:=(Same.kt s2).trans ((q5.kt F').trans F6);refine ⟨ca,_,rfl,SqT.of (F6 _ _ SR),rfl,_,_,rfl,_,_,rfl,SQ,_,rfl,SqT.of (F6 _ _ M7),rfl,_,_,rfl,_,_,rfl,rfl,rfl,?_⟩;refine dq (fun bb H'=>An2 (H6=H') (bb=(aQ (bW [] prs) (c.1.map VR)).isSome)) (fun k2 BG=>?_) (fun H' zT=>?_) (fun H' zT=>?_)
     · exact ⟨_,rfl,_,rfl,pd,_,rfl,DGet.t Jf P7,_,rfl,BG _ _ ⟨rfl,rfl⟩⟩
     · refine hid fun ZZ kZ=>?_;obtain ⟨rfl,zT⟩:=zT;obtain ⟨v,hv⟩:=YV.mp zT.symm;obtain ⟨u,ua,hu,rfl,C8⟩:=M1 c.1 v hv;obtain ⟨Hr,SS⟩:=wy _ f0 [] (Vj _) _ hu;refine kZ ?_;dsimp only at Hr SS;refine ⟨_,rfl,_,rfl,pd,.ref ua,rfl,by rw [<- hv];exact DGet.t Jf P7,ua,u,rfl,C8.mono EC,by omega,by omega,fun il P8 H7 s7 nil KG Jg=>⟨il,rfl,⟨_,SqL.of KG⟩,?_⟩⟩;have q7:=q6.same s7;have L7:=q7.lk;have d7:∀ (j':Nat) (c:List Int×Int×Int),j'<j->(callsOf (p.pl []))[j']?=some c->∀ u,(c.1,u)∈f0.pl []->∀ x∈u.pl [],gC H7 G6 (nk c.2.1 x.1) (s:Nat) (c.1++x.1):=fun j' c h1 h2 u h3 x h4=>LSub.kt (Same.kt s7) G6 _ _ _ (d6 j' c h1 h2 u h3 x h4);have M8:(u.pl []).length=P8.length:=Vv Jg;rw [Th.pl_len] at M8
       have M9:∀ g∈G6,g.2.1≠il:=fun g hg z=>by
        have:=(q6.lk.ls g hg).2.1;rw [z,nil] at this;cases this
       have Jh:il≠la:=fun z=>by
        obtain ⟨φ,e⟩:=bY L7.dm;rw [z,e] at KG;cases KG
       have D6:=F6.trans (Same.kt s7);have M':=(KD.trans (Same.kt s5)).trans D6
       refine cz (K:=K) (a:=il) (xs:=P8.map V.ref) (fun m σ H8=>Ex2 fun (Cz:Option V) (G8:LG)=>An3 (σ=[some (.ref b),some (.int ((s:Nat):Int)),some (.ref fa),some (.ref la),some (.ref pd),some (.ref ka),some (.ref pa),some (.ref P5),some (.int c.2.1),some (.int c.2.2),Cz]) (LQ P w ins Al Lk H0 la H7 G6 H8 G8 (N+i * 80000+j * 400+2 * m)) (∀ (m':Nat) (x:List Int×Th),m'<m->(u.pl [])[m']?=some x->gC H8 G8 (nk c.2.1 x.1) (s:Nat) (c.1++x.1)))
        ⟨_,G6,rfl,LQ.refl L7,fun _ _ h=>absurd h (Yt _)⟩ (fun m σ H8 _ ⟨_,_,_,q8,_⟩=>SqL.of (q8.fr _ _ KG Jh M9)) ?_ ?_
       · rintro m x σ H8 hx ⟨Cz,G8,rfl,q8,d8⟩;refine hid fun ZZ kZ=>?_;obtain ⟨ib,rfl,SU⟩:=aV hx;obtain ⟨y,hy,Na⟩:=P2.get' Jg SU;have Ji:m<200:=by have:=(Vn.mp hy).1;rw [Th.pl_len] at this;omega
         have Nb:=q8.kt L7;have L8:=q8.lk;have Jj:=L8.le;have Nc:=Nb _ _ Na;have P9:=Nb _ _ (D6 _ _ P6);have P':KAt H8 kd ka:=Nb _ _ (M' _ _ ek);obtain ⟨UO,SV⟩:=bY L8.dm;refine kZ ?_;have PH:c.1.length<=100:=by have:=uF _ f0 [] (Vj _) _ hu;rw [Zp] at this;dsimp only at this;omega
         have UP:y.1.length<=100:=by have:=uF _ u [] (Vj _) y (Vh hy);rw [Zp] at this;omega
         have Qa:nk (s:Nat) (c.1++y.1)∈Al:=Ct (c.1++y.1,y.2) (n6 _ (Vj _) hu (Vh hy));have Qb:Lk (nk c.2.1 y.1) (s:Nat) (c.1++y.1) kd c.2.2:=hL i p kd c u y hp hk (Vh hc) hu (Vh hy);refine ⟨_,rfl,⟨la,_,rfl,L8.dm⟩,_,rfl,_,rfl,ak (by show 2<=1000000;decide),fun kp CS=>?_⟩;have s9:L2.Same H8 (upd H8 kp (.tup [.int c.2.1,.ref ib])):=ad CS _;have e9:(upd H8 kp (.tup [.int c.2.1,.ref ib])) kp=some (.tup [.int c.2.1,.ref ib]):=ab;dsimp only;generalize (upd H8 kp (.tup [.int c.2.1,.ref ib]))=H9 at s9 e9 ⊢;refine ⟨ak (by show 0<=1000000;decide),fun l0 DX=>?_⟩;have Ag:L2.Same H9 (upd H9 l0 (.lst [])):=ad DX _;have q9:LQ P w ins Al Lk H0 la H8 G8 H9 G8 (N+i * 80000+j * 400+2 * m):=(LQ.refl L8).same s9;have Ga:=Same.kt (s9.trans Ag);refine ⟨la,kp,.ref l0,nk c.2.1 y.1,lkv G8,rfl,rfl,L8.dm.mono (s9.trans Ag),mM (Ag _ _ e9) ((s9.trans Ag) _ _ Nc),eO (by unfold lkv;rw [Vb];omega),fun u hu=>?_,fun hn Az SW Nf=>?_⟩
         · obtain ⟨g,hg,Jk,rfl⟩:=sk hu;have qs:LQ P w ins Al Lk H0 la H8 G8 (upd H9 l0 (.lst [])) G8 (N+i * 80000+j * 400+2 * m+1):=(q9.same Ag).up (by omega);generalize (upd H9 l0 (.lst []))=Hs at qs Ga ⊢;have Ls:=qs.lk;refine hid fun ZZ kZ=>?_;obtain ⟨_,gl,gn,_⟩:=Ls.ls g hg;refine kZ ?_;refine ⟨.inl ⟨rfl,_,SqL.of gl⟩,_,rfl,_,rfl,_,rfl,?_⟩;refine qx (Ga _ _ P9) (Ga _ _ Nc) (by rw [Vb,Vb];omega) fun pj AY Be D7=>?_;rw [<- Vs] at D7;refine ⟨_,rfl,_,rfl,ak (by show 4<=1000000;decide),fun en Ng=>?_⟩;have Bl:L2.Same AY (upd AY en (.tup [.int ((s:Nat):Int),.ref pj,.ref ka,.int c.2.2])):=ad Ng _;have CW:(upd AY en (.tup [.int ((s:Nat):Int),.ref pj,.ref ka,.int c.2.2])) en=some (.tup [.int ((s:Nat):Int),.ref pj,.ref ka,.int c.2.2]):=ab;generalize (upd AY en (.tup [.int ((s:Nat):Int),.ref pj,.ref ka,.int c.2.2]))=DK at Bl CW ⊢;have Cn:=Be.trans Bl;refine ⟨g.2.1,_,_,rfl,rfl,Cn _ _ gl,eO (by rw [Vb];omega),?_⟩;obtain ⟨Jl,has⟩:=(qs.same Cn).appG hg (en:=en) ⟨_,_,c.1++y.1,pj,ka,kd,CW,Bl _ _ D7,(Same.kt Cn) _ _ (Ga _ _ P'),Vh hk,Qa,by rw [Jk];exact Qb⟩;refine ⟨_,_,rfl,(q8.trans Jl).up (by omega),fun m' x2 E2 Ci=>?_⟩;by_cases Nh:m'=m
           · rw [Nh,hy] at Ci;cases Ci;have hh:=has _ _ _ _ _ CW (Bl _ _ D7);rw [Jk] at hh;exact hh
           · exact Jl.sub _ _ _ (d8 m' x2 (by omega) Ci)
         · have qs:=q9.newG DX hn SW Nf;have Ni:=qs.kt L8;refine hid fun ZZ kZ=>?_;obtain ⟨g,hg,Jk,SX⟩:∃ g∈G8++[(nk c.2.1 y.1,l0,[])],g.1=nk c.2.1 y.1/\g.2.1=l0:=⟨_,VY _ (VC ..),rfl,rfl⟩;refine kZ ?_;rw [<- SX] at qs hg ⊢;have Ls:=qs.lk;refine hid fun ZZ kZ=>?_;obtain ⟨_,gl,gn,_⟩:=Ls.ls g hg;refine kZ ?_;refine ⟨.inl ⟨rfl,_,SqL.of gl⟩,_,rfl,_,rfl,_,rfl,?_⟩;refine qx (Ni _ _ P9) (Ni _ _ Nc) (by rw [Vb,Vb];omega) fun pj AY Be D7=>?_;rw [<- Vs] at D7;refine ⟨_,rfl,_,rfl,ak (by show 4<=1000000;decide),fun en Ng=>?_⟩;have Bl:L2.Same AY (upd AY en (.tup [.int ((s:Nat):Int),.ref pj,.ref ka,.int c.2.2])):=ad Ng _;have CW:(upd AY en (.tup [.int ((s:Nat):Int),.ref pj,.ref ka,.int c.2.2])) en=some (.tup [.int ((s:Nat):Int),.ref pj,.ref ka,.int c.2.2]):=ab;generalize (upd AY en (.tup [.int ((s:Nat):Int),.ref pj,.ref ka,.int c.2.2]))=DK at Bl CW ⊢;have Cn:=Be.trans Bl;refine ⟨g.2.1,_,_,rfl,rfl,Cn _ _ gl,eO (by rw [Vb];omega),?_⟩;obtain ⟨Jl,has⟩:=(qs.same Cn).appG hg (en:=en) ⟨_,_,c.1++y.1,pj,ka,kd,CW,Bl _ _ D7,(Same.kt Cn) _ _ (Ni _ _ P'),Vh hk,Qa,by rw [Jk];exact Qb⟩;refine ⟨_,_,rfl,(q8.trans Jl).up (by omega),fun m' x2 E2 Ci=>?_⟩;by_cases Nh:m'=m
           · rw [Nh,hy] at Ci;cases Ci;have hh:=has _ _ _ _ _ CW (Bl _ _ D7);rw [Jk] at hh;exact hh
           · exact Jl.sub _ _ _ (d8 m' x2 (by omega) Ci)
       · rintro σ H8 ⟨Cz,G8,rfl,q8,d8⟩;refine ⟨_,_,_,_,G8,rfl,(q7.trans q8).up (by rw [Vb];omega),fun j' c' zR Ao u' Bv x2 Ci=>?_⟩;by_cases C9:j'=j
         · subst C9;rw [hc] at Ao;cases Ao;have:u'=u:=qu _ (Vj _) Bv hu;subst this;obtain ⟨m',E2⟩:=VH.mp Ci;exact d8 m' x2 (by have:=(Vn.mp E2).1;rw [Th.pl_len] at this;rw [Vb];omega) E2
         · exact q8.sub _ _ _ (d7 j' c' (by omega) Ao u' Bv x2 Ci)
     · obtain ⟨rfl,zT⟩:=zT;refine ⟨_,_,_,_,G6,rfl,q6.up (by omega),fun j' c' zR Ao u' Bv x2 Ci=>?_⟩;by_cases C9:j'=j
       · subst C9;rw [hc] at Ao;cases Ao;obtain ⟨a,ha,_⟩:=M0 c.1 u' Bv;rw [ha] at zT;cases zT
       · exact d6 j' c' (by omega) Ao u' Bv x2 Ci
   · rintro σ H6 ⟨c7,c8,c9,Cz,G6,rfl,q6,d6⟩;refine ⟨_,_,_,_,_,_,G6,rfl,(q5.trans q6).up ?_,?_⟩
     · rw [Vb];have:cs.length * 400<=200 * 400:=Nat.mul_le_mul_right _ (by omega);omega
     · intro p' AD;rw [Ww,hp] at AD;rcases VX.mp AD with AD | AD
       · exact (d5.sub q6.sub) p' AD
       · cases VF.mp AD;intro c MN;obtain ⟨j',zR⟩:=VH.mp MN;exact d6 j' c (by have:=(Vn.mp zR).1;rw [Vb];omega) zR
 · rintro σ H3 ⟨c5,c6,c7,c8,c9,Cz,G3,rfl,q3,d3⟩;rw [Vb] at q3 d3;rw [W5 (by omega)] at d3;have hmul:zQ.length * 80000<=8 * 80000:=Nat.mul_le_mul_right _ (by omega);exact q G3 H3 ((Same.kt BX).trans (q3.kt F')) (q3.lk.up (by omega)) ((LSub.kt (Same.kt BX) G).trans q3.sub) d3
theorem mN (k:Key) (v:V):jq [] [(k,v)]=[(k,v)]:=rfl
theorem pV {H:Hp} {ins:List (VM×Int)} {n:Nat} {kid:Int} {t:Th} {a:Vd} (h:At H t a):wG H ins [(VR kid,.ref a)] (bF ins n kid t):=fun i u hu=>by
 unfold bF at hu;rw [Vp,Wd] at hu;obtain ⟨j,hj,rfl⟩:=hu;have UQ:j<n:=by have:=XC.mp (Vh hj);exact this
 have E6:i=j:=by
  have hi:i<n:=by have:=(Vn.mp hj).1;rwa [VT] at this
  rw [Wz hi] at hj;exact VL hj
 subst E6;by_cases hk:(i:Int)=kid
 · rw [if_pos hk];exact .inl ⟨a,by rw [bE (by rw [hk])],h⟩
 · rw [if_neg hk];exact .inr ⟨by rw [bD (fun z=>hk (X9 z).symm)];rfl,rfl⟩
def SpI (P:Vu) (w:VI) (Vl:VlT) (H:Hp) (ia la pt hl:Vd) (G:LG) (f':List (aw×V)) (Al:List aw) (m:Nat) (σ:St) (H2:Hp):Prop:=∃ (i:Nat) (AE:List (aw×V)) (Dc:List Vd) (c5 c6 c7 c8 c9 Cz:Option V),σ=[some (.ref ia),some (.ref la),some (.ref pt),some (.ref hl),some (.int (i:Nat)),c5,c6,c7,c8,c9,Cz]/\But pt H H2/\H2 hl=some (.lst (Dc.map V.ref))/\Pt P w Vl H2 pt AE Al/\VW (fun k b=>MKAt H2 k b) (AE.map (·.1)) Dc/\(∀ k∈f'.map (·.1),k∈AE.map (·.1))/\i<=AE.length/\(∀ (j:Nat) (k:aw),j<i->(AE.map (·.1))[j]?=some k->∀ s pl,gC H2 G k s pl->nk s pl∈AE.map (·.1))/\m=Al.length+1 - i
inductive lJ (P:Vu) (w:VI) (vs:List V) (H:Hp) (Q:VK) (_E:XK):Prop
 | mk (ia la pt:Vd) (zQ:List Vd) (ins:List (VM×Int)) (G:LG) (f':List (aw×V)) (Al:List aw) (Vl:VlT) (Lk:LkT) (zI:vs=[.ref ia,.ref la,.ref pt]) (zJ:H ia=some (.tup (zQ.map V.ref))) (zP:KsAt H ins zQ) (zZ:bR ins) (Ai:LkR P w ins Al Lk H la G) (AX:Pt P w Vl H pt f' Al) (Eg:Al.length<=1000000) (Fy:pt≠la) (ID:(∀ (ks:List aw) (i:Nat) (k:aw) (t1 t2:Th) (s:Int) (pl:List Int) (kd:VM×Int) (kid:Int),ks[i]?=some k->Vl (ks.take i) k t1 t2->kd∈ins->Lk k s pl kd kid->nk s pl∉ks->Vl ks (nk s pl) (.knot kd.1 (bF ins kd.2.toNat kid t1)) (.knot kd.1 (bF ins kd.2.toNat kid t2)))) (IE:∀ (Au:List (aw×V)) (H':Hp),But pt H H'->Pt P w Vl H' pt Au Al->(∀ k∈f'.map (·.1),k∈Au.map (·.1))->(∀ k∈Au.map (·.1),∀ s pl,gC H' G k s pl->nk s pl∈Au.map (·.1))->Q .non H'):lJ P w vs H Q _E
def tG (P:Vu) (w:VI):Sp:=lJ P w
set_option maxHeartbeats 4000000 in
theorem sF:aW P w K mg base CX0 3 T.g_spread.f T.g_spread.d ["ins","links","partings"] (tG P w):=by
 refine T.g_spread.F.ok bV (fun vs H Q E h=>?_) (fun zG A outer s0 H vs Q E hr h=>?_)
 · obtain ⟨ia,la,pt,zQ,ins,G,f',Al,Vl,Lk,rfl,_⟩:=h;rfl
 obtain ⟨ia,la,pt,zQ,ins,G,f',Al,Vl,Lk,rfl,ei,D5,g,R,CP,KA,zS,hS,q⟩:=h
 refine ⟨_,(ae (aA (i:=3) bV.nd rfl (VE rfl) (bz (qA rfl) rfl T.n_list PyProof.Rows.boot_list (aa (pv 2) ac)))
  (ae (aA (i:=4) bV.nd rfl (VE rfl) am)
  (af (dB VZ (ci uA (pv 4) (aX aF rfl T.n_len Wh (aa (pv 3) ac)) (bP _)) (ae (fE (uI (im hr) (pv 2) (aZ bu (pv 3) (pv 4) (fun _ _=>rfl)) (fun _ _=>rfl)) (ba rfl (aq (aj (i:=5) bV.nd rfl (VE rfl)) (aq (aj (i:=6) bV.nd rfl (VE rfl)) aN))))
  (ae (bw VZ rfl (cf (sI (im hr) (pv 1) (aZ bu (pv 3) (pv 4) (fun _ _=>rfl)) (bq ac) ⟨rfl,rfl,rfl,rfl⟩)) (ba rfl (aq (aj (i:=7) bV.nd rfl (VE rfl)) (aq (aj (i:=8) bV.nd rfl (VE rfl)) (aq (aj (i:=9) bV.nd rfl (VE rfl)) (aq (aj (i:=10) bV.nd rfl (VE rfl)) aN))))) (af (dF (qe (qo (im hr) (aB (aa (pv 7) (aa (pv 8) ac))) (pv 2))) (ae (uU (im hr) (pv 2) (aB (aa (pv 7) (aa (pv 8) ac))) (aB (aa (pcF T.g_knot_above (dY T) hr (aa (pv 0) (aa (pv 9) (aa (rM (pG (pv 10) (pv 5) si) rfl rfl (by decide) (by decide)) ac)))) (aa (pcF T.g_knot_above (dY T) hr (aa (pv 0) (aa (pv 9) (aa (rM (pG (pv 10) (pv 6) si) rfl rfl (by decide) (by decide)) ac)))) ac))) rfl)
  (af (aP (bK Vy VQ VP aL (pv 3) (aa (aB (aa (pv 7) (aa (pv 8) ac))) ac))))) cX)))
  (af (ud (i:=4) bV.nd rfl (VE rfl) am vd)))))))),?_⟩
 try dsimp only [zV,zC]
 obtain ⟨φ,Ex⟩:=bY CP.dm;have B1:ins.length=zQ.length:=Vv D5;refine ⟨_,rfl,pt,f',rfl,CP.dm,fun hl bs F7 zO=>?_⟩;have s1:L2.Same H (upd H hl (.lst (bs.map V.ref))):=ad F7 _;have e1:(upd H hl (.lst (bs.map V.ref))) hl=some (.lst (bs.map V.ref)):=ab;generalize (upd H hl (.lst (bs.map V.ref)))=H1 at s1 e1 ⊢;have Qc:hl≠pt:=fun z=>by rw [z,Ex] at F7;cases F7
 have Nj:VW (fun k b=>MKAt H1 k b) (f'.map (·.1)) bs:=P2.mapl _ (P2.mp (fun _ _ e=>e.mono (Same.kt s1)) zO);refine ⟨SpI P w Vl H ia la pt hl G f' Al,⟨_,0,f',bs,none,none,none,none,none,none,rfl,Same.but s1,e1,CP.same s1,Nj,fun _ h=>h,VJ _,fun _ _ h=>absurd h (Yt _),rfl⟩,?_⟩;rintro m σ H2 ⟨i,AE,Dc,c5,c6,c7,c8,c9,Cz,rfl,b2,Co,Bb,Ge,Fh,Ky,Cc,rfl⟩;have Nk:(AE.map (·.1)).length=Dc.length:=Vv Ge;rw [Vb] at Nk;have UR:=Bb.len;have MM:=b2.kt Ex;obtain ⟨KH,CY⟩:=bY Bb.dm;refine ⟨_,rfl,_,rfl,hl,_,rfl,.inl (SqL.of Co),_,_,rfl,rfl,?_⟩;refine ⟨_,rfl,?_⟩;refine eK (fun cc=>?_) (fun cc=>?_)
 · have zK:i<Dc.length:=by
    have:=of_decide_eq_true cc;rw [Vb] at this;omega
   refine hid fun ZZ kZ=>?_;obtain ⟨bk,Jm⟩:∃ bk,Dc[i]?=some bk:=⟨_,Ve zK⟩;obtain ⟨k,hk,F5⟩:=P2.get' Ge Jm
   obtain ⟨v,hv⟩:∃ v,aQ AE k=some v:=by
    cases Jn:aQ AE k with
    | none=>exact absurd (Vh hk) (cE Jn)
    | some v=>exact ⟨v,rfl⟩
   obtain ⟨kv,Qd,Qe⟩:∃ kv,AE[i]?=some kv/\kv.1=k:=by
    rw [Vp,Wd] at hk;exact hk
   obtain ⟨pr,ta,tb,t1,t2,ev,GH,B4,Km,Qf⟩:=Bb.vl i kv Qd;refine kZ ?_;rw [<- Qe] at hv;rw [<- vP Bb.nd Qd hv] at ev;subst ev;rw [Qe] at hv Qf;have Jo:atI (Dc.map V.ref) ((i:Nat):Int)=some (.ref bk):=cx (by rw [Vp,Jm];rfl);refine ⟨fun zu H'=>∃ m',m'<Al.length+1 - i/\SpI P w Vl H ia la pt hl G f' Al m' zu H',fun zu H' h=>h,?_⟩;refine ⟨_,rfl,_,rfl,_,rfl,hl,_,_,.ref bk,rfl,rfl,SqL.of Co,Jo,?_⟩;refine ⟨pt,bk,k,AE,.ref pr,rfl,rfl,Bb.dm,F5,hv,?_⟩;refine ⟨pr,_,rfl,SqT.of GH,rfl,_,_,rfl,_,_,rfl,rfl,?_⟩;dsimp only [ax];have R2:=R.but b2 Ex zS
   -- C4 links of this one
   refine ji (fun zu H'=>Ex6 fun (AO:List (aw×V)) (BY:List Vd) (d7 d8 d9 GV:Option V)=>An8 (zu=[some (.ref ia),some (.ref la),some (.ref pt),some (.ref hl),some (.int (i:Nat)),some (.ref ta),some (.ref tb),d7,d8,d9,GV]) (But pt H H') (KT H2 H') (H' hl=some (.lst (BY.map V.ref))) (Pt P w Vl H' pt AO Al) (VW (fun k b=>MKAt H' k b) (AO.map (·.1)) BY) ((∃ more,AO.map (·.1)=AE.map (·.1)++more)) (∀ s pl,gC H' G k s pl->nk s pl∈AO.map (·.1))) (fun kk By=>?_) ?_
   · refine ⟨_,rfl,la,_,rfl,R2.dm,_,rfl,_,rfl,hl,_,_,.ref bk,rfl,rfl,SqL.of Co,Jo,ak (by show 0<=1000000;decide),fun l0 DX=>?_⟩;have s3:L2.Same H2 (upd H2 l0 (.lst [])):=ad DX _;have e3:(upd H2 l0 (.lst [])) l0=some (.lst (([]:List Vd).map V.ref)):=ab;generalize (upd H2 l0 (.lst []))=H3 at s3 e3 ⊢;have R3:=R2.but (Same.but s3 (p:=pt)) CY zS;have Nl:l0≠hl:=fun z=>by rw [z,Co] at DX;cases DX
     refine ⟨la,bk,k,lkv G,rfl,rfl,R3.dm,F5.mono (Same.kt s3),?_⟩;refine hid fun ZZ kZ=>?_
     obtain ⟨l,as,el,Qg,SY,S0,hle,S3⟩:∃ (l:Vd) (as:List Vd),(aQ (lkv G) k).getD (.ref l0)=.ref l/\H3 l=some (.lst (as.map V.ref))/\l≠hl/\l≠pt/\(∀ a∈as,LE H3 ins Al Lk k a)/\∀ s pl,gC H3 G k s pl->∃ a∈as,∃ (pa ka:Vd) (kid:Int),H3 a=some (.tup [.int s,.ref pa,.ref ka,.int kid])/\H3 pa=some (.tup (pl.map V.int)):=by
      have CZ:H3 pt=some (.ext KH):=s3 _ _ CY;cases Qh:aQ (lkv G) k with
      | none=>exact ⟨l0,[],rfl,e3,Nl,(fun z=>by rw [z,CZ] at e3;cases e3),(fun a ha=>by cases ha),fun s pl hh=>absurd hh (uX Qh)⟩
      | some u =>
        obtain ⟨g,hg,rfl,rfl⟩:=sk Qh;obtain ⟨h1,h2⟩:=R3.ls g hg;refine ⟨g.2.1,g.2.2,rfl,h1,(fun z=>?_),(fun z=>by rw [z,CZ] at h1;cases h1),h2,fun s pl hh=>R3.at hg hh⟩;have:=(R.ls g hg).1;rw [z,F7] at this;cases this
     refine kZ ?_;rw [el];refine ⟨l,rfl,⟨_,SqL.of Qg⟩,?_⟩;have b3:=b2.trans (Same.but s3 (p:=pt))
     refine cz (K:=K) (a:=l) (xs:=as.map V.ref) (fun j σ H4=>Ex6 fun (AO:List (aw×V)) (BY:List Vd) (d7 d8 d9 GV:Option V)=>An8 (σ=[some (.ref ia),some (.ref la),some (.ref pt),some (.ref hl),some (.int (i:Nat)),some (.ref ta),some (.ref tb),d7,d8,d9,GV]) (But pt H H4) ((∀ c o,c≠pt->c≠hl->H3 c=some o->H4 c=some o)) (H4 hl=some (.lst (BY.map V.ref))) (Pt P w Vl H4 pt AO Al) (VW (fun k b=>MKAt H4 k b) (AO.map (·.1)) BY) ((∃ more,AO.map (·.1)=AE.map (·.1)++more)) (∀ (j':Nat) (a:Vd),j'<j->as[j']?=some a->∀ (s:Int) (pl:List Int) (pa ka:Vd) (kid:Int),H3 a=some (.tup [.int s,.ref pa,.ref ka,.int kid])->H3 pa=some (.tup (pl.map V.int))->nk s pl∈AO.map (·.1)))
      ⟨AE,Dc,_,_,_,_,rfl,b3,fun _ _ _ _ e=>e,s3 _ _ Co,Bb.same s3,P2.mp (fun _ _ e=>e.mono (Same.kt s3)) Ge,⟨[],by rw [V7]⟩,fun _ _ h=>absurd h (Yt _)⟩ (fun j σ H4 _ ⟨_,_,_,_,_,_,_,_,f4,_,_,_,_,_⟩=>SqL.of (f4 _ _ S0 SY Qg)) ?_ ?_
     · rintro j x σ H4 hx ⟨AO,BY,d7,d8,d9,GV,rfl,b4,f4,C2,AQ,Cp,Ac,zE⟩;have CZ:H3 pt=some (.ext KH):=s3 _ _ CY;have Cq:KT H3 H4:=fun c ys ec=>f4 c _ (fun z=>by rw [z,CZ] at ec;cases ec) (fun z=>by rw [z,s3 _ _ Co] at ec;cases ec) ec;have ED:=(Same.kt s3).trans Cq;have Nm:=MM.trans ED;refine hid fun ZZ kZ=>?_;obtain ⟨US,Nn⟩:=bY AQ.dm;have S4:=AQ.len;have Np:(AO.map (·.1)).length=BY.length:=Vv Cp;rw [Vb] at Np;obtain ⟨a,rfl,ha⟩:=aV hx;obtain ⟨s',kid,pl,pa,ka,kd,g1,g2,g3,g4,g5,g6⟩:=hle a (Vh ha);refine kZ ?_;have ea:=Cq _ _ g1;have B3:=Cq _ _ g2;have Qi:KAt H4 kd ka:=Cq _ _ g3
       have Jp:∀ (s:Int) (AU:List Int) (DZ DA:Vd) (Bx:Int),H3 a=some (.tup [.int s,.ref DZ,.ref DA,.int Bx])->H3 DZ=some (.tup (AU.map V.int))->nk s AU=nk s' pl:=fun s AU DZ DA Bx h1 h2=>by
        rw [g1] at h1;cases h1;rw [g2] at h2;have:pl=AU:=p9 (by injection h2 with h3;injection h3);rw [this]
       refine ⟨a,_,rfl,SqT.of ea,rfl,_,_,rfl,_,_,rfl,_,_,rfl,_,_,rfl,rfl,?_⟩;dsimp only [ax];refine dq (fun bb H'=>An2 (L2.Same H4 H') (bb=!(aQ AO (nk s' pl)).isSome)) (fun k2 BG=>?_) (fun H5 zT=>?_) (fun H5 zT=>?_)
       · refine ⟨_,rfl,_,rfl,ak (by show 2<=1000000;decide),fun kp CS=>?_⟩;have s5:=ad CS (.tup [.int s',.ref pa]);exact ⟨_,rfl,pt,kp,nk s' pl,AO,rfl,rfl,AQ.dm.mono s5,mM ab (s5 _ _ B3),_,rfl,BG _ _ ⟨s5,rfl⟩⟩
       · obtain ⟨s5,zT⟩:=zT
         have hn:aQ AO (nk s' pl)=none:=by
          cases Jn:aQ AO (nk s' pl) with
          | none=>rfl
          | some u=>rw [Jn] at zT;cases zT
         have Jq:=Nm.trans (Same.kt s5);have Ep:=ED.trans (Same.kt s5)
         -- C4 first tree
         refine ⟨_,rfl,_,rfl,fun dd I0=>?_⟩;refine ⟨_,rfl,_,rfl,ab,[(VR kid,.ref ta)],rfl,(by show 1<=15;decide),?_⟩;rw [mN];have s6:L2.Same H5 (upd (upd H5 dd (.dK [])) dd (.dK [(VR kid,.ref ta)])):=au (ad I0 _) I0;have e6:(upd (upd H5 dd (.dK [])) dd (.dK [(VR kid,.ref ta)])) dd=some (.dK [(VR kid,.ref ta)]):=ab;generalize (upd (upd H5 dd (.dK [])) dd (.dK [(VR kid,.ref ta)]))=H6 at s6 e6 ⊢;have EC:=Jq.trans (Same.kt s6);refine ⟨ia,ka,dd,zQ,ins,kd,_,bF ins kd.2.toNat kid t1,rfl,EC _ _ ei,D5.mono EC,g,(s5.trans s6) _ _ Qi,g4,e6,ip ..,pV (B4.mono (Ep.trans (Same.kt s6))),fun r1 H7 s7 MG=>?_⟩
         -- C4 second
         refine ⟨_,rfl,_,rfl,fun d2 hd2=>?_⟩;refine ⟨_,rfl,_,rfl,ab,[(VR kid,.ref tb)],rfl,(by show 1<=15;decide),?_⟩;rw [mN];have s8:L2.Same H7 (upd (upd H7 d2 (.dK [])) d2 (.dK [(VR kid,.ref tb)])):=au (ad hd2 _) hd2;have e8:(upd (upd H7 d2 (.dK [])) d2 (.dK [(VR kid,.ref tb)])) d2=some (.dK [(VR kid,.ref tb)]):=ab;generalize (upd (upd H7 d2 (.dK [])) d2 (.dK [(VR kid,.ref tb)]))=H8 at s8 e8 ⊢;have Et:=s6.trans (s7.trans s8);have CV:=Jq.trans (Same.kt Et);refine ⟨ia,ka,d2,zQ,ins,kd,_,bF ins kd.2.toNat kid t2,rfl,CV _ _ ei,D5.mono CV,g,(s5.trans Et) _ _ Qi,g4,e8,ip ..,pV (Km.mono (Ep.trans (Same.kt Et))),fun r2 H9 s9 FP=>?_⟩;refine ⟨ak (by show 2<=1000000;decide),fun p2 BS=>?_⟩;have Ag:L2.Same H9 (upd H9 p2 (.tup [.ref r1,.ref r2])):=ad BS _;have D4:(upd H9 p2 (.tup [.ref r1,.ref r2])) p2=some (.tup [.ref r1,.ref r2]):=ab;generalize (upd H9 p2 (.tup [.ref r1,.ref r2]))=Az at Ag D4 ⊢;refine ⟨_,rfl,_,rfl,_,rfl,ak (by show 2<=1000000;decide),fun kp CS=>?_⟩;have Be:L2.Same Az (upd Az kp (.tup [.int s',.ref pa])):=ad CS _;have D7:(upd Az kp (.tup [.int s',.ref pa])) kp=some (.tup [.int s',.ref pa]):=ab;generalize (upd Az kp (.tup [.int s',.ref pa]))=AY at Be D7 ⊢;have C3:=s5.trans (Et.trans (s9.trans (Ag.trans Be)));have Fi:=AQ.same C3;refine ⟨pt,kp,nk s' pl,AO,rfl,rfl,Fi.dm,mM D7 (C3 _ _ B3),eO (by omega),fun DK Nq Nr=>?_⟩;have KI:But pt AY DK:=Nq
         have Nt:(AO.map (·.1))[i]?=some k:=by
          obtain ⟨more,hm⟩:=id Ac;rw [hm,Xr (by rw [Vb];omega)];exact hk
         have Nu:Vl ((AO.map (·.1)).take i) k t1 t2:=by
          obtain ⟨more,hm⟩:=id Ac;rw [hm,Zm (by rw [Vb];omega)];exact Qf
         obtain ⟨S5,Gf⟩:=Fi.put hn KI Nr ⟨p2,r1,r2,_,_,rfl,Be _ _ D4,MG.mono (Same.kt (s8.trans (s9.trans (Ag.trans Be)))),FP.mono (Same.kt (Ag.trans Be)),hS _ i k t1 t2 s' pl kd kid Nt Nu g4 g6 (cE hn)⟩ g5;have DN:DK hl=some (.lst (BY.map V.ref)):=KI _ _ Qc (C3 _ _ C2);have Fj:KT H4 DK:=(Same.kt C3).trans (KI.kt (C3 _ _ Nn));dsimp only [ax];refine ⟨_,rfl,.inl ⟨rfl,_,SqL.of DN⟩,_,rfl,_,rfl,ak (by show 2<=1000000;decide),fun Fl Nv=>?_⟩;have BZ:L2.Same DK (upd DK Fl (.tup [.int s',.ref pa])):=ad Nv _;have KJ:(upd DK Fl (.tup [.int s',.ref pa])) Fl=some (.tup [.int s',.ref pa]):=ab;generalize (upd DK Fl (.tup [.int s',.ref pa]))=EB at BZ KJ ⊢;refine ⟨hl,_,_,rfl,rfl,BZ _ _ DN,eO (by rw [Vb];omega),?_⟩;have EE:KT EB (upd EB hl (.lst (BY.map V.ref++[.ref Fl]))):=aK (BZ _ _ DN);have Jr:=(Fj.trans (Same.kt BZ)).trans EE;have GS:=S5.same BZ;have S6:Pt P w Vl (upd EB hl (.lst (BY.map V.ref++[.ref Fl]))) pt _ Al:=⟨rQ GS.dm EE fun o eo=>by rw [ag Qc.symm];exact eo,GS.nd,GS.al,fun j p hp=>(GS.vl j p hp).mono EE⟩;obtain ⟨more,Ac⟩:=Ac
         have go:∀ c o,c≠pt->c≠hl->H4 c=some o->(upd EB hl (.lst (BY.map V.ref++[.ref Fl]))) c=some o:=fun c o h1 h2 e=>by
          rw [ag h2];exact BZ _ _ (KI _ _ h1 (C3 _ _ e))
         refine ⟨_,BY++[Fl],_,_,_,_,rfl,fun c o hc e=>go c o hc (fun z=>by rw [z,F7] at e;cases e) (b4 _ _ hc e),fun c o h1 h2 e=>go c o h1 h2 (f4 c o h1 h2 e),by rw [ab,Vs];rfl,S6,?_,⟨more++[nk s' pl],by rw [Gf,Ac,V8]⟩,fun j' a' zR CF s AU DZ DA Bx h1 h2=>?_⟩
         · rw [Gf];exact P2.append (P2.mp (fun _ _ e=>e.mono Jr) Cp) (.cons ((mM KJ (BZ _ _ (Fj _ _ B3))).mono EE) .nil)
         · rw [Gf];by_cases C9:j'=j
           · rw [C9,ha] at CF;cases CF;rw [Jp s AU DZ DA Bx h1 h2];exact VY _ (VC ..)
           · exact V6 _ (zE j' a' (by omega) CF s AU DZ DA Bx h1 h2)
       · obtain ⟨s5,zT⟩:=zT
         obtain ⟨u,hu⟩:∃ u,aQ AO (nk s' pl)=some u:=by
          cases Jn:aQ AO (nk s' pl) with
          | none=>rw [Jn] at zT;cases zT
          | some u=>exact ⟨u,rfl⟩
         refine ⟨AO,BY,_,_,_,_,rfl,b4.trans (Same.but s5),fun c o h1 h2 e=>s5 _ _ (f4 c o h1 h2 e),s5 _ _ C2,AQ.same s5,P2.mp (fun _ _ e=>e.mono (Same.kt s5)) Cp,Ac,fun j' a' zR CF s AU DZ DA Bx h1 h2=>?_⟩;by_cases C9:j'=j
         · rw [C9,ha] at CF;cases CF;rw [Jp s AU DZ DA Bx h1 h2];exact V1.mpr ⟨_,eT hu,rfl⟩
         · exact zE j' a' (by omega) CF s AU DZ DA Bx h1 h2
     · rintro σ H4 ⟨AO,BY,d7,d8,d9,GV,rfl,b4,f4,C2,AQ,Cp,Ac,zE⟩;have CZ:H3 pt=some (.ext KH):=s3 _ _ CY;have Cq:KT H3 H4:=fun c ys ec=>f4 c _ (fun z=>by rw [z,CZ] at ec;cases ec) (fun z=>by rw [z,s3 _ _ Co] at ec;cases ec) ec;refine By _ _ ⟨AO,BY,_,_,_,_,rfl,b4,(Same.kt s3).trans Cq,C2,AQ,Cp,Ac,fun s pl hh=>?_⟩;refine hid fun ZZ kZ=>?_;obtain ⟨a,ha,pa,ka,kid,h1,h2⟩:=S3 s pl (R3.back Cq hh);obtain ⟨j',zR⟩:=VH.mp ha;refine kZ ?_;exact zE j' a (by have:=(Vn.mp zR).1;rw [Vb];exact this) zR s pl pa ka kid h1 h2
   · rintro zu H4 ⟨AO,BY,d7,d8,d9,GV,rfl,b4,ED,C2,AQ,Cp,⟨more,Ac⟩,Nw⟩;have S4:=AQ.len;have hlen:=congrArg Y4 Ac;rw [Vb,VD,Vb] at hlen;refine ⟨_,rfl,_,_,rfl,rfl,Al.length+1 - (i+1),by omega,i+1,AO,BY,_,_,_,_,_,_,rfl,b4,C2,AQ,Cp,fun k' Ar=>by rw [Ac];exact V6 _ (Fh k' Ar),by omega,fun j k' hj Ar s pl hh=>?_,rfl⟩;have E4:j<(AE.map (·.1)).length:=by rw [Vb];omega
     have BG:(AE.map (·.1))[j]?=some k':=by rw [Ac,Xr E4] at Ar;exact Ar
     by_cases S7:j=i
     · rw [S7,hk] at BG;cases BG;exact Nw s pl hh
     · rw [Ac];exact V6 _ (Cc j k' (by omega) BG s pl (R2.back ED hh))
 · have Kl:¬ i<Dc.length:=fun z=>cc (decide_eq_true (by rw [Vb];omega));refine q AE H2 b2 Bb Fh fun k hk s pl hh=>?_;obtain ⟨j,hj⟩:=VH.mp hk;exact Cc j k (by have:=(Vn.mp hj).1;rw [Vb] at this;omega) hj s pl hh
inductive gP (P:Vu) (w:VI) (K:Vc) (vs:List V) (H:Hp) (Q:VK) (_E:XK):Prop
 | mk (fa pt:Vd) (s:Nat) (t:Th) (f':List (aw×V)) (Al:List aw) (Vl:VlT) (zI:vs=[.ref fa,.int (s:Nat),.ref pt]) (zJ:AtK K H t fa) (zP:t.size<=200) (zZ:t.tall<=100) (Ai:t.noCall) (AX:Pt P w Vl H pt f' Al) (Eg:∀ (r:Vd) (H':Hp),L2.Same H H'->AtK K H' (t.cut (Dk f' (s:Nat)) []) r->Q (.ref r) H'):gP P w K vs H Q _E
def i7 (P:Vu) (w:VI) (K:Vc):Sp:=gP P w K
def xU (K:Vc) (D:List Int->Bool) (fa pt tl ah:Vd) (s:Nat) (t:Th) (H:Hp) (m:Nat) (σ:St) (H3:Hp):Prop:=∃ (ts as:List Vd) (Ts:List Th) (As:List (List Int×Th)) (c5 c6 c7:Option V),σ=[some (.ref fa),some (.int (s:Nat)),some (.ref pt),some (.ref tl),some (.ref ah),c5,c6,c7]/\L2.Same H H3/\H3 tl=some (.lst (ts.map V.ref))/\H3 ah=some (.lst (as.map V.ref))/\VW (TopAtK K H3) (Ts.map (dP Th.call)) ts/\PsAtK K H3 As as/\Ts++iu D As.reverse=(t.cut D []).walk/\(∀ p∈As,p.1.length+p.2.tall<=100/\p.2.noCall)/\Ts.length+szP As<=200/\m=szP As
set_option maxHeartbeats 4000000 in
theorem ol:aW P w K mg base CX0 3 T.g_cut_front.f T.g_cut_front.d ["front","state","partings"] (i7 P w K):=by
 refine T.g_cut_front.F.ok b8 (fun vs H Q E h=>?_) (fun zG A outer s0 H vs Q E hr h=>?_)
 · obtain ⟨fa,pt,s,t,f',Al,Vl,rfl,_⟩:=h;rfl
 obtain ⟨fa,pt,s,t,f',Al,Vl,rfl,hA,hsz,zY,B6,CP,k⟩:=h
 refine ⟨_,(ae (aA (i:=3) b8.nd rfl (VE rfl) (bq ac))
  (ae (aA (i:=4) b8.nd rfl (VE rfl) (bq (aa (aB (aa (aB ac) (aa (pv 0) ac))) ac)))
  (ae (dB VZ (bi (pv 4) (fun _=>rfl)) (ae (fE (jm Vy XU XT jx (pv 4)) (ba rfl (aq (aj (i:=5) b8.nd rfl (Zo rfl)) (aq (aj (i:=6) b8.nd rfl (VE rfl)) aN))))
  (af (dF (PW.pt (wP (bi (pcF T.g_is_hole (fq T) hr (aa (pv 6) ac)) (fun _=>rfl)) (tO (qe (wj (im hr) (aB (aa (pv 1) (aa (pv 5) ac))) (pv 2)))))) (af (aP (bK Vy VQ VP aL (pv 3) (aa (aB (aa (b9 (v:=.ref T.a_HOLE) rfl T.c_HOLE rfl) (aa am ac))) ac)))) (ae (aP (bK Vy VQ VP aL (pv 3) (aa (aB (aa (dw rX (pv 6) ft (dJ am)) (aa (aH qZ (aX aF rfl T.n_len Wh (aa (pv 6) ac)) am) ac))) ac)))
  (ae (dM (i:=7) (N:=[Vf "number",Vf "kid",Vf "place"]) (js:=[none,none,some 5]) (g:=(mh K 2 (cD (ax 0) (cD (ax 1) mi)))) (tt:=bH) (te:=(kb (aJ (tOp (pZ K) (bc 2) (kb (aJ (bc 0) cy))) (aJ (bc 1) cy)))) b8.nd rfl (VE rfl) rfl (cv rfl (by decide +kernel) (by decide +kernel) rfl rfl rfl) (nI rfl T.n_enumerate (dw jz (pv 6) (dJ am) ft)) (fun _ _ _ _ _ _=>(ba rfl (aq (aj (i:=0) vR rfl (VE rfl)) (aq (aj (i:=1) vR rfl (VE rfl)) aN)))) (gh (bI aS (aO rfl) (bI aS (aO rfl) f8))) (fun _ _ _ _ _ _=>bO) (fun _ _ _ _ _ _=>(aB (aa (aH eZ (pv 2) (aB (aa (pv 0) ac))) (aa (pv 1) ac)))))
  (af (aP (bK Vy Yg Ye gj (pv 4) (aa (ld rfl rfl T.n_list rfl T.n_reversed (pv 7)) ac))))))))))
  (af (aC (pcF T.g_built (i3 T) hr (aa (pv 3) ac))))))),?_⟩
 try dsimp only [zV,zC]
 generalize S8:Dk f' (s:Nat)=D at k;refine ⟨ak (by show 0<=1000000;decide),fun tl Gg=>?_⟩;have s1:L2.Same H (upd H tl (.lst [])):=ad Gg _;have FU:(upd H tl (.lst [])) tl=some (.lst []):=ab;generalize upd H tl (.lst [])=H1 at s1 FU ⊢;refine ⟨ak (by show 0<=1000000;decide),fun p0 D0=>?_⟩;refine ⟨_,rfl,ak (by show 2<=1000000;decide),fun p1 Cw=>?_⟩;refine ⟨ak (by show 1<=1000000;decide),fun ah AV=>?_⟩;have s2:L2.Same H1 (upd (upd H1 p0 (.tup [])) p1 (.tup [.ref p0,.ref fa])):=(ad D0 _).trans (ad Cw _);have e1:(upd (upd H1 p0 (.tup [])) p1 (.tup [.ref p0,.ref fa])) p1=some (.tup [.ref p0,.ref fa]):=ab;have e0:(upd (upd H1 p0 (.tup [])) p1 (.tup [.ref p0,.ref fa])) p0=some (.tup []):=ad Cw _ _ _ ab;generalize (upd (upd H1 p0 (.tup [])) p1 (.tup [.ref p0,.ref fa]))=H2 at s2 e1 e0 AV ⊢;have Ck:H1 ah=none:=s2.free AV;have Bn:H ah=none:=s1.free Ck;have zS:ah≠tl:=fun z=>by rw [z,FU] at Ck;cases Ck
 have S9:szP [(([]:List Int),t)]=t.size:=by rw [szP,szP];rfl
 refine ⟨xU K D fa pt tl ah s t H,⟨_,[],[p1],[],[([],t)],none,none,none,rfl,au (s1.trans s2) Bn,by rw [ag zS.symm];exact s2 _ _ FU,by rw [ab];rfl,.nil,.cons ⟨p0,fa,ad AV _ _ _ e1,ad AV _ _ _ e0,hA.mono (Same.kt (au (s1.trans s2) Bn))⟩ .nil,by show []++((t.cut D []).walk++[])=_;rw [Xp,V7],fun p hp=>by rw [VF.mp hp];exact ⟨by simpa using zY,B6⟩,by rw [S9];simpa using hsz,rfl⟩,?_⟩;rintro m σ H3 ⟨ts,as,Ts,As,c5,c6,c7,rfl,sm,em,ea,a1,a2,hw,hb,hlen,rfl⟩;have UT:Ts.length=ts.length:=by have:=Vv a1;rwa [Vb] at this
 refine ⟨_,rfl,_,.inl ⟨_,SqL.of ea,rfl⟩,?_⟩;refine eK (fun c=>?_) (fun c=>?_)
 · refine ⟨fun zu H'=>∃ m',m'<szP As/\xU K D fa pt tl ah s t H m' zu H',fun zu H' h=>h,?_⟩;have Ay:as≠[]:=by intro z;subst z;simp at c
   refine hid fun ZZ kZ=>?_;obtain ⟨zN,b,rfl⟩:∃ zN b,as=zN++[b]:=⟨as.dropLast,as.getLast Ay,(Xe Ay).symm⟩;obtain ⟨Us,⟨pre,x⟩,rfl,a3,pa,ta,eb,B3,B4⟩:=P2.snoc_inv a2;have Io:szP (Us++[(pre,x)])=szP Us+x.size:=by rw [ck,szP,szP];rfl
   have Im:=x.size_eq;rw [Io] at hlen;obtain ⟨Ks,Js⟩:=hb (pre,x) (by simp);refine kZ ?_;simp only at Ks Js B3 B4;have PK:Us.length=zN.length:=Vv a3;have q4:=nu Us;refine ⟨_,rfl,.inl ⟨rfl,_,SqL.of ea⟩,ah,_,.ref b,rfl,rfl,ea,by simp,?_⟩;have d1:((zN++[b]).map V.ref).dropLast=zN.map V.ref:=by simp
   rw [d1];have k1:KT H3 (upd H3 ah (.lst (zN.map V.ref))):=aK ea;have E7:L2.Same H (upd H3 ah (.lst (zN.map V.ref))):=au sm Bn;have Cy:(upd H3 ah (.lst (zN.map V.ref))) tl=some (.lst (ts.map V.ref)):=by rw [ag zS.symm];exact em
   have FV:(upd H3 ah (.lst (zN.map V.ref))) ah=some (.lst (zN.map V.ref)):=ab;generalize (upd H3 ah (.lst (zN.map V.ref)))=H4 at k1 E7 Cy FV ⊢;refine ⟨b,_,rfl,SqT.of (k1 _ _ eb),rfl,_,_,rfl,_,_,rfl,rfl,?_⟩
   try dsimp only [ax]
   have AQ:=CP.same E7;refine dq (fun bb H'=>An2 (L2.Same H4 H') (bb=(x.isHole || D pre))) (fun k2 BG=>?_) (fun H5 zT=>?_) (fun H5 zT=>?_)
   · refine ⟨_,rfl,ta,x,rfl,B4.mono k1,by omega,_,rfl,?_⟩;refine eK (fun ch=>BG _ _ ⟨.refl _,by rw [ch];rfl⟩) (fun ch=>?_);have S':x.isHole=false:=WO.mpr ch;refine ⟨_,rfl,_,rfl,ak (by show 2<=1000000;decide),fun kp CS=>?_⟩;have s5:=ad CS (.tup [.int ((s:Nat):Int),.ref pa]);refine ⟨_,rfl,pt,kp,nk (s:Nat) pre,f',rfl,rfl,AQ.dm.mono s5,mM ab (s5 _ _ (k1 _ _ B3)),_,rfl,BG _ _ ⟨s5,?_⟩⟩;rw [S',Yv,<- S8];rfl
   · obtain ⟨s5,zT⟩:=zT
     have Gh:x.cut D pre=hole:=by
      cases x with
      | call u v=>rw [Th.cut]
      | knot n ks =>
        rw [Th.cut,if_pos];rcases Bool.or_eq_true_iff.mp zT.symm with h | h
        · exact .inl h
        · exact .inr h
     refine ⟨_,rfl,.inl ⟨rfl,_,SqL.of (s5 _ _ Cy)⟩,ak (by show 2<=1000000;decide),fun p hp=>?_⟩;have s6:L2.Same H5 (upd H5 p (.tup [.ref T.a_HOLE,.int 0])):=ad hp _;have e6:(upd H5 p (.tup [.ref T.a_HOLE,.int 0])) p=some (.tup [.ref T.a_HOLE,.int 0]):=ab;generalize (upd H5 p (.tup [.ref T.a_HOLE,.int 0]))=H6 at s6 e6 ⊢;have Qj:=(s5.trans s6) _ _ Cy;refine ⟨tl,_,_,rfl,rfl,Qj,aE (by rw [Vb];omega),?_⟩;have k7:KT H6 (upd H6 tl (.lst (ts.map V.ref++[.ref p]))):=aK Qj;have Qk:=(k1.trans (Same.kt (s5.trans s6))).trans k7;refine ⟨szP Us,by omega,ts++[p],zN,Ts++[hole],Us,_,_,_,rfl,au (E7.trans (s5.trans s6)) Gg,by rw [ab,Vs];rfl,by rw [ag zS];exact (s5.trans s6) _ _ FV,?_,PsAtK.mono Qk a3,?_,fun p' AD=>hb p' (V6 _ AD),?_,rfl⟩
     · rw [Vs];exact P2.append (cF Qk a1) (.cons ⟨T.a_HOLE,k7 _ _ e6,wW,(TK.const T.q_HOLE)⟩ .nil)
     · rw [<- hw,WJ,V8];show Ts++([hole]++iu D Us.reverse)=Ts++iu D ((pre,x)::Us.reverse);unfold iu;rw [List.flatMap_cons,Gh];rfl
     · rw [VD];show Ts.length+1+szP Us<=200;omega
   · obtain ⟨s5,zT⟩:=zT;obtain ⟨hh,Jt⟩:=Bool.or_eq_false_iff.mp zT.symm;cases x with
     | call u v=>rw [Th.noCall] at Js;exact Js.elim
     | knot n ks =>
     have Gh:(Th.knot n ks).cut D pre=.knot n (fK D pre 0 ks):=by
      rw [Th.cut,if_neg];rintro (h | h)
      · rw [hh] at h;cases h
      · rw [Jt] at h;cases h
     have GI:=k1.trans (Same.kt s5);have Ju:=B4.mono GI;rw [AtK] at Ju;refine hid fun ZZ kZ=>?_;obtain ⟨Ta,Ah,Nx,B0⟩:=Ju;refine kZ ?_;have BV:Ah.length=ks.length:=B0.length;rw [Th.size] at hlen;have Mm:=bU ks;rw [Th.noCall] at Js;rw [Th.tall] at Ks;refine ⟨_,rfl,.inl ⟨rfl,_,SqL.of (s5 _ _ Cy)⟩,_,rfl,_,rfl,ta,_,rfl,Nx,fun p2 H6 s6 e6=>?_⟩
     have Tb:TK K H6 p2 [.str n]:=by
      have e7:TK K H6 p2 (iM (V.str n::Ah.map V.ref) none (some 1)):=e6;rw [rm] at e7;exact e7
     refine ⟨_,rfl,ta,_,rfl,.inr ((Nx.mono (Same.kt s6)).sq),_,_,rfl,rfl,ak (by show 2<=1000000;decide),fun tp C7=>?_⟩
     have Jv:((V.str n::Ah.map V.ref).length:Int) - 1=((ks.length:Nat):Int):=by
      rw [Vo,Vb];omega
     dsimp only [cy,rN];rw [Jv];have s7:L2.Same H6 (upd H6 tp (.tup [.ref p2,.int (ks.length:Nat)])):=ad C7 _;have e7:(upd H6 tp (.tup [.ref p2,.int (ks.length:Nat)])) tp=some (.tup [.ref p2,.int (ks.length:Nat)]):=ab;generalize (upd H6 tp (.tup [.ref p2,.int (ks.length:Nat)]))=H7 at s7 e7 ⊢;have Ny:=s5.trans (s6.trans s7);have Iq:=Ny _ _ Cy;refine ⟨tl,_,_,rfl,rfl,Iq,aE (by rw [Vb];omega),?_⟩;have k8:KT H7 (upd H7 tl (.lst (ts.map V.ref++[.ref tp]))):=aK Iq;have Nz:L2.Same H (upd H7 tl (.lst (ts.map V.ref++[.ref tp]))):=au (E7.trans Ny) Gg;have Ql:(upd H7 tl (.lst (ts.map V.ref++[.ref tp]))) tl=some (.lst ((ts++[tp]).map V.ref)):=by rw [ab,Vs];rfl
     have Ir:(upd H7 tl (.lst (ts.map V.ref++[.ref tp]))) ah=some (.lst (zN.map V.ref)):=by rw [ag zS];exact Ny _ _ FV
     generalize (upd H7 tl (.lst (ts.map V.ref++[.ref tp])))=H8 at k8 Nz Ql Ir ⊢;have NA:=(Same.kt (s6.trans s7)).trans k8;have E8:=GI.trans NA
     have NB:VW (TopAtK K H8) ((Ts++[Th.knot n (fK D pre 0 ks)]).map (dP Th.call)) (ts++[tp]):=by
      rw [Vs];refine P2.append (cF E8 a1) (.cons ⟨p2,?_,Ta,Tb.mono ((Same.kt s7).trans k8)⟩ .nil);show H8 tp=some (.tup [.ref p2,.int ((fK D pre 0 ks).length:Nat)]);rw [oP];exact k8 _ _ e7
     try dsimp only [ax]
     -- kids
     refine ⟨_,rfl,1,rfl,ta,_,rfl,(Nx.mono NA).sq,?_,fun p3 NC=>?_⟩
     · rintro ⟨z,_⟩;rw [Vo,show (1:Int)=((1:Nat):Int) by rfl,HT.sIx_nat] at z;omega
     dsimp only;rw [fU];have s9:L2.Same H8 (upd H8 p3 (.tup (Ah.map V.ref))):=ad NC _;have e9:(upd H8 p3 (.tup (Ah.map V.ref))) p3=some (.tup (Ah.map V.ref)):=ab;generalize (upd H8 p3 (.tup (Ah.map V.ref)))=H9 at s9 e9 ⊢;have ND:=s9 _ _ (E8 _ _ B3);have NF:=B0.mono (NA.trans (Same.kt s9));refine ⟨p3,rfl,⟨_,SqT.of e9⟩,?_⟩;intro Dl EF;refine ⟨Ah.length,fun j Az=>An3 (j<=Ah.length) (L2.Same H9 Az) (Ex1 fun (bs:List Vd)=>An2 (Az Dl=some (.lst (bs.map V.ref))) (PsAtK K Az ((cC pre 0 ks).take j) bs)),⟨VJ _,ad EF _,[],ab,.nil⟩,?_⟩;rintro j Az ⟨hj,Ag,bs,eD,zO⟩;by_cases BF:j=Ah.length
     · left;refine ⟨⟨_,SqT.of (Ag _ _ e9),by rw [Vb];exact BF.symm⟩,?_⟩;have zE:(cC pre 0 ks).take j=cC pre 0 ks:=by rw [BF,BV,<- f9 pre 0 ks,W6]
       rw [zE] at zO;have Gi:=Ag _ _ (s9 _ _ Ir);have Jw:=Ag _ _ (s9 _ _ Ql)
       have AM:bs.length=ks.length:=by
        have:=Vv zO;rw [f9] at this;exact this.symm
       try dsimp only [ax]
       refine ⟨_,rfl,.inl ⟨rfl,_,SqL.of Gi⟩,_,rfl,true,Dl,_,rfl,SqB.l (SqL.of eD),fun l hl=>?_⟩;have Eh:ah≠l:=az Gi hl;have GJ:tl≠l:=az Jw hl;have Jx:(upd Az l (.lst (bs.map V.ref).reverse)) ah=some (.lst (zN.map V.ref)):=by rw [ag Eh];exact Gi
       refine ⟨ah,l,_,_,rfl,rfl,Jx,ab,ak ?_,?_⟩
       · rw [Vb,WB,Vb];omega
       have Jy:KT Az (upd (upd Az l (.lst (bs.map V.ref).reverse)) ah (.lst (zN.map V.ref++(bs.map V.ref).reverse))):=(cS hl).trans (aK Jx);have Jz:=(Same.kt (s9.trans Ag)).trans Jy;have NG:=E8.trans Jz;refine ⟨szP (Us++(cC pre 0 ks).reverse),?_,ts++[tp],zN++bs.reverse,Ts++[.knot n (fK D pre 0 ks)],Us++(cC pre 0 ks).reverse,_,_,_,rfl,?_,?_,?_,cF Jz NB,P2.append (PsAtK.mono NG a3) (P2.reverse (PsAtK.mono Jy zO)),?_,?_,?_,rfl⟩
       · rw [ck,ko,iF,Io,Th.size];omega
       · exact au (au ((Nz.trans s9).trans Ag) ((Nz.trans s9).trans Ag |>.free hl)) Bn
       · rw [ag zS.symm,ag GJ];exact Jw
       · rw [ab,Vs,ZS]
       · rw [<- hw,V8,WJ,WJ,Xf,om,mY];show Ts++([Th.knot n (fK D pre 0 ks)]++(walks (fK D pre 0 ks)++iu D Us.reverse))=Ts++iu D ((pre,Th.knot n ks)::Us.reverse);have:iu D ((pre,Th.knot n ks)::Us.reverse)=((Th.knot n ks).cut D pre).walk++iu D Us.reverse:=by unfold iu;rw [List.flatMap_cons]
         rw [this,Gh,Th.walk];rfl
       · intro p hp;rcases VX.mp hp with hp | hp
         · exact hb p (V6 _ hp)
         · obtain ⟨g1,g2⟩:=lO pre 0 ks p (List.mem_reverse.mp hp);have:=bT g2;exact ⟨by omega,bX Js g2⟩
       · rw [VD,ck,ko,iF];show Ts.length+1+(szP Us+ao ks)<=200;omega
     · right;have zR:j<Ah.length:=by omega
       refine ⟨zR,⟨_,.ref Ah[j],SqT.of (Ag _ _ e9),by rw [Vp,Ve zR];rfl⟩,?_⟩;rintro y AY ⟨p,v,hp,rfl,rfl,hv⟩;have AK:=hv _ (SqT.of (Ag _ _ e9));obtain ⟨kd,rfl,GK⟩:=aV AK;obtain ⟨tk,Bf,Mo⟩:=NF.get GK;have Be:L2.Same Az (upd Az p (.tup [.int (j:Nat),.ref kd])):=ad hp _;refine ⟨p,_,rfl,SqT.of ab,rfl,_,_,rfl,_,_,rfl,rfl,?_⟩;generalize (upd Az p (.tup [.int (j:Nat),.ref kd]))=AY at Be ⊢;refine ⟨_,rfl,_,rfl,ak (by show 1<=1000000;decide),fun n1 E9=>?_⟩;have Bl:L2.Same AY (upd AY n1 (.tup [.int (j:Nat)])):=ad E9 _;have CW:(upd AY n1 (.tup [.int (j:Nat)])) n1=some (.tup [.int (j:Nat)]):=ab;generalize (upd AY n1 (.tup [.int (j:Nat)]))=DK at Bl CW ⊢;refine qx (Bl _ _ (Be _ _ (Ag _ _ ND))) CW (by rw [Vb];show pre.length+1<=1000000;omega) fun n2 EB BZ KJ=>?_;refine ⟨_,rfl,ak (by show 2<=1000000;decide),fun n3 E'=>?_⟩;have KL:L2.Same Az (upd EB n3 (.tup [.ref n2,.ref kd])):=(Be.trans (Bl.trans BZ)).trans (ad E' _);have JA:=KL _ _ eD;refine ⟨_,JA,aE ?_,zR,?_,bs++[n3],?_,?_⟩
       · have:=Vv zO;rw [Wl] at this;rw [Vb];omega
       · exact au (Ag.trans KL) EF
       · rw [ab,Vs];rfl
       · have KN:KT (upd EB n3 (.tup [.ref n2,.ref kd])) (upd (upd EB n3 (.tup [.ref n2,.ref kd])) Dl (.lst (bs.map V.ref++[.ref n3]))):=aK JA;rw [Ww,lM pre 0 ks j tk Bf];refine P2.append (PsAtK.mono ((Same.kt KL).trans KN) zO) (.cons ⟨n2,kd,KN _ _ ab,KN _ _ (ad E' _ _ _ ?_),?_⟩ .nil)
         · rw [KJ,Vs,Xl];rfl
         · exact Mo.mono ((Same.kt (Ag.trans KL)).trans KN)
 · have hz:as=[]:=by
    cases as with
    | nil=>rfl
    | cons y ys=>simp at c
   subst hz;have CN:As=[]:=WA.mp (Vv a2);subst CN;have FT:Ts=(t.cut D []).walk:=by simpa [iu] using hw
   subst FT;obtain ⟨b1,b2⟩:=rL Th.call (t.cut D []);rw [gq] at b1;refine ⟨_,rfl,tl,ts,_,t.cut D [],rfl,em,a1,by rw [Vb];omega,b2,?_,b1,fun r H4 s4 Tc=>k r H4 (sm.trans s4) Tc⟩;intro u hu;obtain ⟨y,hy,e⟩:=V1.mp hu;cases y with
   | knot n us=>cases e
   | call sn kn =>
     cases e;rw [Th.size];decide
def ky (ins:List (VM×Int)) (rows:List (List Th)):List aw:=(V9 rows.length).flatMap fun s=>((mkF ins rows (s:Nat)).pl []).map fun x=>nk (s:Nat) x.1
theorem oT {α β:Type} {f:α->List β} {B:Nat}:∀ {l:List α},(∀ x∈l,(f x).length<=B)->(l.flatMap f).length<=l.length * B
 | [],_=>VJ _
 | x::l,h=>by
   rw [List.flatMap_cons,VD,Vo,Nat.succ_mul];have h1:=h x (VC ..);have h2:=oT (l:=l) fun y hy=>h y (VB _ hy);omega
theorem uj {ins outs:List (VM×Int)} {rows:List (List Th)} (F:FrK ins outs rows):(ky ins rows).length<=1000000:=by
 have h:=oT (l:=V9 rows.length) (f:=fun s=>((mkF ins rows (s:Nat)).pl []).map fun x=>nk (s:Nat) x.1) (B:=200) fun s hs=>by
  rw [Vb,Th.pl_len];have Cu:=XC.mp hs;obtain ⟨row,p,_,_,e,z,_⟩:=F.mkd (l:=(s:Nat)) (by omega) (by omega);rw [e];exact z
 rw [VT] at h;have:=F.le;show ((V9 rows.length).flatMap _).length<=_;omega
theorem pD {ins:List (VM×Int)} {rows:List (List Th)} {s:Nat} (hs:s<rows.length) {x:List Int×Th} (hx:x∈(mkF ins rows (s:Nat)).pl []):nk (s:Nat) x.1∈ky ins rows:=List.mem_flatMap.mpr ⟨s,XC.mpr hs,V1.mpr ⟨x,hx,rfl⟩⟩
theorem vY {ins:List (VM×Int)} {rows:List (List Th)} {s:Nat} (hs:s<rows.length) {x:List Int×Th} (hx:x∈(frS ins rows s).pl []):nk (s:Nat) x.1∈ky ins rows:=by
 obtain ⟨u,hu⟩:=qC _ _ _ x hx;exact pD (x:=(x.1,u)) hs hu
theorem yj {P:Vu} {w:VI} {Vl:VlT} {H H':Hp} {pt:Vd} {f':List (aw×V)} {Al:List aw} (h:Pt P w Vl H pt f' Al) (k:KT H H') (e:∀ o,H pt=some o->H' pt=some o):Pt P w Vl H' pt f' Al:=⟨rQ h.dm k e,h.nd,h.al,fun j p hp=>(h.vl j p hp).mono k⟩
theorem pi {p:Vd} {H0 H H':Hp} (hb:But p H H') (s:L2.Same H0 H) (h0:H0 p=none):L2.Same H0 H':=fun c o e=>hb c o (fun z=>by rw [z,h0] at e;cases e) (s c o e)
theorem qW {ins outs:List (VM×Int)} {rows:List (List Th)} (F:FrK ins outs rows) {s:Nat} (hs:s<rows.length):(frS ins rows s).size<=200/\(frS ins rows s).tall<=100/\(frS ins rows s).noCall:=by
 refine hid fun ZZ kZ=>?_;obtain ⟨row,p,hr,hp,e,z1,z2,hf⟩:=F.mkd (l:=(s:Nat)) (by omega) (by omega);refine kZ ?_;have h:=lp (mkF ins rows) (mkF ins rows (s:Nat)) ((rows[s]?).getD []);have hn:(mkF ins rows (s:Nat)).noCall:=by rw [e];exact cK _ _ (Vj _) hf
 unfold frS;rw [e] at h hn;rw [e];exact ⟨by omega,by omega,hG hn _⟩
theorem gX {outs:List (VM×Int)} (go:bR outs) {S C:Int} {t v:Th} {pl:List Int} (h:t.FitS outs S C) (hi:In t pl v):v.isHole=false:=by
 have:=hi.fit h;cases v with
 | call a b=>rw [Th.isHole]
 | knot m ks =>
   rw [Th.FitS] at this;rw [Th.isHole,decide_eq_false_iff_not];rintro ⟨rfl,_⟩;exact ui (go.low _ this.1).1 rfl
theorem my {ins outs:List (VM×Int)} {rows:List (List Th)} (F:FrK ins outs rows) (go:bR outs) {s:Nat} (hs:s<rows.length):∀ x∈(mkF ins rows (s:Nat)).pl [],x.2.isHole=false:=fun x hx=>by
 refine hid fun ZZ kZ=>?_;obtain ⟨_,p,_,_,e,_,_,f⟩:=F.mkd (l:=(s:Nat)) (by omega) (by omega);refine kZ ?_;rw [e] at hx;exact gX go f (In.of _ (Vj _) (pl:=x.1) (v:=x.2) hx)
inductive eY (P:Vu) (w:VI) (K:Vc) (vs:List V) (H:Hp) (Q:VK) (_E:XK):Prop
 | mk (b:Vd) (ins outs:List (VM×Int)) (head:Th) (rows:List (List Th)) (Dm:Nat) (zI:vs=[.ref b]) (zJ:Bk H ins outs head rows b) (zP:FrK ins outs rows) (zZ:bR outs) (Ai:(∀ s:Nat,s<rows.length->(mkF ins rows (s:Nat)).tall<=Dm)) (AX:∀ (r fl pt:Vd) (fs:List Vd) (f':List (aw×V)) (H':Hp),L2.Same H H'->H' r=some (.tup [.ref fl,.ref pt])->H' fl=some (.lst (fs.map V.ref))->VW (fun s a=>AtK K H' ((frS ins rows s).cut (Dk f' (s:Nat)) []) a) (V9 rows.length) fs->Pt P w (Vl0 ins rows Dm) H' pt f' (ky ins rows)->FrD ins rows (f'.map (·.1))->wt ins rows f'->Q (.ref r) H'):eY P w K vs H Q _E
def j7 (P:Vu) (w:VI) (K:Vc):Sp:=eY P w K
set_option maxHeartbeats 4000000 in
theorem kf:aW P w K mg base CX0 7 T.g_found_fronts.f T.g_found_fronts.d ["book"] (j7 P w K):=by
 refine T.g_found_fronts.F.ok bh (fun vs H Q E h=>?_) (fun zG A outer s0 H vs Q E hr h=>?_)
 · obtain ⟨b,ins,outs,head,rows,Dm,rfl,_⟩:=h;rfl
 obtain ⟨b,ins,outs,head,rows,Dm,rfl,hB,F,go,KO,k⟩:=h
 refine ⟨_,(ae (aA (i:=1) bh.nd rfl (Zo rfl) (pcF T.g_first_makings (jp T) hr (aa (pv 0) ac)))
  (ae (aA (i:=2) bh.nd rfl (Zo rfl) pW)
  (ae (dM (i:=3) (N:=[Vf "state",Vf "book",Vf "made",Vf "partings"]) (js:=[none,some 0,some 1,some 2]) (g:=(ax 0)) (tt:=bH) (te:=(cW (fV P w K) [] E0 (aJ (bc 1) (aJ (bc 0) (aJ (bc 2) (aJ (bc 3) cy)))))) bh.nd rfl (VE rfl) rfl (cv rfl (by decide +kernel) (by decide +kernel) rfl rfl rfl) (bp rfl T.n_range (aa (pcF T.g_states_of (nM T) hr (aa (pv 0) ac)) ac)) (fun _ _ _ _ _ _=>(aj (i:=0) zg rfl (VE rfl))) (aO rfl) (fun _ _ _ _ _ _=>bO) (fun _ _ _ _ _ _=>(pcF T.g_first_front (lb T) hr (aa (pv 1) (aa (pv 0) (aa (pv 2) (aa (pv 3) ac)))))))
  (ae (aA (i:=4) bh.nd rfl (VE rfl) pW)
  (ae (bw VZ rfl (lu rfl T.n_enumerate (pv 3)) (ba rfl (aq (aj (i:=5) bh.nd rfl (VE rfl)) (aq (aj (i:=6) bh.nd rfl (VE rfl)) aN))) (af (aP (pcF T.g_put_links (nX T) hr (aa (pv 0) (aa (pv 5) (aa (pv 6) (aa (pv 4) ac))))))))
  (ae (aP (pcF T.g_spread (sF T) hr (aa (pcF T.g_ins_of (db T) hr (aa (pv 0) ac)) (aa (pv 4) (aa (pv 2) ac)))))
  (af (aC (aB (aa (cj (N:=[Vf "state",Vf "front",Vf "partings"]) (js:=[none,none,some 2]) (g:=(mh K 2 (cD (ax 0) (cD (ax 1) mi)))) (tt:=bH) (te:=(cW (i7 P w K) [] E0 (aJ (bc 1) (aJ (bc 0) (aJ (bc 2) cy))))) rfl (cv rfl (by decide +kernel) (by decide +kernel) rfl rfl rfl) (lu rfl T.n_enumerate (pv 3)) (fun _ _ _ _ _ _=>(ba rfl (aq (aj (i:=0) yn rfl (VE rfl)) (aq (aj (i:=1) yn rfl (VE rfl)) aN)))) (gh (bI aS (aO rfl) (bI aS (aO rfl) f8))) (fun _ _ _ _ _ _=>bO) (fun _ _ _ _ _ _=>(pcF T.g_cut_front (ol T) hr (aa (pv 1) (aa (pv 0) (aa (pv 2) ac)))))) (aa (pv 2) ac))))))))))),?_⟩
 try dsimp only [zV,zC]
 have hle:=F.le;refine ⟨_,rfl,b,ins,outs,head,rows,rfl,hB,F.gi,by omega,fun row zy=>(F.fit.row row zy).1,fun md Bz H1 s1 Td GP F5=>?_⟩;intro pt H2 JB s2 Qm;have NH:=hB.mono (Same.kt s1);refine hid fun ZZ kZ=>?_;obtain ⟨ia,oa,ha,ra,zQ,An,Bi,CO⟩:=id NH;have F1:rows.length=Bi.length:=Vv CO.rw;have KA:=uj F;obtain ⟨KH,CY⟩:=bY Qm;refine kZ ?_;refine ⟨_,rfl,b,_,_,_,ra,_,rfl,s2 _ _ CO.bk,s2 _ _ CO.rl,_,rfl,by omega,by rw [Vb];omega,fun D hD=>?_⟩;have Jt:D≠pt:=fun z=>by rw [z,CY] at hD;cases hD
 have Te:H1 D=none:=s2.free hD;refine ⟨rows.length,fun j H'=>An3 (j<=rows.length) (L2.Same H1 H') (Ex2 fun (as:List Vd) (f':List (aw×V))=>An4 (H' D=some (.lst (as.map V.ref))) (VW (fun s a=>AtK K H' (frS ins rows s) a) (V9 j) as) (Pt P w (Vl0 ins rows Dm) H' pt f' (ky ins rows)) (∀ (s i:Nat) (row:List Th),s<j->rows[s]?=some row->i<=row.length->∀ x∈(frF (mkF ins rows) (mkF ins rows (s:Nat)) (row.take i)).pl [],x.2.isHole=true->nk (s:Nat) x.1∈f'.map (·.1))),⟨VJ _,s2.trans (ad hD _),[],[],ab,.nil,⟨Qm.mono (ad hD _),Zy,fun p hp=>(XN hp).elim,fun j p hp=>by simp at hp⟩,fun s i row hs=>by omega⟩,?_⟩;rintro j H' ⟨hj,sj,as,f',eD,has,KP,JC⟩;obtain ⟨UU,EG⟩:=bY KP.dm;by_cases BF:j=rows.length
 · left;subst BF;refine ⟨by show _<=_;rw [Vb];omega,?_⟩;intro la H5 Eh s5 Tf;have L0:LkI P w ins (ky ins rows) (Lk0 ins rows) H' H5 la [] 0:=⟨s5,Eh,Tf,Zy,Zy,fun g hg=>(XN hg).elim,Vj _⟩;have Ew:(V9 rows.length).length=as.length:=Vv has;rw [VT] at Ew;refine ⟨_,rfl,D,rfl,⟨_,SqL.of (s5 _ _ eD)⟩,?_⟩
   refine mQ (K:=K) (a:=D) (xs:=as.map V.ref) (fun i σ H6=>Ex3 fun (c5 c6:Option V) (G:LG)=>An3 (σ=[some (.ref b),some (.ref md),some (.ref pt),some (.ref D),some (.ref la),c5,c6]) (LkI P w ins (ky ins rows) (Lk0 ins rows) H' H6 la G (i * 640000)) (∀ s<i,∀ row,rows[s]?=some row->LDone H6 G s row (frS ins rows s)))
    ⟨none,none,[],rfl,by rw [Nat.zero_mul];exact L0,fun s hs=>by omega⟩ (fun i σ H6 _ ⟨_,_,_,_,L,_⟩=>SqL.of (L.sm _ _ eD)) ?_ ?_
   · rintro i x pr σ H6 hx Bo ⟨c5,c6,G,rfl,L,CA⟩;obtain ⟨fa,rfl,BA⟩:=aV hx;have B1:=(Vn.mp BA).1;have KQ:i<rows.length:=by omega
     obtain ⟨s',Cu,B5⟩:=P2.get' has BA;rw [Wz KQ] at Cu;cases Cu;obtain ⟨row,zy⟩:∃ row,rows[i]?=some row:=⟨_,Ve KQ⟩;have s7:L2.Same H6 (upd H6 pr (.tup [.int ((i:Nat):Int),.ref fa])):=ad Bo _;have e7:(upd H6 pr (.tup [.int ((i:Nat):Int),.ref fa])) pr=some (.tup [.int ((i:Nat):Int),.ref fa]):=ab;generalize (upd H6 pr (.tup [.int ((i:Nat):Int),.ref fa]))=H7 at s7 e7 ⊢;refine ⟨pr,_,rfl,SqT.of e7,rfl,_,_,rfl,_,_,rfl,rfl,?_⟩;dsimp only [ax];have L7:=L.same s7;obtain ⟨z1,z2,z3⟩:=qW F KQ;refine ⟨_,rfl,_,rfl,_,rfl,_,rfl,b,fa,la,i,ins,outs,head,rows,row,frS ins rows i,H',G,i * 640000,ky ins rows,Lk0 ins rows,rfl,NH.mono (Same.kt (sj.trans L7.sm)),F,zy,B5.mono (Same.kt L7.sm),z1,z2,L7,by omega,fun x hx=>vY KQ hx,fun i2 p kd c u x hp hk hc hu hx=>⟨i,row,i2,p,c.1,x.1,c.2.1,rfl,zy,hp,hk,In.iff.mp (gd.mp hc),rfl,rfl,u,x.2,hu,hx⟩,fun G' H8 k8 L8 NI JD=>?_⟩;refine ⟨_,_,G',rfl,by rw [Nat.succ_mul];exact L8,fun s hs CT DO=>?_⟩;by_cases Tg:s=i
     · subst Tg;rw [zy] at DO;cases DO;exact JD
     · exact ((CA s (by omega) CT DO).sub (LSub.kt (Same.kt s7) _)).sub NI
   · rintro σ H6 ⟨c5,c6,G,rfl,L,CA⟩;rw [Vb,<- Ew] at CA;have JE:=KP.same L.sm;obtain ⟨Sz,CU⟩:=bY JE.dm;have KR:=sj.trans L.sm
     have Av:pt≠la:=fun z=>by
      rw [z] at EG;rw [L.la0] at EG;cases EG
     refine ⟨_,rfl,b,_,_,_,_,rfl,KR _ _ CO.bk,_,rfl,_,rfl,ia,la,pt,zQ,ins,G,f',ky ins rows,Vl0 ins rows Dm,Lk0 ins rows,rfl,KR _ _ CO.inE,CO.inK.mono (Same.kt KR),F.gi,L.r,JE,KA,Av,xf F KO,fun Au H7 KS Gj AI NJ=>?_⟩;have GW:L2.Same H1 H7:=pi KS KR JB;have D6:=(Same.kt L.sm).trans (KS.kt CU);have KU:H7 D=some (.lst (as.map V.ref)):=KS _ _ Jt (L.sm _ _ eD);refine ⟨_,rfl,D,rfl,⟨_,SqL.of KU⟩,fun Dl EF=>?_⟩;have Ti:H1 Dl=none:=GW.free EF;refine ⟨rows.length,fun j H8=>An3 (j<=rows.length) (L2.Same H7 H8) (Ex1 fun (bs:List Vd)=>An2 (H8 Dl=some (.lst (bs.map V.ref))) (VW (fun s a=>AtK K H8 ((frS ins rows s).cut (Dk Au (s:Nat)) []) a) (V9 j) bs)),⟨VJ _,ad EF _,[],ab,.nil⟩,?_⟩;rintro j H8 ⟨UW,s8,bs,Qn,zO⟩;by_cases Tj:j=rows.length
     · left;subst Tj;refine ⟨⟨_,SqL.of (s8 _ _ KU),by rw [Vb];exact Ew.symm⟩,?_⟩;refine ⟨_,rfl,ak (by show 2<=1000000;decide),fun r Tn=>?_⟩;have s9:L2.Same H8 (upd H8 r (.tup [.ref Dl,.ref pt])):=ad Tn _
       have Qo:FrD ins rows (Au.map (·.1)):=⟨fun s i row hr hi x hx hh=>AI _ (JC s i row (Vn.mp hr).1 hr hi x hx hh),fun s row zy p hp c hc u hu x hx hk=>by
        have hs:=(Vn.mp zy).1;exact NJ _ hk _ _ (LSub.kt (KS.kt CU) G _ _ _ (CA s hs row zy p hp c hc u hu x hx))⟩
       refine k r Dl pt bs Au _ (s1.trans (GW.trans (s8.trans s9))) ab (s9 _ _ Qn) (P2.mp (fun _ _ h=>h.mono (Same.kt s9)) zO) (Gj.same (s8.trans s9)) Qo (wb F Qo fun p hp=>by
        refine hid fun ZZ kZ=>?_;obtain ⟨j,hj⟩:=VH.mp hp;obtain ⟨_,_,_,t1,t2,_,_,_,_,hv⟩:=Gj.vl j p hj;refine kZ ?_;exact ⟨_,t1,t2,hv⟩)
     · right;have zR:j<rows.length:=by omega
       obtain ⟨fa,BA⟩:∃ fa,as[j]?=some fa:=⟨_,Ve (by omega)⟩;refine ⟨zR,⟨_,.ref fa,SqL.of (s8 _ _ KU),by rw [Vp,BA];rfl⟩,?_⟩;rintro y H9 ⟨p,v,hp,rfl,rfl,hv⟩;have AK:=hv _ (SqL.of (s8 _ _ KU));rw [Vp,BA] at AK;cases AK;obtain ⟨s',Cu,B5⟩:=P2.get' has BA;rw [Wz zR] at Cu;cases Cu;have s9:L2.Same H8 (upd H8 p (.tup [.int (j:Nat),.ref fa])):=ad hp _;refine ⟨p,_,rfl,SqT.of ab,rfl,_,_,rfl,_,_,rfl,rfl,?_⟩;generalize (upd H8 p (.tup [.int (j:Nat),.ref fa]))=H9 at s9 ⊢;obtain ⟨z1,z2,z3⟩:=qW F zR;refine ⟨_,rfl,_,rfl,_,rfl,fa,pt,j,frS ins rows j,Au,ky ins rows,Vl0 ins rows Dm,rfl,B5.mono (D6.trans (Same.kt (s8.trans s9))),z1,z2,z3,Gj.same (s8.trans s9),fun q Az Ag hq=>?_⟩;have JF:=(s9.trans Ag) _ _ Qn;have AM:(V9 j).length=bs.length:=Vv zO;rw [VT] at AM;have Jy:KT Az (upd Az Dl (.lst (bs.map V.ref++[.ref q]))):=aK JF;refine ⟨_,JF,aE (by rw [Vb];omega),zR,au (s8.trans (s9.trans Ag)) EF,bs++[q],by rw [ab,Vs];rfl,?_⟩;rw [List.range_succ];exact P2.append (P2.mp (fun _ _ h=>h.mono ((Same.kt (s9.trans Ag)).trans Jy)) zO) (.cons (hq.mono Jy) .nil)
 · right;have zR:j<rows.length:=by omega
   obtain ⟨row,zy⟩:∃ row,rows[j]?=some row:=⟨_,Ve zR⟩;refine ⟨zR,by show _<_;rw [Vb];omega,?_⟩;rintro y H9 ⟨rfl,rfl⟩;rw [Xl];refine ⟨_,rfl,_,rfl,_,rfl,_,rfl,b,md,pt,j,ins,outs,head,rows,row,Bz,f',ky ins rows,Vl0 ins rows Dm,rfl,NH.mono (Same.kt sj),F,zy,sj _ _ GP,F5.mono (Same.kt sj),KP,KA,fun x hx=>pD zR hx,my F go zR,vU F go KO zy,fun r Au H4 NK B5 NL CH JG=>?_⟩;have KD:=NK.kt EG;have Fc:=NK _ _ Jt eD;have AN:(V9 j).length=as.length:=Vv has;rw [VT] at AN;have k5:KT H4 (upd H4 D (.lst (as.map V.ref++[.ref r]))):=aK Fc;rw [<- t9 zy] at B5;refine ⟨_,Fc,aE (by rw [Vb];omega),zR,au (pi NK sj JB) Te,as++[r],Au,by rw [ab,Vs];rfl,?_,yj NL k5 (fun o e=>by rw [ag Jt.symm];exact e),fun s i CT hs Bw hi x hx hh=>?_⟩
   · rw [List.range_succ];exact P2.append (P2.mp (fun _ _ h=>h.mono (KD.trans k5)) has) (.cons (B5.mono k5) .nil)
   · by_cases To:s=j
     · subst To;rw [zy] at Bw;cases Bw;exact JG i hi x hx hh
     · exact CH _ (JC s i CT (by omega) Bw hi x hx hh)
inductive gU (P:Vu) (w:VI) (K:Vc) (vs:List V) (H:Hp) (Q:VK) (_E:XK):Prop
 | mk (b:Vd) (ins outs:List (VM×Int)) (head:Th) (rows:List (List Th)) (Dm:Nat) (zI:vs=[.ref b]) (zJ:Bk H ins outs head rows b) (zP:FrK ins outs rows) (zZ:bR outs) (Ai:(∀ s:Nat,s<rows.length->(mkF ins rows (s:Nat)).tall<=Dm)) (AX:∀ (fl:Vd) (fs:List Vd) (f':List (aw×V)) (H':Hp),L2.Same H H'->H' fl=some (.lst (fs.map V.ref))->VW (fun s a=>AtK K H' ((frS ins rows s).cut (Dk f' (s:Nat)) []) a) (V9 rows.length) fs->FrD ins rows (f'.map (·.1))->wt ins rows f'->Q (.ref fl) H'):gU P w K vs H Q _E
def nV (P:Vu) (w:VI) (K:Vc):Sp:=gU P w K
theorem nR:aW P w K mg base CX0 8 T.g_fronts_of.f T.g_fronts_of.d ["book"] (nV P w K):=by
 refine T.g_fronts_of.F.ok fz (fun vs H Q E h=>?_) (fun zG A outer s0 H vs Q E hr h=>?_)
 · obtain ⟨b,ins,outs,head,rows,Dm,rfl,_⟩:=h;rfl
 obtain ⟨b,ins,outs,head,rows,Dm,rfl,hB,F,go,KO,k⟩:=h
 refine ⟨_,(ae (fE (pcF T.g_found_fronts (kf T) hr (aa (pv 0) ac)) (ba rfl (aq (aj (i:=1) fz.nd rfl (VE rfl)) (aq (aj (i:=2) fz.nd rfl (VE rfl)) aN))))
  (af (aC (pv 1)))),?_⟩
 try dsimp only [zV,zC]
 refine ⟨_,rfl,b,ins,outs,head,rows,Dm,rfl,hB,F,go,KO,fun r fl pt fs f' H1 s1 er GX GY KP hD hK=>?_⟩;exact ⟨r,_,rfl,SqT.of er,rfl,_,_,rfl,_,_,rfl,rfl,_,rfl,k fl fs f' H1 s1 GX GY hD hK⟩
def u5 (t:Th):List (List Int):=((t.pl []).filter fun p=>p.2.isHole).map (·.1)
theorem oS {t:Th} {pl:List Int}:pl∈u5 t↔∃ v,In t pl v/\v.isHole=true:=by
 unfold u5;constructor
 · intro h;obtain ⟨x,hx,rfl⟩:=V1.mp h;obtain ⟨h1,h2⟩:=WV.mp hx;exact ⟨x.2,In.of _ (Vj _) h1,h2⟩
 · rintro ⟨v,h1,h2⟩;exact V1.mpr ⟨(pl,v),WV.mpr ⟨In.to h1,h2⟩,rfl⟩
mutual
theorem r6:∀ (n:Nat) (t:Th) (pre:List Int),t.size<=n->t.noCall->(∀ pl v,In t pl v->v.isHole=false)->t.hw pre t=[]
 | 0,t,_,h,_,_=>by have:=t.size_pos;omega
 | n+1,.call a b,_,_,h,_=>by rw [Th.noCall] at h;exact h.elim
 | n+1,.knot m ks,pre,hn,hc,hh=>by
   rw [Th.hw,if_neg (by rw [hh [] _ .here];exact VG)];rw [Th.noCall] at hc;rw [Th.size] at hn
   exact oC n ks pre 0 (by omega) hc fun k hk pl v hv=>by
    obtain ⟨j,hj⟩:=VH.mp hk;exact hh _ v (.kid hj hv)
theorem oC:∀ (n:Nat) (ks:List Th) (pre:List Int) (i:Int),ao ks<=n->bn ks->(∀ k∈ks,∀ pl v,In k pl v->v.isHole=false)->hws pre i ks ks=[]
 | n,[],pre,i,_,_,_=>by rw [hws]
 | n,k::ks,pre,i,hn,hc,hh=>by
   rw [bn] at hc;rw [ao] at hn;rw [hws,r6 n k _ (by omega) hc.1 (hh k (VC ..)),oC n ks _ _ (by omega) hc.2 fun u hu=>hh u (VB _ hu)];rfl
end
inductive fG (K:Vc) (vs:List V) (H:Hp) (Q:VK) (_E:XK):Prop
 | mk (fl:Vd) (fs:List Vd) (fr:Nat->Th) (N:Nat) (zI:vs=[.ref fl]) (zJ:H fl=some (.lst (fs.map V.ref))) (zP:VW (fun s a=>AtK K H (fr s) a) (V9 N) fs) (zZ:N<=20) (Ai:(∀ s<N,(fr s).noCall/\(fr s).size<=200/\(fr s).tall<=100/\u5 (fr s)=[])) (AX:∀ (r:Vd) (f':List (List Key×V)) (H':Hp),L2.Same H H'->H' r=some (.dT f')->(∀ (s k:Nat),s<N->k<3->∃ a,aQ f' [VR (s:Int),VR (k:Int)]=some (.ref a)/\AtK K H' (fr s) a)->Q (.ref r) H'):fG K vs H Q _E
def lI (K:Vc):Sp:=fG K
set_option maxHeartbeats 2000000 in
theorem kT:aW P w K mg base CX0 8 T.g_early_table.f T.g_early_table.d ["fronts"] (lI K):=by
 refine T.g_early_table.F.ok bJ (fun vs H Q E h=>?_) (fun zG A outer s H vs Q E hr h=>?_)
 · obtain ⟨fl,fs,fr,N,rfl,_⟩:=h;rfl
 obtain ⟨fl,fs,fr,N,rfl,GX,GY,hN,Ko,q⟩:=h
 refine ⟨_,(ae (aA (i:=1) bJ.nd rfl (VE rfl) l4)
  (ae (bw VZ rfl (lu rfl T.n_enumerate (pv 0)) (ba rfl (aq (aj (i:=2) bJ.nd rfl (Zo rfl)) (aq (aj (i:=3) bJ.nd rfl (VE rfl)) aN))) (af (bw VZ rfl (bp rfl T.n_range (aa (b9 (v:=.int (3)) rfl T.c_MOST_KIDS.choose_spec ⟨_,rfl⟩) ac)) (aj (i:=4) bJ.nd rfl (Zo rfl)) (ae (dM (i:=5) (N:=[Vf "hole",Vf "kid",Vf "state"]) (js:=[none,some 4,some 2]) (g:=(ax 0)) (tt:=bH) (te:=(kb (aJ (tC (.str (Vf "?"))) (aJ (kb (aJ (bc 2) (aJ (bc 0) cy))) (aJ (bc 1) cy))))) bJ.nd rfl (VE rfl) rfl (cv rfl (by decide +kernel) (by decide +kernel) rfl rfl rfl) (bp rfl T.n_range (aa (aX aF rfl T.n_len Wh (aa (pcF T.g_holes_in (j1 T) hr (aa (pv 3) ac)) ac)) ac)) (fun _ _ _ _ _ _=>(aj (i:=0) yK rfl (VE rfl))) (aO rfl) (fun _ _ _ _ _ _=>bO) (fun _ _ _ _ _ _=>(aB (aa (b9 (v:=.str (Vf "?")) rfl T.c_CALL_SIGN.choose_spec ⟨_,rfl⟩) (aa (aB (aa (pv 2) (aa (pv 0) ac))) (aa (pv 1) ac))))))
  (af (nJ (iU hr) (pv 1) (aB (aa (pv 2) (aa (pv 4) ac))) (pcF T.g_hung (wc T) hr (aa (pv 3) (aa (pv 5) ac))) rfl))))))
  (af (aC (pv 1))))),?_⟩
 try dsimp only [zV,zC]
 have GQ:(V9 N).length=fs.length:=Vv GY;rw [VT] at GQ;intro td F2;dsimp only [ax];have s1:L2.Same H (upd H td (.dT [])):=ad F2 _;have e1:(upd H td (.dT [])) td=some (.dT []):=ab;generalize (upd H td (.dT []))=H1 at s1 e1 ⊢;refine ⟨_,rfl,fl,rfl,⟨_,SqL.of (s1 _ _ GX)⟩,?_⟩
 refine mQ (K:=K) (a:=fl) (xs:=fs.map V.ref) (fun i σ H2=>Ex5 fun (c2 c3 c4 c5:Option V) (tk:List (List Key×V))=>An5 (σ=[some (.ref fl),some (.ref td),c2,c3,c4,c5]) (L2.Same H H2) (H2 td=some (.dT tk)) (tk.length<=3 * i) (∀ (s k:Nat),s<i->k<3->∃ a,aQ tk [VR (s:Int),VR (k:Int)]=some (.ref a)/\AtK K H2 (fr s) a))
  ⟨none,none,none,none,[],rfl,s1,e1,VJ _,fun s k h=>absurd h (Yt _)⟩ (fun i σ H2 _ ⟨_,_,_,_,_,_,s2,_,_,_⟩=>SqL.of (s2 _ _ GX)) ?_ ?_
 · rintro i x pr σ H2 hx Bo ⟨c2,c3,c4,c5,tk,rfl,s2,et,hlen,zE⟩;refine hid fun ZZ kZ=>?_;obtain ⟨fa,rfl,BA⟩:=aV hx;have B1:=(Vn.mp BA).1;have Qp:i<N:=by omega
   obtain ⟨s',Cu,B5⟩:=P2.get' GY BA;rw [Wz Qp] at Cu;cases Cu;obtain ⟨z1,z2,z3,z4⟩:=Ko i Qp;refine kZ ?_;have s3:L2.Same H2 (upd H2 pr (.tup [.int ((i:Nat):Int),.ref fa])):=ad Bo _;have e3:(upd H2 pr (.tup [.int ((i:Nat):Int),.ref fa])) pr=some (.tup [.int ((i:Nat):Int),.ref fa]):=ab;generalize (upd H2 pr (.tup [.int ((i:Nat):Int),.ref fa]))=H3 at s3 e3 ⊢;refine ⟨pr,_,rfl,SqT.of e3,rfl,_,_,rfl,_,_,rfl,rfl,?_⟩;dsimp only [ax];refine ⟨3,rfl,by decide,by decide,?_⟩
   refine dg (n:=3) (fun j σ H4=>Ex3 fun (c4 c5:Option V) (tk:List (List Key×V))=>An5 (σ=[some (.ref fl),some (.ref td),some (.int ((i:Nat):Int)),some (.ref fa),c4,c5]) (L2.Same H H4) (H4 td=some (.dT tk)) (tk.length<=3 * i+j) (∀ (s k:Nat),(s<i/\k<3∨s=i/\k<j)->∃ a,aQ tk [VR (s:Int),VR (k:Int)]=some (.ref a)/\AtK K H4 (fr s) a))
    ⟨_,_,tk,rfl,s2.trans s3,s3 _ _ et,hlen,fun s k h=>by
     rcases h with h | h
     · obtain ⟨a,a1,a2⟩:=zE s k h.1 h.2;exact ⟨a,a1,a2.mono (Same.kt s3)⟩
     · omega⟩ ?_ ?_
   · rintro j σ H4 hj ⟨c4,c5,tk,rfl,s4,F3,JH,DQ⟩;have UX:j<3:=hj;have JI:=B5.mono (Same.kt s4);refine ⟨_,rfl,fa,_,rfl,JI,by omega,by omega,fun hl bs H5 s5 GR zO=>?_⟩
     have Tp:bs=[]:=by
      have h1:VW (fun (p:List Int) b=>H5 b=some (.tup (p.map V.int))) (u5 (fr i)) bs:=zO;have h2:=Vv h1;rw [z4] at h2;exact WA.mp h2.symm
     subst Tp;refine ⟨hl,_,rfl,.inl (SqL.of GR),_,rfl,by decide,by decide,fun D hD=>?_⟩;refine ⟨0,fun _ H6=>H6=upd H5 D (.lst []),rfl,?_⟩;rintro n H6 rfl;left;refine ⟨by show 0<=n;omega,?_⟩;have s6:L2.Same H5 (upd H5 D (.lst [])):=ad hD _;have e6:(upd H5 D (.lst [])) D=some (.lst (([]:List Vd).map V.ref)):=ab
     try dsimp only [ax]
     generalize (upd H5 D (.lst []))=H6 at s6 e6 ⊢;have Qq:=s5.trans s6
     have Qr:(fr i).hw [] (fr i)=[]:=r6 _ _ [] (Vj _) z1 fun pl v hv=>by
      cases hh:v.isHole with
      | false=>rfl
      | true =>
        have:=oS.mpr ⟨v,hv,hh⟩;rw [z4] at this;cases this
     refine ⟨_,rfl,_,rfl,fa,D,fr i,fr i,[],rfl,JI.mono (Same.kt Qq),by omega,by omega,z1,jC _ _ (Vj _) z1,(fun p hp=>by rw [Qr] at hp;cases hp),e6,by rw [Qr];exact AtsK.nil,fun r H7 s7 Tq=>?_⟩;refine ⟨_,rfl,_,rfl,_,rfl,ak (by show 2<=1000000;decide),fun kp CS=>?_⟩;have s8:L2.Same H7 (upd H7 kp (.tup [.int ((i:Nat):Int),.int (0+((j:Nat):Int))])):=ad CS _;have e8:(upd H7 kp (.tup [.int ((i:Nat):Int),.int (0+((j:Nat):Int))])) kp=some (.tup ([VR ((i:Nat):Int),VR (0+((j:Nat):Int))].map kV)):=ab;generalize (upd H7 kp (.tup [.int ((i:Nat):Int),.int (0+((j:Nat):Int))]))=H8 at s8 e8 ⊢;have NM:=Qq.trans (s7.trans s8);have Qs:=NM _ _ F3;refine ⟨td,_,rfl,DPut.t Qs e8 (aE (by omega)),?_⟩
     have Ga:KT H8 (upd H8 td (.dT (putK tk [VR ((i:Nat):Int),VR (0+((j:Nat):Int))] (.ref r)))):=fun c ys ec=>by
      rw [ag (fN ec Qs (fun z=>nomatch z))];exact ec
     refine ⟨_,_,_,rfl,au (s4.trans NM) F2,ab,?_,fun s k h=>?_⟩
     · have:=bo tk [VR ((i:Nat):Int),VR (0+((j:Nat):Int))] (V.ref r);omega
     · rw [fQ];by_cases By:([VR ((s:Nat):Int),VR ((k:Nat):Int)]:List Key)=[VR ((i:Nat):Int),VR (0+((j:Nat):Int))]
       · rw [if_pos By];injection By with e1 e2;have BP:((s:Nat):Int)=(i:Nat):=X9 e1;have:s=i:=by omega
         subst this;exact ⟨r,rfl,(Tq.mono (Same.kt s8)).mono Ga⟩
       · rw [if_neg By]
         have zK:s<i/\k<3∨s=i/\k<j:=by
          rcases h with h | h
          · exact .inl h
          · by_cases hk:k=j
            · exact absurd (by rw [h.1,hk,Xl]) By
            · exact .inr ⟨h.1,by omega⟩
         obtain ⟨a,a1,a2⟩:=DQ s k zK;exact ⟨a,a1,(a2.mono (Same.kt NM)).mono Ga⟩
   · rintro σ H4 ⟨c4,c5,tk,rfl,s4,F3,JH,DQ⟩;exact ⟨_,_,_,_,tk,rfl,s4,F3,by omega,fun s k hs hk=>DQ s k (by omega)⟩
 · rintro σ H2 ⟨c2,c3,c4,c5,tk,rfl,s2,et,hlen,zE⟩;rw [Vb,<- GQ] at zE;exact ⟨_,rfl,q td tk H2 s2 et zE⟩
inductive gL (K:Vc) (vs:List V) (H:Hp) (Q:VK) (_E:XK):Prop
 | mk (a:Vd) (t:Th) (zI:vs=[.ref a]) (zJ:AtK K H t a) (zP:t.noCall) (zZ:t.size<=1000) (Ai:t.tall<=140) (AX:∀ (r:Vd) (H':Hp),L2.Same H H'->H' r=some (.lst [])->Q (.ref r) H'):gL K vs H Q _E
def nG (K:Vc):Sp:=gL K
inductive iD (K:Vc) (vs:List V) (H:Hp) (Q:VK) (_E:XK):Prop
 | mk (a d:Vd) (t:Th) (zI:vs=[.ref a,.ref d]) (zJ:AtK K H t a) (zP:t.noCall) (zZ:t.size<=1000) (Ai:t.tall<=140) (AX:∀ (r:Vd) (H':Hp),L2.Same H H'->AtK K H' t r->Q (.ref r) H'):iD K vs H Q _E
def pc (K:Vc):Sp:=iD K
inductive jQ (K:Vc) (vs:List V) (H:Hp) (Q:VK) (_E:XK):Prop
 | mk (a d:Vd) (t:Th) (zI:vs=[.ref a,.ref d]) (zJ:AtK K H t a) (zP:t.noCall) (zZ:t.size<=1000) (Ai:t.tall<=140) (AX:H d=some (.dK [])) (Eg:∀ (r:Vd) (H':Hp),L2.Same H H'->AtK K H' t r->Q (.ref r) H'):jQ K vs H Q _E
def lc (K:Vc):Sp:=jQ K
theorem cu:∀ (n:Nat) (t u:Th),t.size<=n->t.noCall->u∈t.walk->u.isCall=false
 | 0,t,_,h,_,_=>by have:=t.size_pos;omega
 | n+1,.call a b,_,_,h,_=>by rw [Th.noCall] at h;exact h.elim
 | n+1,.knot m ks,u,hn,h,hu=>by
   rw [Th.walk] at hu;rw [Th.noCall] at h;rw [Th.size] at hn;rcases VA.mp hu with rfl | hu
   · rfl
   · refine hid fun ZZ kZ=>?_;obtain ⟨pl,hp⟩:=lP ks [] 0 hu;obtain ⟨j,t,ht,hx⟩:=cA.mp hp;have hm:=Vh ht;have hz:=aI hm;obtain ⟨r,_,hr⟩:=dW.mp hx;refine kZ ?_;have:u∈t.walk:=by rw [<- sh []];exact V1.mpr ⟨_,hr,rfl⟩
     exact cu n t u (by omega) (bX h hm) this
theorem gq (F:Int->Int->Th):∀ (n:Nat) (t:Th),t.size<=n->t.noCall->t.fill F=t
 | 0,t,h,_=>by have:=t.size_pos;omega
 | n+1,.call a b,_,h=>by rw [Th.noCall] at h;exact h.elim
 | n+1,.knot m ks,hn,h=>by
   rw [Th.noCall] at h;rw [Th.size] at hn;rw [Th.fill];congr 1;refine Yd fun j=>?_;rw [gA];cases hj:ks[j]? with
   | none=>rfl
   | some u =>
     have hm:=Vh hj;have:=aI hm;rw [X2,gq F n u (by omega) (bX h hm)]
theorem i0:aW P w K mg base CX0 3 T.g_called_in.f T.g_called_in.d ["pattern"] (nG K):=by
 refine T.g_called_in.F.ok nK (fun vs H Q E h=>?_) (fun zG A outer s H vs Q E hr h=>?_)
 · obtain ⟨a,t,rfl,_⟩:=h;rfl
 obtain ⟨a,t,rfl,hA,B6,hsz,zY,q⟩:=h;refine ⟨_,(af (aC (cj (N:=[Vf "part"]) (js:=[none]) (g:=(ax 0)) (tt:=(fun σ H Q=>(cW (g8 K) [] E0 (aJ (bc 0) cy)) σ H fun x H1=>∃ k,tS K x H1 k/\Q k H1)) (te:=(cW (fc K) [] E0 (aJ (bc 0) cy))) rfl (cv rfl (by decide +kernel) (by decide +kernel) rfl rfl rfl) (cf (pcF T.g_walked (jc T) hr (aa (pv 0) ac))) (fun _ _ _ _ _ _=>(aj (i:=0) yT rfl (VE rfl))) (aO rfl) (fun _ _ _ _ _ _=>i5 (bi (pcF T.g_is_call (dr T) hr (aa (pv 0) ac)) (fun _=>rfl))) (fun _ _ _ _ _ _=>(pcF T.g_called_by (fj T) hr (aa (pv 0) ac)))))),?_⟩
 try dsimp only [zV,zC]
 refine ⟨_,rfl,a,t,rfl,hA,by omega,fun r as H1 s1 nr er Am=>⟨r,rfl,⟨_,SqL.of er⟩,?_⟩⟩;have AN:as.length=t.walk.length:=Am.length;intro D hD;refine ⟨as.length,fun j H2=>An3 (j<=as.length) (L2.Same H1 H2) (H2 D=some (.lst [])),⟨VJ _,ad hD _,ab⟩,?_⟩;rintro j H2 ⟨hj,s2,eD⟩;by_cases BF:j=as.length
 · left;exact ⟨⟨_,SqL.of (s2 _ _ er),by rw [Vb,BF];exact Vj _⟩,q D H2 (s1.trans s2) eD⟩
 · right;have zR:j<as.length:=by omega
   refine ⟨zR,⟨_,.ref as[j],SqL.of (s2 _ _ er),by rw [Vp,Ve zR];rfl⟩,?_⟩;rintro y H3 ⟨BP,hv⟩;have NN:H3=H2:=BP;subst NN;have AK:=hv _ (SqL.of (s2 _ _ er));obtain ⟨ta,rfl,Bo⟩:=aV AK;obtain ⟨u,Mv,e3⟩:=(Am.mono (Same.kt s2)).get Bo;have Tr:=cu _ t u (Vj _) B6 (Vh Mv);refine ⟨_,rfl,ta,u,rfl,e3,_,rfl,?_⟩;rw [Tr];exact tw ⟨zR,s2,eD⟩
theorem ow:aW P w K mg base CX0 6 T.g_restated.f T.g_restated.d ["pattern","names"] (pc K):=by
 refine T.g_restated.F.ok dU (fun vs H Q E h=>?_) (fun zG A outer s H vs Q E hr h=>?_)
 · obtain ⟨a,d,t,rfl,_⟩:=h;rfl
 obtain ⟨a,d,t,rfl,hA,B6,hsz,zY,q⟩:=h
 refine ⟨_,(ae (aA (i:=2) dU.nd rfl (VE rfl) l4)
  (ae (bw VZ rfl (cf (pcF T.g_called_in (i0 T) hr (aa (pv 0) ac))) (ba rfl (aq (aj (i:=3) dU.nd rfl (VE rfl)) (aq (aj (i:=4) dU.nd rfl (VE rfl)) aN))) (af (nJ (iU hr) (pv 2) (aB (aa (pv 3) (aa (pv 4) ac))) (aB (aa (b9 (v:=.str (Vf "?")) rfl T.c_CALL_SIGN.choose_spec ⟨_,rfl⟩) (aa (kl (iU hr) (pv 1) (pv 3) (fun _ _=>rfl)) (aa (pv 4) ac)))) rfl)))
  (af (aC (pcF T.g_filled (ja T) hr (aa (pv 0) (aa (pv 2) ac))))))),?_⟩
 try dsimp only [zV,zC]
 intro td F2;dsimp only [ax];have s1:L2.Same H (upd H td (.dT [])):=ad F2 _;have e1:(upd H td (.dT [])) td=some (.dT []):=ab;generalize (upd H td (.dT []))=H1 at s1 e1 ⊢;refine ⟨_,rfl,a,t,rfl,hA.mono (Same.kt s1),B6,hsz,zY,fun r H2 s2 er=>⟨r,rfl,⟨_,SqL.of er⟩,?_⟩⟩;refine cz (K:=K) (a:=r) (xs:=[]) (fun j σ H3=>Ex2 fun (c3 c4:Option V)=>An2 (σ=[some (.ref a),some (.ref d),some (.ref td),c3,c4]) (H3=H2)) ⟨none,none,rfl,rfl⟩ (fun j σ H3 _ ⟨_,_,_,e⟩=>by rw [e];exact SqL.of er) ?_ ?_
 · rintro j x σ H3 hx _;simp at hx
 · rintro σ H3 ⟨c3,c4,rfl,rfl⟩;refine ⟨_,rfl,_,rfl,a,td,t,(fun _ _=>hole),[],rfl,hA.mono (Same.kt (s1.trans s2)),by omega,.inl (s2 _ _ e1),fun s k hc=>?_,fun r2 H4 s4 h4=>?_⟩
   · have:=cu _ t _ (Vj _) B6 hc;cases this
   · rw [gq _ _ t (Vj _) B6] at h4;exact q r2 H4 (s1.trans (s2.trans s4)) h4
theorem li:aW P w K mg base CX0 7 T.g_renamed.f T.g_renamed.d ["pattern","numbers"] (lc K):=by
 refine T.g_renamed.F.ok hZ (fun vs H Q E h=>?_) (fun zG A outer s H vs Q E hr h=>?_)
 · obtain ⟨a,d,t,rfl,_⟩:=h;rfl
 obtain ⟨a,d,t,rfl,hA,B6,hsz,zY,ed,q⟩:=h
 refine ⟨_,(ae (bw VZ rfl (cf (pcF T.g_called_in (i0 T) hr (aa (pv 0) ac))) (ba rfl (aq (aj (i:=2) hZ.nd rfl (VE rfl)) (aq (aj (i:=3) hZ.nd rfl (VE rfl)) aN))) (af (aP (bK Y3 XF Zn lL (pv 1) (aa (pv 2) (aa (aX jf rfl T.n_len Wh (aa (pv 1) ac)) ac))))))
  (ae (dF (ci pq (aX jf rfl T.n_len Wh (aa (pv 1) ac)) (b9 (v:=.int (20)) rfl T.c_MOST_STATES.choose_spec ⟨_,rfl⟩) (bP _)) (af pY) cX)
  (af (aC (pcF T.g_restated (ow T) hr (aa (pv 0) (aa (pv 1) ac))))))),?_⟩
 try dsimp only [zV,zC]
 refine ⟨_,rfl,a,t,rfl,hA,B6,hsz,zY,fun r H2 s2 er=>⟨r,rfl,⟨_,SqL.of er⟩,?_⟩⟩;refine cz (K:=K) (a:=r) (xs:=[]) (fun j σ H3=>Ex2 fun (c3 c4:Option V)=>An2 (σ=[some (.ref a),some (.ref d),c3,c4]) (H3=H2)) ⟨none,none,rfl,rfl⟩ (fun j σ H3 _ ⟨_,_,_,e⟩=>by rw [e];exact SqL.of er) ?_ ?_
 · rintro j x σ H3 hx _;simp at hx
 · rintro σ H3 ⟨c3,c4,rfl,rfl⟩;refine ⟨_,rfl,d,[],rfl,s2 _ _ ed,_,_,rfl,rfl,_,rfl,?_⟩;refine tw ?_;dsimp only [u8];exact ⟨_,rfl,_,rfl,a,d,t,rfl,hA.mono (Same.kt s2),B6,hsz,zY,fun r2 H4 s4 h4=>q r2 H4 (s2.trans s4) h4⟩
inductive iT (K:Vc) (vs:List V) (H:Hp) (Q:VK) (_E:XK):Prop
 | mk (ia oa ha f:Vd) (t:Th) (zI:vs=[.ref ia,.ref oa,.ref ha,.ref f]) (zJ:AtK K H t ha) (zP:t.noCall) (zZ:t.size<=1000) (Ai:t.tall<=140) (AX:∀ (r fh rt:Vd) (H':Hp),L2.Same H H'->H' r=some (.tup [.ref ia,.ref oa,.ref fh,.ref rt])->AtK K H' t fh->H' rt=some (.tup [])->Q (.ref r) H'):iT K vs H Q _E
def oW (K:Vc):Sp:=iT K
set_option maxHeartbeats 2000000 in
theorem oH:aW P w K mg base CX0 8 T.g_numbered.f T.g_numbered.d ["ins","outs","head","patterns_of"] (oW K):=by
 refine T.g_numbered.F.ok cM (fun vs H Q E h=>?_) (fun zG A outer s H vs Q E hr h=>?_)
 · obtain ⟨ia,oa,ha,f,t,rfl,_⟩:=h;rfl
 obtain ⟨ia,oa,ha,f,t,rfl,hA,B6,hsz,zY,k⟩:=h
 refine ⟨_,(ae (aA (i:=4) cM.nd rfl (Zo rfl) pA)
  (ae (aA (i:=5) cM.nd rfl (VE rfl) (pcF T.g_renamed (li T) hr (aa (pv 2) (aa (pv 4) ac))))
  (ae (aA (i:=6) cM.nd rfl (VE rfl) (bq ac))
  (ae (dB VZ (ci uA (aX aF rfl T.n_len Wh (aa (pv 6) ac)) (aX jf rfl T.n_len Wh (aa (pv 4) ac)) (bP _)) (ae (aA (i:=7) cM.nd rfl (VE rfl) (aZ bu (bz (oo rfl) rfl T.n_list PyProof.Rows.boot_list (aa (pv 4) ac)) (aX aF rfl T.n_len Wh (aa (pv 6) ac)) (fun _ _=>rfl)))
  (af (aP (bK Vy VQ VP aL (pv 6) (aa (bz be rfl T.n_tuple WM (aa (cj (N:=[Vf "pattern",Vf "numbers"]) (js:=[none,some 4]) (g:=(ax 0)) (tt:=bH) (te:=(cW (lc K) [] E0 (aJ (bc 0) (aJ (bc 1) cy)))) rfl (cv rfl (by decide +kernel) (by decide +kernel) rfl rfl rfl) (xJ (t4 (k:=5) (i:=3) rfl (VE rfl) (hr.mono (by first | decide | omega)) lv (aa (pv 7) ac))) (fun _ _ _ _ _ _=>(aj (i:=0) xS rfl (VE rfl))) (aO rfl) (fun _ _ _ _ _ _=>bO) (fun _ _ _ _ _ _=>(pcF T.g_renamed (li T) hr (aa (pv 0) (aa (pv 1) ac))))) ac)) ac))))))
  (af (aC (aB (aa (pv 0) (aa (pv 1) (aa (pv 5) (aa (bz be rfl T.n_tuple WM (aa (pv 6) ac)) ac))))))))))),?_⟩
 try dsimp only [zV,zC]
 intro nd Tt;dsimp only [ax];have s1:L2.Same H (upd H nd (.dK [])):=ad Tt _;have e1:(upd H nd (.dK [])) nd=some (.dK []):=ab;generalize (upd H nd (.dK []))=H1 at s1 e1 ⊢;refine ⟨_,rfl,_,rfl,ha,nd,t,rfl,hA.mono (Same.kt s1),B6,hsz,zY,e1,fun fh H2 s2 h2=>?_⟩;dsimp only [ax];refine ⟨ak (by show 0<=1000000;decide),fun rl D3=>?_⟩;have s3:L2.Same H2 (upd H2 rl (.lst [])):=ad D3 _;have e3:(upd H2 rl (.lst [])) rl=some (.lst []):=ab;generalize (upd H2 rl (.lst []))=H3 at s3 e3 ⊢;refine ⟨fun mz σ H4=>Ex1 fun (tv:Option V)=>An2 (σ=[some (.ref ia),some (.ref oa),some (.ref ha),some (.ref f),some (.ref nd),some (.ref fh),some (.ref rl),tv]) (H4=H3),⟨0,none,rfl,rfl⟩,?_⟩;rintro mz σ H4 ⟨tv,rfl,rfl⟩;refine ⟨_,rfl,rl,_,rfl,.inl (SqL.of e3),_,rfl,nd,_,rfl,s3 _ _ (s2 _ _ e1),_,_,rfl,rfl,_,rfl,?_⟩;refine tw ?_;refine ⟨_,rfl,_,rfl,_,rfl,_,rfl,rl,_,rfl,.inl ⟨SqL.of e3,fun rt JJ=>⟨ak (by show 4<=1000000;decide),fun r Bw=>?_⟩⟩⟩;have t1:=ad JJ (.tup []);have t2:=ad Bw (.tup [.ref ia,.ref oa,.ref fh,.ref rt]);exact k r fh rt _ (s1.trans (s2.trans (s3.trans (t1.trans t2)))) ab (h2.mono (Same.kt (s3.trans (t1.trans t2)))) (t2 _ _ ab)
def mf (k c:Int):List (VM×V):=[("met_knots",.int k),("met_calls",.int c)]
theorem mkc:¬ (("met_knots":VM)="met_calls"):=by decide +kernel
theorem yN:¬ (("met_calls":VM)="met_knots"):=by decide +kernel
theorem vL:cO "met_knots" (.int 0) []=[(("met_knots":VM),V.int 0)]:=rfl
theorem wd:cO "met_calls" (.int 0) [(("met_knots":VM),V.int 0)]=mf 0 0:=by
 unfold mf;rw [cO,if_neg mkc,cO]
theorem vW (k c z:Int):cO "met_knots" (.int z) (mf k c)=mf z c:=by
 unfold mf;rw [cO,if_pos rfl]
theorem vo (k c z:Int):cO "met_calls" (.int z) (mf k c)=mf k z:=by
 unfold mf;rw [cO,if_neg mkc,cO,if_pos rfl]
theorem yD (k c:Int):(mf k c).lookup ("met_knots":VM)=some (V.int k):=by
 unfold mf;have hb:(("met_knots":VM) == "met_knots")=true:=beq_iff_eq.mpr rfl;simp only [Yc,hb]
theorem ye (k c:Int):(mf k c).lookup ("met_calls":VM)=some (V.int c):=by
 unfold mf;have hb:(("met_calls":VM) == "met_calls")=true:=beq_iff_eq.mpr rfl;have hc:(("met_calls":VM) == "met_knots")=false:=beq_eq_false_iff_ne.mpr yN;simp only [Yc,hb,hc]
theorem yf {m:VM} (k c:Int) (h1:(m == ("met_knots":VM))=false) (h2:(m == ("met_calls":VM))=false):(mf k c).lookup m=none:=by
 unfold mf;simp only [Yc,h1,h2]
theorem uS (k c:Int):(mf k c).length<1000:=by show 2<1000;decide
inductive eU (C:Vd) (vs:List V) (H:Hp) (Q:VK) (_E:XK):Prop
 | mk (x dx:Vd) (zI:vs=[.ref x]) (zJ:H x=some (.ins C dx [])) (zP:∀ H':Hp,(∀ b o,b≠x->H b=some o->H' b=some o)->H' x=some (.ins C dx (mf 0 0))->Q .non H'):eU C vs H Q _E
def ki (C:Vd):Sp:=eU C
theorem j6:aW P w K mg base CX0 1 T.f_Measure_init T.d_Measure_init ["self"] (ki T.e_Measure):=by
 refine T.F_Measure_init.ok j9 (fun vs H Q E h=>?_) (fun zG A outer s H vs Q E hr h=>?_)
 · obtain ⟨x,dx,rfl,_⟩:=h;rfl
 obtain ⟨x,dx,rfl,ex,q⟩:=h
 refine ⟨_,(ae (uR (pv 0) am rfl)
  (af (uR (pv 0) am rfl))),?_⟩
 try dsimp only [zV,zC]
 refine ⟨_,rfl,x,T.e_Measure,dx,_,rfl,ex,T.cl_Measure,T.na_Measure_met_knots,(by show 0<1000;decide),?_⟩;refine ⟨_,rfl,x,T.e_Measure,dx,_,rfl,ab,T.cl_Measure,T.na_Measure_met_calls,(by show 1<1000;decide),?_⟩;refine q _ (fun b o hb e=>?_) ?_
 · rw [ag hb,ag hb];exact e
 · rw [ab,vL,wd]
inductive dQ (K:Vc) (C:Vd) (vs:List V) (H:Hp) (Q:VK) (_E:XK):Prop
 | mk (x dx pa:Vd) (k c row:Int) (t:Th) (zI:vs=[.ref x,.ref pa,.int row]) (zJ:H x=some (.ins C dx (mf k c))) (zP:AtK K H t pa) (zZ:∀ (k' c':Int) (H':Hp),k'=(if t.isCall=true then k else k+1)->c'=(if t.isCall=true then c+1 else c)->(∀ b o,b≠x->H b=some o->H' b=some o)->H' x=some (.ins C dx (mf k' c'))->Q (.bl (decide (row<=20/\k'<=400/\c'<=200))) H'):dQ K C vs H Q _E
def jn (K:Vc) (C:Vd):Sp:=dQ K C
theorem jA:aW P w K mg base CX0 2 T.f_Measure_takes T.d_Measure_takes ["self","part","row"] (jn K T.e_Measure):=by
 refine T.F_Measure_takes.ok jj (fun vs H Q E h=>?_) (fun zG A outer s H vs Q E hr h=>?_)
 · obtain ⟨x,dx,pa,k,c,row,t,rfl,_⟩:=h;rfl
 obtain ⟨x,dx,pa,k,c,row,t,rfl,ex,hA,q⟩:=h
 refine ⟨_,(ae (dF (bi (pcF T.g_is_call (dr T) hr (aa (pv 1) ac)) (fun _=>rfl)) (af (mK (pv 0) am vc)) (af (mK (pv 0) am vc)))
  (af (aC (lw (dS u6 (pv 2) (b9 (v:=.int (20)) rfl T.c_MOST_ROWS.choose_spec ⟨_,rfl⟩) (bP _)) (lw (dS u6 (u4 (pv 0) rfl) (b9 (v:=.int (400)) rfl T.c_MOST_KNOTS.choose_spec ⟨_,rfl⟩) (bP _)) (qz (dS u6 (u4 (pv 0) rfl) (b9 (v:=.int (200)) rfl T.c_MOST_CALLS.choose_spec ⟨_,rfl⟩) (bP _)))))))),?_⟩
 try dsimp only [zV,zC]
 refine ji (fun zu H'=>Ex2 fun (k' c':Int)=>An5 (k'=(if t.isCall=true then k else k+1)) (c'=(if t.isCall=true then c+1 else c)) ((∀ b o,b≠x->H b=some o->H' b=some o)) (H' x=some (.ins T.e_Measure dx (mf k' c'))) (zu=[some (.ref x),some (.ref pa),some (.int row)])) (fun kk hk=>?_) ?_
 · refine dq (fun b H'=>An2 (H=H') (b=t.isCall)) (fun k2 BG=>?_) (fun H' hb=>?_) (fun H' hb=>?_)
   · exact ⟨_,rfl,pa,t,rfl,hA,_,rfl,BG _ _ ⟨rfl,rfl⟩⟩
   · obtain ⟨rfl,hb⟩:=hb;refine ⟨_,rfl,x,T.e_Measure,dx,_,_,rfl,ex,T.cl_Measure,T.na_Measure_met_calls,ye k c,c,1,rfl,rfl,dx,_,ex,uS k c,?_⟩;exact hk _ _ ⟨k,c+1,by rw [if_pos hb.symm],by rw [if_pos hb.symm],fun b o hb e=>by rw [ag hb];exact e,by rw [ab,vo],rfl⟩
   · obtain ⟨rfl,hb⟩:=hb;have Aj:¬ t.isCall=true:=fun z=>by rw [<- hb] at z;cases z
     refine ⟨_,rfl,x,T.e_Measure,dx,_,_,rfl,ex,T.cl_Measure,T.na_Measure_met_knots,yD k c,k,1,rfl,rfl,dx,_,ex,uS k c,?_⟩;exact hk _ _ ⟨k+1,c,by rw [if_neg Aj],by rw [if_neg Aj],fun b o hb e=>by rw [ag hb];exact e,by rw [ab,vW],rfl⟩
 rintro zu H' ⟨k',c',Ar,Ao,hs,Ka,rfl⟩;have q':=q k' c' H' Ar Ao hs Ka;clear q;refine ⟨_,rfl,_,_,rfl,rfl,?_⟩;refine ⟨_,rfl,?_⟩;by_cases c1:row<=20
 · rw [if_pos (decide_eq_true c1)];refine ⟨_,rfl,x,T.e_Measure,dx,_,_,rfl,Ka,T.cl_Measure,T.na_Measure_met_knots,yD k' c',_,_,rfl,rfl,_,rfl,?_⟩;by_cases c2:k'<=400
   · rw [if_pos (decide_eq_true c2)];refine ⟨_,rfl,x,T.e_Measure,dx,_,_,rfl,Ka,T.cl_Measure,T.na_Measure_met_calls,ye k' c',_,_,rfl,rfl,?_⟩;have e:decide (row<=20/\k'<=400/\c'<=200)=decide (c'<=200):=by simp [c1,c2]
     rw [e] at q';exact q'
   · rw [if_neg (fun z=>c2 (of_decide_eq_true z))];rw [decide_eq_false (fun z=>c2 z.2.1)] at q';exact q'
 · rw [if_neg (fun z=>c1 (of_decide_eq_true z))];rw [decide_eq_false (fun z=>c1 z.1)] at q';exact q'
mutual
/-- how many calls -/
def cnT:Th->Nat
 | .knot _ ks=>dG ks
 | .call _ _=>1
def dG:List Th->Nat
 | []=>0
 | t::ts=>cnT t+dG ts
end
def Small (t:Th):Prop:=t.tall<=20/\t.kn<=400/\cnT t<=200
instance (t:Th):Decidable (Small t):=inferInstanceAs (Decidable (_/\_/\_))
theorem yd (t:Th):t.kn=(if t.isCall=true then 0 else 1)+kns t.kids:=by
 cases t with
 | knot n ks=>rw [Th.kn,Th.isCall,Th.kids,if_neg VG];omega
 | call s k=>rw [Th.kn,Th.isCall,Th.kids,if_pos rfl,kns]
theorem yt (t:Th):cnT t=(if t.isCall=true then 1 else 0)+dG t.kids:=by
 cases t with
 | knot n ks=>rw [cnT,Th.isCall,Th.kids,if_neg VG];omega
 | call s k=>rw [cnT,Th.isCall,Th.kids,if_pos rfl,dG]
theorem lT (a b:List Th):kns (a++b)=kns a+kns b:=by
 induction a with
 | nil=>rw [Xp,kns];omega
 | cons x a ih=>rw [Wn,kns,kns,ih];omega
theorem jO (a b:List Th):dG (a++b)=dG a+dG b:=by
 induction a with
 | nil=>rw [Xp,dG];omega
 | cons x a ih=>rw [Wn,dG,dG,ih];omega
theorem uW {ts:List Th} (h:ts≠[]):∃ t∈ts,bf ts=t.tall:=by
 induction ts with
 | nil=>exact absurd rfl h
 | cons x ts ih =>
   rw [bf];by_cases hz:ts=[]
   · subst hz;exact ⟨x,VC ..,by rw [bf];omega⟩
   · obtain ⟨t,ht,e⟩:=ih hz;by_cases hc:bf ts<=x.tall
     · exact ⟨x,VC ..,by omega⟩
     · exact ⟨t,VB _ ht,by omega⟩
def RwAt (K:Vc) (H:Hp) (e:Th×Int) (p:Vd):Prop:=∃ ta,H p=some (.tup [.ref ta,.int e.2])/\AtK K H e.1 ta
theorem RwAt.mono {K:Vc} {H H':Hp} (k:KT H H') {e:Th×Int} {p:Vd} (h:RwAt K H e p):RwAt K H' e p:=by
 obtain ⟨ta,h1,h2⟩:=h;exact ⟨ta,k _ _ h1,h2.mono k⟩
inductive iR (K:Vc) (vs:List V) (H:Hp) (Q:VK) (_E:XK):Prop
 | mk (a:Vd) (t:Th) (zI:vs=[.ref a]) (zJ:AtK K H t a) (zP:t.size<=100000) (zZ:∀ H',L2.Same H H'->Q (.bl (decide (Small t))) H'):iR K vs H Q _E
def p6 (K:Vc):Sp:=iR K
set_option maxHeartbeats 2000000 in
theorem o0:aW P w K mg base CX0 4 T.g_is_small.f T.g_is_small.d ["pattern"] (p6 K):=by
 refine T.g_is_small.F.ok cN (fun vs H Q E h=>?_) (fun zG A outer s H vs Q E hr h=>?_)
 · obtain ⟨a,t,rfl,_⟩:=h;rfl
 obtain ⟨a,t,rfl,hA,hsz,q⟩:=h
 refine ⟨_,(ae (aA (i:=1) cN.nd rfl (VE rfl) (um T.mk_Measure (j6 T) (hr.mono (by first | decide | omega)) rfl T.x_Measure T.b_Measure_init .nil lv))
  (ae (aA (i:=2) cN.nd rfl (VE rfl) (bq (aa (aB (aa (pv 0) (aa am ac))) ac)))
  (ae (dB VZ (bi (pv 2) (fun _=>rfl)) (ae (fE (jm Vy XU XT jx (pv 2)) (ba rfl (aq (aj (i:=3) cN.nd rfl (VE rfl)) (aq (aj (i:=4) cN.nd rfl (Zo rfl)) aN))))
  (ae (dF (uo (bi (vF (pv 1) T.cl_Measure T.me_Measure_takes (jA T) (hr.mono (by first | decide | omega)) T.b_Measure_takes .nil lv (aa (pv 3) (aa (pv 4) ac))) (fun _=>rfl))) (af (aC wO)) cX)
  (af (aP (bK Vy Yg Ye gj (pv 2) (aa (cj (N:=[Vf "kid",Vf "row"]) (js:=[none,some 4]) (g:=(ax 0)) (tt:=bH) (te:=(kb (aJ (bc 0) (aJ (tOp (rI0 fun i j=>.int (i+j)) (bc 1) (tC (.int 1))) cy)))) rfl (cv rfl (by decide +kernel) (by decide +kernel) rfl rfl rfl) (l6 (pcF T.g_kids_of (ff T) hr (aa (pv 3) ac))) (fun _ _ _ _ _ _=>(aj (i:=0) yc rfl (VE rfl))) (aO rfl) (fun _ _ _ _ _ _=>bO) (fun _ _ _ _ _ _=>(aB (aa (pv 0) (aa (aH eF (pv 1) am) ac))))) ac)))))))
  (af (aC wO))))),?_⟩
 try dsimp only [zV,zC]
 intro mo dx KW Tu zS;refine ⟨mo,dx,rfl,ab,fun H1 k1 Qt=>⟨rfl,?_⟩⟩
 have s0:L2.Same H (upd (upd H dx (.own mo)) mo (.ins T.e_Measure dx [])):=fun b o e=>by
  rw [ag (az e KW),ag (az e Tu)];exact e
 have s1:L2.Same H H1:=fun b o e=>k1 b o (az e KW) (s0 b o e);refine ⟨_,rfl,ak (by show 2<=1000000;decide),fun p0 D0=>?_⟩;dsimp only [ax];have s2:L2.Same H1 (upd H1 p0 (.tup [.ref a,.int 1])):=ad D0 _;have e2:(upd H1 p0 (.tup [.ref a,.int 1])) p0=some (.tup [.ref a,.int 1]):=ab;generalize (upd H1 p0 (.tup [.ref a,.int 1]))=H2 at s2 e2 ⊢;refine ⟨ak (by show 1<=1000000;decide),fun ah AV=>?_⟩;have s3:L2.Same H2 (upd H2 ah (.lst [.ref p0])):=ad AV _;have e3:(upd H2 ah (.lst [.ref p0])) ah=some (.lst (([p0]:List Vd).map V.ref)):=ab;have JK:H ah=none:=(s1.trans s2).free AV;have Fm:mo≠ah:=fun z=>by rw [<- z,s2 _ _ Qt] at AV;cases AV
 generalize (upd H2 ah (.lst [.ref p0]))=H3 at s3 e3 ⊢;have BZ:=s2.trans s3;refine ⟨fun m σ H4=>Ex6 fun (ps:List Vd) (As:List (Th×Int)) (k c:Int) (pv rv:Option V)=>xy (σ=[some (.ref a),some (.ref mo),some (.ref ah),pv,rv]) (L2.Same H H4) (H4 ah=some (.lst (ps.map V.ref))) (VW (RwAt K H4) As ps) (H4 mo=some (.ins T.e_Measure dx (mf k c))) (k+(kns (As.map (·.1)):Int)=(t.kn:Int)) (c+(dG (As.map (·.1)):Int)=(cnT t:Int)) (k<=400) (c<=200) ((∀ e∈As,e.2+(e.1.tall:Int)<=(t.tall:Int)+1)) (((t.tall:Int)<=20∨∃ e∈As,(t.tall:Int)+1<=e.2+(e.1.tall:Int))) (ao (As.map (·.1))<=100000) (m=ao (As.map (·.1))),⟨_,[p0],[(t,1)],0,0,none,none,rfl,s1.trans BZ,e3,.cons ⟨a,s3 _ _ e2,hA.mono (Same.kt (s1.trans BZ))⟩ .nil,BZ _ _ Qt,?_,?_,by decide,by decide,?_,?_,?_,rfl⟩,?_⟩
 · show (0:Int)+((kns [t]:Nat):Int)=_;rw [kns,kns];omega
 · show (0:Int)+((dG [t]:Nat):Int)=_;rw [dG,dG];omega
 · intro e he;rw [VF.mp he];show (1:Int)+(t.tall:Int)<=_;omega
 · exact .inr ⟨(t,1),VC ..,by show _<=(1:Int)+(t.tall:Int);omega⟩
 · show ao [t]<=100000;rw [ao,ao];omega
 rintro m σ H4 ⟨ps,As,k,c,pv,rv,rfl,s4,e4,Qu,em,hk,hc,UY,Dg,hle,Kz,NO,rfl⟩;refine ⟨_,rfl,_,.inl ⟨_,SqL.of e4,rfl⟩,?_⟩;refine eK (fun cc=>?_) (fun cc=>?_)
 · refine ⟨fun zu H'=>∃ m',m'<ao (As.map (·.1))/\Ex6 fun (ps:List Vd) (As:List (Th×Int)) (k c:Int) (pv rv:Option V)=>xy (zu=[some (.ref a),some (.ref mo),some (.ref ah),pv,rv]) (L2.Same H H') (H' ah=some (.lst (ps.map V.ref))) (VW (RwAt K H') As ps) (H' mo=some (.ins T.e_Measure dx (mf k c))) (k+(kns (As.map (·.1)):Int)=(t.kn:Int)) (c+(dG (As.map (·.1)):Int)=(cnT t:Int)) (k<=400) (c<=200) ((∀ e∈As,e.2+(e.1.tall:Int)<=(t.tall:Int)+1)) (((t.tall:Int)<=20∨∃ e∈As,(t.tall:Int)+1<=e.2+(e.1.tall:Int))) (ao (As.map (·.1))<=100000) (m'=ao (As.map (·.1))),fun zu H' h=>h,?_⟩;have Ay:ps≠[]:=by intro z;subst z;simp at cc
   refine hid fun ZZ kZ=>?_;obtain ⟨Cr,b,rfl⟩:∃ Cr b,ps=Cr++[b]:=⟨ps.dropLast,ps.getLast Ay,(Xe Ay).symm⟩;obtain ⟨Us,⟨x,r⟩,rfl,Qv,ta,eb,hx⟩:=P2.snoc_inv Qu;refine kZ ?_;have JL:(Us++[(x,r)]).map (·.1)=Us.map (·.1)++[x]:=by rw [Vs];rfl
   rw [JL] at hk hc NO;rw [lT,kns,kns,yd] at hk;rw [jO,dG,dG,yt] at hc;rw [aU,ao,ao,x.size_eq] at NO;have Tv:=hle (x,r) (VY _ (VC ..));dsimp only at Tv;have Iv:=x.tall_eq;refine ⟨_,rfl,.inl ⟨rfl,_,SqL.of e4⟩,ah,_,.ref b,rfl,rfl,e4,by simp,?_⟩;have d1:((Cr++[b]).map V.ref).dropLast=Cr.map V.ref:=by simp
   rw [d1];have k5:KT H4 (upd H4 ah (.lst (Cr.map V.ref))):=aK e4;have s5:L2.Same H (upd H4 ah (.lst (Cr.map V.ref))):=au s4 JK;have e5:(upd H4 ah (.lst (Cr.map V.ref))) ah=some (.lst (Cr.map V.ref)):=ab;have KY:(upd H4 ah (.lst (Cr.map V.ref))) mo=some (.ins T.e_Measure dx (mf k c)):=by rw [ag Fm];exact em
   generalize (upd H4 ah (.lst (Cr.map V.ref)))=H5 at k5 s5 e5 KY ⊢;refine ⟨b,_,rfl,SqT.of (k5 _ _ eb),rfl,_,_,rfl,_,_,rfl,rfl,?_⟩;dsimp only [ax];refine ji (fun zu H6=>Ex2 fun (k' c':Int)=>An6 (k'=(if x.isCall=true then k else k+1)) (c'=(if x.isCall=true then c+1 else c)) ((∀ b o,b≠mo->H5 b=some o->H6 b=some o)) (H6 mo=some (.ins T.e_Measure dx (mf k' c'))) ((r<=20/\k'<=400/\c'<=200)) (zu=[some (.ref a),some (.ref mo),some (.ref ah),some (.ref ta),some (.int r)])) (fun kk By=>?_) ?_
   · refine dq (fun bb H6=>Ex2 fun (k' c':Int)=>An5 (k'=(if x.isCall=true then k else k+1)) (c'=(if x.isCall=true then c+1 else c)) ((∀ b o,b≠mo->H5 b=some o->H6 b=some o)) (H6 mo=some (.ins T.e_Measure dx (mf k' c'))) (bb=!decide (r<=20/\k'<=400/\c'<=200))) (fun k2 BG=>?_) (fun H6 hb=>?_) (fun H6 hb=>?_)
     · refine ⟨_,rfl,mo,dx,_,rfl,KY,yf k c (by decide +kernel) (by decide +kernel),_,rfl,_,rfl,mo,dx,ta,k,c,r,x,rfl,KY,hx.mono k5,fun k' c' H6 h1 h2 h3 h4=>?_⟩;exact ⟨_,rfl,BG _ _ ⟨k',c',h1,h2,h3,h4,rfl⟩⟩
     · refine hid fun ZZ kZ=>?_;obtain ⟨k',c',h1,h2,h3,h4,h5⟩:=hb;refine kZ ?_;have Cb:¬ (r<=20/\k'<=400/\c'<=200):=fun z=>by rw [decide_eq_true z] at h5;cases h5
       have Fu:decide (Small t)=false:=decide_eq_false fun z=>Cb (by
        obtain ⟨z1,z2,z3⟩:=z;refine ⟨by omega,?_,?_⟩
        · rw [h1];split at hk <;> split <;> first | omega | contradiction
        · rw [h2];split at hc <;> split <;> first | omega | contradiction)
       have s6:L2.Same H H6:=fun b o e=>h3 b o (az e KW) (s5 b o e);rw [Fu] at q;exact q H6 s6
     · refine hid fun ZZ kZ=>?_;obtain ⟨k',c',h1,h2,h3,h4,h5⟩:=hb;refine kZ ?_
       have FG:r<=20/\k'<=400/\c'<=200:=of_decide_eq_true (by
        cases hd:decide (r<=20/\k'<=400/\c'<=200) with
        | true=>rfl
        | false=>rw [hd] at h5;cases h5)
       exact By _ _ ⟨k',c',h1,h2,h3,h4,FG,rfl⟩
   rintro zu H6 ⟨k',c',h1,h2,h3,h4,⟨Tw,NP,NQ⟩,rfl⟩;have k6:KT H5 H6:=fun b xs e=>h3 b _ (fun z=>by rw [z,KY] at e;cases e) e;have s6:L2.Same H H6:=fun b o e=>h3 b o (az e KW) (s5 b o e);have e6:H6 ah=some (.lst (Cr.map V.ref)):=h3 _ _ Fm.symm e5;have Qw:=k5.trans k6;refine ⟨_,rfl,.inl ⟨rfl,_,SqL.of e6⟩,_,rfl,ta,x,rfl,hx.mono Qw,fun ka Ah H7 s7 ek CL=>?_⟩;have BV:Ah.length=x.kids.length:=CL.length;have UZ:=bU x.kids;refine ⟨ka,rfl,⟨_,SqT.of ek⟩,km (F:=RwAt K) (xs:=Ah.map V.ref) (x.kids.map fun u=>(u,r+1)) (fun H1 H2 z p kt h=>h.mono kt) (by rw [Vb,Vb];omega) (by rw [Vb];omega) (fun i Hx sx hi=>⟨_,_,SqT.of (sx _ _ ek),Ve hi⟩) (fun Hx sx=>⟨_,SqT.of (sx _ _ ek),Vj _⟩) (fun i Hx x Hy sx hi hy=>⟨hy.1,hy.2 _ (SqT.of (sx _ _ ek))⟩) (fun i y z Hx R W' hy CQ sx hR=>?_) (fun D H8 bs hD s8 eD Eu=>?_)⟩
   · obtain ⟨ua,rfl,C8⟩:=aV hy;obtain ⟨u,hu,FZ⟩:=CL.get C8;rw [Vp,hu] at CQ;cases CQ;refine ⟨_,rfl,_,rfl,_,_,rfl,rfl,ak (by show 2<=1000000;decide),fun p1 Cw=>?_⟩;exact hR _ p1 (ad Cw _) ⟨ua,ab,FZ.mono (Same.kt (sx.trans (ad Cw _)))⟩
   have PK:Us.length=Cr.length:=Vv Qv;have AM:(x.kids.map fun u=>(u,r+1)).length=bs.length:=Vv Eu;rw [Vb] at AM;have PL:=bU (Us.map (·.1));rw [Vb] at PL;have KZ:=s7.trans s8;have e8:=KZ _ _ e6;refine ⟨ah,D,_,_,rfl,rfl,e8,eD,Yb (aE (by rw [Vb,Vb];omega)),?_⟩;have k9:KT H8 (upd H8 ah (.lst (Cr.map V.ref++bs.map V.ref))):=aK e8;have s9:L2.Same H (upd H8 ah (.lst (Cr.map V.ref++bs.map V.ref))):=au (s6.trans KZ) JK
   have Ji:(Us++x.kids.map fun u=>(u,r+1)).map (·.1)=Us.map (·.1)++x.kids:=by
    rw [Vs,XM];congr 1;exact List.map_id' _
   refine ⟨ao ((Us++x.kids.map fun u=>(u,r+1)).map (·.1)),?_,Cr++bs,Us++(x.kids.map fun u=>(u,r+1)),k',c',_,_,rfl,s9,?_,?_,?_,?_,?_,NP,NQ,?_,?_,?_,rfl⟩
   · rw [Ji,JL,aU,aU,ao,ao,x.size_eq];omega
   · rw [ab,Vs]
   · exact P2.append (P2.mp (fun _ _ e=>e.mono ((Qw.trans (Same.kt KZ)).trans k9)) Qv) (P2.mp (fun _ _ e=>e.mono k9) Eu)
   · rw [ag Fm];exact KZ _ _ h4
   · rw [Ji,lT,h1];split at hk <;> split <;> first | omega | contradiction
   · rw [Ji,jO,h2];split at hc <;> split <;> first | omega | contradiction
   · intro e he;rcases VX.mp he with he | he
     · exact hle e (V6 _ he)
     · obtain ⟨u,hu,rfl⟩:=V1.mp he;have:=bT hu;dsimp only;omega
   · rcases Kz with h | ⟨e,he,NR⟩
     · exact .inl h
     · rcases VX.mp he with he | he
       · exact .inr ⟨e,V6 _ he,NR⟩
       · rw [VF.mp he] at NR;dsimp only at NR;by_cases hz:x.kids=[]
         · rw [hz,bf] at Iv;exact .inl (by omega)
         · obtain ⟨u,hu,eu⟩:=uW hz;exact .inr ⟨(u,r+1),VY _ (V1.mpr ⟨u,hu,rfl⟩),by dsimp only;omega⟩
   · rw [Ji,aU];omega
 · have hz:ps=[]:=by
    cases ps with
    | nil=>rfl
    | cons y ys=>simp at cc
   subst hz;have CN:As=[]:=WA.mp (Vv Qu);subst CN;have Ar:k+((kns []:Nat):Int)=(t.kn:Int):=hk;have Ao:c+((dG []:Nat):Int)=(cnT t:Int):=hc;rw [kns] at Ar;rw [dG] at Ao
   have Tx:(t.tall:Int)<=20:=by
    rcases Kz with h | ⟨e,he,_⟩
    · exact h
    · cases he
   have GZ:decide (Small t)=true:=decide_eq_true ⟨by omega,by omega,by omega⟩;rw [GZ] at q;exact q H4 s4
inductive j4 (K:Vc) (vs:List V) (H:Hp) (Q:VK) (_E:XK):Prop
 | mk (a:Vd) (t:Th) (zI:vs=[.ref a]) (zJ:AtK K H t a) (zP:t.size<=100000) (zZ:Small t) (Ai:∀ H',L2.Same H H'->Q (.ref a) H'):j4 K vs H Q _E
def qD (K:Vc):Sp:=j4 K
theorem qd:aW P w K mg base CX0 5 T.g_checked.f T.g_checked.d ["pattern"] (qD K):=by
 refine T.g_checked.F.ok qQ (fun vs H Q E h=>?_) (fun zG A outer s H vs Q E hr h=>?_)
 · obtain ⟨a,t,rfl,_⟩:=h;rfl
 obtain ⟨a,t,rfl,hA,hsz,GZ,q⟩:=h
 refine ⟨_,(ae (dF (uo (bi (pcF T.g_is_small (o0 T) hr (aa (pv 0) ac)) (fun _=>rfl))) (af pY) cX)
  (af (aC (pv 0)))),?_⟩
 try dsimp only [zV,zC]
 refine ⟨_,rfl,a,t,rfl,hA,hsz,fun H1 s1=>⟨_,rfl,?_⟩⟩;rw [decide_eq_true GZ];exact tw ⟨_,rfl,q H1 s1⟩
inductive j0 (vs:List V) (H:Hp) (Q:VK) (_E:XK):Prop
 | mk (b:Vd) (v1 v2 v3 v4:V) (zI:vs=[.ref b]) (zJ:H b=some (.tup [v1,v2,v3,v4])) (zP:Q v2 H):j0  vs H Q _E
def qk:Sp:=j0
theorem qf:aW P w K mg base CX0 1 T.g_outs_of.f T.g_outs_of.d ["book"] qk:=by
 refine T.g_outs_of.F.ok qN (fun vs H Q E h=>?_) (fun zG A outer s H vs Q E hr h=>?_)
 · obtain ⟨b,v1,v2,v3,v4,rfl,_⟩:=h;rfl
 obtain ⟨b,v1,v2,v3,v4,rfl,e,q⟩:=h;refine ⟨_,(af (aC (aZ bL (pv 0) am (fun _ _=>rfl)))),?_⟩
 try dsimp only [zV,zC]
 exact ⟨_,rfl,b,_,1,v2,rfl,rfl,SqT.of e,cx (j:=1) rfl,q⟩
inductive jG (vs:List V) (H:Hp) (Q:VK) (_E:XK):Prop
 | mk (b:Vd) (v1 v2 v3 v4:V) (zI:vs=[.ref b]) (zJ:H b=some (.tup [v1,v2,v3,v4])) (zP:Q v3 H):jG  vs H Q _E
def qj:Sp:=jG
theorem qh:aW P w K mg base CX0 1 T.g_head_of.f T.g_head_of.d ["book"] qj:=by
 refine T.g_head_of.F.ok qt (fun vs H Q E h=>?_) (fun zG A outer s H vs Q E hr h=>?_)
 · obtain ⟨b,v1,v2,v3,v4,rfl,_⟩:=h;rfl
 obtain ⟨b,v1,v2,v3,v4,rfl,e,q⟩:=h;refine ⟨_,(af (aC (aZ bL (pv 0) am (fun _ _=>rfl)))),?_⟩
 try dsimp only [zV,zC]
 exact ⟨_,rfl,b,_,2,v3,rfl,rfl,SqT.of e,cx (j:=2) rfl,q⟩
theorem uf {outs:List (VM×Int)} (go:bR outs) {S:Int}:∀ (n:Nat) (t:Th),t.size<=n->t.FitS outs S 0->t.com t=t
 | 0,t,h,_=>by have:=t.size_pos;omega
 | n+1,.call a b,_,h=>by rw [Th.FitS] at h;omega
 | n+1,.knot m ks,hn,h=>by
   have hh:=gX go h .here;rw [hX,if_pos (ig hh rfl)];rw [Th.size] at hn;show Th.knot m ((ks.zip ks).map fun p=>p.1.com p.2)=_;congr 1;refine Yd fun j=>?_;rw [Vp];cases hj:ks[j]? with
   | none=>rw [Xb (by rw [Yu,ZX];exact List.getElem?_eq_none_iff.mp hj)];rfl
   | some u =>
     have hz:(ks.zip ks)[j]?=some (u,u):=W9.mpr ⟨hj,hj⟩;rw [hz,X2];have hm:=Vh hj;have:=aI hm;rw [uf go n u (by omega) (eV h hj)]
theorem uh {D:List Int->Bool}:∀ (n:Nat) (t:Th) (pre:List Int),t.size<=n->t.noCall->(∀ pl v,In t pl v->v.isHole=false->D (pre++pl)=false)->t.cut D pre=t
 | 0,t,_,h=>by have:=t.size_pos;omega
 | n+1,.call a b,_,_=>fun h=>by rw [Th.noCall] at h;exact h.elim
 | n+1,.knot m ks,pre,hn=>fun hc hD=>by
   rw [Th.cut];by_cases hh:(Th.knot m ks).isHole=true
   · rw [if_pos (.inl hh)];rw [Th.isHole,decide_eq_true_iff] at hh;rw [hh.1,hh.2];rfl
   · have Md:=WO.mpr hh;have h0:=hD [] _ .here Md;rw [V7] at h0;rw [if_neg (by rintro (z | z);(exact hh z);(rw [h0] at z;cases z))];congr 1;rw [Th.size] at hn;rw [Th.noCall] at hc;refine Yd fun j=>?_;rw [oV];cases hj:ks[j]? with
     | none=>rfl
     | some u =>
       have hm:=Vh hj;have:=aI hm;rw [X2,uh n u _ (by omega) (bX hc hm) fun pl v hv hz=>?_];have:=hD ((j:Int)::pl) v (.kid hj hv) hz;rw [Xl,V8];exact this
theorem lf {α β:Type} {F G:α->β->Prop}:∀ {a:List α} {b:List β},(∀ x y,x∈a->F x y->G x y)->VW F a b->VW G a b
 | _,_,_,.nil=>.nil
 | _,_,f,.cons h t=>.cons (f _ _ (VC ..) h) (lf (fun x y hx=>f x y (VB _ hx)) t)
def qI (ms:List Th) (rows:List (List Th)):Prop:=∀ (s:Nat) (row:List Th),rows[s]?=some row->∀ p∈row,p.fill (fun l _=>ms.getD l.toNat hole)=ms.getD s hole
section
variable {ins outs:List (VM×Int)} {rows:List (List Th)} {ms:List Th}
theorem cY (F:FrK ins outs rows) (hw:qI ms rows) {s:Nat} (hs:s<rows.length):mkF ins rows (s:Nat)=ms.getD s hole/\(ms.getD s hole).FitS outs (rows.length:Nat) 0/\(ms.getD s hole).size<=200/\(ms.getD s hole).tall<=100:=by
 refine hid fun ZZ kZ=>?_;obtain ⟨row,p,hr,hp,e,z1,z2,hf⟩:=F.mkd (l:=(s:Nat)) (by omega) (by omega);refine kZ ?_;rw [Wg] at hr;have h:=hw s row hr p (Vh hp);rw [gq _ _ p (Vj _) (cK _ _ (Vj _) hf)] at h;rw [e,<- h];exact ⟨rfl,hf,z1,z2⟩
theorem nQ (F:FrK ins outs rows) (go:bR outs) (hw:qI ms rows) {s:Nat} {row:List Th} (zy:rows[s]?=some row):∀ i:Nat,i<=row.length->frF (mkF ins rows) (mkF ins rows (s:Nat)) (row.take i)=ms.getD s hole
 | 0,_=>by
   rw [Yi];exact (cY F hw (Vn.mp zy).1).1
 | i+1,hi=>by
   have B1:i<row.length:=by omega
   have hp:row[i]?=some row[i]:=Ve B1;have hs:=(Vn.mp zy).1;rw [Ww,hp,Option.toList_some,iV,nQ F go hw zy i (by omega)];obtain ⟨D3,CM⟩:=F.fit.row row (Vh zy);obtain ⟨k0,AA⟩:∃ k0,ins[i]?=some k0:=⟨_,Ve (by omega)⟩;have hf:=CM i _ k0 hp AA;rw [jW (g:=fun l _=>ms.getD l.toNat hole) _ hf fun l k h0 h1 _ _=>?_,hw s row zy _ (YL B1)]
   · exact uf go _ _ (Vj _) (cY F hw hs).2.1
   · have:=(cY F hw (s:=l.toNat) (by omega)).1;rw [Xn h0] at this;exact this
theorem vn (F:FrK ins outs rows) (go:bR outs) (hw:qI ms rows) {s:Nat} {pl:List Int} (m:Met ins rows s pl):False:=by
 induction m with
 | hol hr hi hx hh =>
   have hs:=(Vn.mp hr).1;rw [nQ F go hw hr _ hi,<- (cY F hw hs).1] at hx;have:=my F go hs _ hx;rw [this] at hh;cases hh
 | lnk _ _ _ _ _ _ ih=>exact ih
theorem uN (F:FrK ins outs rows) (go:bR outs) (hw:qI ms rows) {f':List (aw×V)} (hK:wt ins rows f') {s:Nat} (hs:s<rows.length):(frS ins rows s).cut (Dk f' (s:Nat)) []=ms.getD s hole:=by
 obtain ⟨row,hr⟩:∃ row,rows[s]?=some row:=⟨_,Ve hs⟩;rw [uh _ _ [] (Vj _) (qW F hs).2.2 fun pl v _ _=>?_]
 · have:=nQ F go hw hr row.length (Vj _);rw [W6,<- t9 hr] at this;exact this
 · exact WO.mpr fun hd=>vn F go hw ((hK s _).mp hd)
theorem vg (F:FrK ins outs rows) (go:bR outs) (hw:qI ms rows) {s:Nat} (hs:s<rows.length):u5 (ms.getD s hole)=[]:=by
 refine List.eq_nil_iff_forall_not_mem.mpr fun pl Av=>?_;obtain ⟨v,h1,h2⟩:=oS.mp Av;have:=gX go (cY F hw hs).2.1 h1;rw [this] at h2;cases h2
end
def cr:WL:=match bg bN with
 | [_,_,st,_]=>st
 | _=>.Pass ⟨0,0,0,0⟩
def ndP:WL->Arguments
 | .FunctionDef _ p _ _ _ _ _ _ _ _=>p
 | _=>bv bN
def ndB:WL->List WL
 | .FunctionDef _ _ b _ _ _ _ _ _ _=>b
 | _=>[]
def ndS:WL->YN
 | .FunctionDef _ _ _ _ _ _ s _ _ _=>s
 | _=>ai bN
def uP:WL->Yr
 | .FunctionDef _ _ _ _ _ _ _ _ _ p=>p
 | _=>⟨0,0,0,0⟩
def ndQ:VM:="earliest.<locals>."++"patterns_of"
inductive iP (K:Vc) (tp:Vd) (vs:List V) (H:Hp) (Q:VK) (_E:XK):Prop
 | mk (b ia oa ha ra:Vd) (zQ An Bi:List Vd) (ins outs:List (VM×Int)) (head:Th) (rows:List (List Th)) (ms:List Th) (t:Th) (zI:vs=[.ref b]) (zJ:BookAt H ins outs head rows b ia oa ha ra zQ An Bi) (zP:FrK ins outs rows) (zZ:bR outs) (Ai:qI ms rows) (AX:head.FitS outs (rows.length:Nat) 1) (Eg:head.size<=1000) (Fy:head.fill (fun l _=>ms.getD l.toNat hole)=t) (ID:t.noCall) (IE:Small t) (IS:t.size<=1000) (IT:TabSt H tp (uP cr) ndQ) (Tz:∀ (r fh rt:Vd) (H':Hp),SameT tp H H'->H' r=some (.tup [.ref ia,.ref oa,.ref fh,.ref rt])->AtK K H' t fh->H' rt=some (.tup [])->Q (.ref r) H'):iP K tp vs H Q _E
def p7 (K:Vc) (tp:Vd):Sp:=iP K tp
set_option maxHeartbeats 2000000 in
theorem pH (L:Lam mg base T.tc_earliest T.tp_earliest):aW P w K mg base CX0 9 T.g_earliest.f T.g_earliest.d ["book"] (p7 K T.tp_earliest):=by
 refine T.g_earliest.F.okT T.th_earliest dL (fun vs H Q E h=>?_) (fun A outer s H vs Q E hr h=>?_)
 · obtain ⟨b,ia,oa,ha,ra,zQ,An,Bi,ins,outs,head,rows,ms,t,rfl,_⟩:=h;rfl
 obtain ⟨b,ia,oa,ha,ra,zQ,An,Bi,ins,outs,head,rows,ms,t,rfl,bk,F,go,hw,NS,TB,ht,B6,GZ,hsz,Er,q⟩:=h
 refine ⟨_,(ae (aA (i:=1) dL.nd rfl (Zo rfl) (pcF T.g_fronts_of (nR T) hr (aa (pv 0) ac)))
  (ae (aA (i:=2) dL.nd rfl (Zo rfl) (pcF T.g_early_table (kT T) hr (aa (pv 1) ac)))
  (ae (vB (i:=3) (name:="patterns_of") (pos:=uP cr) (params:=ndP cr) (body:=ndB cr) (scope:=ndS cr) (cl:=[("table",s.heap.objs.size+3),("fronts",s.heap.objs.size+2),("book",s.heap.objs.size+1)]) L dL.nd rfl (VE rfl) rfl rfl)
  (af (aC (pcF T.g_numbered (oH T) hr (aa (pcF T.g_ins_of (db T) hr (aa (pv 0) ac)) (aa (pcF T.g_outs_of (qf T) hr (aa (pv 0) ac)) (aa (pcF T.g_checked (qd T) hr (aa (pcF T.g_filled (ja T) hr (aa (pcF T.g_head_of (qh T) hr (aa (pv 0) ac)) (aa (pv 2) ac))) ac)) (aa (pv 3) ac)))))))))),?_⟩
 try dsimp only [zV,zC]
 have hle:=F.le;refine ⟨_,rfl,b,ins,outs,head,rows,100,rfl,⟨_,_,_,_,_,_,_,bk⟩,F,go,fun s hs=>?_,fun fl fs f' H1 s1 GX GY _ hK=>?_⟩
 · rw [(cY F hw hs).1];exact (cY F hw hs).2.2.2
 dsimp only [ax]
 have NT:VW (fun s a=>AtK K H1 (ms.getD s hole) a) (V9 rows.length) fs:=lf (fun s a hs h=>by
  rw [uN F go hw hK (XC.mp hs)] at h;exact h) GY
 refine ⟨_,rfl,fl,fs,(fun s=>ms.getD s hole),rows.length,rfl,GX,NT,hle,fun s hs=>?_,fun td JM H2 s2 K0 zE=>?_⟩
 · refine hid fun ZZ kZ=>?_;obtain ⟨_,z1,z2,z3⟩:=cY F hw hs;refine kZ ?_;exact ⟨cK _ _ (Vj _) z1,z2,z3,vg F go hw hs⟩
 dsimp only [ax];have Bl:=s1.trans s2;have DR:=Er.mono Bl;refine ⟨DR,fun f c' H3 s3 et BH Qx hf=>?_⟩;have k23:KT H2 H3:=DR.kt s3;have K1:KT H H3:=(Same.kt Bl).trans k23
 have NU:H3 td=some (.dT JM):=s3 _ _ (fun z=>by
  rw [z] at K0;rcases DR with h | ⟨_,h,_⟩ <;> · rw [h] at K0;cases K0) K0
 dsimp only [ax];refine ⟨_,rfl,b,_,_,_,_,rfl,K1 _ _ bk.bk,_,rfl,b,_,_,_,_,rfl,K1 _ _ bk.bk,_,rfl,b,_,_,_,_,rfl,K1 _ _ bk.bk,_,rfl,?_⟩;refine ⟨ha,td,head,(fun l _=>ms.getD l.toNat hole),JM,rfl,(bk.hd.mono K1).k,by omega,.inl NU,fun l k hc=>?_,fun r1 H4 s4 h4=>?_⟩
 · refine hid fun ZZ kZ=>?_;obtain ⟨a1,a2,a3,a4⟩:=m5 NS hc;obtain ⟨v,v1,v2⟩:=zE l.toNat k.toNat (by omega) (by omega);refine kZ ?_;rw [Xn a1,Xn a3] at v1;have:=(cY F hw (s:=l.toNat) (by omega)).2.2.1;exact ⟨v,v1,v2.mono k23,by omega⟩
 rw [ht] at h4;refine ⟨r1,t,rfl,h4,by omega,GZ,fun H5 s5=>?_⟩;refine ⟨_,rfl,ia,oa,r1,f,t,rfl,h4.mono (Same.kt s5),B6,hsz,WZ GZ.1 (by decide),fun r fh rt H6 s6 er NV JJ=>?_⟩;exact q r fh rt H6 ((Bl.t _).trans (s3.trans ((s4.trans (s5.trans s6)).t _))) er NV JJ
inductive eX (vs:List V) (H:Hp) (Q:VK) (_E:XK):Prop
 | mk (c k:Int) (zI:vs=[.int c,.int k]) (zJ:∀ z:Int,0<=z->Q (.int z) H):eX  vs H Q _E
def cP:Sp:=eX
def nH (c:Int):VM:=if c=0 then Vf "" else if c=1 then Vf "a" else if c=2 then Vf "zz" else Vf "name"
def xj (b n:Int):Nat:=97+((b+5 * n)%26).toNat
def j5 (b n:Int):VM:=⟨#[xj b n]⟩++nH (b / 26%4)
inductive fI (vs:List V) (H:Hp) (Q:VK) (_E:XK):Prop
 | mk (b n:Int) (zI:vs=[.int b,.int n]) (zJ:∀ H',L2.Same H H'->Q (.str (j5 b n)) H'):fI  vs H Q _E
def fO:Sp:=fI
theorem gH:aW P w K mg base CX0 1 T.g__law_mixed.f T.g__law_mixed.d ["cell","k"] cP:=by
 refine T.g__law_mixed.F.ok gI (fun vs H Q E h=>?_) (fun zG A outer s H vs Q E hr h=>?_)
 · obtain ⟨c,k,rfl,_⟩:=h;rfl
 obtain ⟨c,k,rfl,q⟩:=h
 refine ⟨_,(ae (aA (i:=2) gI.nd rfl (VE rfl) (aH cq (aH ga (aH eF (aH eF (aH cq (pv 0) am) (aH ga am (pv 1))) am) am) am))
  (af (aC (aH cq (aH ga (aH cq (aH ga (pv 2) (pv 2)) am) am) am)))),?_⟩
 try dsimp only [zV,zC]
 refine ⟨_,rfl,_,_,rfl,rfl,(by show (0:Int)<1000000007;decide),_,rfl,_,_,rfl,rfl,.inl ⟨by decide,by decide⟩,_,_,rfl,rfl,_,_,rfl,rfl,_,_,rfl,rfl,.inr ⟨by decide,by decide⟩,_,_,rfl,rfl,(by show (0:Int)<2147483647;decide),?_⟩
 try dsimp only [ax]
 generalize (c%1000000007+7919 * k+1) * 48271=z;have z0:=WK z (show (2147483647:Int)≠0 by decide);have z1:=WT z (show (0:Int)<2147483647 by decide);generalize z%2147483647=y at z0 z1;refine ⟨_,rfl,_,rfl,_,_,rfl,rfl,.inl ⟨by omega,by omega⟩,_,_,rfl,rfl,(by show (0:Int)<2147483629;decide),_,_,rfl,rfl,.inr ⟨by decide,by decide⟩,_,_,rfl,rfl,(by show (0:Int)<2147483647;decide),q _ (WK _ (by decide))⟩
theorem nZ:aW P w K mg base CX0 1 T.g__law_name.f T.g__law_name.d ["base","n"] fO:=by
 refine T.g__law_name.F.ok iA (fun vs H Q E h=>?_) (fun zG A outer s H vs Q E hr h=>?_)
 · obtain ⟨b,n,rfl,_⟩:=h;rfl
 obtain ⟨b,n,rfl,q⟩:=h
 refine ⟨_,(ae (aA (i:=2) iA.nd rfl (VE rfl) (aZ bu (bq (aa ju (aa ju (aa ju (aa ju ac))))) (aH cq (aH dH (pv 0) am) am) (fun _ _=>rfl)))
  (af (aC (aH qY (aZ xc ju (aH cq (aH eF (pv 0) (aH ga am (pv 1))) am) (fun _ _=>rfl)) (pv 2))))),?_⟩
 try dsimp only [zV,zC]
 refine ⟨ak (by show 4<=1000000;decide),fun l hl=>?_⟩;have s1:L2.Same H (upd H l (.lst [.str (Vf ""),.str (Vf "a"),.str (Vf "zz"),.str (Vf "name")])):=ad hl _;have e1:(upd H l (.lst [.str (Vf ""),.str (Vf "a"),.str (Vf "zz"),.str (Vf "name")])) l=some (.lst [.str (Vf ""),.str (Vf "a"),.str (Vf "zz"),.str (Vf "name")]):=ab;generalize (upd H l (.lst [.str (Vf ""),.str (Vf "a"),.str (Vf "zz"),.str (Vf "name")]))=H1 at s1 e1 ⊢;have z0:=WK (b / 26) (show (4:Int)≠0 by decide);have z1:=WT (b / 26) (show (0:Int)<4 by decide)
 have B5:atI [V.str (Vf ""),.str (Vf "a"),.str (Vf "zz"),.str (Vf "name")] (b / 26%4)=some (.str (nH (b / 26%4))):=by
  generalize b / 26%4=c at z0 z1;rcases (by omega:c=0∨c=1∨c=2∨c=3) with rfl | rfl | rfl | rfl <;> rfl
 refine ⟨_,rfl,_,_,rfl,rfl,⟨by decide,by decide⟩,_,_,rfl,rfl,(by show (0:Int)<4;decide),l,_,_,_,rfl,rfl,SqL.of e1,B5,?_⟩
 try dsimp only [ax]
 have y0:=WK (b+5 * n) (show (26:Int)≠0 by decide);have y1:=WT (b+5 * n) (show (0:Int)<26 by decide);refine ⟨_,rfl,_,rfl,_,_,rfl,rfl,.inl ⟨by decide,by decide⟩,_,_,rfl,rfl,_,_,rfl,rfl,(by show (0:Int)<26;decide),kx,_,_,rfl,rfl,ak (by rw [oU];decide),sM y0 y1,_,rfl,_,_,rfl,rfl,ak (by show 1+(nH (b / 26%4)).length<=1000000;unfold nH;(repeat' split) <;> decide),q H1 s1⟩
theorem vk (c:Int):Low (nH c)/\(nH c).length<=4:=by
 unfold nH;split
 · exact ⟨(fun x hx=>by have:x∈([]:List Nat):=hx;cases this),by decide⟩
 · split
   · exact ⟨(fun x hx=>by have:x∈([97]:List Nat):=hx;simp at this;omega),by decide⟩
   · split
     · exact ⟨(fun x hx=>by have:x∈([122,122]:List Nat):=hx;simp at this;omega),by decide⟩
     · exact ⟨(fun x hx=>by have:x∈([110,97,109,101]:List Nat):=hx;simp at this;omega),by decide⟩
theorem ve (b n:Int):Low (j5 b n)/\(j5 b n).length<=8:=by
 have h1:=WK (b+5 * n) (by decide:(26:Int)≠0);have h2:=WT (b+5 * n) (by decide:(0:Int)<26);obtain ⟨l1,l2⟩:=vk (b / 26%4);unfold j5 xj;refine ⟨vT (v6 (by omega) (by omega)) l1,?_⟩;rw [strLen_append];show 1+_<=8;omega
theorem tM {b:Int} {i j:Nat} (hi:i<5) (hj:j<5) (h:j5 b (i:Int)=j5 b (j:Int)):i=j:=by
 unfold j5 xj at h
 have h0:∀ (m:Nat) (t:VM),((⟨#[m]⟩:VM)++t).cps.toList.head?=some m:=fun m t=>by
  show ((#[m]:Array Nat)++t.cps).toList.head?=some m;rw [Array.toList_append];rfl
 have e:=congrArg (fun z:VM=>z.cps.toList.head?) h;rw [show (((⟨#[97+((b+5 * (i:Int))%26).toNat]⟩:VM)++nH (b / 26%4)).cps.toList.head?)=_ from h0 _ _,show (((⟨#[97+((b+5 * (j:Int))%26).toNat]⟩:VM)++nH (b / 26%4)).cps.toList.head?)=_ from h0 _ _] at e;have e':=VL e;have e1:=WK (b+5 * (i:Int)) (by decide:(26:Int)≠0);have e2:=WK (b+5 * (j:Int)) (by decide:(26:Int)≠0);omega
inductive dl (K:Vc) (vs:List V) (H:Hp) (Q:VK) (_E:XK):Prop
 | mk (a:Vd) (ns:List Int) (k:Int) (zI:vs=[.ref a,.int k]) (zJ:SqL K H a (ns.map V.int)) (zP:0<=k) (zZ:∀ z:Int,Q (.int z) H):dl K vs H Q _E
def iz (K:Vc):Sp:=dl K
def qK (b:Int) (ms:List Int):List (VM×Int):=(V9 ms.length).map fun (i:Nat)=>(j5 b (i:Int),ms.getD i 0)
theorem fL {b:Int} {ms:List Int} {i:Nat} {k:VM×Int} (h:(qK b ms)[i]?=some k):i<ms.length/\k=(j5 b (i:Int),ms.getD i 0):=by
 unfold qK at h;rw [Vp,Wd] at h;obtain ⟨j,hj,rfl⟩:=h;have hi:i<ms.length:=by have:=(Vn.mp hj).1;rwa [VT] at this
 rw [Wz hi] at hj;cases hj;exact ⟨hi,rfl⟩
theorem iK (b:Int) (ms:List Int):(qK b ms).length=ms.length:=by unfold qK;rw [Vb,VT]
theorem mJ {b:Int} {ms:List Int} (h1:1<=ms.length) (h5:ms.length<=5) (hm:∀ m∈ms,0<=m/\m<=3) (hz:(0:Int)∈ms):bR (qK b ms):=by
 have mem:∀ (i:Nat),i<ms.length->ms.getD i 0∈ms:=fun i hi=>by
  rw [ZT,Ve hi];exact YL hi
 refine ⟨by rw [iK];exact h1,by rw [iK];omega,fun k hk=>?_,fun k hk=>?_,?_,fun i j k l hi hj e=>?_⟩
 · obtain ⟨i,hi⟩:=VH.mp hk;obtain ⟨_,rfl⟩:=fL hi;exact ve _ _
 · obtain ⟨i,hi⟩:=VH.mp hk;obtain ⟨h,rfl⟩:=fL hi;exact hm _ (mem i h)
 · obtain ⟨i,hi⟩:=VH.mp hz;have hl:=(Vn.mp hi).1;refine ⟨(j5 b (i:Int),ms.getD i 0),V1.mpr ⟨i,XC.mpr hl,rfl⟩,?_⟩;show ms.getD i 0=0;rw [ZT,hi];rfl
 · obtain ⟨a1,rfl⟩:=fL hi;obtain ⟨a2,rfl⟩:=fL hj;exact tM (by omega) (by omega) e
inductive eN (vs:List V) (H:Hp) (Q:VK) (_E:XK):Prop
 | mk (b:Int) (ml:Vd) (ms:List Int) (zI:vs=[.int b,.ref ml]) (zJ:H ml=some (.lst (ms.map V.int))) (zP:ms.length<=5) (zZ:∀ (r:Vd) (as:List Vd) (H':Hp),L2.Same H H'->H' r=some (.tup (as.map V.ref))->KsAt H' (qK b ms) as->Q (.ref r) H'):eN  vs H Q _E
def kc:Sp:=eN
theorem cV:aW P w K mg base CX0 1 T.g__law_cell_at.f T.g__law_cell_at.d ["script","k"] (iz K):=by
 refine T.g__law_cell_at.F.ok j8 (fun vs H Q E h=>?_) (fun zG A outer s H vs Q E hr h=>?_)
 · obtain ⟨a,ns,k,rfl,_⟩:=h;rfl
 obtain ⟨a,ns,k,rfl,hS,h0,q⟩:=h
 refine ⟨_,(ae (dF (ci uA (pv 1) (aX aF rfl T.n_len Wh (aa (pv 0) ac)) (bP _)) (af (aC (aZ bu (pv 0) (pv 1) (fun _ _=>rfl)))) cX)
  (af (aC am))),?_⟩
 try dsimp only [zV,zC]
 refine ⟨_,rfl,_,rfl,a,_,rfl,.inl hS,_,_,rfl,rfl,_,rfl,?_⟩;refine eK (fun c=>?_) (fun c=>?_)
 · have c':k<(((ns.map V.int).length:Nat):Int):=of_decide_eq_true c;rw [Vb] at c';exact ⟨_,rfl,_,rfl,a,_,k,_,rfl,rfl,hS,int_at h0 c',q _⟩
 · exact q _
set_option maxHeartbeats 1000000 in
theorem gF:aW P w K mg base CX0 2 T.g__law_kinds.f T.g__law_kinds.d ["base","menu"] kc:=by
 refine T.g__law_kinds.F.ok mq (fun vs H Q E h=>?_) (fun zG A outer s H vs Q E hr h=>?_)
 · obtain ⟨b,ml,ms,rfl,_⟩:=h;rfl
 obtain ⟨b,ml,ms,rfl,em,GO,q⟩:=h;refine ⟨_,(af (aC (bz be rfl T.n_tuple WM (aa (cj (N:=[Vf "n",Vf "base",Vf "menu"]) (js:=[none,some 0,some 1]) (g:=(ax 0)) (tt:=bH) (te:=(kb (aJ (cW fO [] E0 (aJ (bc 1) (aJ (bc 0) cy))) (aJ (tOp (uK K) (bc 2) (bc 0)) cy)))) rfl (cv rfl (by decide +kernel) (by decide +kernel) rfl rfl rfl) (bp rfl T.n_range (aa (aX aF rfl T.n_len Wh (aa (pv 1) ac)) ac)) (fun _ _ _ _ _ _=>(aj (i:=0) yH rfl (VE rfl))) (aO rfl) (fun _ _ _ _ _ _=>bO) (fun _ _ _ _ _ _=>(aB (aa (pcF T.g__law_name (nZ T) hr (aa (pv 1) (aa (pv 0) ac))) (aa (aZ bu (pv 2) (pv 0) (fun _ _=>rfl)) ac))))) ac)))),?_⟩
 try dsimp only [zV,zC]
 refine ⟨_,rfl,ml,_,rfl,.inl (SqL.of em),_,rfl,by omega,by rw [Vb];omega,km (F:=KAt) (xs:=(V9 ms.length).map fun (i:Nat)=>V.int (0+(i:Int))) (qK b ms) (fun H1 H2 z p kt h=>kt _ _ h) (by rw [iK,Vb,VT]) (by rw [Vb,VT];omega) (fun i Hx sx hi=>by rw [Vb,VT] at hi;show i<(((ms.map V.int).length:Nat):Int).toNat;rw [Vb];omega) (fun Hx sx=>by show (((ms.map V.int).length:Nat):Int).toNat<=((V9 ms.length).map fun (i:Nat)=>V.int (0+(i:Int))).length;rw [Vb,Vb,VT];omega) (fun i Hx x Hy sx hi hy=>⟨hy.1,?_⟩) (fun i x z Hx R W' hx CQ sx hR=>?_) (fun D2 H2 as U0 s2 GL D5=>?_)⟩
 · rw [Vb,VT] at hi;rw [hy.2,Vp,Wz hi];rfl
 · have hi:i<ms.length:=by
    have:=(Vn.mp hx).1;rw [Vb,VT] at this;exact this
   rw [Vp,Wz hi] at hx;cases hx;obtain ⟨_,rfl⟩:=fL CQ;refine ⟨_,rfl,_,rfl,b,_,rfl,fun H3 s3=>?_⟩;refine ⟨_,rfl,_,rfl,ml,_,_,.int (ms.getD i 0),rfl,rfl,SqL.of ((sx.trans s3) _ _ em),at_nonneg (by omega) (by rw [show (0+(i:Int)).toNat=i by omega,Vp,ZT,Ve hi];rfl),ak (by show 2<=1000000;decide),fun p hp=>?_⟩;refine hR _ p (s3.trans (ad hp _)) ?_;show (upd H3 p (.tup [.str (j5 b (0+(i:Int))),.int (ms.getD i 0)])) p=some (.tup [.str (j5 b (i:Int)),.int (ms.getD i 0)]);rw [ab,Xl]
 refine ⟨D2,_,rfl,.inl ⟨SqL.of GL,fun ia Fn=>?_⟩⟩;have s3:=ad Fn (.tup (as.map V.ref));exact q ia as _ (s2.trans s3) ab (P2.mp (fun _ _ e=>(Same.kt s3) _ _ e) D5)
theorem i4 {ks:List (VM×Int)}:∀ {ts:List Th} {t:Th},Fits ks ts->t∈ts->t.Fit ks
 | [],t,_,h=>(XN h).elim
 | u::ts,t,h,hm=>by
   rw [Fits] at h;rcases VA.mp hm with rfl | hm
   · exact h.1
   · exact i4 h.2 hm
def sz3:Nat->Nat
 | 0=>1
 | n+1=>1+3 * sz3 n
theorem vS (n:Nat):1<=sz3 n:=by cases n <;> unfold sz3 <;> omega
theorem Ats.fit_sz {outs:List (VM×Int)} {B:Nat}:∀ {ts:List Th},(∀ t∈ts,t.Fit outs/\t.size<=B)->Fits outs ts/\ao ts<=ts.length * B
 | [],_=>⟨by rw [Fits];trivial,by rw [ao];exact VJ _⟩
 | t::ts,h=>by
   obtain ⟨h1,h2⟩:=h t (VC ..);obtain ⟨h3,h4⟩:=Ats.fit_sz (ts:=ts) fun u hu=>h u (VB _ hu);refine ⟨by rw [Fits];exact ⟨h1,h3⟩,?_⟩;rw [ao,Vo,Nat.succ_mul];omega
def iG:Nat->Sp
 | 0=>fun _ _ _ _=>False
 | n+1=>fun vs H Q _=>∃ (c d:Int) (oa:Vd) (An:List Vd) (outs:List (VM×Int)),vs=[.int c,.int d,.ref oa]/\H oa=some (.tup (An.map V.ref))/\KsAt H outs An/\bR outs/\0<=d/\d<=n/\d<=5/\∀ (r:Vd) (t:Th) (H':Hp),L2.Same H H'->At H' t r->t.Fit outs->t.size<=sz3 d.toNat->t.tall<=d.toNat+1->Q (.ref r) H'
set_option maxHeartbeats 1000000 in
theorem iO:∀ n:Nat,aW P w K mg base CX0 (n+1) T.g__law_full.f T.g__law_full.d ["cell","deep","outs"] (iG n)
 | 0=>⟨fun _ _ _ _ h=>h.elim,fun _ _ _ _ _ _ _ _ _ _ _ _ _ h=>h.elim⟩
 | n+1=>by
   have ih:=iO n;refine T.g__law_full.F.ok (k:=n+1) fC (fun vs H Q E h=>?_) (fun zG A outer s H vs Q E hr h=>?_)
   · obtain ⟨c,d,oa,An,outs,rfl,_⟩:=h;rfl
   obtain ⟨c,d,oa,An,outs,rfl,NW,Gk,g,d0,dn,d5,q⟩:=h
   refine ⟨_,(ae (dM (i:=3) (N:=[Vf "kind",Vf "deep"]) (js:=[none,some 1]) (g:=(ax 0)) (tt:=(tOr (re (tOp (rEq) (tOp (xO K) (bc 0) (tC (.int 1))) (tC (.int 0)))) (re (tOp (rI0 fun i j=>.bl (decide (j<i))) (bc 1) (tC (.int 0)))))) (te:=(bc 0)) fC.nd rfl (VE rfl) rfl (cv rfl (by decide +kernel) (by decide +kernel) rfl rfl rfl) (l6 (pv 2)) (fun _ _ _ _ _ _=>(aj (i:=0) xR rfl (VE rfl))) (aO rfl) (fun _ _ _ _ _ _=>i5 (PW.pt (wP (ci mF (aZ bL (pv 0) am (fun _ _=>rfl)) am (bP _)) (tO (ci pq (pv 1) am (bP _)))))) (fun _ _ _ _ _ _=>(pv 0)))
    (ae (aA (i:=4) fC.nd rfl (VE rfl) (aZ bu (pv 3) (aH cq (aH dH (pv 0) am) (aX aF rfl T.n_len Wh (aa (pv 3) ac))) (fun _ _=>rfl)))
    (af (aC (aH eZ (aB (aa (aZ bL (pv 4) am (fun _ _=>rfl)) ac)) (bz be rfl T.n_tuple WM (aa (cj (N:=[Vf "j",Vf "outs",Vf "cell",Vf "deep"]) (js:=[none,some 2,some 0,some 1]) (g:=(ax 0)) (tt:=bH) (te:=(cW (iG _) [] E0 (aJ (cW cP [] E0 (aJ (bc 2) (aJ (bc 0) cy))) (aJ (tOp (rI0 fun i j=>.int (i - j)) (bc 3) (tC (.int 1))) (aJ (bc 1) cy))))) rfl (cv rfl (by decide +kernel) (by decide +kernel) rfl rfl rfl) (bp rfl T.n_range (aa (aZ bL (pv 4) am (fun _ _=>rfl)) ac)) (fun _ _ _ _ _ _=>(aj (i:=0) xQ rfl (VE rfl))) (aO rfl) (fun _ _ _ _ _ _=>bO) (fun _ _ _ _ _ _=>(kj (ih) (hr.mono (Vj _)) rfl T.g__law_full.m T.g__law_full.F.kp T.g__law_full.b .nil lv (aa (pcF T.g__law_mixed (gH T) hr (aa (pv 2) (aa (pv 0) ac))) (aa (aH qZ (pv 3) am) (aa (pv 1) ac)))))) ac))))))),?_⟩
   try dsimp only [zV,zC]
   have BV:outs.length=An.length:=Vv Gk;have U1:=g.le;obtain ⟨kz,Mm,NX⟩:=g.zero;refine ⟨_,rfl,oa,rfl,⟨_,SqT.of NW⟩,qJ (K:=K) (fun k=>decide (V.int k.2=V.int 0) || decide (0<d)) NW Gk (by omega) ⟨kz,Mm,by rw [NX];rfl⟩ (fun z ka H2 R sm hz r=>?_) (fun ka H2 R r=>⟨_,rfl,r⟩) (fun D bs H2 hD e' CO U2 zO=>?_)⟩
   · refine ⟨_,rfl,ka,_,1,_,rfl,rfl,SqT.of hz,at1,rfl,_,rfl,?_⟩;refine eK (fun c=>?_) (fun c=>?_)
     · rw [c] at r;exact r
     · rw [WO.mpr c] at r;exact ⟨_,rfl,_,_,rfl,rfl,_,rfl,r⟩
   have s2:L2.Same H H2:=by rw [e'];exact ad hD _
   have eD:H2 D=some (.lst (bs.map fun z=>V.ref z.2)):=by rw [e'];exact ab
   clear e';have GJ:0<((bs.map fun z=>V.ref z.2).length:Int):=by rw [Vb];omega
   have y0:=WK (c / 7) (show ((bs.map fun z=>V.ref z.2).length:Int)≠0 by omega);have y1:=WT (c / 7) GJ;refine hid fun ZZ kZ=>?_;obtain ⟨z,hz⟩:∃ z,bs[(c / 7%((bs.map fun z=>V.ref z.2).length:Int)).toNat]?=some z:=⟨_,Ve (by rw [Vb] at y1 ⊢;omega)⟩;obtain ⟨Bg,gp,GC⟩:=zO z (Vh hz);obtain ⟨k0,ka⟩:=z;refine kZ ?_;dsimp only at Bg gp GC hz;have Cj:=g.num k0 Bg
   have Qy:k0.2=0∨0<d:=by
    rcases Bool.or_eq_true .. |>.mp gp with h | h
    · exact .inl (V.int.inj (of_decide_eq_true h))
    · exact .inr (of_decide_eq_true h)
   try dsimp only [ax]
   refine ⟨_,rfl,_,rfl,_,_,rfl,rfl,⟨by decide,by decide⟩,_,rfl,D,_,rfl,.inl (SqL.of eD),_,_,rfl,rfl,GJ,D,_,_,.ref ka,rfl,rfl,SqL.of eD,at_nonneg y0 (by rw [Vp,hz];rfl),?_⟩
   try dsimp only [ax]
   have JN:=s2 _ _ GC;refine ⟨_,rfl,ka,_,0,.str k0.1,rfl,rfl,SqT.of JN,at0,ak (by show 1<=1000000;decide),fun ma Fm=>?_⟩;have s3:L2.Same H2 (upd H2 ma (.tup [.str k0.1])):=ad Fm _;have e3:(upd H2 ma (.tup [.str k0.1])) ma=some (.tup [.str k0.1]):=ab;generalize (upd H2 ma (.tup [.str k0.1]))=H3 at s3 e3 ⊢;have BZ:=s2.trans s3;refine ⟨_,rfl,ka,_,1,_,rfl,rfl,SqT.of (s3 _ _ JN),at1,k0.2,rfl,by omega,by omega,?_⟩;intro Dl EF;refine ⟨k0.2.toNat,fun j H4=>An3 (j<=k0.2.toNat) (L2.Same H3 H4) (Ex2 fun (as:List Vd) (ts:List Th)=>An5 (H4 Dl=some (.lst (as.map V.ref))) (Ats H4 ts as) (ts.length=j) ((∀ t∈ts,t.Fit outs/\t.size<=sz3 (d.toNat - 1))) (∀ t∈ts,t.tall<=d.toNat)),⟨VJ _,ad EF _,[],[],ab,.nil,rfl,(fun t h=>by cases h),fun t h=>by cases h⟩,?_⟩;rintro j H4 ⟨hj,s4,as,ts,Fc,Fo,zY,zE,EO⟩;have AN:=Fo.length;by_cases BF:j=k0.2.toNat
   · left;refine ⟨(by show k0.2.toNat<=j;omega),?_⟩;refine ⟨Dl,_,rfl,.inl ⟨SqL.of Fc,fun tp C7=>?_⟩⟩;have s5:L2.Same H4 (upd H4 tp (.tup (as.map V.ref))):=ad C7 _;have e5:(upd H4 tp (.tup (as.map V.ref))) tp=some (.tup (as.map V.ref)):=ab;generalize (upd H4 tp (.tup (as.map V.ref)))=H5 at s5 e5 ⊢;refine qx ((s4.trans s5) _ _ e3) e5 (by rw [Vb];show 1+as.length<=1000000;omega) fun p H6 s6 e6=>?_;obtain ⟨h1,h2⟩:=Ats.fit_sz zE;refine q p (.knot k0.1 ts) H6 (BZ.trans (s4.trans (s5.trans s6))) ?_ ?_ ?_ ?_
     · rw [At];exact ⟨rC (g.low k0 Bg).1,as,e6,Fo.mono (Same.kt (s5.trans s6))⟩
     · rw [Th.Fit];have:(k0.1,(ts.length:Int))=k0:=by rw [zY,BF,Xn Cj.1]
       rw [this];exact ⟨Bg,h1⟩
     · rw [Th.size];rcases Qy with hk | hk
       · have:ts.length=0:=by omega
         rw [this,Nat.zero_mul] at h2;have:=vS d.toNat;omega
       · obtain ⟨m,hm⟩:∃ m,d.toNat=m+1:=⟨d.toNat - 1,by omega⟩;rw [hm,Nat.add_sub_cancel] at h2;rw [hm,sz3];have h3:ts.length * sz3 m<=3 * sz3 m:=Nat.mul_le_mul_right _ (by omega);omega
     · rw [Th.tall];have:=eQ EO;omega
   · right;have zR:j<k0.2.toNat:=by omega
     have hd:0<d:=by rcases Qy with h | h <;> omega
     refine ⟨zR,(by show j<k0.2.toNat;exact zR),?_⟩;rintro x' H5 ⟨q1,q2⟩;have NY:H5=H4:=q1;subst NY;have NZ:x'=V.int (0+(j:Int)):=q2;subst NZ;obtain ⟨m,rfl⟩:∃ m,n=m+1:=⟨n - 1,by omega⟩;refine ⟨_,rfl,_,rfl,c,_,rfl,fun z _=>?_⟩;refine ⟨_,rfl,_,_,rfl,rfl,_,rfl,z,d - 1,oa,An,outs,rfl,(BZ.trans s4) _ _ NW,Gk.mono (Same.kt (BZ.trans s4)),g,by omega,by omega,by omega,fun r t H6 s6 TC TF Qz U3=>?_⟩;have QA:=s6 _ _ Fc;refine ⟨_,QA,aE (by rw [Vb];omega),zR,au (s4.trans s6) EF,as++[r],ts++[t],by rw [ab,Vs];rfl,?_,by rw [VD,zY];rfl,fun u hu=>?_,fun u hu=>?_⟩
     · have k7:KT H6 (upd H6 Dl (.lst (as.map V.ref++[.ref r]))):=aK QA;exact Ats.append (Fo.mono ((Same.kt s6).trans k7)) (.cons (TC.mono k7) .nil)
     · rcases VX.mp hu with hu | hu
       · exact zE u hu
       · rw [VF.mp hu];rw [show (d - 1).toNat=d.toNat - 1 by omega] at Qz;exact ⟨TF,Qz⟩
     · rcases VX.mp hu with hu | hu
       · exact EO u hu
       · rw [VF.mp hu];omega
theorem l7:∀ (ks:List Th) (u:Th),walks (ks++[u])=walks ks++u.walk
 | [],u=>by rw [Xp,walks,walks,walks,V7,Xp]
 | k::ks,u=>by rw [Wn,walks,walks,l7 ks u,V8]
theorem de:∀ (ks:List Th),(walks ks).length=ao ks
 | []=>by rw [walks,ao];rfl
 | k::ks=>by rw [walks,ao,VD,de ks,Th.walk_len]
inductive fM (n:Nat) (vs:List V) (H:Hp) (Q:VK) (_E:XK):Prop
 | mk (a:Vd) (t:Th) (outs:List (VM×Int)) (zI:vs=[.ref a]) (zJ:At H t a) (zP:t.Fit outs) (zZ:t.tall<=n) (Ai:t.size<=1000) (AX:∀ (r:Vd) (bs:List Vd) (H':Hp),L2.Same H H'->H' r=some (.lst (bs.map V.ref))->Ats H' t.walk bs->Q (.ref r) H'):fM n vs H Q _E
def mv (n:Nat):Sp:=fM n
set_option maxHeartbeats 1000000 in
theorem gJ:∀ n:Nat,aW P w K mg base CX0 n T.g__law_parts.f T.g__law_parts.d ["tree"] (mv n)
 | 0=>⟨fun _ _ _ _ h=>by obtain ⟨_,t,_,_,_,_,h1,_⟩:=h;have:=t.tall_eq;omega,fun _ _ _ _ _ _ _ _ _ _ _ _ _ h=>by obtain ⟨_,t,_,_,_,_,h1,_⟩:=h;have:=t.tall_eq;omega⟩
 | n+1=>by
   have ih:=gJ n;refine T.g__law_parts.F.ok cH (fun vs H Q E h=>?_) (fun zG A outer s H vs Q E hr h=>?_)
   · obtain ⟨a,t,outs,rfl,_⟩:=h;rfl
   obtain ⟨a,t,outs,rfl,hA,hF,zY,hsz,q⟩:=h
   refine ⟨_,(ae (aA (i:=1) cH.nd rfl (VE rfl) (bq (aa (pv 0) ac)))
    (ae (bw VZ rfl (l6 (dw jz (pv 0) (dJ am) ft)) (aj (i:=2) cH.nd rfl (VE rfl)) (af (aA (i:=1) cH.nd rfl (VE rfl) (aH wT (pv 1) (kj (ih) (hr.mono (Vj _)) rfl T.g__law_parts.m T.g__law_parts.F.kp T.g__law_parts.b .nil lv (aa (pv 2) ac))))))
    (af (aC (pv 1))))),?_⟩
   try dsimp only [zV,zC]
   cases t with
   | call s k=>rw [Th.Fit] at hF;exact hF.elim
   | knot nm ks =>
   have CN:=hA;rw [At] at hA;refine hid fun ZZ kZ=>?_;obtain ⟨QB,Ah,ea,B0⟩:=hA;refine kZ ?_;have BV:=B0.length;have CL:=bU ks;rw [Th.size] at hsz;rw [Th.tall] at zY;rw [Th.Fit] at hF;refine ⟨_,rfl,ak (by show 1<=1000000;decide),fun fl GQ=>?_⟩;have s1:L2.Same H (upd H fl (.lst [.ref a])):=ad GQ _;have e1:(upd H fl (.lst [.ref a])) fl=some (.lst ([a].map V.ref)):=ab
   try dsimp only [ax]
   generalize (upd H fl (.lst [.ref a]))=H1 at s1 e1 ⊢;refine ⟨_,rfl,1,rfl,a,_,rfl,SqT.of (s1 _ _ ea),?_,fun p3 NC=>?_⟩
   · rintro ⟨z,_⟩;rw [Vo,show (1:Int)=((1:Nat):Int) by rfl,HT.sIx_nat] at z;omega
   have TH:iM (V.str nm::Ah.map V.ref) (some 1) none=Ah.map V.ref:=fU _ _;rw [TH];have s2:L2.Same H1 (upd H1 p3 (.tup (Ah.map V.ref))):=ad NC _;have e2:(upd H1 p3 (.tup (Ah.map V.ref))) p3=some (.tup (Ah.map V.ref)):=ab;generalize (upd H1 p3 (.tup (Ah.map V.ref)))=H2 at s2 e2 ⊢;have BX:=s1.trans s2;refine ⟨p3,rfl,⟨_,SqT.of e2⟩,?_⟩
   refine wf (K:=K) (a:=p3) (xs:=Ah.map V.ref) (fun j σ H3=>Ex3 fun (c2:Option V) (fl:Vd) (bs:List Vd)=>An4 (σ=[some (.ref a),some (.ref fl),c2]) (L2.Same H2 H3) (H3 fl=some (.lst (bs.map V.ref))) (Ats H3 (Th.knot nm ks::walks (ks.take j)) bs))
    ⟨none,fl,[a],rfl,.refl _,s2 _ _ e1,by rw [Yi,walks];exact .cons (CN.mono (Same.kt BX)) .nil⟩ (fun j σ H3 _ ⟨_,_,_,_,s3,_,_⟩=>SqT.of (s3 _ _ e2)) ?_ ?_
   · rintro j x σ H3 hx ⟨c2,fl,bs,rfl,s3,e3,zO⟩;obtain ⟨ka,rfl,BW⟩:=aV hx;obtain ⟨u,hu,FZ⟩:=B0.get BW;have Gm:=Vh hu;have MC:=bT Gm;have U4:=aI Gm;have AM:=zO.length
     have AB:ao (ks.take j)+u.size<=ao ks:=by
      have h1:ao (ks.take (j+1))+ao (ks.drop (j+1))=ao ks:=by rw [<- aU,Zb]
      rw [take_snoc hu,aU,ao,ao] at h1;omega
     rw [Vo,de] at AM;refine ⟨_,rfl,_,rfl,ka,u,outs,rfl,FZ.mono (Same.kt (BX.trans s3)),i4 hF.2 Gm,by omega,by omega,fun r Dc H4 s4 er zT=>?_⟩;have N0:=zT.length;rw [Th.walk_len] at N0;refine ⟨fl,r,_,_,rfl,rfl,s4 _ _ e3,er,ak (by rw [Vb,Vb];omega),fun nl Jj=>?_⟩;have s5:L2.Same H4 (upd H4 nl (.lst (bs.map V.ref++Dc.map V.ref))):=ad Jj _;refine ⟨_,nl,bs++Dc,rfl,s3.trans (s4.trans s5),by rw [ab,Vs],?_⟩;rw [take_snoc hu,l7,<- Wn];exact Ats.append (zO.mono (Same.kt (s4.trans s5))) (zT.mono (Same.kt s5))
   · rintro σ H3 ⟨c2,fl,bs,rfl,s3,e3,zO⟩;rw [Vb,W5 (by omega)] at zO;exact ⟨_,rfl,q fl bs H3 (BX.trans s3) e3 (by rw [Th.walk];exact zO)⟩
open Classical in
theorem nb {α:Type} {t:α}:∀ {ms:List α},t∈ms->∃ j:Nat,ms[j]?=some t/\∀ i:Nat,i<j->ms[i]?≠some t
 | [],h=>(XN h).elim
 | m::ms,h=>by
   by_cases e:m=t
   · exact ⟨0,by rw [e];rfl,fun i hi=>by omega⟩
   · obtain ⟨j,h1,h2⟩:=nb (ms:=ms) ((VA.mp h).resolve_left fun z=>e z.symm);refine ⟨j+1,by simpa using h1,fun i hi=>?_⟩;cases i with
     | zero=>intro z;exact e (by simpa using z)
     | succ i=>intro z;exact h2 i (by omega) (by simpa using z)
def fJ:Nat->Sp
 | 0=>fun _ _ _ _=>False
 | n+1=>fun vs H Q _=>∃ (ta ml:Vd) (C c:Int) (t:Th) (ms:List Th) (B7:List Vd) (outs:List (VM×Int)),vs=[.ref ta,.ref ml,.int C,.int c]/\At H t ta/\t.Fit outs/\bR outs/\H ml=some (.lst (B7.map V.ref))/\Ats H ms B7/\ms.length<=20/\(∀ m∈ms,m.tall<=100)/\0<=C/\C<=1000/\t.tall<=n+1/\t.tall<=100/\t.size<=1000/\∀ (r:Vd) (p:Th) (H':Hp),L2.Same H H'->At H' p r->p.FitS outs (ms.length:Nat) C->p.fill (fun l _=>ms.getD l.toNat hole)=t->p.size<=t.size->p.tall<=t.tall->Q (.ref r) H'
set_option maxHeartbeats 1000000 in
theorem cT:∀ n:Nat,aW P w K mg base CX0 (n+1) T.g__law_written.f T.g__law_written.d ["tree","made","kids","cell"] (fJ n)
 | 0=>⟨fun _ _ _ _ h=>h.elim,fun _ _ _ _ _ _ _ _ _ _ _ _ _ h=>h.elim⟩
 | n+1=>by
   have ih:=cT n;refine T.g__law_written.F.ok (k:=n+1) fH (fun vs H Q E h=>?_) (fun zG A outer s H vs Q E hr h=>?_)
   · obtain ⟨ta,ml,C,c,t,ms,B7,outs,rfl,_⟩:=h;rfl
   obtain ⟨ta,ml,C,c,t,ms,B7,outs,rfl,B4,hF,go,em,D8,GO,Bj,C0,C1,zY,JO,hsz,q⟩:=h
   refine ⟨_,(ae (dF (PW.pt (tT (ci pq (pv 2) am (bP _)) (tT (ci pq (aH cq (pv 3) am) am (bP _)) (vG (ci (xF (B:=150) (iX hr)) (pv 0) (pv 1) (by with_unfolding_all rfl)))))) (af (aC (aB (aa ju (aa (bK Vy ZO PySem.F.type_list_index (mO (B:=148) (oB hr)) (pv 1) (aa (pv 0) ac)) (aa (aH cq (aH dH (pv 3) am) (pv 2)) ac)))))) cX)
    (ae (dM (i:=4) (N:=[Vf "k",Vf "made",Vf "kids",Vf "tree",Vf "cell"]) (js:=[none,some 1,some 2,some 0,some 3]) (g:=(ax 0)) (tt:=bH) (te:=(cW (fJ _) [] E0 (aJ (tOp (xO K) (bc 3) (bc 0)) (aJ (bc 1) (aJ (bc 2) (aJ (cW cP [] E0 (aJ (bc 4) (aJ (bc 0) cy))) cy)))))) fH.nd rfl (VE rfl) rfl (cv rfl (by decide +kernel) (by decide +kernel) rfl rfl rfl) (sH rfl T.n_range (aa am (aa (aX aF rfl T.n_len Wh (aa (pv 0) ac)) ac))) (fun _ _ _ _ _ _=>(aj (i:=0) yh rfl (VE rfl))) (aO rfl) (fun _ _ _ _ _ _=>bO) (fun _ _ _ _ _ _=>(kj (ih) (hr.mono (Vj _)) rfl T.g__law_written.m T.g__law_written.F.kp T.g__law_written.b .nil lv (aa (aZ bL (pv 3) (pv 0) (fun _ _=>rfl)) (aa (pv 1) (aa (pv 2) (aa (pcF T.g__law_mixed (gH T) hr (aa (pv 4) (aa (pv 0) ac))) ac)))))))
    (af (aC (aH eZ (aB (aa (aZ bL (pv 0) am (fun _ _=>rfl)) ac)) (bz be rfl T.n_tuple WM (aa (pv 4) ac))))))),?_⟩
   try dsimp only [zV,zC]
   have N1:=D8.length;cases t with
   | call s k=>rw [Th.Fit] at hF;exact hF.elim
   | knot nm ks =>
   have JP:=B4;rw [At] at JP;refine hid fun ZZ kZ=>?_;obtain ⟨QB,Ah,ea,B0⟩:=JP;refine kZ ?_;have BV:=B0.length;have CL:=bU ks;rw [Th.Fit] at hF;have I0:bC (ms.map Th.dv)<=100:=iH Bj
   have EH:DAts H (ms.map Th.dv) (B7.map V.ref):=by
    have:=D8.dvs;rw [rO] at this;exact this
   refine dq (fun bb H'=>An2 (H=H') ((bb=true->0<C/\Th.knot nm ks∈ms))) (fun k2 BG=>?_) (fun H' hb=>?_) (fun H' hb=>?_)
   · refine ⟨_,rfl,_,_,rfl,rfl,_,rfl,?_⟩;refine eK (fun c1=>?_) (fun c1=>BG _ _ ⟨rfl,fun z=>by cases z⟩);refine ⟨_,rfl,_,_,rfl,rfl,(by show (0:Int)<3;decide),_,_,rfl,rfl,_,rfl,?_⟩;refine eK (fun c2=>?_) (fun c2=>BG _ _ ⟨rfl,fun z=>by cases z⟩);refine ⟨_,rfl,_,rfl,ml,_,(Th.knot nm ks).dv,ms.map Th.dv,rfl,SqL.of em,B4.dv,EH,by omega,fun r Bw=>⟨_,rfl,BG _ _ ⟨rfl,fun z=>⟨of_decide_eq_true c1,?_⟩⟩⟩⟩;subst z;obtain ⟨m,hm,e⟩:=V1.mp (Bw.mp rfl);rw [<- Th.dv_inj e];exact hm
   · obtain ⟨rfl,hb⟩:=hb;obtain ⟨c1,Bg⟩:=hb rfl;obtain ⟨j,hj,N2⟩:=nb Bg;have E4:=(Vn.mp hj).1;have y0:=WK (c / 3) (show C≠0 by omega);have y1:=WT (c / 3) (show 0<C by omega);refine ⟨_,rfl,.inl ⟨rfl,_,SqL.of em⟩,_,rfl,ml,.ref ta,_,(Th.knot nm ks).dv,ms.map Th.dv,j,rfl,rfl,SqL.of em,B4.dv,EH,by omega,by rw [Vp,hj];rfl,fun i hi z=>?_,by rw [Vb];omega,_,rfl,_,_,rfl,rfl,⟨by decide,by decide⟩,_,rfl,_,_,rfl,rfl,(by show 0<C;omega),ak (by show 3<=1000000;decide),fun r Bw=>?_⟩
     · rw [Vp,Wd] at z;obtain ⟨u,hu,e⟩:=z;rw [Th.dv_inj e] at hu;exact N2 i hi hu
     refine q r (.call (j:Nat) (c / 3%C)) _ (ad Bw _) (by rw [At];exact ab) (by rw [Th.FitS];exact ⟨by omega,by omega,y0,y1⟩) ?_ ?_ ?_
     · rw [Th.fill,Wg,ZT,hj];rfl
     · rw [Th.size,Th.size];omega
     · rw [Th.tall,Th.tall];omega
   obtain ⟨rfl,_⟩:=hb;dsimp only [u8];rw [Th.size] at hsz;rw [Th.tall] at zY JO;have Jj:(((V.str nm::Ah.map V.ref).length:Int) - 1).toNat=ks.length:=by rw [Vo,Vb,BV];omega
   refine ⟨_,rfl,ta,_,rfl,.inr (SqT.of ea),_,_,rfl,⟨by decide,by decide,by omega,by rw [Vo,Vb];omega⟩,?_⟩;intro D hD;refine ⟨ks.length,fun j H3=>An3 (j<=ks.length) (L2.Same H H3) (Ex2 fun (as:List Vd) (ps:List Th)=>An7 (H3 D=some (.lst (as.map V.ref))) (Ats H3 ps as) (ps.length=j) (ps.map (Th.fill fun l _=>ms.getD l.toNat hole)=ks.take j) ((∀ p∈ps,p.FitS outs (ms.length:Nat) C)) (ao ps<=ao (ks.take j)) (∀ p∈ps,p.tall<=bf ks)),⟨VJ _,ad hD _,[],[],ab,.nil,rfl,rfl,(fun p h=>by cases h),VJ _,(fun p h=>by cases h)⟩,?_⟩;rintro j H3 ⟨hj,s3,as,ps,eD,Am,Av,A8,CM,El,CP⟩;have AN:=Am.length;by_cases BF:j=ks.length
   · left;refine ⟨(by show (((V.str nm::Ah.map V.ref).length:Int) - 1).toNat<=j;rw [Jj,BF];exact Vj _),?_⟩
     try dsimp only [ax]
     rw [BF,W6] at A8 El;refine ⟨_,rfl,ta,_,0,.str nm,rfl,rfl,SqT.of (s3 _ _ ea),at0,ak (by show 1<=1000000;decide),fun p1 Cw=>?_⟩;have s4:L2.Same H3 (upd H3 p1 (.tup [.str nm])):=ad Cw _;have e4:(upd H3 p1 (.tup [.str nm])) p1=some (.tup [.str nm]):=ab;generalize (upd H3 p1 (.tup [.str nm]))=H4 at s4 e4 ⊢;refine ⟨_,rfl,D,_,rfl,.inl ⟨SqL.of (s4 _ _ eD),fun tp C7=>?_⟩⟩;have s5:L2.Same H4 (upd H4 tp (.tup (as.map V.ref))):=ad C7 _;have e5:(upd H4 tp (.tup (as.map V.ref))) tp=some (.tup (as.map V.ref)):=ab;generalize (upd H4 tp (.tup (as.map V.ref)))=H5 at s5 e5 ⊢;refine qx (s5 _ _ e4) e5 (by rw [Vb];show 1+as.length<=1000000;omega) fun p H6 s6 e6=>?_;refine q p (.knot nm ps) H6 (s3.trans (s4.trans (s5.trans s6))) ?_ ?_ ?_ ?_ ?_
     · rw [At];exact ⟨QB,as,e6,Am.mono (Same.kt (s4.trans (s5.trans s6)))⟩
     · rw [Th.FitS];refine ⟨?_,FitSs.of CM⟩;rw [Av,BF];exact hF.1
     · rw [Th.fill,mI,A8]
     · rw [Th.size,Th.size];omega
     · rw [Th.tall,Th.tall];have:=eQ CP;omega
   · right;have zR:j<ks.length:=by omega
     refine ⟨zR,(by show j<(((V.str nm::Ah.map V.ref).length:Int) - 1).toNat;rw [Jj];exact zR),?_⟩;rintro x' H4 ⟨q1,q2⟩;have NY:H4=H3:=q1;subst NY;have NZ:x'=V.int (1+(j:Int)):=q2;subst NZ;obtain ⟨u,hu⟩:∃ u,ks[j]?=some u:=⟨_,Ve zR⟩;obtain ⟨ua,C8,FZ⟩:=B0.at hu;have Gm:=Vh hu;have h1:=bT Gm;have h2:=aI Gm;have h3:=u.tall_eq;obtain ⟨m,rfl⟩:∃ m,n=m+1:=⟨n - 1,by omega⟩;refine ⟨_,rfl,_,rfl,ta,_,_,.ref ua,rfl,rfl,SqT.of (s3 _ _ ea),at_nonneg (by omega) (by rw [show (1+(j:Int)).toNat=j+1 by omega,W2,Vp,C8];rfl),_,rfl,_,rfl,_,rfl,_,rfl,c,_,rfl,fun z _=>?_⟩;refine ⟨ua,ml,C,z,u,ms,B7,outs,rfl,FZ.mono (Same.kt s3),i4 hF.2 Gm,go,s3 _ _ em,D8.mono (Same.kt s3),GO,Bj,C0,C1,by omega,by omega,by omega,fun r p H5 s5 TJ TL Gn PX U5=>?_⟩;have QC:=s5 _ _ eD;refine ⟨_,QC,aE (by rw [Vb];omega),zR,au (s3.trans s5) hD,as++[r],ps++[p],by rw [ab,Vs];rfl,?_,by rw [VD,Av];rfl,?_,fun v hv=>?_,?_,fun v hv=>?_⟩
     · have k7:KT H5 (upd H5 D (.lst (as.map V.ref++[.ref r]))):=aK QC;exact Ats.append (Am.mono ((Same.kt s5).trans k7)) (.cons (TJ.mono k7) .nil)
     · rw [Vs,A8,take_snoc hu,V3,Xd,Gn]
     · rcases VX.mp hv with hv | hv
       · exact CM v hv
       · rw [VF.mp hv];exact TL
     · rw [aU,take_snoc hu,aU,ao,ao,ao,ao];omega
     · rcases VX.mp hv with hv | hv
       · exact CP v hv
       · rw [VF.mp hv];omega
def rP:List (List Int):=[[0,1],[0,2],[0,0,2],[0,1,2],[1,0],[2,0,0],[0,1,1],[0,3]]
def rZ:List (List Int):=[[0,2],[0,1,2],[0,0,2],[2,0,1,0],[0,0,1],[0,0,0],[0,1],[0,3,1]]
def rS (z:List Int):Prop:=1<=z.length/\z.length<=5/\(∀ m∈z,0<=m/\m<=3)/\(0:Int)∈z
theorem pM:∀ z∈rP,rS z:=by unfold rS rP;decide
theorem oG:∀ z∈rZ,rS z:=by unfold rS rZ;decide
inductive cJ (K:Vc) (vs:List V) (H:Hp) (Q:VK) (_E:XK):Prop
 | mk (a:Vd) (ns:List Int) (zI:vs=[.ref a]) (zJ:SqL K H a (ns.map V.int)) (zP:∀ (r ia oa:Vd) (zQ An:List Vd) (ins outs:List (VM×Int)) (H':Hp),L2.Same H H'->H' r=some (.tup [.ref ia,.ref oa])->H' ia=some (.tup (zQ.map V.ref))->KsAt H' ins zQ->bR ins->ins.length<=5->H' oa=some (.tup (An.map V.ref))->KsAt H' outs An->bR outs->Q (.ref r) H'):cJ K vs H Q _E
def gD (K:Vc):Sp:=cJ K
set_option maxHeartbeats 4000000 in
theorem gB:aW P w K mg base CX0 3 T.g__law_kinds_drawn.f T.g__law_kinds_drawn.d ["script"] (gD K):=by
 refine T.g__law_kinds_drawn.F.ok bj (fun vs H Q E h=>?_) (fun zG A outer s H vs Q E hr h=>?_)
 · obtain ⟨a,ns,rfl,_⟩:=h;rfl
 obtain ⟨a,ns,rfl,hS,q⟩:=h
 refine ⟨_,@ae _ _ _ _ _ (aA (i:=1) bj.nd rfl (VE rfl) (pcF T.g__law_cell_at (cV T) hr (aa (pv 0) (aa am ac))))
  (@ae _ _ _ _ _ (@mS _ 2 _ _ _ _ _ _ _ [([(0,_,_),(1,_,_)],_),([(0,_,_),(2,_,_)],_),([(0,_,_),(0,_,_),(2,_,_)],_),([(0,_,_),(1,_,_),(2,_,_)],_),([(1,_,_),(0,_,_)],_),([(2,_,_),(0,_,_),(0,_,_)],_),([(0,_,_),(1,_,_),(1,_,_)],_),([(0,_,_),(3,_,_)],_)] bj.nd rfl (VE rfl) (VE rfl) (aH cq (pv 1) am) (fun _ _=>rfl))
  (@ae _ _ _ _ _ (aA (i:=3) bj.nd rfl (VE rfl) (pcF T.g__law_kinds (gF T) hr (aa (aH dH (pv 1) am) (aa (pv 2) ac))))
  (@ae _ _ _ _ _ (@mS _ 2 _ _ _ _ _ _ _ [([(0,_,_),(2,_,_)],_),([(0,_,_),(1,_,_),(2,_,_)],_),([(0,_,_),(0,_,_),(2,_,_)],_),([(2,_,_),(0,_,_),(1,_,_),(0,_,_)],_),([(0,_,_),(0,_,_),(1,_,_)],_),([(0,_,_),(0,_,_),(0,_,_)],_),([(0,_,_),(1,_,_)],_),([(0,_,_),(3,_,_),(1,_,_)],_)] bj.nd rfl (VE rfl) (VE rfl) (aH cq (aH dH (pv 1) am) am) (fun _ _=>rfl))
  (@af _ _ _ (aC (aB (aa (pv 3) (aa (pcF T.g__law_kinds (gF T) hr (aa (aH dH (pv 1) am) (aa (pv 2) ac))) ac)))))))),?_⟩
 refine ⟨_,rfl,a,ns,0,rfl,hS,by decide,fun c=>?_⟩;dsimp only [ax];refine jX (zs:=rP) (fun z hz=>by have:=(pM z hz).2.1;omega) (by decide) fun D as H1 s1 eD hp=>?_;have y0:=WK c (show (8:Int)≠0 by decide);have y1:=WT c (show (0:Int)<8 by decide);refine hid fun ZZ kZ=>?_;obtain ⟨zA,QD⟩:∃ z,rP[(c%8).toNat]?=some z:=⟨_,Ve (by show (c%8).toNat<8;omega)⟩;obtain ⟨mA,TM,TN⟩:=P2.get hp QD;obtain ⟨a1,a2,a3,a4⟩:=pM zA (Vh QD);refine kZ ?_;refine ⟨_,rfl,_,_,rfl,rfl,(by show (0:Int)<8;decide),D,_,_,.ref mA,rfl,rfl,SqL.of eD,at_nonneg y0 (by rw [Vp,TM];rfl),?_⟩;dsimp only [ax];refine ⟨_,rfl,_,_,rfl,rfl,⟨by decide,by decide⟩,_,rfl,_,mA,zA,rfl,TN,a2,fun ia zQ H2 s2 G0 Fn=>?_⟩;dsimp only [ax];refine jX (zs:=rZ) (fun z hz=>by have:=(oG z hz).2.1;omega) (by decide) fun D2 U6 H3 s3 GL BS=>?_;have x0:=WK (c / 8) (show (8:Int)≠0 by decide);have x1:=WT (c / 8) (show (0:Int)<8 by decide);refine hid fun ZZ kZ=>?_;obtain ⟨zB,QE⟩:∃ z,rZ[(c / 8%8).toNat]?=some z:=⟨_,Ve (by show (c / 8%8).toNat<8;omega)⟩;obtain ⟨mB,TQ,TR⟩:=P2.get BS QE;obtain ⟨b1,b2,b3,b4⟩:=oG zB (Vh QE);refine kZ ?_;refine ⟨_,rfl,_,_,rfl,rfl,⟨by decide,by decide⟩,_,_,rfl,rfl,(by show (0:Int)<8;decide),D2,_,_,.ref mB,rfl,rfl,SqL.of GL,at_nonneg x0 (by rw [Vp,TQ];rfl),?_⟩;dsimp only [ax];refine ⟨_,rfl,_,rfl,_,_,rfl,rfl,⟨by decide,by decide⟩,_,rfl,_,mB,zB,rfl,TR,b2,fun oa An H4 s4 CG JQ=>⟨ak (by show 2<=1000000;decide),fun r Bw=>?_⟩⟩;have s5:L2.Same H4 (upd H4 r (.tup [.ref ia,.ref oa])):=ad Bw _;have e5:(upd H4 r (.tup [.ref ia,.ref oa])) r=some (.tup [.ref ia,.ref oa]):=ab;generalize (upd H4 r (.tup [.ref ia,.ref oa]))=H5 at s5 e5 ⊢;have N3:=s3.trans (s4.trans s5);exact q r ia oa zQ An _ _ H5 (s1.trans (s2.trans N3)) e5 (N3 _ _ G0) (Fn.mono (Same.kt N3)) (mJ a1 a2 a3 a4) (by rw [iK];exact a2) (s5 _ _ CG) (JQ.mono (Same.kt s5)) (mJ b1 b2 b3 b4)
theorem jV:∀ {ks:List Th} {u:Th},u∈walks ks->∃ k∈ks,u∈k.walk
 | [],u,h=>by rw [walks] at h;cases h
 | k::ks,u,h=>by
   rw [walks] at h;rcases VX.mp h with h | h
   · exact ⟨k,VC ..,h⟩
   · obtain ⟨v,hv,hu⟩:=jV h;exact ⟨v,VB _ hv,hu⟩
theorem lZ {outs:List (VM×Int)}:∀ (n:Nat) (t u:Th),t.size<=n->t.Fit outs->u∈t.walk->u.Fit outs/\u.size<=t.size
 | 0,t,_,h,_,_=>by have:=t.size_pos;omega
 | n+1,.call a b,_,_,h,_=>by rw [Th.Fit] at h;exact h.elim
 | n+1,.knot m ks,u,hn,h,hu=>by
   have h0:=h;rw [Th.walk] at hu;rw [Th.Fit] at h;rw [Th.size] at hn ⊢;rcases VA.mp hu with rfl | hu
   · exact ⟨h0,by rw [Th.size];omega⟩
   · refine hid fun ZZ kZ=>?_;obtain ⟨k,hk,hu⟩:=jV hu;have hz:=aI hk;obtain ⟨z1,z2⟩:=lZ n k u (by omega) (i4 h.2 hk) hu;refine kZ ?_;exact ⟨z1,by omega⟩
mutual
theorem pI {outs:List (VM×Int)}:∀ t:Th,t.Fit outs->t.noCall/\t.kn<=t.size/\cnT t<=t.size
 | .call a b,h=>by rw [Th.Fit] at h;exact h.elim
 | .knot m ks,h=>by
   rw [Th.Fit] at h;obtain ⟨h1,h2,h3⟩:=mw ks h.2;rw [Th.noCall,Th.kn,Th.size,cnT];exact ⟨h1,by omega,by omega⟩
theorem mw {outs:List (VM×Int)}:∀ ts:List Th,Fits outs ts->bn ts/\kns ts<=ao ts/\dG ts<=ao ts
 | [],_=>by rw [bn,kns,ao,dG];exact ⟨trivial,Vj _,Vj _⟩
 | t::ts,h=>by
   rw [Fits] at h;refine hid fun ZZ kZ=>?_;obtain ⟨h1,h2,h3⟩:=pI t h.1;obtain ⟨g1,g2,g3⟩:=mw ts h.2;refine kZ ?_;rw [bn,kns,ao,dG];exact ⟨⟨h1,g1⟩,by omega,by omega⟩
end
def xZ (outs:List (VM×Int)) (ms:List Th) (s:Nat) (p:Th) (k:VM×Int):Prop:=p.FitS outs (ms.length:Nat) k.2/\p.fill (fun l _=>ms.getD l.toNat hole)=ms.getD s hole/\p.size<=40/\p.tall<=4
inductive rG (K:Vc) (tp:Vd) (vs:List V) (H:Hp) (Q:VK) (_E:XK):Prop
 | mk (a:Vd) (ns:List Int) (zI:vs=[.ref a]) (zJ:SqL K H a (ns.map V.int)) (zP:ns.length<=63) (zZ:H tp=some (.tbl #[])) (Ai:∀ H',Q (.bl true) H'):rG K tp vs H Q _E
def nD (K:Vc) (tp:Vd):Sp:=rG K tp
set_option maxHeartbeats 4000000 in
theorem xK (L:Lam mg base T.tc_earliest T.tp_earliest):aW P w K mg base CX0 20 T.g_law.f T.g_law.d ["script"] (nD K T.tp_earliest):=by
 refine T.g_law.F.ok cg (fun vs H Q E h=>?_) (fun zG A outer s H vs Q E hr h=>?_)
 · obtain ⟨a,ns,rfl,_⟩:=h;rfl
 obtain ⟨a,ns,rfl,hS,Fu,C7,q⟩:=h
 refine ⟨_,(ae (fE (pcF T.g__law_kinds_drawn (gB T) hr (aa (pv 0) ac)) (ba rfl (aq (aj (i:=1) cg.nd rfl (VE rfl)) (aq (aj (i:=2) cg.nd rfl (VE rfl)) aN))))
  (ae (aA (i:=3) cg.nd rfl (VE rfl) (pcF T.g__law_full (iO T 4) hr (aa (pcF T.g__law_cell_at (cV T) hr (aa (pv 0) (aa am ac))) (aa am (aa (pv 2) ac)))))
  (ae (aA (i:=4) cg.nd rfl (VE rfl) (pcF T.g__law_parts (gJ T 4) hr (aa (pv 3) ac)))
  (ae (dM (i:=5) (N:=[Vf "k"]) (js:=[none]) (g:=(ax 0)) (tt:=bH) (te:=(tOp (rI0 fun i j=>.int (i+j)) (tC (.int 11)) (tOp (rI CMul fun i j=>.int (i * j)) (tC (.int 5)) (bc 0)))) cg.nd rfl (VE rfl) rfl (cv rfl (by decide +kernel) (by decide +kernel) rfl rfl rfl) (bp rfl T.n_range (aa am ac)) (fun _ _ _ _ _ _=>(aj (i:=0) xX rfl (VE rfl))) (aO rfl) (fun _ _ _ _ _ _=>bO) (fun _ _ _ _ _ _=>(aH eF am (aH ga am (pv 0)))))
  (ae (bw VZ rfl (bp rfl T.n_range (aa (aX aF rfl T.n_len Wh (aa (pv 0) ac)) ac)) (aj (i:=6) cg.nd rfl (VE rfl)) (af (fE (aH eF (aZ bu (pv 5) (aH cq (pv 6) am) (fun _ _=>rfl)) (aH ga (aZ bu (pv 0) (pv 6) (fun _ _=>rfl)) (aH eF am (aH dH (pv 6) am)))) (xh (pv 5) (aH cq (pv 6) am) set_list))))
  (ae (aA (i:=7) cg.nd rfl (VE rfl) (aH eF am (aH cq (pcF T.g__law_cell_at (cV T) hr (aa (pv 0) (aa am ac))) am)))
  (ae (aA (i:=8) cg.nd rfl (VE rfl) (bq ac))
  (ae (bw VZ rfl (bp rfl T.n_range (aa (pv 7) ac)) (aj (i:=9) cg.nd rfl (VE rfl)) (af (aP (bK Vy VQ VP aL (pv 8) (aa (aZ bu (pv 4) (aH cq (aH dH (aZ bu (pv 5) (pv 9) (fun _ _=>rfl)) am) (aX aF rfl T.n_len Wh (aa (pv 4) ac))) (fun _ _=>rfl)) ac)))))
  (ae (aA (i:=10) cg.nd rfl (VE rfl) (bq ac))
  (ae (bw VZ rfl (bp rfl T.n_range (aa (pv 7) ac)) (aj (i:=9) cg.nd rfl (VE rfl)) (ae (aA (i:=11) cg.nd rfl (VE rfl) (bq ac))
  (ae (bw VZ rfl (bp rfl T.n_range (aa (aX aF rfl T.n_len Wh (aa (pv 1) ac)) ac)) (aj (i:=12) cg.nd rfl (VE rfl)) (af (aP (bK Vy VQ VP aL (pv 11) (aa (pcF T.g__law_written (cT T 4) hr (aa (aZ bu (pv 8) (pv 9) (fun _ _=>rfl)) (aa (pv 8) (aa (aZ bL (aZ bL (pv 1) (pv 12) (fun _ _=>rfl)) am (fun _ _=>rfl)) (aa (aZ bu (pv 5) (aH eF (aH eF am (aH ga am (pv 9))) (pv 12)) (fun _ _=>rfl)) ac))))) ac)))))
  (af (aP (bK Vy VQ VP aL (pv 10) (aa (bz be rfl T.n_tuple WM (aa (pv 11) ac)) ac)))))))
  (ae (aA (i:=13) cg.nd rfl (VE rfl) (pcF T.g__law_written (cT T 4) hr (aa (pv 3) (aa (pv 8) (aa am (aa (aZ bu (pv 5) am (fun _ _=>rfl)) ac))))))
  (ae (aA (i:=14) cg.nd rfl (VE rfl) (aB (aa (pv 1) (aa (pv 2) (aa (pv 13) (aa (bz be rfl T.n_tuple WM (aa (pv 10) ac)) ac))))))
  (af (aC (dS (se (B:=150) (iX hr)) (pcF T.g_earliest (pH T L) hr (aa (pv 14) ac)) (aB (aa (pv 1) (aa (pv 2) (aa (pv 3) (aa (aB ac) ac))))) (bP _)))))))))))))))),?_⟩
 try dsimp only [zV,zC]
 refine ⟨_,rfl,a,ns,rfl,hS,fun r0 ia oa zQ An ins outs H1 s1 TU G0 Fn gi U7 CG JQ go=>?_⟩;refine ⟨r0,_,rfl,SqT.of TU,rfl,_,_,rfl,_,_,rfl,rfl,?_⟩;dsimp only [ax];refine ⟨_,rfl,a,ns,1,rfl,s1.seq hS,by decide,fun c1=>?_⟩;refine ⟨_,rfl,c1,3,oa,An,outs,rfl,CG,JQ,go,by decide,by decide,by decide,fun wa t H2 s2 QF hF hsz zY=>?_⟩;have TV:t.size<=40:=hsz;have A9:t.tall<=4:=zY;clear hsz zY;dsimp only [ax];refine ⟨_,rfl,wa,t,outs,rfl,QF,hF,A9,by omega,fun pa ps H3 s3 B3 Am=>?_⟩;have Av:=Am.length;rw [Th.walk_len] at Av;have MB:=t.size_pos;have Fe:=s1.trans (s2.trans s3);refine ⟨40,rfl,by decide,by decide,vO (xs:=(V9 40).map fun (i:Nat)=>V.int (0+(i:Int))) ((V9 40).map fun (i:Nat)=>11+5 * (i:Int)) V.int (by rw [Vb,Vb]) (by rw [Vb,VT];omega) (fun i Hx sx hi=>by rw [Vb,VT] at hi;exact hi) (fun Hx sx=>by rw [Vb,VT];exact Vj _) (fun i Hx x Hy sx hi hy=>⟨hy.1,?_⟩) (fun i x z Hx R W' hx hz sx hR=>?_) (fun cl H4 Bq s4 GU=>?_)⟩
 · rw [Vb,VT] at hi;rw [hy.2,Vp,Wz hi];rfl
 · have hi:i<40:=by
    have:=(Vn.mp hz).1;rw [Vb,VT] at this;exact this
   rw [Vp,Wz hi] at hx hz;cases hx;cases hz;refine ⟨_,rfl,_,_,rfl,rfl,.inl ⟨by decide,by decide⟩,_,_,rfl,rfl,?_⟩;rw [Xl];exact hR _ (.refl _)
 dsimp only [ax];have TY:=Fe.trans s4;have TZ:H cl=none:=Fe.free Bq;refine ⟨_,rfl,a,_,rfl,.inl (TY.seq hS),_,rfl,by omega,by rw [Vb];omega,?_⟩;have N4:H3 cl=none:=Bq
 refine dg (n:=(((ns.map V.int).length:Nat):Int).toNat) (fun i σ H5=>Ex2 fun (kv:Option V) (ds:List Int)=>An4 (σ=[some (.ref a),some (.ref ia),some (.ref oa),some (.ref wa),some (.ref pa),some (.ref cl),kv,none,none,none,none,none,none,none,none]) (L2.Same H3 H5) (H5 cl=some (.lst (ds.map V.int))) (ds.length=40))
  ⟨none,_,rfl,s4,GU,by rw [Vb,VT]⟩ ?_ ?_
 · rintro i σ H5 hi ⟨kv,ds,rfl,s5,e5,GF⟩
   have Ak:i<ns.length:=by
    have h1:i<(((ns.map V.int).length:Nat):Int).toNat:=hi;rw [Vb] at h1;omega
   have y0:=WK (0+(i:Int)) (show (40:Int)≠0 by decide);have y1:=WT (0+(i:Int)) (show (0:Int)<40 by decide);refine hid fun ZZ kZ=>?_;obtain ⟨ix,Jo⟩:∃ ix:Nat,(0+(i:Int))%40=(ix:Int):=⟨_,(Xn y0).symm⟩;obtain ⟨c,hc⟩:∃ c,ds[ix]?=some c:=⟨_,Ve (by omega)⟩;obtain ⟨x,hx⟩:∃ x,ns[i]?=some x:=⟨_,Ve Ak⟩;refine kZ ?_;have T1:=(Fe.trans s5).seq hS;refine ⟨_,rfl,_,rfl,_,_,rfl,rfl,(by show (0:Int)<40;decide),cl,_,_,.int c,rfl,rfl,SqL.of e5,at_nonneg y0 (by rw [Jo,Wg,Vp,hc];rfl),?_⟩;refine ⟨_,rfl,_,rfl,a,_,_,.int x,rfl,rfl,T1,at_nonneg (by omega) (by rw [show (0+(i:Int)).toNat=i by omega,Vp,hx];rfl),?_⟩;refine ⟨_,rfl,_,_,rfl,rfl,⟨by decide,by decide⟩,_,_,rfl,rfl,_,_,rfl,rfl,.inr ⟨by omega,by omega⟩,_,_,rfl,rfl,?_⟩;refine ⟨_,rfl,_,rfl,_,_,rfl,rfl,(by show (0:Int)<40;decide),cl,_,_,ix,rfl,rfl,e5,?_,?_⟩
   · rw [Jo];unfold ixN;rw [if_pos (by omega),if_pos (by rw [Vb];omega)];simp
   · refine ⟨_,ds.set ix (c+x * (1+(0+(i:Int)) / 40)),rfl,au s5 N4,?_,by rw [List.length_set];exact GF⟩;rw [ab,List.map_set]
 rintro σ H5 ⟨kv,cs,rfl,s5,JR,M4⟩;have MJ:=Fe.trans s5;refine ⟨_,rfl,a,ns,2,rfl,MJ.seq hS,by decide,fun c2=>?_⟩;have m0:=WK c2 (show (6:Int)≠0 by decide);have m1:=WT c2 (show (0:Int)<6 by decide);refine ⟨_,_,rfl,rfl,(by show (0:Int)<6;decide),_,_,rfl,rfl,?_⟩;dsimp only [ax];obtain ⟨M,hM⟩:∃ M:Nat,1+c2%6=(M:Int):=⟨(1+c2%6).toNat,by omega⟩;rw [hM];have U8:1<=M:=by omega
 have U9:M<=6:=by omega
 refine ⟨ak (by show 0<=1000000;decide),fun ml GO=>?_⟩;have s6:L2.Same H5 (upd H5 ml (.lst [])):=ad GO _;have e6:(upd H5 ml (.lst [])) ml=some (.lst (([]:List Vd).map V.ref)):=ab;generalize (upd H5 ml (.lst []))=H6 at s6 e6 ⊢;dsimp only [ax];have T2:=s6 _ _ JR;have Ip:=(s5.trans s6) _ _ B3;have T3:=Am.mono (Same.kt (s5.trans s6));have N5:H5 ml=none:=GO;refine ⟨_,rfl,(M:Int),rfl,by omega,by omega,?_⟩
 refine dg (n:=((M:Nat):Int).toNat) (fun i σ H7=>Ex3 fun (sv:Option V) (B7:List Vd) (ms:List Th)=>An6 (σ=[some (.ref a),some (.ref ia),some (.ref oa),some (.ref wa),some (.ref pa),some (.ref cl),kv,some (.int (M:Nat)),some (.ref ml),sv,none,none,none,none,none]) (L2.Same H5 H7) (H7 ml=some (.lst (B7.map V.ref))) (Ats H7 ms B7) (ms.length=i) (∀ m∈ms,m∈t.walk))
  ⟨none,[],[],rfl,s6,e6,.nil,rfl,fun m h=>by cases h⟩ ?_ ?_
 · rintro i σ H7 hi ⟨sv,B7,ms,rfl,s7,e7,D8,N6,K2⟩
   have Ak:i<M:=by
    have h1:i<((M:Nat):Int).toNat:=hi;omega
   have AN:=D8.length;refine hid fun ZZ kZ=>?_;obtain ⟨c,hc⟩:∃ c,cs[i]?=some c:=⟨_,Ve (by omega)⟩;have JS:0<(((ps.map V.ref).length:Nat):Int):=by rw [Vb];omega
   have y0:=WK (c / 5) (show (((ps.map V.ref).length:Nat):Int)≠0 by omega);have y1:=WT (c / 5) JS;obtain ⟨ua,C8⟩:∃ ua,ps[(c / 5%(((ps.map V.ref).length:Nat):Int)).toNat]?=some ua:=⟨_,Ve (by rw [Vb] at y1 ⊢;omega)⟩;have JT:=(s5.trans s7) _ _ B3;have N7:=Am.mono (Same.kt (s5.trans s7));obtain ⟨u,hu,B5⟩:=N7.get C8;refine kZ ?_;refine ⟨_,rfl,.inl ⟨rfl,_,SqL.of e7⟩,_,rfl,_,rfl,_,rfl,cl,_,_,.int c,rfl,rfl,SqL.of (s7 _ _ JR),at_nonneg (by omega) (by rw [show (0+(i:Int)).toNat=i by omega,Vp,hc];rfl),?_⟩;refine ⟨_,_,rfl,rfl,⟨by decide,by decide⟩,_,rfl,pa,_,rfl,.inl (SqL.of JT),_,_,rfl,rfl,JS,pa,_,_,.ref ua,rfl,rfl,SqL.of JT,at_nonneg y0 (by rw [Vp,C8];rfl),?_⟩;refine ⟨ml,_,_,rfl,rfl,e7,aE (by rw [Vb];omega),?_⟩;have k8:KT H7 (upd H7 ml (.lst (B7.map V.ref++[.ref ua]))):=aK e7;refine ⟨_,B7++[ua],ms++[u],rfl,au s7 N5,by rw [ab,Vs];rfl,Ats.append (D8.mono k8) (.cons (B5.mono k8) .nil),by rw [VD,N6];rfl,fun m hm=>?_⟩;rcases VX.mp hm with hm | hm
   · exact K2 m hm
   · rw [VF.mp hm];exact Vh hu
 rintro σ H7 ⟨sv,B7,ms,rfl,s7,e7,D8,N8,K2⟩;rw [Wg] at N8;have N1:=D8.length
 have N9:∀ m∈ms,m.Fit outs/\m.size<=40/\m.tall<=4:=fun m hm=>by
  obtain ⟨z1,z2⟩:=lZ _ t m (Vj _) hF (K2 m hm);have z3:=mG t m (K2 m hm);exact ⟨z1,by omega,by omega⟩
 have T4:=s7 _ _ JR;refine ⟨ak (by show 0<=1000000;decide),fun rl D3=>?_⟩;have s8:L2.Same H7 (upd H7 rl (.lst [])):=ad D3 _;have e8:(upd H7 rl (.lst [])) rl=some (.lst (([]:List Vd).map V.ref)):=ab;generalize (upd H7 rl (.lst []))=H8 at s8 e8 ⊢;dsimp only [ax];have N':H7 rl=none:=D3;have GW:=(s2.trans s3).trans (s5.trans s7);have B1:ins.length=zQ.length:=Vv Fn;refine ⟨_,rfl,(M:Int),rfl,by omega,by omega,?_⟩
 refine dg (n:=((M:Nat):Int).toNat) (fun i σ H9=>Ex5 fun (sv rv jv:Option V) (bs:List Vd) (rows:List (List Th))=>An6 (σ=[some (.ref a),some (.ref ia),some (.ref oa),some (.ref wa),some (.ref pa),some (.ref cl),kv,some (.int (M:Nat)),some (.ref ml),sv,some (.ref rl),rv,jv,none,none]) (L2.Same H7 H9) (H9 rl=some (.lst (bs.map V.ref))) (VW (RowAt H9) rows bs) (rows.length=i) (∀ (s:Nat) (row:List Th),rows[s]?=some row->row.length=ins.length/\∀ (j:Nat) (p:Th) (k:VM×Int),row[j]?=some p->ins[j]?=some k->xZ outs ms s p k))
  ⟨sv,none,none,[],[],rfl,s8,e8,.nil,rfl,fun s row h=>by simp at h⟩ ?_ ?_
 · rintro i σ H9 hi ⟨sv,rv,jv,bs,rows,rfl,s9,e9,zO,EI,Ba⟩
   have Ak:i<M:=by
    have h1:i<((M:Nat):Int).toNat:=hi;omega
   have AM:rows.length=bs.length:=Vv zO;refine ⟨ak (by show 0<=1000000;decide),fun wl DW=>?_⟩;have Ag:L2.Same H9 (upd H9 wl (.lst [])):=ad DW _;have D4:(upd H9 wl (.lst [])) wl=some (.lst (([]:List Vd).map V.ref)):=ab;generalize (upd H9 wl (.lst []))=Az at Ag D4 ⊢;dsimp only [ax];have Oa:H9 wl=none:=DW;have T5:=GW.trans (s9.trans Ag);refine ⟨_,rfl,ia,_,rfl,.inr (SqT.of (T5 _ _ G0)),_,rfl,by omega,by rw [Vb];omega,?_⟩
   refine dg (n:=(((zQ.map V.ref).length:Nat):Int).toNat) (fun j σ HB=>Ex3 fun (jv:Option V) (as:List Vd) (ts:List Th)=>An6 (σ=[some (.ref a),some (.ref ia),some (.ref oa),some (.ref wa),some (.ref pa),some (.ref cl),kv,some (.int (M:Nat)),some (.ref ml),some (.int (0+(i:Int))),some (.ref rl),some (.ref wl),jv,none,none]) (L2.Same H9 HB) (HB wl=some (.lst (as.map V.ref))) (Ats HB ts as) (ts.length=j) (∀ (j':Nat) (p:Th) (k:VM×Int),ts[j']?=some p->ins[j']?=some k->xZ outs ms i p k))
    ⟨jv,[],[],rfl,Ag,D4,.nil,rfl,fun j p k h=>by simp at h⟩ ?_ ?_
   · rintro j σ HB hj ⟨jv,as,ts,rfl,sB,eB,Fo,EJ,Ob⟩
     have zR:j<ins.length:=by
      have h1:j<(((zQ.map V.ref).length:Nat):Int).toNat:=hj;rw [Vb] at h1;omega
     have AN:=Fo.length;have JU:=s9.trans sB;have QG:=GW.trans JU;refine hid fun ZZ kZ=>?_;obtain ⟨ma,Fm⟩:∃ ma,B7[i]?=some ma:=⟨_,Ve (by omega)⟩;have JV:=D8.mono (Same.kt JU);obtain ⟨m,hm,Oc⟩:=JV.get Fm;obtain ⟨z1,z2,z3⟩:=N9 m (Vh hm);obtain ⟨k0,AA⟩:∃ k0,ins[j]?=some k0:=⟨_,Ve zR⟩;obtain ⟨ka,BW,GC⟩:=P2.get Fn AA;have Cj:=gi.num k0 (Vh AA);obtain ⟨c,hc⟩:∃ c,cs[6+4 * i+j]?=some c:=⟨_,Ve (by omega)⟩;refine kZ ?_;refine ⟨_,rfl,.inl ⟨rfl,_,SqL.of eB⟩,_,rfl,_,rfl,ml,_,_,.ref ma,rfl,rfl,SqL.of (JU _ _ e7),at_nonneg (by omega) (by rw [show (0+(i:Int)).toNat=i by omega,Vp,Fm];rfl),?_⟩;refine ⟨_,rfl,_,rfl,_,rfl,ia,_,_,.ref ka,rfl,rfl,SqT.of (QG _ _ G0),at_nonneg (by omega) (by rw [show (0+(j:Int)).toNat=j by omega,Vp,BW];rfl),ka,_,1,_,rfl,rfl,SqT.of (QG _ _ GC),at1,?_⟩;refine ⟨_,rfl,_,rfl,_,_,rfl,rfl,.inl ⟨by decide,by decide⟩,_,_,rfl,rfl,_,rfl,_,_,rfl,rfl,cl,_,_,.int c,rfl,rfl,SqL.of ((s7.trans JU) _ _ JR),at_nonneg (by omega) (by rw [show (6+4 * (0+(i:Int))+(0+(j:Int))).toNat=6+4 * i+j by omega,Vp,hc];rfl),?_⟩;refine ⟨ma,ml,k0.2,c,m,ms,B7,outs,rfl,Oc,z1,go,JU _ _ e7,JV,by omega,fun y hy=>by have:=(N9 y hy).2.2;omega,by omega,by omega,by omega,by omega,by omega,fun r p HC sC Bw hf A8 El CP=>?_⟩;have eC:=sC _ _ eB;refine ⟨wl,_,_,rfl,rfl,eC,aE (by rw [Vb];omega),?_⟩;have kC:KT HC (upd HC wl (.lst (as.map V.ref++[.ref r]))):=aK eC;refine ⟨_,as++[r],ts++[p],rfl,au (sB.trans sC) Oa,by rw [ab,Vs];rfl,Ats.append (Fo.mono ((Same.kt sC).trans kC)) (.cons (Bw.mono kC) .nil),by rw [VD,EJ];rfl,fun j' p' k' AD Ar=>?_⟩;by_cases C9:j'<j
     · rw [Xr (by omega)] at AD;exact Ob j' p' k' AD Ar
     · have FL:=(Vn.mp AD).1;rw [VD,Z8] at FL;obtain rfl:j'=j:=by omega
       rw [YF (by omega),EJ,Nat.sub_self] at AD;cases AD;rw [AA] at Ar;cases Ar;exact ⟨hf,by rw [A8,ZT,hm];rfl,by omega,by omega⟩
   · rintro σ HB ⟨jv,as,ts,rfl,sB,eB,Fo,EJ,Ob⟩;rw [Vb,Wg] at EJ;refine ⟨_,rfl,.inl ⟨rfl,_,SqL.of (sB _ _ e9)⟩,_,rfl,wl,_,rfl,.inl ⟨SqL.of eB,fun tp Od=>?_⟩⟩;have sC:L2.Same HB (upd HB tp (.tup (as.map V.ref))):=ad Od _;have eC:(upd HB tp (.tup (as.map V.ref))) tp=some (.tup (as.map V.ref)):=ab;generalize (upd HB tp (.tup (as.map V.ref)))=HC at sC eC ⊢;have QH:=(sB.trans sC) _ _ e9;refine ⟨rl,_,_,rfl,rfl,QH,aE (by rw [Vb];omega),?_⟩;have kD:KT HC (upd HC rl (.lst (bs.map V.ref++[.ref tp]))):=aK QH;refine ⟨_,_,_,bs++[tp],rows++[ts],rfl,au (s9.trans (sB.trans sC)) N',by rw [ab,Vs];rfl,P2.append (P2.mp (fun _ _ e=>RowAt.mono ((Same.kt (sB.trans sC)).trans kD) e) zO) (.cons ⟨as,kD _ _ eC,Fo.mono ((Same.kt sC).trans kD)⟩ .nil),by rw [VD,EI];rfl,fun s row zy=>?_⟩;by_cases NO:s<i
     · rw [Xr (by omega)] at zy;exact Ba s row zy
     · have FL:=(Vn.mp zy).1;rw [VD,Z8] at FL;obtain rfl:s=i:=by omega
       rw [YF (by omega),EI,Nat.sub_self] at zy;cases zy;exact ⟨by omega,Ob⟩
 rintro σ H9 ⟨sv,rv,jv,bs,rows,rfl,s9,e9,zO,EI,Ba⟩;rw [Wg] at EI;have AM:rows.length=bs.length:=Vv zO;have T6:=GW.trans s9;obtain ⟨c9,T7⟩:∃ c,cs[39]?=some c:=⟨_,Ve (by omega)⟩;have JW:=QF.mono (Same.kt (s3.trans (s5.trans (s7.trans s9))));refine ⟨_,rfl,_,rfl,_,rfl,cl,_,_,.int c9,rfl,rfl,SqL.of ((s7.trans s9) _ _ JR),at_nonneg (by decide) (by rw [Vp];exact congrArg (Option.map V.int) T7),?_⟩;refine ⟨wa,ml,1,c9,t,ms,B7,outs,rfl,JW,hF,go,s9 _ _ e7,D8.mono (Same.kt s9),by omega,fun y hy=>by have:=(N9 y hy).2.2;omega,by decide,by decide,by omega,by omega,by omega,fun EH head HA sA T8 NS Gp TB U'=>?_⟩;dsimp only [ax];have eA:=sA _ _ e9;refine ⟨_,rfl,_,rfl,_,rfl,_,rfl,rl,_,rfl,.inl ⟨SqL.of eA,fun ra T9=>⟨ak (by show 4<=1000000;decide),fun bk Jm=>?_⟩⟩⟩;have sB:L2.Same HA (upd HA ra (.tup (bs.map V.ref))):=ad T9 _;have eB:(upd HA ra (.tup (bs.map V.ref))) ra=some (.tup (bs.map V.ref)):=ab;generalize (upd HA ra (.tup (bs.map V.ref)))=HB at sB eB Jm ⊢;have sC:L2.Same HB (upd HB bk (.tup [.ref ia,.ref oa,.ref EH,.ref ra])):=ad Jm _;have eC:(upd HB bk (.tup [.ref ia,.ref oa,.ref EH,.ref ra])) bk=some (.tup [.ref ia,.ref oa,.ref EH,.ref ra]):=ab;generalize (upd HB bk (.tup [.ref ia,.ref oa,.ref EH,.ref ra]))=HC at sC eC ⊢;have QI:=sB.trans sC;have Oe:=sA.trans QI;have D9:=T6.trans Oe;have Ua:BookAt HC ins outs head rows bk ia oa EH ra zQ An bs:=⟨eC,D9 _ _ G0,Fn.mono (Same.kt D9),D9 _ _ CG,JQ.mono (Same.kt D9),T8.mono (Same.kt QI),sC _ _ eB,P2.mp (fun _ _ e=>RowAt.mono (Same.kt Oe) e) zO⟩;have QJ:rows.length=ms.length:=by omega
 have F:FrK ins outs rows:=by
  refine ⟨gi,⟨rfl,fun row zy=>?_⟩,by omega,fun row zy p hp=>?_⟩
  · obtain ⟨s,hs⟩:=VH.mp zy;obtain ⟨g1,g2⟩:=Ba s row hs;exact ⟨g1,fun j p k hp hk=>by rw [QJ];exact (g2 j p k hp hk).1⟩
  · obtain ⟨s,hs⟩:=VH.mp zy;obtain ⟨g1,g2⟩:=Ba s row hs;obtain ⟨j,hj⟩:=VH.mp hp;have E4:=(Vn.mp hj).1;obtain ⟨k0,AA⟩:∃ k0,ins[j]?=some k0:=⟨_,Ve (by omega)⟩;have:=g2 j p k0 hj AA;exact ⟨by have:=this.2.2.1;omega,by have:=this.2.2.2;omega⟩
 have JX:qI ms rows:=fun s row hs p hp=>by
  obtain ⟨g1,g2⟩:=Ba s row hs;obtain ⟨j,hj⟩:=VH.mp hp;have E4:=(Vn.mp hj).1;obtain ⟨k0,AA⟩:∃ k0,ins[j]?=some k0:=⟨_,Ve (by omega)⟩;exact (g2 j p k0 hj AA).2.1
 obtain ⟨n1,n2,n3⟩:=pI t hF;dsimp only [ax];refine ⟨_,rfl,bk,ia,oa,EH,ra,zQ,An,bs,ins,outs,head,rows,ms,t,rfl,Ua,F,go,JX,by rw [QJ];exact NS,by omega,Gp,n1,⟨by omega,by omega,by omega⟩,by omega,.inl ((s1.trans D9) _ _ C7),fun r fh rt HD sD er NV JJ=>?_⟩;refine ⟨_,rfl,_,rfl,_,rfl,ak (by show 0<=1000000;decide),fun et het=>⟨ak (by show 4<=1000000;decide),fun dp QK=>?_⟩⟩;have sE:L2.Same HD (upd HD et (.tup [])):=ad het _;have eE:(upd HD et (.tup [])) et=some (.tup []):=ab;generalize (upd HD et (.tup []))=HE at sE eE QK ⊢;have sG:L2.Same HE (upd HE dp (.tup [.ref ia,.ref oa,.ref wa,.ref et])):=ad QK _;have eG:(upd HE dp (.tup [.ref ia,.ref oa,.ref wa,.ref et])) dp=some (.tup [.ref ia,.ref oa,.ref wa,.ref et]):=ab;generalize (upd HE dp (.tup [.ref ia,.ref oa,.ref wa,.ref et]))=HG at sG eG ⊢;have K3:=sE.trans sG;have Ub:KT HC HD:=(show TabSt HC _ (uP cr) ndQ from .inl ((s1.trans D9) _ _ C7)).kt sD;have kG:=Ub.trans (Same.kt K3)
 have dI:DAtK K HG (.tup (ins.map kDv)) (.ref ia):=by
  rw [DAtK];exact ⟨ia,_,rfl,.inl (kG _ _ (D9 _ _ G0)),(vi (Fn.mono ((Same.kt D9).trans kG))).k⟩
 have dO:DAtK K HG (.tup (outs.map kDv)) (.ref oa):=by
  rw [DAtK];exact ⟨oa,_,rfl,.inl (kG _ _ (D9 _ _ CG)),(vi (JQ.mono ((Same.kt D9).trans kG))).k⟩
 have dN:∀ x,HG x=some (.tup [])->DAtK K HG (.tup []) (.ref x):=fun x hx=>by
  rw [DAtK];exact ⟨x,[],rfl,.inl hx,.nil⟩
 have JY:bC [Dv.tup (ins.map kDv),.tup (outs.map kDv),t.dv,.tup []]<=150:=by
  have h1:=kF ins;have h2:=kF outs;have h3:=t.dv_deep;rw [bC,bC,bC,bC,bC,Dv.deep,Dv.deep,Dv.deep,bC];omega
 refine ⟨r,dp,_,_,_,_,rfl,rfl,SqT.of (K3 _ _ er),SqT.of eG,.cons dI (.cons dO (.cons (NV.mono (Same.kt K3)).dv (.cons (dN _ (K3 _ _ JJ)) .nil))),.cons dI (.cons dO (.cons ((JW.mono ((Same.kt Oe).trans kG)).dv.k) (.cons (dN _ (sG _ _ eE)) .nil))),JY,fun bb LW=>?_⟩;rw [LW.mpr rfl];exact q HG
end
set_option maxHeartbeats 8000000 in
theorem all_mk {l:PySem.W.OpenLaw} {w:VI} {K:Vc} {h:Wx} {mg:VM->Option Vg} {fa:Vd} (X:K.In h) (G:h.Ns VS mg) (BA:mg "law"=some (.ref fa))
 {zw:Vd} {JZ:Vd} {Of Og:Option Vd} {Oh:Array (Option Vg)} {Oi Oj Ol Om J0 Oo:Vg} {J1:Vd} {Oq Ot:Option Vd} {Ou:Array (Option Vg)} {Ov Ow Ox Oy J2 Oz:Vg} {K4:Vd} {OA OB:Option Vd} {OC:Array (Option Vg)} {OD OE OF OG Gq OH:Vg} {J3:Vd} {OI J4:Option Vd} {OJ:Array (Option Vg)} {OK J5 J6 J7 Gr J8:Vg} {tc_earliest tp_earliest:Vd} {AJ:Xq} {QL:Tok} {GD:Tok} {OL:Vd} {OM:Option Vd} {Uc:Nat} {ON:Array (Option Vg)} {J9:Tok} {QM:Tok} {QN:Tok} {QO:Tok} {QP:Tok}
 (g_is_number:FX K mg "is_number" jH ["thing"])
 (g_is_below:FX K mg "is_below" lQ ["number","bound"])
 (g_kids_of:FX K mg "kids_of" jw ["thing"])
 (g_walked:FX K mg "walked" kB ["thing"])
 (g_placed:FX K mg "placed" ll ["thing"])
 (g_built:FX K mg "built" oi ["tops"])
 (g_places:FX K mg "places" lV ["tree"])
 (g_kid_at:FX K mg "kid_at" pC ["thing","number"])
 (g_knot_at:FX K mg "knot_at" mL ["tree","place"])
 (g_is_call:FX K mg "is_call" jh ["thing"])
 (g_is_hole:FX K mg "is_hole" jo ["thing"])
 (g_is_knot:FX K mg "is_knot" jg ["thing"])
 (g_called_by:FX K mg "called_by" f7 ["call"])
 (g_calls_in:FX K mg "calls_in" ie ["pattern"])
 (g_called_in:FX K mg "called_in" fW ["pattern"])
 (g_holes_in:FX K mg "holes_in" g7 ["front"])
 (g_top_of:FX K mg "top_of" lU ["part"])
 (g_filled:FX K mg "filled" kS ["pattern","table"])
 (g_restated:FX K mg "restated" ik ["pattern","names"])
 (g_hung:FX K mg "hung" qH ["front","parts"])
 (g_same_top:FX K mg "same_top" gY ["one","two"])
 (g_side_by_side:FX K mg "side_by_side" dE ["one","two"])
 (g_common:FX K mg "common" lA ["one","two"])
 (g_is_small:FX K mg "is_small" iw ["pattern"])
 (g_ins_of:FX K mg "ins_of" lj ["book"])
 (g_outs_of:FX K mg "outs_of" i8 ["book"])
 (g_head_of:FX K mg "head_of" jE ["book"])
 (g_rules_of:FX K mg "rules_of" gW ["book"])
 (g_states_of:FX K mg "states_of" fX ["book"])
 (g_small_tree:FX K mg "small_tree" fo ["ins"])
 (g_knot_above:FX K mg "knot_above" fu ["ins","kind","kids"])
 (g_first_makings:FX K mg "first_makings" cR ["book"])
 (g_first_front:FX K mg "first_front" eI ["book","state","made","partings"])
 (g_put_links:FX K mg "put_links" fZ ["book","state","front","links"])
 (g_spread:FX K mg "spread" kQ ["ins","links","partings"])
 (g_cut_front:FX K mg "cut_front" fP ["front","state","partings"])
 (g_found_fronts:FX K mg "found_fronts" dj ["book"])
 (g_fronts_of:FX K mg "fronts_of" gb ["book"])
 (g_renamed:FX K mg "renamed" jk ["pattern","numbers"])
 (g_numbered:FX K mg "numbered" io ["ins","outs","head","patterns_of"])
 (g_early_table:FX K mg "early_table" d4 ["fronts"])
 (g_checked:FX K mg "checked" jt ["pattern"])
 (g__law_cell_at:FX K mg "_law_cell_at" dA ["script","k"])
 (g__law_mixed:FX K mg "_law_mixed" fB ["cell","k"])
 (g__law_name:FX K mg "_law_name" fS ["base","n"])
 (g__law_kinds:FX K mg "_law_kinds" fA ["base","menu"])
 (g__law_full:FX K mg "_law_full" gg ["cell","deep","outs"])
 (g__law_kinds_drawn:FX K mg "_law_kinds_drawn" cp ["script"])
 (g__law_written:FX K mg "_law_written" du ["tree","made","kids","cell"])
 (g__law_parts:FX K mg "_law_parts" fb ["tree"])
 (on_Measure:Ws K VS "Measure"=some (some (.ref zw)))
 (pg_Measure:Zd K zw Str.empty=true)
 (hd_Measure:ZF K zw=true)
 (po_Measure:PySem.W.plainOver K zw=true)
 (sa_Measure:WU K (.ref zw) "__setattr__"=some (some (.builtin "object.__setattr__")))
 (mk_Measure:PySem.W.makesIn K zw=true)
 (kc_Measure:XB K (.ref zw)=true)
 (na_Measure_met_knots:WU K (.ref zw) "met_knots"=some none)
 (na_Measure_met_calls:WU K (.ref zw) "met_calls"=some none)
 (a23:WU K (.ref zw) "__init__"=some (some (.ref JZ))) (i23:ZU K (.ref JZ)=true) (l23:K.lookup JZ=some ⟨Oi,Of,.func (Xj "__init__" "Measure.__init__" (bv bM) (bg bM) (ai bM) .none Oj Ol Om Og J0 Oo),Oh⟩) (c23:YD K J0 "Measure.__init__"=true) (k23:XB K (.ref JZ)=true)
 (a24:WU K (.ref zw) "takes"=some (some (.ref J1))) (i24:ZU K (.ref J1)=true) (l24:K.lookup J1=some ⟨Ov,Oq,.func (Xj "takes" "Measure.takes" (bv bx) (bg bx) (ai bx) .none Ow Ox Oy Ot J2 Oz),Ou⟩) (c24:YD K J2 "Measure.takes"=true) (k24:XB K (.ref J1)=true)
 (a44:Ws K VS "earliest"=some (some (.ref K4))) (l44:K.lookup K4=some ⟨OD,OA,.func (Xj "earliest" "earliest" (bv bN) (bg bN) (ai bN) .none OE OF OG OB Gq OH),OC⟩) (c44:YD K Gq "earliest"=true) (k44:XB K (.ref K4)=true)
 (a53:Ws K VS "law"=some (some (.ref J3))) (l53:K.lookup J3=some ⟨OK,OI,.func (Xj "law" "law" (bv iS) (bg iS) (ai iS) .none J5 J6 J7 J4 Gr J8),OJ⟩) (c53:YD K Gr "law"=true) (k53:XB K (.ref J3)=true)
 (e_earliest:Gq=.ref tc_earliest) (v_earliest:K.lookup tc_earliest=some AJ) (x_earliest:tabAt AJ=some tp_earliest) (u_earliest:K.lookup tp_earliest=none)
 (z0:Ws K VS "bool"=some none)
 (z1:Ws K VS "dict"=some none)
 (z2:Ws K VS "enumerate"=some none)
 (z3:Ws K VS "int"=some none)
 (z4:Ws K VS "isinstance"=some none)
 (z5:Ws K VS "len"=some none)
 (z6:Ws K VS "list"=some none)
 (z7:Ws K VS "range"=some none)
 (z8:Ws K VS "reversed"=some none)
 (z9:Ws K VS "tuple"=some none)
 (z10:Ws K VS "zip"=some none)
 (y0:Ws K VS "CALL_SIGN"=some (some (.str (Vf "?") QL)))
 (y1:Ws K VS "MOST_KIDS"=some (some (.int (3) GD)))
 (y2:Ws K VS "HOLE"=some (some (.ref OL)))
 (w2:K.lookup OL=some ⟨.type "tuple",OM,.seq #[.str (Vf "*") J9] Uc,ON⟩)
 (y3:Ws K VS "MOST_STATES"=some (some (.int (20) QM)))
 (y4:Ws K VS "MOST_ROWS"=some (some (.int (20) QN)))
 (y5:Ws K VS "MOST_KNOTS"=some (some (.int (400) QO)))
 (y6:Ws K VS "MOST_CALLS"=some (some (.int (200) QP))) :
 ∃ (fd:XJ) (c T:Vd),(∀ (s:Vm) (v:Vg),BindsTo s fd ⟨[v],[]⟩ [("script",v)])/\YU K "earliest"=some (c,T)/\K.lookup T=none/\∀ base:Wx,K.In base->base.Ns VS mg->Lam mg base c T->aW l.prog w K mg base CX0 20 fa fd ["script"] (nD K T):=by
 have e0:=BA.symm.trans (Xy X G a53);have e:J3=fa:=(Value.ref.inj (VL e0)).symm;subst e;have QQ:=cQ (st:=bM) l23 c23 k23;have Ud:=QQ.binds (ps:=["self"]) fun _ _ _ _ _ _ us hl=>by obtain ⟨y0,rfl⟩:=us1 hl;rfl
 have QR:=cQ (st:=bx) l24 c24 k24;have Ue:=QR.binds (ps:=["self","part","row"]) fun _ _ _ _ _ _ us hl=>by obtain ⟨y0,y1,y2,rfl⟩:=us3 hl;rfl
 have OO:=cQ (st:=bN) l44 c44 k44;have Ug:=OO.binds (ps:=["book"]) fun _ _ _ _ _ _ us hl=>by obtain ⟨y0,rfl⟩:=us1 hl;rfl
 have QS:=cQ (st:=iS) l53 c53 k53;have Uh:=QS.binds (ps:=["script"]) fun _ _ _ _ _ _ us hl=>by obtain ⟨y0,rfl⟩:=us1 hl;rfl
 have Bc:=wS a44 l44 e_earliest v_earliest x_earliest
 let T:TX K mg:=⟨⟨QL,Xy X G y0⟩,⟨GD,Xy X G y1⟩,OL,Xy X G y2,fun H=>.inr ⟨_,_,_,w2,rfl,rfl,(by show 1<=Vz;decide),.cons ⟨_,rfl⟩ (.nil)⟩,⟨QM,Xy X G y3⟩,⟨QN,Xy X G y4⟩,⟨QO,Xy X G y5⟩,⟨QP,Xy X G y6⟩,g_is_number,g_is_below,g_kids_of,g_walked,g_placed,g_built,g_places,g_kid_at,g_knot_at,g_is_call,g_is_hole,g_is_knot,g_called_by,g_calls_in,g_called_in,g_holes_in,g_top_of,g_filled,g_restated,g_hung,g_same_top,g_side_by_side,g_common,JZ,_,QQ,Ud,J1,_,QR,Ue,g_is_small,g_ins_of,g_outs_of,g_head_of,g_rules_of,g_states_of,g_small_tree,g_knot_above,g_first_makings,g_first_front,g_put_links,g_spread,g_cut_front,g_found_fronts,g_fronts_of,g_renamed,g_numbered,g_early_table,g_checked,⟨K4,_,OO,Ug,Xy X G a44⟩,tc_earliest,tp_earliest,wu OO a44 Bc,g__law_cell_at,g__law_mixed,g__law_name,g__law_kinds,g__law_full,g__law_kinds_drawn,g__law_written,g__law_parts,⟨J3,_,QS,Uh,Xy X G a53⟩,zw,Xy X G on_Measure,⟨pg_Measure,hd_Measure,po_Measure,sa_Measure⟩,⟨mk_Measure,a23,i23,kc_Measure⟩,na_Measure_met_knots,na_Measure_met_calls,⟨a24,i24,k24⟩,WS X G z0,WS X G z1,WS X G z2,WS X G z3,WS X G z4,WS X G z5,WS X G z6,WS X G z7,WS X G z8,WS X G z9,WS X G z10⟩
 exact ⟨Xj "law" "law" (bv iS) (bg iS) (ai iS) .none J5 J6 J7 J4 Gr J8,tc_earliest,tp_earliest,fun s v=>.of_eq rfl,Bc,u_earliest,fun base _ _ L=>xK T L⟩
theorem walk {l:PySem.W.OpenLaw} {q:Vu} {loose:List VM} {XP:(VM->Option Vg)->Wx->Prop} {YP:VI->Wx->Prop} {d dt:DefRec} {K:Params->Vc} (hn:l.most=some 63) (Ht:d.params.defaults=[]) (hq:(PyProof.Rows.recsOf q).find? (fun e=>e.name == ("earliest":VM))=some dt)
 (hY:∀ (w:VI) (h:Wx),YP w h->(K w.params).In h)
 (F:∀ (w:VI) (mg:VM->Option Vg) (fa:Vd) (h:Wx),(K w.params).In h->h.Ns VS mg->mg d.name=some (.ref fa) →
  ∃ (fd:XJ) (c T:Vd),(∀ (s:Vm) (u:Vg),BindsTo s fd ⟨[u],[]⟩ [("script",u)])/\YU (K w.params) "earliest"=some (c,T)/\(K w.params).lookup T=none/\∀ base:Wx,(K w.params).In base->base.Ns VS mg->Lam mg base c T->aW l.prog w (K w.params) mg base CX0 20 fa fd ["script"] (nD (K w.params) T)) :
 PySem.W.WalkO q loose XP YP l.row.toRowW d [] (fun f vs=>PySem.call f vs) :=
 L2.tV (n:=63) (k:=20) (x:="script") (tn:="earliest") (CX:=fun _=>CX0) (sp:=fun w T=>nD (K w.params) T) hn (by decide) Ht ⟨rfl,by decide,by decide⟩ hq hY F (fun _ _ _ a ns hl hS hT=>⟨a,ns,rfl,hS,hl,hT,fun _=>rfl⟩) fun _ _ _ _ _ z=>z
end LAW
open PySem PySem.W PyProof.Rows
set_option maxRecDepth 100000 in
set_option maxHeartbeats 0 in
theorem PySem.Challenge.cw_boughbook_k69_sure_states_go_holds : PySem.Challenge.rw_boughbook_k69_sure_states_go.Holds := by
 w_on;o_law;(refine holds_open (q:=LAW.vw) (N:=90000) (loose:=[]) (XP:=XL LAW.vw []) (Yf:=Hook.obs (kHook LAW.d0.heap_1 LAW.ks LAW.ke)) (Ya:=Hook.val (kHook LAW.d0.heap_1 LAW.ks LAW.ke)) (YP:=Hook.says (kHook LAW.d0.heap_1 LAW.ks LAW.ke)) (Xt:=LAW.xt) (HD.tF (by kernel_rfl) (by kernel_rfl) (fun _=>by kernel_rfl) LAW.lk0 LAW.lk1 LAW.lk2 LAW.lk3 LAW.lk4 LAW.lk5 (HD.Pc.k LAW.kp)) (Hook.of (kHook LAW.d0.heap_1 LAW.ks LAW.ke)) (Hook.keeps (kHook LAW.d0.heap_1 LAW.ks LAW.ke)) (fun s e=>xl_of s (Bool.and_eq_true_iff.mp e).1) XL.keeps (by rfl) (by rfl) (by rfl) (fun s e=>recFacts_of (Bool.and_eq_true_iff.mp e).2) (by rfl) (by assumption) (by decide +kernel) ⟨rfl,rfl,rfl,rfl,rfl,by decide +kernel⟩ ?_ ?_);w_witness2
 k_fill
 refine LAW.walk (l:=PySem.Challenge.rw_boughbook_k69_sure_states_go) rfl rfl (by rfl) (fun w h Y=>PySem.W.kIn_of Y) ?F
 case F =>
  intro w mg fa h KX G Hu;refine' LAW.all_mk KX G Hu (LAW.fx1 KX G) (LAW.fx2 KX G) (LAW.fx1 KX G) (LAW.fx1 KX G) (LAW.fx1 KX G) (LAW.fx1 KX G) (LAW.fx1 KX G) (LAW.fx2 KX G) (LAW.fx2 KX G) (LAW.fx1 KX G) (LAW.fx1 KX G) (LAW.fx1 KX G) (LAW.fx1 KX G) (LAW.fx1 KX G) (LAW.fx1 KX G) (LAW.fx1 KX G) (LAW.fx1 KX G) (LAW.fx2 KX G) (LAW.fx2 KX G) (LAW.fx2 KX G) (LAW.fx2 KX G) (LAW.fx2 KX G) (LAW.fx2 KX G) (LAW.fx1 KX G) (LAW.fx1 KX G) (LAW.fx1 KX G) (LAW.fx1 KX G) (LAW.fx1 KX G) (LAW.fx1 KX G) (LAW.fx1 KX G) (LAW.fx3 KX G) (LAW.fx1 KX G) (LAW.fx4 KX G) (LAW.fx4 KX G) (LAW.fx3 KX G) (LAW.fx3 KX G) (LAW.fx1 KX G) (LAW.fx1 KX G) (LAW.fx2 KX G) (LAW.fx4 KX G) (LAW.fx1 KX G) (LAW.fx1 KX G) (LAW.fx2 KX G) (LAW.fx2 KX G) (LAW.fx2 KX G) (LAW.fx2 KX G) (LAW.fx3 KX G) (LAW.fx1 KX G) (LAW.fx4 KX G) (LAW.fx1 KX G) ?on_Measure ?pg_Measure ?hd_Measure ?po_Measure ?sa_Measure ?mk_Measure ?kc_Measure ?na_Measure_met_knots ?na_Measure_met_calls ?a23 ?i23 ?l23 ?c23 ?k23 ?a24 ?i24 ?l24 ?c24 ?k24 ?a44 ?l44 ?c44 ?k44 ?a53 ?l53 ?c53 ?k53 ?e_earliest ?v_earliest ?x_earliest ?u_earliest ?z0 ?z1 ?z2 ?z3 ?z4 ?z5 ?z6 ?z7 ?z8 ?z9 ?z10 ?y0 ?y1 ?y2 ?w2 ?y3 ?y4 ?y5 ?y6
  (case on_Measure=>k_is)
  (case pg_Measure=>k_is)
  (case hd_Measure=>k_is)
  (case po_Measure=>k_is)
  (case sa_Measure=>k_is)
  (case mk_Measure=>k_is)
  (case kc_Measure=>k_is)
  (case na_Measure_met_knots=>k_is)
  (case na_Measure_met_calls=>k_is)
  (case a23=>k_is)
  (case i23=>k_is)
  (case l23=>k_is)
  (case c23=>k_is)
  (case k23=>k_is)
  (case a24=>k_is)
  (case i24=>k_is)
  (case l24=>k_is)
  (case c24=>k_is)
  (case k24=>k_is)
  (case a44=>k_is)
  (case l44=>k_is)
  (case c44=>k_is)
  (case k44=>k_is)
  (case a53=>k_is)
  (case l53=>k_is)
  (case c53=>k_is)
  (case k53=>k_is)
  (case e_earliest=>rfl)
  (case v_earliest=>k_is)
  (case x_earliest=>rfl)
  (case u_earliest=>kernel_rfl)
  (case z0=>k_is)
  (case z1=>k_is)
  (case z2=>k_is)
  (case z3=>k_is)
  (case z4=>k_is)
  (case z5=>k_is)
  (case z6=>k_is)
  (case z7=>k_is)
  (case z8=>k_is)
  (case z9=>k_is)
  (case z10=>k_is)
  (case y0=>k_is)
  (case y1=>k_is)
  (case y2=>k_is)
  (case w2=>k_is)
  (case y3=>k_is)
  (case y4=>k_is)
  (case y5=>k_is)
  (case y6=>k_is)
