import PyProof.Rows.All
import Wide.All
import OpenK.AllK
import Wide.FinOn
import Lean
import PyProof.EqAt
import PyProof.EqKinds
import PyProof.TupleCall
import KE.KRevIter
import PyProof.ListNew
import PyProof.Draws
import PyProof.EnumMake
import PyProof.Rows.EnumRows
import PyProof.ZipIter
import PyProof.ConsumeWalk
import KE.LcSums
import PyProof.AttrMissHeap
import KE.KDictOf
import PyProof.DictWalks
import PyProof.ListMulRoad
import PyProof.FactsAll.tuple
import PyProof.NeKinds
import KE.RegKTryMore
import KE.RegKIsAll
import PyProof.StrWalks
import PyProof.Rows.SetFrom
import PyProof.FString5
import Wide.Txt
import PyProof.Rows.SeqMore
import PyProof.StrOps2
import KE.KEqDict
import PyProof.CollectIter
import PyProof.JoinWalk
import PyProof.CallStr
import PyProof.DictRoadsH
import PyProof.MeetsDictList
import PyProof.DictTruth
import PyProof.StrLawsChain
import PyProof.StrCalls6
import PyProof.ToksMono
import PyProof.StrCalls2
import KE.KWords
import PyProof.MeetsStr2
import KE.KLam
import KE.KDictLaws
import PyProof.DictItems
import PyProof.DictValues
import PyProof.DictItemsLoops
import PySem.Challenge.RW_boughbook_k37_the_same_book
set_option Elab.async false
set_option linter.all false
set_option maxRecDepth 100000
set_option genInjectivity false
set_option genSizeOf false
local macro_rules | `(tactic| omega) => `(tactic| lia)
open List renaming length_map→Vt,mem_cons_of_mem→Vv,getElem?_eq_getElem→Vw,getElem?_eq_some_iff→Vz,mem_of_getElem?→VD,mem_cons_self→VI,mem_singleton→VJ,size_toArray→VL,getElem?_map→VM,map_append→VN,length_append→VO,mem_cons→VP,mem_append→VV,length_cons→VY,mem_map→V4,mem_append_right→V5,mem_iff_getElem?→V8,mem_append_left→V9,map_cons→Wf,length_take→Wi,length_reverse→Wy,length_drop→Wz,replicate→WA,nodup_cons→WG,reverse_cons→WJ,length_range→WK,range→WT,take_add_one→WY,take_of_length_le→W0,getElem?_set_self→W2,getElem?_eq_none→W5,take_length→W8,getElem?_append_left→Xa,length_singleton→Xb,append_nil→Xf,lookup→Xg,length_eq_zero_iff→Xh,map_nil→Xj,append_assoc→Xk,reverse_append→Xm,cons_append→Xr,all_eq_true→Xs,reverse_reverse→Xz,mem_of_mem_take→XA,getElem?_set_ne→XB,drop_zero→XC,dropLast_concat_getLast→XI,replicate_succ→XO,map_map→XR,lookup_cons→XU,getElem?_append_right→XZ,getElem?_zip_eq_some→X3,mem_of_mem_drop→X8,not_mem_nil→Yk,nodup_append→Yz,take_zero→YE,nodup_nil→YF,mem_range→YG,drop_eq_getElem_cons→YQ,map_congr_left→YT,getElem?_range→YU,filterMap_cons→YV,nil_append→Y0,find?_cons→Y1,length→Y5,flatten_cons→Za,getElem?_reverse→Zh,any_eq_true→Zk,mem_filter→Zw,forIn_cons→Zx,ext_getElem?→ZN,any_cons→ZS,all_cons→ZT,mem_reverse→Z1,map_reverse→Z2,getElem?_cons_succ→Z3,flatMap_def→Z4,drop_length→Z5
open PySem renaming wpAny_bind→Vu,Addr→Vy,Value→VC,wpAny_pure→VE,Shared→VF,wpAny→VT,sizeLine→V1,Str→V2,Program→V3,mainGlobals→V6,model→Wb,boot_len→Wd,World→Wg,Around→Wn,wpAny_newObj_type→Wo,wpAny_field→Wq,starEach→Wr,wpAny_call_entry→Wu,wpAny_callSpecial?_slot→Ww,Expr→WC,Paired→WD,Heap→WR,Stmt→WZ,wpAny_Call_Name_kw→W9,Obj→Xn,wpAny_truthy_bool→Xo,compareOp→Xp,eval→Xx,wpAny_setField_rec→XD,wpAny_mono→XE,rawInt→XF,wpAny_holding→XH,wpAny_seqItems→XN,FuncData→XQ,sysModules→XT,NameKind→XY,wpAny_pyIter_tuple→X6,Builtin→Yb,IsPair→Yg,wpAny_attempt→Yl,pyNext→Ym,wpAny_typeNameOfWhole_itemiter→Yp,wpAny_setField→Yq,firstArgMember→Yr,cLine→Ys,wpAny_typeNameOfWhole_keyiter→Yx,sizeLine_eq→Yy,wpAny_passesOwn→YC,attributeBase→YH,builtinLookup_eq_fast→YI,backTo→YJ,wpAny_dictEntries→YO,mem_of_lookup→YR,wpAny_of_eq→YW,binaryOp→YX,wpAny_typeNameOf_itemiter→Y3,wpAny_typeNameOf_keyiter→Y6,wpAny_dictEpoch→Zb,call_meets→Zc,wpAny_Call_method0_late→Zd,sliceBounds→Ze,Scope→Zf,DictEntry→Zi,Pos→Zm,wpAny_typeOf→Zn,wpAny_pyIter_slot→Zo,wpAny_pyIter_list→Zp,getItem→Zq,codeAny_mono→Zr,evalArgs_none→Zy,strLen_append→ZF,codeAny→ZG,typeLookup_type→ZK,codeAny_builtin→ZL,bootBuiltins→ZO,OsState→ZQ,tupleKind→ZV,tupleKind_room_in1→ZX,isSubtype_type→ZY,IsItemIter→Z6
open PySem.Str renaming ofString→Vx,empty→XS
open PySem.Heap renaming get?_push_of_some→VA,get?_push_size→VH,lt_size→VX,SameBut→WN,size_push→WU,get?_push_ne→Zs,get?_update_self→ZA
open PySem.W renaming Frag→VB,nsIn→Wk,findIn→Wx,mg_none_of→WB,mg_of→WX,keepIn→Xc,kia_one→Xe,emptyDict→Xi,fnOf→Xv,instObj→X4,boot_heap→X7,codeIn→Yj,kitOne→YD,plainGet→YK,isFn→Y7,hasDictIn→Y8,plainOver→ZM
open Nat renaming le_refl→VG,zero_le→Wc,lt_of_lt_of_le→Wh,ne_of_lt→Wm,le_trans→WI,lt_irrefl→Xd,le_add_right→Xq,lt_succ_iff_lt_or_eq→Xw,pow_le_pow_right→Xy,ne_of_gt→YM,le_of_lt→YN,min_eq_left→Zv,sub_zero→Z9
open Or renaming inl→VQ,inr→ZI
open Bool renaming false_ne_true→VS,false_eq_true→Xu,eq_false_iff→X9,eq_iff_iff→Yu,and_eq_true→Zl
open PySem.Paired renaming length→VU
open Option.some renaming inj→VZ
open PySem.F renaming plainAttrs_list→V0,type_list_append→Ws,slot_list_append→Wt,slot_dict_itemiterator_next→W3,slot_dict_keyiterator_next→XW,type_list_extend→Yd,slot_list_extend→Ye,type_list_pop→Yv,slot_list_pop→Yw,slot_dict_itemiterator_iter→YA,slot_tuple_iterator_next→YY,called_set→Y2,slot_list_index→Y4,args_tuple_add_2→ZP,entry_tuple_add→Z0,slot_tuple_add→Z8
open Array renaming length_toList→V7,getElem?_eq_some_iff→X0,getElem?_toList→X2,toList_append→Yi
open Sum renaming inl→Wa
open PySem.PassesOwn renaming never→We
open PySem.Value renaming ref→Wj,none→WV,int→ZW
open PyProof.Rows renaming slot_tuple_getitem→Wl,boot_tuple→WE,callWith_type1→W6,boot_max→X1,boot_isinstance→Yt,boot_int→Zg
open PySem.Builtin.SmallTypes renaming nextOf→WH,ownedTupleIsFree→WQ
open Int renaming toNat_natCast→WL,emod_nonneg→WM,emod_lt_of_pos→WO,toNat_of_nonneg→WW,zero_add→ZD,ne_of_gt→ZE
open PySem.NameKind renaming free→WS,cell→ZH
open PySem.Builtin.Slice renaming slicePlaces→W4,sliceAdjust→Yh,sliceApplied→YZ
open PySem.Builtin.Tuple renaming tupleExact→W7,tupleItemsOf→Z7
open False renaming elim→Xl
open PySem.Obj renaming data_mapFields→XG,isFreed_of_fields→Zz
open PySem.Builtin.List renaming listTooLong→XJ
open PySem.AutoSeq1 renaming wpAny_loadPart'→XM
open PySem.Builtin.Dict_items renaming ownsTuple→XX
open ForInStep renaming yield→X5
open True renaming intro→Yc
open Option renaming map_eq_some_iff→Yn,getD_some→YL,getD_none→Zj,isSome_iff_exists→ZR
open PySem.Heap.SameBut renaming update→Yo
open PySem.Calls renaming spliced_cons→YB,spliced_nil→Zt,callWith_builtin→Zu
open PyProof.Rows.F renaming plain_set_update_loop→YS
open Ne renaming symm→Y9
open PySem.Builtin.Dict renaming showsAll→ZC
open PySem.Around renaming under_plainId→ZJ
open PySem.Builtin.Str renaming strSliceIndices→ZU
namespace HD
open PySem PySem.W PySem.Calls PyProof.Rows
def kq (tb:String->Option Yb) (p:V3) (w:Wg) (m:Nat) (ann:Option VC):Nat->SharedT->Thread->Option SharedT
 | 0,_,_=>none
 | n+1,s,t=>match through t with
   | true=>some s
   | false=>match stepOk m ann t with
     | false=>none
     | true=>match stepT (denote tb) p w s t with
       | some (s',t')=>kq tb p w m ann n s' t'
       | none=>none
theorem lu {tb:String->Option Yb} {p:V3} {w:Wg} {m:Nat} {ann:Option VC}:∀ {n:Nat} {s s':SharedT} {t:Thread},kq tb p w m ann n s t=some s'->topRun tb p w m ann n s.abs t=some s'.abs
 | 0,_,_,_,h=>by cases h
 | n+1,s,s',t,h=>by
   unfold kq at h;unfold topRun;cases he:through t with
   | true=>rw [he] at h;cases h;rfl
   | false =>
     rw [he] at h;cases hk:stepOk m ann t with
     | false=>rw [hk] at h;cases h
     | true =>
       rw [hk] at h;cases hs:stepT (denote tb) p w s t with
       | none=>rw [hs] at h;cases h
       | some r =>
         obtain ⟨s2,t2⟩:=r;rw [hs] at h;rw [stepT_spec hs];exact lu h
def uw:List Xn->Nat->BT->BT
 | [],_,t=>t
 | o::l,n,t=>uw l (n+1) (t.ins n o)
def wc:List Xn->Nat->BT->Bool
 | [],_,_=>true
 | o::l,n,t=>((t.ins n o).get n).isSome && wc l (n+1) (t.ins n o)
theorem mV:∀ (l:List Xn) (n:Nat) (t:BT),wc l n t=true->(uw l n t).list (n+l.length)=t.list n++l
 | [],n,t,_=>by rw [Xf];rfl
 | o::l,n,t,h=>by
   obtain ⟨h1,h2⟩:=Bool.and_eq_true_iff.mp h;have e:=absHeap_ins (life:=default) h1
   have e2:(t.ins n o).list (n+1)=t.list n++[o]:=by
    have:=congrArg (fun x:WR=>x.objs.toList) e;simpa [absHeap,Heap.push] using this
   have ih:=mV l (n+1) (t.ins n o) h2;rw [e2,Xk] at ih;rw [VY,show n+(l.length+1)=n+1+l.length by omega];exact ih
theorem wX {h:WR} (ok:wc h.objs.toList 0 .nil=true):absHeap (uw h.objs.toList 0 .nil) h.objs.size h.life=h:=by
 have e:=mV _ _ _ ok;rw [Nat.zero_add] at e;unfold absHeap;rw [<- V7,e];rfl
noncomputable abbrev oO (p:V3) (N:Nat) (w:Wg) (os:ZQ):Option SharedT :=
 kq treeTable p w 11 (some (.ref 6)) N ⟨uw (X7 w.params).objs.toList 0 .nil,11,(X7 w.params).life,Array.mk [],boot_drawn,boot_toks,os⟩ (topStub p)
theorem vU (P:Params):(wc (X7 P).objs.toList 0 .nil,(X7 P).isNs V6,(X7 P).objs.size,(X7 P).nsMap V6 "__annotations__")=(true,true,11,some (.ref 6)):=by kernel_rfl
theorem map_some {α β:Type} {o:Option α} {a:α} {f:α->β} {b:β} (h:o=some a) (e:o.map f=some b):f a=b:=by rw [h] at e;exact VZ e
abbrev Tr0 (p q:V3) (loose:List V2) (Xt:VF->Bool) (N:Nat) (g0:Bool):Prop:=∀ (w:Wg) (os:ZQ),((oO p N w os).map fun s=>(staticsOk (importedModules p.main.body) (X7 w.params) s.abs.heap && namesBound p s.abs.heap && gensDone s.abs && laidKept (X7 w.params) s.abs.heap,s.abs.heap.bltView,pinSeenD q (drecsOf q) s.abs,plainSeenD q loose s.abs,clsSeenW q loose s.abs,(s.abs.heap.accountedOkI (importedModules p.main.body),s.abs.heap.isNs V6,s.abs.heap.isNs builtinsNs,tablesOk q s.abs.heap,Xt s.abs,(if g0 then s.abs.gens.size == 0 else !leftWithCleanup s.abs.gens))))=some (true,bltViewBooted,pinGoodD (drecsOf q),plainGoodD q loose,clsGoodW q loose,(true,true,true,true,true,true))
abbrev Tr1 (p q:V3) (N:Nat):Prop:=∀ (w:Wg) (os:ZQ),((oO p N w os).map fun s=>seen ((recsOf q).map (·.name)) (ownsOf q) [] { s.abs with gens:=#[] })=some (expectedOf q)
abbrev Tr2 (p q:V3) (loose:List V2) (N:Nat):Prop:=∀ (w:Wg) (os:ZQ),((oO p N w os).map fun s=>s.abs.heap.keysOk (looseW q loose) ((recsOf q).map (·.name)) ((litsOf q).map (·.1)) ((clssOf q (looseW q loose)).map (·.name)))=some true
abbrev Tr3 (p q:V3) (N:Nat):Prop:=∀ (w:Wg) (os:ZQ),((oO p N w os).map fun s=>tabsOk q s.abs)=some true
abbrev Tr4 (p q:V3) (loose:List V2) (N:Nat):Prop:=∀ (w:Wg) (os:ZQ),((oO p N w os).map fun s=>plainSeenE q (looseW q loose) s.abs)=some (plainGoodE q (looseW q loose))
abbrev Tr5 (p q:V3) (N:Nat):Prop:=∀ (w:Wg) (os:ZQ),((oO p N w os).map fun s=>wideSeen q s.abs)=some (wideGood q)
theorem tf {p q:V3} {loose:List V2} {Xt:VF->Bool} {α:Type} {Yf:VF->α} {Ya:Wg->α} {N:Nat} {g0:Bool}
 (e:opening p=plainProg p.main.scope.names) (hN:Nat.ble 600 N=true) (f:∀ s,fenceModules? p s=some s)
 (r0:Tr0 p q loose Xt N g0)
 (r1:Tr1 p q N)
 (r2:Tr2 p q loose N)
 (r3:Tr3 p q N)
 (r4:Tr4 p q loose N)
 (r5:Tr5 p q N)
 (rY:∀ (w:Wg) (os:ZQ),((oO p N w os).map fun s=>Yf s.abs)=some (Ya w)) :
 LeftO p q loose Xt Yf Ya N g0:=fun w=>by
 obtain ⟨⟨h,gs,d,k,os⟩,e1,e'⟩:=Yn.mp (boot_open e hN f w);obtain ⟨rfl,rfl,rfl,rfl⟩:h=X7 w.params/\gs=Array.mk []/\d=boot_drawn/\k=boot_toks:=by simpa using e'
 have Js:=vU w.params;have z0:=congrArg Prod.fst Js;have z1:=congrArg (fun x=>x.2.1) Js;have z2:=congrArg (fun x=>x.2.2.1) Js;have z3:=congrArg (fun x=>x.2.2.2) Js;dsimp only at z0 z1 z2 z3;obtain ⟨s1,E7,hY⟩:=Yn.mp (rY w os);have q0:=map_some E7 (r0 w os);have q1:=map_some E7 (r1 w os);have q2:=map_some E7 (r2 w os);have q3:=map_some E7 (r3 w os);have q4:=map_some E7 (r4 w os);have q5:=map_some E7 (r5 w os);have rr:=lu E7
 have Kj:SharedT.abs ⟨uw (X7 w.params).objs.toList 0 .nil,11,(X7 w.params).life,Array.mk [],boot_drawn,boot_toks,os⟩=⟨X7 w.params,Array.mk [],boot_drawn,boot_toks,os⟩:=by
  unfold SharedT.abs;dsimp only;rw [<- z2,wX z0]
 rw [Kj] at rr;have a0:=congrArg Prod.fst q0;have a1:=congrArg (fun x=>x.2.1) q0;have a2:=congrArg (fun x=>x.2.2.1) q0;have a3:=congrArg (fun x=>x.2.2.2.1) q0;have a4:=congrArg (fun x=>x.2.2.2.2.1) q0;have b0:=congrArg (fun x=>x.2.2.2.2.2.1) q0;have b1:=congrArg (fun x=>x.2.2.2.2.2.2.1) q0;have b2:=congrArg (fun x=>x.2.2.2.2.2.2.2.1) q0;have b3:=congrArg (fun x=>x.2.2.2.2.2.2.2.2.1) q0;have b4:=congrArg (fun x=>x.2.2.2.2.2.2.2.2.2.1) q0;have b5:=congrArg (fun x=>x.2.2.2.2.2.2.2.2.2.2) q0;dsimp only at a0 a1 a2 a3 a4 b0 b1 b2 b3 b4 b5
 have l2:openSeen q loose (importedModules p.main.body) Xt g0 s1.abs=openGood q loose:=by
  unfold openSeen openGood;rw [q1,a1,q2,b0,b1,b2,b3,b4,b5,q3,a2,q4,a3,q5,a4];rfl
 have t:topFrom treeTable p w N ⟨X7 w.params,Array.mk [],boot_drawn,boot_toks,os⟩=some s1.abs:=by
  unfold topFrom;dsimp only;rw [z1,z2,z3,rr];show (match staticsOk (importedModules p.main.body) (X7 w.params) s1.abs.heap && namesBound p s1.abs.heap && gensDone s1.abs && laidKept (X7 w.params) s1.abs.heap with | true=>_ | false=>_)=_;rw [a0]
 unfold openEnds;rw [e1];show (topFrom treeTable p w N _).map _=_;rw [t];exact congrArg some (Prod.ext l2 hY)
def p0:Params:={ strHash:=fun _=>0,shareClass:=fun _=>0,mergeTok:=fun t=>t,idOf:=fun _=>0,idOfShared:=fun _ _=>0,followText:=fun _=>false,idOfImm:=fun _=>0 }
structure Pc (p:V3) (N:Nat) (as:List Vy) (vs:Wg->List (Option Xn)):Prop where
 out:∀ (w:Wg) (os:ZQ),((oO p N w os).map fun s=>as.map s.abs.heap.get?)=some (vs w)
theorem Pc.k {p:V3} {N:Nat} {as:List Vy} {K:Params->Frag} {e:∀ P,as=(K P).map (·.1)} (h:Pc p N as fun w=>(K w.params).map fun p=>some p.2):∀ (w:Wg) (os:ZQ),((oO p N w os).map fun s=>(kHook K as e).obs s.abs)=some ((kHook K as e).val w):=h.out
end HD
section
open PySem PySem.W PyProof.Rows
def LAW.vw:V3:=PySem.W.view PySem.Challenge.pw_boughbook_k37_the_same_book [1,2,3,4,6,7,8,9,10,11,12,13,14,15,16,17,18,19,20,21,23,24,25,26,27,28,29,30,31,33,34,35,36,37,38,39,40,41,42,43,44,45,47,48,49,50,51,52,53,54,55,57,58,60,61,62,63,64,65,67,68,69,70,71,72,74,75,76,77,78,79,80,81]
def LAW.xt (s:VF):Bool:=xlAt LAW.vw [] s && recOk (RowW.records (OpenRow.toRowW (OpenLaw.row PySem.Challenge.rw_boughbook_k37_the_same_book))) s
set_option maxHeartbeats 0 in
theorem LAW.lk0:HD.Tr0 PySem.Challenge.pw_boughbook_k37_the_same_book LAW.vw [] LAW.xt 90000 true:=fun _ _=>by kernel_rfl
set_option maxHeartbeats 0 in
theorem LAW.lk1:HD.Tr1 PySem.Challenge.pw_boughbook_k37_the_same_book LAW.vw 90000:=fun _ _=>by kernel_rfl
set_option maxHeartbeats 0 in
theorem LAW.lk2:HD.Tr2 PySem.Challenge.pw_boughbook_k37_the_same_book LAW.vw [] 90000:=fun _ _=>by kernel_rfl
set_option maxHeartbeats 0 in
theorem LAW.lk3:HD.Tr3 PySem.Challenge.pw_boughbook_k37_the_same_book LAW.vw 90000:=fun _ _=>by kernel_rfl
set_option maxHeartbeats 0 in
theorem LAW.lk4:HD.Tr4 PySem.Challenge.pw_boughbook_k37_the_same_book LAW.vw [] 90000:=fun _ _=>by kernel_rfl
set_option maxHeartbeats 0 in
theorem LAW.lk5:HD.Tr5 PySem.Challenge.pw_boughbook_k37_the_same_book LAW.vw 90000:=fun _ _=>by kernel_rfl
section
local macro_rules | `(tactic| o_head $_H) => `(tactic| assumption)
set_option maxHeartbeats 0 in
theorem LAW.d0 (h:OpenRow.Holds (OpenLaw.row PySem.Challenge.rw_boughbook_k37_the_same_book)):OpenRow.Holds (OpenLaw.row PySem.Challenge.rw_boughbook_k37_the_same_book):=by
 k_head
end
noncomputable def LAW.ks:List Vy:=(LAW.d0.heap_1 HD.p0).map (·.1)
theorem LAW.ke:∀ P,LAW.ks=(LAW.d0.heap_1 P).map (·.1):=fun _=>by kernel_rfl
set_option maxHeartbeats 0 in
theorem LAW.kp:HD.Pc PySem.Challenge.pw_boughbook_k37_the_same_book 90000 LAW.ks fun w=>(LAW.d0.heap_1 w.params).map fun p=>some p.2:=⟨fun _ _=>by kernel_rfl⟩
end
namespace L2
open PySem PySem.Spec PyProof.Rows
abbrev Key:=Sum Int V2
def nn:Key->VC->Bool
 | .inl k,v=>Value.isInt k v
 | .inr x,v=>Value.isStrOf x v
def zA (w:Wg):Key->Int
 | .inl k=>hashInt k
 | .inr x=>hashStr w x
theorem bB:∀ {k:Key} {v:VC},nn k v=true->(∃ i t,k=Wa i/\v=ZW i t)∨(∃ x t,k=Sum.inr x/\v=Value.str x t)
 | .inl i,v,h=>by
   obtain ⟨t,e⟩:=Value.isInt_shape (k:=i) (v:=v) h;exact .inl ⟨i,t,rfl,e⟩
 | .inr x,v,h=>by
   obtain ⟨t,e⟩:=Value.isStrOf_shape (x:=x) (v:=v) h;exact .inr ⟨x,t,rfl,e⟩
theorem tN (i:Int) (t:Tok):nn (.inl i) (.int i t)=true:=by simp [nn,Value.isInt]
theorem sY (x:V2) (t:Tok):nn (.inr x) (.str x t)=true:=by simp [nn,Value.isStrOf]
theorem xU (a b:Int):decide ((Wa a:Key)=Wa b)=(a == b):=by
 by_cases e:a=b
 · subst e;simp
 · have h:¬ (Wa a:Key)=Wa b:=fun q=>e (Sum.inl.inj q);rw [decide_eq_false h];exact (beq_eq_false_iff_ne.mpr e).symm
theorem xz (a b:V2):decide ((Sum.inr a:Key)=Sum.inr b)=decide (a=b):=by
 by_cases e:a=b
 · subst e;simp
 · have h:¬ (Sum.inr a:Key)=Sum.inr b:=fun q=>e (Sum.inr.inj q);rw [decide_eq_false h,decide_eq_false e]
theorem xr (a:Int) (b:V2):decide ((Wa a:Key)=Sum.inr b)=false:=decide_eq_false (fun q=>nomatch q)
theorem xS (a:V2) (b:Int):decide ((Sum.inr a:Key)=Wa b)=false:=decide_eq_false (fun q=>nomatch q)
def aV (prog:V3) (w:Wg):PySem.KeyKind prog w Key where
 is:=nn
 hash:=zA w
 inj:=fun v a b ha hb=>by
  rcases bB ha with ⟨i,t,rfl,rfl⟩ | ⟨x,t,rfl,rfl⟩
  · rcases bB hb with ⟨j,u,rfl,e⟩ | ⟨y,u,rfl,e⟩
    · injection e with e1 _;rw [e1]
    · exact nomatch e
  · rcases bB hb with ⟨j,u,rfl,e⟩ | ⟨y,u,rfl,e⟩
    · exact nomatch e
    · injection e with e1 _;rw [e1]
 byValue:=fun k v h=>by
  rcases bB h with ⟨i,t,rfl,rfl⟩ | ⟨x,t,rfl,rfl⟩ <;> rfl
 pyHash:=fun hv h=>by
  rcases bB hv with ⟨i,t,rfl,rfl⟩ | ⟨x,t,rfl,rfl⟩
  · exact wpAny_pyHash_int h
  · exact wpAny_pyHash_str h
 eqBool:=fun hu hv h=>by
  rcases bB hu with ⟨i,t,rfl,rfl⟩ | ⟨x,t,rfl,rfl⟩
  · rcases bB hv with ⟨j,u,rfl,rfl⟩ | ⟨y,u,rfl,rfl⟩
    · rw [xU] at h;exact wpAny_eqBool_int h
    · rw [xr] at h;exact SeqAt.EqAt.int_str i t y u _ _ _ _ h
  · rcases bB hv with ⟨j,u,rfl,rfl⟩ | ⟨y,u,rfl,rfl⟩
    · rw [xS] at h;exact SeqAt.EqAt.str_int x t j u _ _ _ _ h
    · rw [xz] at h;exact wpAny_eqBool_str h
 «strs»:=fun k x t v h=>by
  rcases bB h with ⟨i,u,rfl,e⟩ | ⟨y,u,rfl,e⟩
  · exact nomatch e
  · injection e with e1 _;subst e1;cases v <;> rfl
theorem pd (prog:V3) (w:Wg) (i:Int) (t:Tok):(aV prog w).is (.inl i) (.int i t)=true:=tN i t
theorem pI (prog:V3) (w:Wg) (x:V2) (t:Tok):(aV prog w).is (.inr x) (.str x t)=true:=sY x t
end L2
namespace L2
open PySem PySem.Spec PyProof.Rows
set_option genInjectivity true in
inductive V where
 | non | bl (b:Bool) | int (i:Int) | str (x:V2) | byt (b:Array UInt8) | flt (b:UInt64) | ref (a:Vy) | ty (n:String)
 deriving DecidableEq
def RelV:V->VC->Prop
 | .non,u=>u=WV
 | .bl b,u=>u=Value.bool b
 | .int i,u=>∃ t,u=ZW i t
 | .str x,u=>∃ t,u=Value.str x t
 | .byt b,u=>∃ t,u=Value.bytes b t
 | .flt b,u=>∃ t,u=Value.float b t
 | .ref a,u=>u=Wj a
 | .ty n,u=>u=Value.type n
abbrev Vals:List V->List VC->Prop:=WD RelV
theorem Vals.length {xs:List V} {us:List VC} (r:Vals xs us):xs.length=us.length:=VU r
theorem Vals.get:∀ {xs:List V} {us:List VC} {i:Nat} {x:V},Vals xs us->xs[i]?=some x->∃ u,us[i]?=some u/\RelV x u
 | _,_,_,_,.nil,e=>by simp at e
 | _,_,0,_,.cons r _,e=>by simp at e;subst e;exact ⟨_,rfl,r⟩
 | _,_,i+1,x,.cons _ t,e=>by
   obtain ⟨u,h1,h2⟩:=Vals.get (i:=i) (x:=x) t (by simpa using e);exact ⟨u,by simpa using h1,h2⟩
theorem Vals.append:∀ {xs ys:List V} {us ws:List VC},Vals xs us->Vals ys ws->Vals (xs++ys) (us++ws)
 | _,_,_,_,.nil,s=>s
 | _,_,_,_,.cons r t,s=>.cons r (Vals.append t s)
theorem Vals.take:∀ {xs:List V} {us:List VC} (n:Nat),Vals xs us->Vals (xs.take n) (us.take n)
 | _,_,0,_=>.nil
 | _,_,_+1,.nil=>.nil
 | _,_,n+1,.cons r t=>.cons r (Vals.take n t)
theorem Vals.drop:∀ {xs:List V} {us:List VC} (n:Nat),Vals xs us->Vals (xs.drop n) (us.drop n)
 | _,_,0,r=>r
 | _,_,_+1,.nil=>.nil
 | _,_,n+1,.cons _ t=>Vals.drop n t
def RelO:Option V->Option VC->Prop
 | some v,some u=>RelV v u
 | none,none=>True
 | _,_=>False
def KV {κ:Type}:List (κ×V)->List (κ×VC)->Prop:=WD fun (p:κ×V) (q:κ×VC)=>p.1=q.1/\RelV p.2 q.2
def kV:Key->V
 | .inl i=>.int i
 | .inr x=>.str x
set_option genSizeOf true in
inductive HO where
 /-- a list -/
 | lst (xs:List V)
 /-- a tuple (never changes) -/
 | tup (xs:List V)
 /-- a dict GI keys are ints and texts;one GI keys are tuples of ints and texts (Bw empty one is both) -/
 | dK (kvs:List (Key×V)) | dT (kvs:List (List Key×V))
 /-- a set of ints: its members,its size -/
 | set (S:Int->Bool) (n:Nat)
 /-- an instance of Bw class at C,its dict at dx,its attributes -/
 | ins (C dx:Vy) (fs:List (V2×V))
 /-- Bw dict of Bw instance at x -/
 | own (x:Vy)
 /-- Bw dict of an exception -/
 | xd (fs:List (V2×V))
 /-- a bound method,f of x -/
 | met (f x:Vy)
 /-- a range object lo,lo+1,.. below hi -/
 | rng (lo hi:Int)
 /-- a thing QD is known to Bw object (Bw script;a dict while a loop walks it): read,never written while it is so -/
 | frz (o:Xn) (u:HO)
 /-- a code GJ table -/
 | tbl (ps:Array VC)
 /-- any other thing,by GK is true of its one object (a def of Oi own: QE a S n:=HO.ext fun h=>..) -/
 | ext (φ:WR->Prop)
abbrev Hp:=Vy->Option HO
def upd (H:Hp) (a:Vy) (o:HO):Hp:=fun b=>if b=a then some o else H b
theorem ad {H:Hp} {a:Vy} {o:HO}:upd H a o a=some o:=by unfold upd;rw [if_pos rfl]
theorem af {H:Hp} {a b:Vy} {o:HO} (h:b≠a):upd H a o b=H b:=by unfold upd;rw [if_neg h]
theorem nK {H:Hp} {a:Vy} {o u:HO}:upd (upd H a o) a u=upd H a u:=by
 funext b;unfold upd;split <;> rfl
theorem aJ {H:Hp} {a b:Vy} {o u:HO} (h:H a=some o) (h':H b=some u) (d:o≠u):a≠b:=by
 intro e;subst e;rw [h] at h';exact d (VZ h')
theorem av {H:Hp} {a b:Vy} {o:HO} (h:H a=some o) (h':H b=none):a≠b:=by
 intro e;subst e;rw [h] at h';cases h'
section
variable (P:V3) (w:Wg)
def ObjOk (H:Hp) (h:WR) (a:Vy):HO->Prop
 | .lst xs=>xs.length<=V1/\∃ (its:List VC) (n:Nat),Vals xs its/\h.get? a=some { cls:=.type "list",data:=.seq its.toArray n }
 | .tup xs=>xs.length<=V1/\∃ (its:List VC) (n:Nat),Vals xs its/\h.get? a=some { cls:=.type "tuple",data:=.seq its.toArray n }
 | .dK kvs=>kvs.length<=V1/\(a == XT)=false/\∃ vs,KV kvs vs/\h.DictOf (aV P w) a vs
 | .dT kvs=>kvs.length<=V1/\(a == XT)=false/\∃ xs:List (List Key×Vy×VC),
  WD (fun (p:List Key×V) (q:List Key×Vy×VC)=>p.1=q.1/\H q.2.1=some (.tup (p.1.map kV))/\RelV p.2 q.2.2) kvs xs ∧
  ∃ o es ep,h.get? a=some o/\o.ExactDict/\o.data=.dict es ep/\es.toList=xs.map (entryOfKey (ZV (aV P w)))/\(xs.map (·.1)).Nodup
 | .set S n=>h.SetOf (intKind P w) a S n
 | .ins C dx fs=>H dx=some (.own a)/\fs.length<=1000/\dx≠a/\h.get? a=some (X4 C dx) ∧
  ∃ mA,h.Ns1 dx mA/\(∀ f,RelO (fs.lookup f) (mA f))/\PySem.Within mA (fs.map (·.1))
 | .own _=>∃ o,h.get? a=some o
 | .xd fs=>∃ mA,h.Ns1 a mA/\∀ f,RelO (fs.lookup f) (mA f)
 | .rng lo hi=>∃ t u v,h.get? a=some { cls:=.type "range",data:=.fields #[.int lo t,.int hi u,.int 1 v] }
 | .frz o u=>h.get? a=some o/\ObjOk H h a u
 | .tbl ps=>h.get? a=some { cls:=.none,data:=.fields ps }
 | .met f x=>h.get? a=some (PySem.W.methodObj (.ref f) (.ref x))
 | .ext φ=>φ h/\(∃ o,h.get? a=some o)/\∀ h1 h2:WR,φ h1->(∀ o,h1.get? a=some o->h2.get? a=some o)->φ h2
def HOk (H:Hp) (h:WR):Prop:=∀ a o,H a=some o->ObjOk P w H h a o
end
section
variable {P:V3} {w:Wg} {H H':Hp} {h h':WR} {a:Vy} {o:HO}
theorem ObjOk.lt (x:ObjOk P w H h a o):a<h.objs.size:=by
 cases o with
 | lst xs=>obtain ⟨_,_,_,_,e⟩:=x;exact VX e
 | tup xs=>obtain ⟨_,_,_,_,e⟩:=x;exact VX e
 | dK kvs=>obtain ⟨_,_,_,_,o,_,_,e,_⟩:=x;exact VX e
 | dT kvs=>obtain ⟨_,_,_,_,o,_,_,e,_⟩:=x;exact VX e
 | set S n=>obtain ⟨o,_,_,_,e,_⟩:=x;exact VX e
 | ins C dx fs=>obtain ⟨_,_,_,e,_⟩:=x;exact VX e
 | own y=>obtain ⟨_,e⟩:=x;exact VX e
 | xd fs=>obtain ⟨_,⟨_,_,_,e,_⟩,_⟩:=x;exact VX e
 | rng lo hi=>obtain ⟨_,_,_,e⟩:=x;exact VX e
 | frz ob u=>obtain ⟨e,_⟩:=x;exact VX e
 | tbl ps=>exact VX (show h.get? a=some _ from x)
 | met f y=>exact VX (show h.get? a=some _ from x)
 | ext φ=>obtain ⟨_,⟨_,e⟩,_⟩:=x;exact VX e
theorem WD.mapP {α β:Type} {F G:α->β->Prop}:∀ {GL:List α} {GN:List β},WD F GL GN->(∀ a b,F a b->G a b)->WD G GL GN
 | _,_,.nil,_=>.nil
 | _,_,.cons r t,f=>.cons (f _ _ r) (WD.mapP t f)
theorem ObjOk.stay (x:ObjOk P w H h a o) (k:∀ b u,(b=a∨H b=some (.own a))->h.get? b=some u->h'.get? b=some u)
 (ho:∀ b,H b=some (.own a)->H' b=some (.own a)) (ht:∀ b xs,H b=some (.tup xs)->H' b=some (.tup xs)):ObjOk P w H' h' a o:=by
 induction o with
 | lst xs=>obtain ⟨z,its,n,r,e⟩:=x;exact ⟨z,its,n,r,k _ _ (.inl rfl) e⟩
 | tup xs=>obtain ⟨z,its,n,r,e⟩:=x;exact ⟨z,its,n,r,k _ _ (.inl rfl) e⟩
 | dK kvs=>obtain ⟨z,y,vs,r,ob,es,ep,e,c⟩:=x;exact ⟨z,y,vs,r,ob,es,ep,k _ _ (.inl rfl) e,c⟩
 | dT kvs =>
   obtain ⟨z,y,xs,r,ob,es,ep,e,c⟩:=x;exact ⟨z,y,xs,WD.mapP r fun p q z=>⟨z.1,ht _ _ z.2.1,z.2.2⟩,ob,es,ep,k _ _ (.inl rfl) e,c⟩
 | set S n=>obtain ⟨ob,es,ep,t,e,c⟩:=x;exact ⟨ob,es,ep,t,k _ _ (.inl rfl) e,c⟩
 | ins C dx fs =>
   obtain ⟨d,z,ne,e,mA,⟨od,es,ep,e2,c⟩,r⟩:=x;exact ⟨ho _ d,z,ne,k _ _ (.inl rfl) e,mA,⟨od,es,ep,k _ _ (.inr d) e2,c⟩,r⟩
 | own y=>obtain ⟨ob,e⟩:=x;exact ⟨ob,k _ _ (.inl rfl) e⟩
 | xd fs=>obtain ⟨mA,⟨od,es,ep,e,c⟩,r⟩:=x;exact ⟨mA,⟨od,es,ep,k _ _ (.inl rfl) e,c⟩,r⟩
 | rng lo hi=>obtain ⟨t,u,v,e⟩:=x;exact ⟨t,u,v,k _ _ (.inl rfl) e⟩
 | frz ob u ih=>obtain ⟨e,q⟩:=x;exact ⟨k _ _ (.inl rfl) e,ih q⟩
 | tbl ps =>
   have e:h.get? a=some { cls:=.none,data:=.fields ps }:=x;show h'.get? a=some { cls:=.none,data:=.fields ps };exact k a _ (.inl rfl) e
 | met f y =>
   have e:h.get? a=some (PySem.W.methodObj (.ref f) (.ref y)):=x;show h'.get? a=some (PySem.W.methodObj (.ref f) (.ref y));exact k a _ (.inl rfl) e
 | ext φ=>obtain ⟨p,⟨o,e⟩,st⟩:=x;exact ⟨st _ _ p fun o q=>k _ _ (.inl rfl) q,⟨o,k _ _ (.inl rfl) e⟩,st⟩
theorem HOk.lt (x:HOk P w H h) (e:H a=some o):a<h.objs.size:=(x a o e).lt
theorem HOk.fresh (x:HOk P w H h) (e:h.objs.size<=a):H a=none:=by
 cases q:H a with
 | none=>rfl
 | some u=>exact absurd (Wh (x.lt q) e) (Xd _)
theorem HOk.kept (x:HOk P w H h) (k:∀ b u,h.get? b=some u->h'.get? b=some u):HOk P w H h':=fun a o e =>
 (x a o e).stay (fun b u _ q=>k b u q) (fun _ q=>q) fun _ _ q=>q
theorem HOk.laid (x:HOk P w H h) (k:∀ b u,h.get? b=some u->h'.get? b=some u) (hp:h.objs.size<=a) (new:ObjOk P w (upd H a o) h' a o):HOk P w (upd H a o) h':=fun b u e=>by
 have hn:=x.fresh hp;by_cases hb:b=a
 · subst hb;rw [ad] at e;cases e;exact new
 · rw [af hb] at e;exact (x b u e).stay (fun c v _ q=>k c v q) (fun c q=>by rw [af (av q hn)];exact q) fun c xs q=>by rw [af (av q hn)];exact q
end
def Rd (H:Hp) (a:Vy) (u:HO):Prop:=H a=some u∨∃ o,H a=some (.frz o u)
theorem Rd.ok {P:V3} {w:Wg} {H:Hp} {h:WR} {a:Vy} {u:HO} (r:Rd H a u) (x:HOk P w H h):ObjOk P w H h a u:=by
 rcases r with r | ⟨o,r⟩
 · exact x a u r
 · obtain ⟨_,q⟩:=x a _ r;exact q
def Mut:Option HO->Prop
 | some (.lst _)=>True
 | some (.dK _)=>True
 | some (.dT _)=>True
 | some (.set _ _)=>True
 | some (.ins _ _ _)=>True
 | some (.ext _)=>True
 | _=>False
section
variable {P:V3} {w:Wg} {H:Hp} {h h':WR} {x e:Vy} {o':HO}
theorem HOk.write (ok:HOk P w H h) (mu:Mut (H x)) (he:e=x∨H e=some (.own x)) (k:∀ b u,b≠e->h.get? b=some u->h'.get? b=some u) (F6:∃ u,h'.get? e=some u)
 (new:ObjOk P w (upd H x o') h' x o'):HOk P w (upd H x o') h':=fun b u q=>by
 have GO:∀ c y,H c=some (.own y)->c≠x:=fun c y r z=>by subst z;rw [r] at mu;exact mu
 have Kk:∀ c xs,H c=some (.tup xs)->c≠x:=fun c xs r z=>by subst z;rw [r] at mu;exact mu
 by_cases hb:b=x
 · subst hb;rw [ad] at q;cases q;exact new
 · rw [af hb] at q;by_cases DK:b=e
   · have q':H b=some (.own x):=by
      rcases he with z | z
      · exact absurd (DK.trans z) hb
      · rw [DK];exact z
     rw [q] at q';cases q';obtain ⟨v,hv⟩:=F6;exact ⟨v,by rw [DK];exact hv⟩
   · refine (ok b u q).stay (fun c v hc r=>k c v ?_ r) (fun c r=>by rw [af (GO c b r)];exact r) fun c xs r=>by rw [af (Kk c xs r)];exact r
     rcases hc with rfl | hc
     · exact DK
     · rintro rfl;rcases he with z | z
       · exact GO c b hc z
       · rw [hc] at z;cases z;exact hb rfl
end
structure Un (fs ex:List Vy) (H H':Hp) (h h':WR):Prop where
 keep:∀ b o,h.get? b=some o->H b=none->b∉fs->b∉ex->h'.get? b=some o
 slot:∀ b o,h.get? b=some o->H b=none->b∈fs->b∉ex->∃ sl,h'.get? b=some { o with slots:=sl }
 free:∀ b o,h.get? b=some o->H b=none->b∉ex->H' b=none
 there:∀ b o,h.get? b=some o->b∉ex->∃ o',h'.get? b=some o'
 tups:∀ b xs,H b=some (.tup xs)->H' b=some (.tup xs)
 frzs:∀ b o u,H b=some (.frz o u)->H' b=some (.frz o u)
 tbls:∀ b ps,H b=some (.tbl ps)->∃ more,H' b=some (.tbl (ps++more))
section
variable {fs F7 ex Jt:List Vy} {H H1 H2:Hp} {h h1 h2 h':WR} {a x e:Vy} {o:HO}
theorem Un.any (u:Un fs ex H H1 h h1) {b:Vy} {ob:Xn} (q:h.get? b=some ob) (n:H b=none) (hx:b∉ex):∃ sl,h1.get? b=some { ob with slots:=sl }:=by
 by_cases hb:b∈fs
 · exact u.slot b ob q n hb hx
 · exact ⟨ob.slots,u.keep b ob q n hb hx⟩
theorem Un.kept (k:∀ b u,h.get? b=some u->h'.get? b=some u):Un fs ex H H h h' :=
 ⟨fun b ob q _ _ _=>k b ob q,fun b ob q _ _ _=>⟨ob.slots,k b ob q⟩,fun _ _ _ n _=>n,fun b ob q _=>⟨ob,k b ob q⟩,fun _ _ q=>q,fun _ _ _ q=>q,fun _ ps q=>⟨#[],by rw [q];simp⟩⟩
theorem Un.refl:Un fs ex H H h h:=Un.kept fun _ _ q=>q
theorem Un.laid (k:∀ b u,h.get? b=some u->h'.get? b=some u) (hp:h.objs.size<=a) (hn:H a=none):Un fs ex H (upd H a o) h h' where
 keep:=fun b u q _ _ _=>k b u q
 slot:=fun b u q _ _ _=>⟨u.slots,k b u q⟩
 free:=fun b u q n _=>by rw [af (Wm (Wh (VX q) hp))];exact n
 there:=fun b u q _=>⟨u,k b u q⟩
 tups:=fun b xs q=>by rw [af (av q hn)];exact q
 frzs:=fun b u xs q=>by rw [af (av q hn)];exact q
 tbls:=fun b ps q=>⟨#[],by rw [af (av q hn),q];simp⟩
theorem Un.write (mu:Mut (H x)) (he:e=x∨H e=some (.own x)) (k:∀ b u,b≠e->h.get? b=some u->h'.get? b=some u) (F6:∃ u,h'.get? e=some u):Un fs ex H (upd H x o) h h':=by
 have hx:∀ b,H b=none->b≠x:=fun b n z=>by subst z;rw [n] at mu;exact mu
 have hb:∀ b,H b=none->b≠e:=fun b n z=>by
  subst z;rcases he with r | r
  · exact hx b n r
  · rw [n] at r;cases r
 have hm:∀ b u,H b=some u->¬ Mut (some u)->b≠x:=fun b u q nm z=>by subst z;rw [q] at mu;exact nm mu
 refine ⟨fun b u q n _ _=>k b u (hb b n) q,fun b u q n _ _=>⟨u.slots,k b u (hb b n) q⟩,fun b u q n _=>by rw [af (hx b n)];exact n,fun b u q _=>?_,
  fun b xs q=>by rw [af (hm b _ q fun z=>z)];exact q,fun b u xs q=>by rw [af (hm b _ q fun z=>z)];exact q,fun b ps q=>⟨#[],by rw [af (hm b _ q fun z=>z),q];simp⟩⟩
 by_cases DK:b=e
 · subst DK;exact F6
 · exact ⟨u,k b u DK q⟩
end
def trk (h:WR) (H:Hp):List Vy:=(WT h.objs.size).filter fun a=>(H a).isSome
def oF (h:WR) (H:Hp):WR:=PySem.W.hideAll h (trk h H)
theorem tF (h:WR) (H:Hp):(oF h H).objs.size=h.objs.size:=PySem.W.hideAll_size _ _
theorem uE {h:WR} {H:Hp} {b:Vy} {o:Xn} (e:h.get? b=some o) (n:H b=none):(oF h H).get? b=some o :=
 PySem.W.hideAll_get _ e fun hm=>by
  have q:(H b).isSome=true:=(Zw.mp hm).2;rw [n] at q;simp at q
theorem vp {h:WR} {H:Hp} {b:Vy} {o:Xn} (e:(oF h H).get? b=some o):h.get? b=some o/\H b=none:=by
 have e':h.get? b=some o:=PySem.W.of_hideAll (trk h H) e;refine ⟨e',?_⟩;cases q:H b with
 | none=>rfl
 | some x =>
   have hm:b∈trk h H:=Zw.mpr ⟨YG.mpr (VX e'),by simp [q]⟩;have z:(oF h H).get? b=none:=PySem.W.hideAll_none (trk h H) hm;rw [z] at e;cases e
end L2
namespace L2
open PySem PySem.Spec PyProof.Rows
structure Mod (K:VB) (mg:V2->Option VC) (base:WR):Prop where
 kin:K.In base
 glob:base.Ns V6 mg
 blt:∃ mb,base.Ns builtinsNs mb/\∀ x:V2,x≠"__name__"->mb x=ZO x
 nolimit:base.NoLimit
set_option genInjectivity true in
structure Cx where
 prog:V3
 w:Wg
 K:VB
 mg:V2->Option VC
 base:WR
 A:Wn
 N:List V2
 s₀:VF
 H₀:Hp
 env:Env
 outer:List Env
 stack:List Env
 ex:List Vy
 fn:V2->Bool
 calm:Bool
 pn:List (Vy×Xn)
 xe:VC->VF->Prop
def frs (l:List Env):List Vy:=l.filterMap (·.frame)
abbrev Cx.fs (X:Cx):List Vy:=frs X.outer
def Vis (sc:Zf) (x:V2):Prop:=sc.names.lookup x=some .local∨sc.names.lookup x=some .cell∨sc.names.lookup x=some .free
def Loc (sc:Zf) (x:V2):Prop:=sc.names.lookup x=some .local∨sc.names.lookup x=some .cell
def Look (env:Env) (h:WR) (m:V2->Option VC) (x:V2) (u:VC):Prop :=
 (env.kindOf x=some .local/\m x=some u)∨((env.kindOf x=some .cell∨env.kindOf x=some .free)/\∃ c,env.cells.lookup x=some c/\h.IsCell c (some u))
structure Cx.Ok (X:Cx):Prop where
 mod:Mod X.K X.mg X.base
 kind:X.env.scope.kind=.function
 glob:X.env.globals=V6
 blt:X.env.builtins=builtinsNs
 above:X.s₀.heap.objs.size<=X.env.locals
 inj:∀ x y c,X.env.cells.lookup x=some c->X.env.cells.lookup y=some c->x=y
 has:∀ x,(X.env.kindOf x=some .cell∨X.env.kindOf x=some .free)->∃ c,X.env.cells.lookup x=some c
 cab:∀ x c,X.fn x=true->X.env.cells.lookup x=some c->X.s₀.heap.objs.size<=c
 hd:X.calm=true->X.A.handled=none
 frames:X.A.frames=some X.stack
 stk:X.stack=X.outer∨(X.stack=X.env::X.outer/\X.env.frame=some X.env.locals)
 exf:∀ b∈X.ex,b≠X.env.locals/\∀ x c,X.env.cells.lookup x=some c->c≠b
 bs:∀ b o,X.base.get? b=some o->X.s₀.heap.get? b=some o/\X.H₀ b=none
 bsz:X.base.objs.size<=X.s₀.heap.objs.size
 noex:∀ b o,X.base.get? b=some o->b∉X.ex
 exfs:∀ b∈X.ex,b∉X.fs
 funs:X.s₀.heap.FunFrames X.base X.outer
 frf:∀ b∈X.fs,X.H₀ b=none
structure Inv (X:Cx) (pins:List (Vy×Xn)) (σ:List (Option V)) (H:Hp) (s:VF):Prop where
 ok:X.Ok
 os:s.os=X.s₀.os
 bare:AllBare s.gens
 base:Un X.fs X.ex X.H₀ H X.s₀.heap s.heap
 loc:∃ m,s.heap.Ns X.env.locals m/\∀ (i:Nat) (x:V2) (v:V),X.N[i]?=some x->σ[i]?=some (some v)->Vis X.env.scope x->∃ u,RelV v u/\Look X.env s.heap m x u
 cell:∀ x c,X.env.cells.lookup x=some c->∃ v,s.heap.IsCell c v
 free:H X.env.locals=none
 freeC:∀ x c,X.env.cells.lookup x=some c->H c=none
 pin:∀ p∈X.pn++pins,s.heap.get? p.1=some p.2/\H p.1=none/\p.1≠X.env.locals/\p.1∉X.fs/\∀ v,p.2.data≠.cell v
 hok:HOk X.prog X.w H s.heap
 len:σ.length=X.N.length
section
variable {X:Cx} {pins:List (Vy×Xn)} {σ:List (Option V)} {H H':Hp} {s:VF} {h':WR}
theorem Cx.Ok.nofr (ok:X.Ok) {b:Vy} {o:Xn} (e:X.base.get? b=some o):b∉X.fs:=fun hb=>by
 have:=(ok.funs.mem hb).1;rw [e] at this;cases this
theorem Inv.bs (I:Inv X pins σ H s):∀ b o,X.base.get? b=some o->s.heap.get? b=some o/\H b=none:=fun b o e =>
 ⟨I.base.keep b o (I.ok.bs b o e).1 (I.ok.bs b o e).2 (I.ok.nofr e) (I.ok.noex b o e),I.base.free b o (I.ok.bs b o e).1 (I.ok.bs b o e).2 (I.ok.noex b o e)⟩
theorem Inv.bk (I:Inv X pins σ H s):∀ b o,X.base.get? b=some o->s.heap.get? b=some o:=fun b o e=>(I.bs b o e).1
theorem Inv.mod (I:Inv X pins σ H s):Mod X.K X.mg X.base:=I.ok.mod
theorem Inv.kIn (I:Inv X pins σ H s):X.K.In s.heap:=I.ok.mod.kin.keeps I.bk
theorem Inv.lt (I:Inv X pins σ H s):X.env.locals<s.heap.objs.size:=let ⟨_,hn,_⟩:=I.loc;hn.lt
theorem Inv.sz (I:Inv X pins σ H s):X.s₀.heap.objs.size<=s.heap.objs.size:=WI I.ok.above (YN I.lt)
theorem Inv.nofs (I:Inv X pins σ H s) {a:Vy} (h:s.heap.objs.size<=a):a∉X.fs:=fun hb=>by
 obtain ⟨_,o,ho,_⟩:=I.ok.funs.mem hb;exact absurd (Wh (VX ho) (WI I.sz h)) (Xd _)
theorem Inv.cne (I:Inv X pins σ H s):∀ x c,X.env.cells.lookup x=some c->c≠X.env.locals:=fun x c e z=>by
 obtain ⟨v,o,ho,hd⟩:=I.cell x c e;obtain ⟨m,⟨o',es,ep,CH,Kl,_⟩,_⟩:=I.loc;rw [z,CH] at ho;cases ho;rw [Kl] at hd;cases hd
theorem Inv.funs (I:Inv X pins σ H s):s.heap.FunFrames X.base X.outer:=by
 have all:∀ (l:List Env),(∀ b∈frs l,b∈X.fs)->X.s₀.heap.FunFrames X.base l->s.heap.FunFrames X.base l:=by
  intro l;induction l with
  | nil=>intro _ _;trivial
  | cons env r ih =>
    intro hs hl;obtain ⟨hk,⟨L,o,hf,hn,ho,hd⟩,hr⟩:=hl;have hL:L∈X.fs:=hs L (by unfold frs;rw [YV,hf];exact VI);obtain ⟨sl,e⟩:=I.base.slot L o ho (I.ok.frf L hL) hL fun z=>I.ok.exfs L z hL;exact ⟨hk,⟨L,_,hf,hn,e,hd⟩,ih (fun b hb=>hs b (by unfold frs;rw [YV,hf];exact Vv _ hb)) hr⟩
 exact all X.outer (fun _ hb=>hb) I.ok.funs
theorem Inv.stack (I:Inv X pins σ H s):s.heap.FunFrames X.base X.stack:=by
 rcases I.ok.stk with e | ⟨e,hf⟩
 · rw [e];exact I.funs
 · rw [e];obtain ⟨m,hn,_⟩:=I.loc;refine .cons (by rw [I.ok.kind];decide) hf hn ?_ I.funs;exact Heap.get?_none_of_le (WI I.ok.bsz I.ok.above)
theorem Inv.stkSub (I:Inv X pins σ H s):∀ b∈frs X.stack,b∈X.env.locals::X.fs:=fun b hb=>by
 rcases I.ok.stk with e | ⟨e,hf⟩
 · rw [e] at hb;exact Vv _ hb
 · rw [e] at hb;unfold frs at hb;rw [YV,hf] at hb;exact hb
theorem Inv.stkFree (I:Inv X pins σ H s):∀ b∈frs X.stack,H b=none:=fun b hb=>by
 rcases VP.mp (I.stkSub b hb) with e | hb
 · rw [e];exact I.free
 · obtain ⟨_,o,ho,_⟩:=I.ok.funs.mem hb;exact I.base.free b o ho (I.ok.frf b hb) fun z=>I.ok.exfs b z hb
theorem Inv.step {g':Array GenState} {t':Nat} {d':Drawn} {ch:List Vy} (I:Inv X pins σ H s)
 (BR:∀ b∈ch,(b∈X.ex∨X.s₀.heap.objs.size<=b)/\b≠X.env.locals/\(∀ x c,X.env.cells.lookup x=some c->c≠b)/\∀ p∈X.pn++pins,p.1≠b)
 (keep:∀ b o,b≠X.env.locals->b∉X.fs->b∉ch->s.heap.get? b=some o->H b=none->h'.get? b=some o)
 (slot:∀ b o,b≠X.env.locals->b∈X.fs->b∉ch->s.heap.get? b=some o->H b=none->∃ sl,h'.get? b=some { o with slots:=sl }) (free:∀ b o,b∉ch->s.heap.get? b=some o->H b=none->H' b=none)
 (there:∀ b o,b∉ch->s.heap.get? b=some o->∃ o',h'.get? b=some o')
 (tups:∀ b xs,H b=some (.tup xs)->H' b=some (.tup xs)) (frzs:∀ b o u,H b=some (.frz o u)->H' b=some (.frz o u)) (tbls:∀ b ps,H b=some (.tbl ps)->∃ more,H' b=some (.tbl (ps++more)))
 (ns:∀ m,s.heap.Ns X.env.locals m->h'.Ns X.env.locals m) (hok:HOk X.prog X.w H' h') (hg:AllBare g') :
 Inv X pins σ H' { s with heap:=h',gens:=g',drawn:=d',toks:=t' }:=by
 have Oj:∀ b o,X.s₀.heap.get? b=some o->b≠X.env.locals:=fun b o e=>Wm (Wh (VX e) I.ok.above)
 have Ju:∀ b o,X.s₀.heap.get? b=some o->b∉X.ex->b∉ch:=fun b o e hx hb=>by
  rcases (BR b hb).1 with z | z
  · exact hx z
  · exact absurd (Wh (VX e) z) (Xd _)
 have cellK:∀ x c,X.env.cells.lookup x=some c->∀ v,s.heap.IsCell c v->h'.IsCell c v:=fun x c e v ⟨o,ho,hd⟩=>by
  have GP:c∉ch:=fun z=>(BR c z).2.2.1 x c e rfl;by_cases hc:c∈X.fs
  · obtain ⟨sl,q⟩:=slot c o (I.cne x c e) hc GP ho (I.freeC x c e);exact ⟨_,q,hd⟩
  · exact ⟨o,keep c o (I.cne x c e) hc GP ho (I.freeC x c e),hd⟩
 refine ⟨I.ok,I.os,hg,⟨fun b o e n hb hx=>?_,fun b o e n hb hx=>?_,fun b o e n hx=>?_,fun b o e hx=>?_,fun b xs e=>tups b xs (I.base.tups b xs e),fun b o xs e=>frzs b o xs (I.base.frzs b o xs e),fun b ps e=>?_⟩,?_,fun x c e=>?_,?_,fun x c e=>?_,fun p hp=>?_,hok,I.len⟩
 · exact keep b o (Oj b o e) hb (Ju b o e hx) (I.base.keep b o e n hb hx) (I.base.free b o e n hx)
 · obtain ⟨sl,e1⟩:=I.base.slot b o e n hb hx;obtain ⟨QF,e2⟩:=slot b _ (Oj b o e) hb (Ju b o e hx) e1 (I.base.free b o e n hx);exact ⟨QF,e2⟩
 · obtain ⟨o',e1⟩:=I.base.there b o e hx;exact free b o' (Ju b o e hx) e1 (I.base.free b o e n hx)
 · obtain ⟨o',e1⟩:=I.base.there b o e hx;exact there b o' (Ju b o e hx) e1
 · obtain ⟨m1,e1⟩:=I.base.tbls b ps e;obtain ⟨m2,e2⟩:=tbls b _ e1;exact ⟨m1++m2,by rw [e2,Array.append_assoc]⟩
 · obtain ⟨m,hn,hl⟩:=I.loc;refine ⟨m,ns m hn,fun i x v e1 e2 e3=>?_⟩;obtain ⟨u,r,l⟩:=hl i x v e1 e2 e3;refine ⟨u,r,?_⟩;rcases l with l | ⟨k,c,e,z⟩
   · exact .inl l
   · exact .inr ⟨k,c,e,cellK x c e _ z⟩
 · obtain ⟨v,z⟩:=I.cell x c e;exact ⟨v,cellK x c e v z⟩
 · obtain ⟨m,⟨o,_,_,ho,_⟩,_⟩:=I.loc;exact free _ o (fun z=>(BR _ z).2.1 rfl) ho I.free
 · obtain ⟨v,o,ho,hd⟩:=I.cell x c e;exact free c o (fun z=>(BR c z).2.2.1 x c e rfl) ho (I.freeC x c e)
 · obtain ⟨e,n,ne,nf,d⟩:=I.pin p hp;have GP:p.1∉ch:=fun z=>(BR p.1 z).2.2.2 p hp rfl;exact ⟨keep p.1 p.2 ne nf GP e n,free p.1 p.2 GP e n,ne,nf,d⟩
theorem Inv.un {t':Nat} (I:Inv X pins σ H s) (u:Un X.fs [] H H' s.heap h') (hok:HOk X.prog X.w H' h'):Inv X pins σ H' { s with heap:=h',toks:=t' }:=by
 obtain ⟨m,⟨o,es,ep,ho,r⟩,_⟩:=id I.loc;obtain ⟨sl,hL⟩:=u.any ho I.free (by simp)
 exact I.step (g':=s.gens) (d':=s.drawn) (ch:=[]) (fun _ z=>nomatch z) (fun b o _ hb _ e n=>u.keep b o e n hb (by simp)) (fun b o _ hb _ e n=>u.slot b o e n hb (by simp)) (fun b o _ e n=>u.free b o e n (by simp)) (fun b o _ e=>u.there b o e (by simp)) u.tups u.frzs u.tbls (fun m' hm=>by
  obtain ⟨o',Ez,EA,CH,r'⟩:=hm;rw [ho] at CH;cases CH;exact ⟨_,Ez,EA,hL,r'⟩) hok I.bare
theorem Inv.call {g':Array GenState} {t':Nat} {d':Drawn} {ch:List Vy} (I:Inv X pins σ H s) (u:Un (frs X.stack) ch H H' s.heap h') (hok:HOk X.prog X.w H' h') (hg:AllBare g')
 (BR:∀ b∈ch,(b∈X.ex∨X.s₀.heap.objs.size<=b)/\b≠X.env.locals/\(∀ x c,X.env.cells.lookup x=some c->c≠b)/\∀ p∈X.pn++pins,p.1≠b) :
 Inv X pins σ H' { s with heap:=h',gens:=g',drawn:=d',toks:=t' }:=by
 obtain ⟨m,⟨o,es,ep,ho,r⟩,_⟩:=id I.loc;obtain ⟨sl,hL⟩:=u.any ho I.free fun z=>(BR _ z).2.1 rfl
 exact I.step (ch:=ch) BR (fun b o hL hb hc e n=>u.keep b o e n (fun z=>(VP.mp (I.stkSub b z)).elim hL hb) hc) (fun b o _ _ hc e n=>u.any e n hc) (fun b o hc e n=>u.free b o e n hc) (fun b o hc e=>u.there b o e hc) u.tups u.frzs u.tbls (fun m' hm=>by
  obtain ⟨o',Ez,EA,CH,r'⟩:=hm;rw [ho] at CH;cases CH;exact ⟨_,Ez,EA,hL,r'⟩) hok hg
theorem Inv.turned {t':Nat} {it:Vy} (I:Inv X pins σ H s) (k:∀ b o,b≠it->s.heap.get? b=some o->h'.get? b=some o) (hn:H it=none) (hL:it≠X.env.locals)
 (h1:it∈X.ex∨X.s₀.heap.objs.size<=it) (h2:∀ x c,X.env.cells.lookup x=some c->c≠it) (h3:∀ p∈X.pn++pins,p.1≠it):Inv X pins σ H { s with heap:=h',toks:=t' }:=by
 have GQ:∀ b u,H b=some u->b≠it:=fun b u e z=>by rw [z,hn] at e;cases e
 refine I.step (g':=s.gens) (d':=s.drawn) (ch:=[it]) (fun b hb=>?_) (fun b o _ _ hc e _=>k b o (fun z=>hc (by simp [z])) e) (fun b o _ _ hc e _=>⟨o.slots,k b o (fun z=>hc (by simp [z])) e⟩) (fun _ _ _ _ n=>n)
  (fun b o hc e=>⟨o,k b o (fun z=>hc (by simp [z])) e⟩) (fun _ _ e=>e) (fun _ _ _ e=>e) (fun b ps e=>⟨#[],by rw [e];simp⟩) (fun m hm=>?_) (fun b u e=>?_) I.bare
 · have e:b=it:=by simpa using hb
   subst e;exact ⟨h1,hL,h2,h3⟩
 · obtain ⟨o,es,ep,ho,r⟩:=hm;exact ⟨o,es,ep,k _ o (Y9 hL) ho,r⟩
 · refine (I.hok b u e).stay (fun c v hc q=>k c v ?_ q) (fun _ q=>q) fun _ _ q=>q;rcases hc with z | z
   · rw [z];exact GQ b u e
   · exact GQ c _ z
theorem Inv.tok (I:Inv X pins σ H s) (t:Nat):Inv X pins σ H { s with toks:=t }:=I.un (h':=s.heap) (t':=t) Un.refl I.hok
theorem Inv.kept {t':Nat} (I:Inv X pins σ H s) (k:∀ b u,s.heap.get? b=some u->h'.get? b=some u):Inv X pins σ H { s with heap:=h',toks:=t' }:=I.un (Un.kept k) (I.hok.kept k)
theorem Inv.laid {a:Vy} {o:HO} {t':Nat} (I:Inv X pins σ H s) (k:∀ b u,s.heap.get? b=some u->h'.get? b=some u) (hp:s.heap.objs.size<=a) (new:ObjOk X.prog X.w (upd H a o) h' a o) :
 Inv X pins σ (upd H a o) { s with heap:=h',toks:=t' }:=I.un (Un.laid k hp (I.hok.fresh hp)) (I.hok.laid k hp new)
theorem Inv.write {x e:Vy} {o:HO} {t':Nat} (I:Inv X pins σ H s) (mu:Mut (H x)) (he:e=x∨H e=some (.own x)) (k:∀ b u,b≠e->s.heap.get? b=some u->h'.get? b=some u) (F6:∃ u,h'.get? e=some u)
 (new:ObjOk X.prog X.w (upd H x o) h' x o):Inv X pins σ (upd H x o) { s with heap:=h',toks:=t' }:=I.un (Un.write mu he k F6) (I.hok.write mu he k F6 new)
theorem Inv.weak {zJ:List (Option V)} (I:Inv X pins σ H s) (hl:zJ.length=σ.length) (w:∀ (i:Nat) v,zJ[i]?=some (some v)->σ[i]?=some (some v)):Inv X pins zJ H s :=
 ⟨I.ok,I.os,I.bare,I.base,let ⟨m,hn,Bi⟩:=I.loc;⟨m,hn,fun i x v e1 e2 e3=>Bi i x v e1 (w i v e2) e3⟩,I.cell,I.free,I.freeC,I.pin,I.hok,hl.trans I.len⟩
theorem Inv.pins_of {EB:List (Vy×Xn)} (I:Inv X pins σ H s) (h:∀ p∈EB,s.heap.get? p.1=some p.2/\H p.1=none/\p.1≠X.env.locals/\p.1∉X.fs/\∀ v,p.2.data≠.cell v):Inv X EB σ H s :=
 ⟨I.ok,I.os,I.bare,I.base,I.loc,I.cell,I.free,I.freeC,fun p hp=>(VV.mp hp).elim (fun z=>I.pin p (V9 _ z)) (h p),I.hok,I.len⟩
theorem px {N:List V2} (hN:N.Nodup) {i j:Nat} {x:V2} (a:N[i]?=some x) (b:N[j]?=some x):i=j:=by
 obtain ⟨h1,e1⟩:=Vz.mp a;obtain ⟨h2,e2⟩:=Vz.mp b;exact (List.getElem_inj hN).mp (e1.trans e2.symm)
theorem nu {M:Model} {A:Wn} {E:VC->VF->Prop} {i:Nat} {x:V2} {v:V} {u:VC} {Q:Unit->VF->Prop} (I:Inv X pins σ H s) (hN:X.N.Nodup) (hi:X.N[i]?=some x) (hx:Loc X.env.scope x) (r:RelV v u)
 (h:∀ s',Inv X pins (σ.set i (some v)) H s'->(∃ a,WN a s.heap s'.heap/\(a=X.env.locals∨X.env.cells.lookup x=some a))->Q () s') (hf:X.fn x=true∨X.env.scope.names.lookup x=some .local:=by first | exact .inl rfl | exact .inr rfl | assumption):VT M A (storeName X.env x u) Q E s:=by
 obtain ⟨m,hn,hl⟩:=id I.loc;have Km:(X.env.scope.kind == .class || (X.env.scope.kind == .module && X.env.locals != X.env.globals))=false:=by rw [I.ok.kind];rfl
 have GR:i<σ.length:=by rw [I.len];exact (Vz.mp hi).1
 have cne:=I.cne
 have tracked:∀ {a:Vy} {h':WR},(∃ o,s.heap.get? a=some o/\H a=none)->WN a s.heap h'->HOk X.prog X.w H h':=fun {a h'} ha hs b ob e=>by
  obtain ⟨_,_,EC⟩:=ha;refine (I.hok b ob e).stay (fun c w' hc q=>(hs.2 c ?_).trans q) (fun _ q=>q) fun _ _ q=>q;rintro rfl;rcases hc with rfl | hc
  · rw [EC] at e;cases e
  · rw [EC] at hc;cases hc
 rcases hx with hk | hk
 · refine wpAny_storeName_local hk hn (fun h' Jv hs=>?_) Km;obtain ⟨oL,_,_,QG,_⟩:=id hn;refine h _ ⟨I.ok,I.os,I.bare,⟨fun b o e n hb hx=>?_,fun b o e n hb hx=>?_,I.base.free,fun b o e hx=>?_,I.base.tups,I.base.frzs,I.base.tbls⟩,⟨_,Jv,fun j y v' e1 e2 e3=>?_⟩,fun y c e=>?_,I.free,I.freeC,fun p hp=>?_,tracked ⟨oL,QG,I.free⟩ hs,by simpa using I.len⟩ ⟨_,hs,.inl rfl⟩
   · exact (hs.2 b (Wm (Wh (VX e) I.ok.above))).trans (I.base.keep b o e n hb hx)
   · obtain ⟨sl,e1⟩:=I.base.slot b o e n hb hx;exact ⟨sl,(hs.2 b (Wm (Wh (VX e) I.ok.above))).trans e1⟩
   · obtain ⟨o',e1⟩:=I.base.there b o e hx;exact ⟨o',(hs.2 b (Wm (Wh (VX e) I.ok.above))).trans e1⟩
   · by_cases hj:j=i
     · subst hj;rw [hi] at e1;cases e1;rw [W2 GR] at e2;cases e2;exact ⟨u,r,.inl ⟨hk,by simp⟩⟩
     · rw [XB (Y9 hj)] at e2;obtain ⟨u',r',q⟩:=hl j y v' e1 e2 e3;refine ⟨u',r',?_⟩;rcases q with ⟨k,e⟩ | ⟨k,c,e,z⟩
       · refine .inl ⟨k,?_⟩;have:y≠x:=fun e=>hj (px hN e1 (e ▸ hi));simp [this,e]
       · exact .inr ⟨k,c,e,z.sameBut hs (cne y c e)⟩
   · obtain ⟨w',z⟩:=I.cell y c e;exact ⟨w',z.sameBut hs (cne y c e)⟩
   · obtain ⟨e,n,ne,nf,d⟩:=I.pin p hp;exact ⟨(hs.2 p.1 ne).trans e,n,ne,nf,d⟩
 · have Kn:X.fn x=true:=by
    rcases hf with z | z
    · exact z
    · rw [z] at hk;cases hk
   obtain ⟨c,hc⟩:=I.ok.has x (.inl hk);obtain ⟨w',z⟩:=I.cell x c hc;refine wpAny_storeName_cell I.ok.kind hk hc z (fun h' AX hs=>?_);obtain ⟨oc,F8,Ko⟩:=id z;refine h { s with heap:=h' } ⟨I.ok,I.os,I.bare,⟨fun b o e n hb hx=>?_,fun b o e n hb hx=>?_,I.base.free,fun b o e hx=>?_,I.base.tups,I.base.frzs,I.base.tbls⟩,⟨m,hn.sameBut hs (Y9 (cne x c hc)),fun j y v' e1 e2 e3=>?_⟩,fun y c' e=>?_,I.free,I.freeC,fun p hp=>?_,tracked ⟨oc,F8,I.freeC x c hc⟩ hs,by simpa using I.len⟩ ⟨c,hs,.inr hc⟩
   · exact (hs.2 b (Wm (Wh (VX e) (I.ok.cab x c Kn hc)))).trans (I.base.keep b o e n hb hx)
   · obtain ⟨sl,e1⟩:=I.base.slot b o e n hb hx;exact ⟨sl,(hs.2 b (Wm (Wh (VX e) (I.ok.cab x c Kn hc)))).trans e1⟩
   · obtain ⟨o',e1⟩:=I.base.there b o e hx;exact ⟨o',(hs.2 b (Wm (Wh (VX e) (I.ok.cab x c Kn hc)))).trans e1⟩
   · by_cases hj:j=i
     · subst hj;rw [hi] at e1;cases e1;rw [W2 GR] at e2;cases e2;exact ⟨u,r,.inr ⟨.inl hk,c,hc,AX⟩⟩
     · rw [XB (Y9 hj)] at e2;obtain ⟨u',r',q⟩:=hl j y v' e1 e2 e3;refine ⟨u',r',?_⟩;rcases q with q | ⟨k,c',e,z'⟩
       · exact .inl q
       · refine .inr ⟨k,c',e,z'.sameBut hs ?_⟩;rintro rfl;exact hj (px hN e1 (I.ok.inj _ _ _ e hc ▸ hi))
   · by_cases ED:c'=c
     · subst ED;exact ⟨_,AX⟩
     · obtain ⟨w2,z2⟩:=I.cell y c' e;exact ⟨w2,z2.sameBut hs ED⟩
   · obtain ⟨e,n,ne,nf,d⟩:=I.pin p hp;refine ⟨(hs.2 p.1 ?_).trans e,n,ne,nf,d⟩;intro q;rw [q,F8] at e;have q':oc=p.2:=VZ e;exact d w' (by rw [<- q'];exact Ko)
theorem kO {M:Model} {A:Wn} {E:VC->VF->Prop} {i:Nat} {x:V2} {v:V} {u:VC} {Q:Unit->VF->Prop} (I:Inv X pins σ H s) (hN:X.N.Nodup) (hi:X.N[i]?=some x) (hx:Loc X.env.scope x) (r:RelV v u)
 (h:∀ s',Inv X pins (σ.set i (some v)) H s'->Q () s') (hf:X.fn x=true∨X.env.scope.names.lookup x=some .local:=by first | exact .inl rfl | exact .inr rfl | assumption):VT M A (storeName X.env x u) Q E s :=
 nu I hN hi hx r (fun s' I' _=>h s' I') hf
theorem Inv.call' {s':VF} {ch:List Vy} (I:Inv X pins σ H s) (ho:s'.os=s.os) (u:Un (frs X.stack) ch H H' s.heap s'.heap) (hok:HOk X.prog X.w H' s'.heap) (hg:AllBare s'.gens)
 (BR:∀ b∈ch,(b∈X.ex∨X.s₀.heap.objs.size<=b)/\b≠X.env.locals/\(∀ x c,X.env.cells.lookup x=some c->c≠b)/\∀ p∈X.pn++pins,p.1≠b):Inv X pins σ H' s':=by
 obtain ⟨h',g',d',t',o'⟩:=s';have e:o'=s.os:=ho;subst e;exact I.call (g':=g') (t':=t') (d':=d') u hok hg BR
end
abbrev XK:=VC->Option Vy->Hp->Prop
abbrev St:=List (Option V)
abbrev VK:=V->Hp->Prop
abbrev TE:=St->Hp->VK->Prop
abbrev TT:=St->Hp->(Bool->Hp->Prop)->Prop
abbrev TA:=St->Hp->(List V->Hp->Prop)->Prop
structure Ends where
 nx:St->Hp->Prop
 rt:VK
 bk:St->Hp->Prop:=fun _ _=>False
 ct:St->Hp->Prop:=fun _ _=>False
abbrev TS:=Ends->St->Hp->Prop
def EP (X:Cx) (pins:List (Vy×Xn)) (σ:St) (Q:VK) (u:VC) (s':VF):Prop:=∃ v H',Inv X pins σ H' s'/\RelV v u/\Q v H'
def TP (X:Cx) (pins:List (Vy×Xn)) (σ:St) (Q:Bool->Hp->Prop) (b:Bool) (s':VF):Prop:=∃ H',Inv X pins σ H' s'/\Q b H'
def AP (X:Cx) (pins:List (Vy×Xn)) (σ:St) (Q:List V->Hp->Prop) (us:List VC) (s':VF):Prop:=∃ vs H',Inv X pins σ H' s'/\Vals vs us/\Q vs H'
def SP (X:Cx) (pins:List (Vy×Xn)) (D:Ends) (f:Flow) (s':VF):Prop :=
 match f with
 | .next=>∃ zJ H',Inv X pins zJ H' s'/\D.nx zJ H'
 | .brk=>∃ zJ H',Inv X pins zJ H' s'/\D.bk zJ H'
 | .cont=>∃ zJ H',Inv X pins zJ H' s'/\D.ct zJ H'
 | .ret u=>∃ v zJ H',Inv X pins zJ H' s'/\RelV v u/\D.rt v H'
def PE (X:Cx) (e:WC) (t:TE):Prop :=
 ∀ (pins:List (Vy×Xn)) (s:VF) (σ:St) (H:Hp) (Q:VK),Inv X pins σ H s->t σ H Q->VT (Wb X.prog X.w) X.A (Xx e X.env) (EP X pins σ Q) X.xe s
def PT (X:Cx) (e:WC) (t:TT):Prop :=
 ∀ (pins:List (Vy×Xn)) (s:VF) (σ:St) (H:Hp) (Q:Bool->Hp->Prop),Inv X pins σ H s->t σ H Q->VT (Wb X.prog X.w) X.A (isTrue e X.env (Xx e X.env)) (TP X pins σ Q) X.xe s
def PW (X:Cx) (e:WC) (t:TT):Prop :=
 ∀ (whole:Sem VC) (pins:List (Vy×Xn)) (s:VF) (σ:St) (H:Hp) (Q:Bool->Hp->Prop),Inv X pins σ H s->t σ H Q->VT (Wb X.prog X.w) X.A (isTrue e X.env whole) (TP X pins σ Q) X.xe s
theorem PW.pt {X:Cx} {e:WC} {t:TT} (h:PW X e t):PT X e t:=h _
def PA (X:Cx) (es:List WC) (t:TA):Prop :=
 ∀ (pos:Zm) (pins:List (Vy×Xn)) (s:VF) (σ:St) (H:Hp) (Q:List V->Hp->Prop),Inv X pins σ H s->t σ H Q->VT (Wb X.prog X.w) X.A (spliced (YJ pos (Wr es X.env))) (AP X pins σ Q) X.xe s
def PS (X:Cx) (st:WZ) (t:TS):Prop :=
 ∀ (pins:List (Vy×Xn)) (s:VF) (σ:St) (H:Hp) (D:Ends),Inv X pins σ H s->t D σ H->VT (Wb X.prog X.w) X.A (exec st X.env) (SP X pins D) X.xe s
def PSs (X:Cx) (st:List WZ) (t:TS):Prop :=
 ∀ (pins:List (Vy×Xn)) (s:VF) (σ:St) (H:Hp) (D:Ends),Inv X pins σ H s->t D σ H->VT (Wb X.prog X.w) X.A (execs st X.env) (SP X pins D) X.xe s
theorem thn {α:Type} {t:Sem α} {Q Q':α->VF->Prop} {M:Model} {A:Wn} {E:VC->VF->Prop} {s:VF} (h:VT M A t Q E s) (hQ:∀ a s,Q a s->Q' a s):VT M A t Q' E s:=XE h hQ fun _ _ x=>x
end L2
namespace L2
open PySem PySem.Spec PyProof.Rows
section
variable {X:Cx}
inductive wv (i:Nat) (σ:St) (H:Hp) (Q:VK):Prop
 | mk (v:_) (zS:σ[i]?=some (some v)) (zT:Q v H):wv i σ H Q
def bC (i:Nat):TE:=wv i
def tC (v:V):TE:=fun _ H Q=>Q v H
theorem uF {i:Nat} {x:V2} {pos:Zm} (hN:X.N[i]?=some x) (hv:Vis X.env.scope x) (hd:(x == ("__debug__":V2))=false:=by decide) (CI:(x == ("__classdict__":V2))=false:=by decide):PE X (.Name x pos) (bC i):=by
 intro pins s σ H Q I h;obtain ⟨v,e,h⟩:=h;obtain ⟨m,hn,hl⟩:=I.loc;obtain ⟨u,r,l⟩:=hl i x v hN e hv;have fin:EP X pins σ Q u s:=⟨v,H,I,r,h⟩;rcases l with ⟨hk,hm⟩ | ⟨hk,c,hc,Co⟩
 · exact wpAny_Name (wpAny_loadName_local I.ok.kind hk hn hm fin) hd
 · rcases hk with hk | hk
   · exact wpAny_Name (wpAny_loadName_cell I.ok.kind hk hc Co fin) hd
   · exact wpAny_Name (wpAny_loadName_free I.ok.kind hk hc Co fin CI) hd
theorem am {i j pos}:PE X (.Constant (.int i) j pos) (tC (.int i)):=fun _ _ _ H _ I h=>wpAny_Constant_int ⟨.int i,H,I.tok _,⟨_,rfl⟩,h⟩
theorem iG {b j pos}:PE X (.Constant (.bool b) j pos) (tC (.bl b)):=fun _ _ _ H _ I h=>Constant_bool ⟨.bl b,H,I,rfl,h⟩
theorem eR {x j pos}:PE X (.Constant (.str x) j pos) (tC (.str x)):=fun _ _ _ H _ I h=>Calls.Constant_str ⟨.str x,H,I.tok _,⟨_,rfl⟩,h⟩
def Gl (X:Cx) (x:V2):Prop:=X.env.kindOf x=some .globalImplicit
theorem nI {E:VC->VF->Prop} {pins:List (Vy×Xn)} {s:VF} {σ:St} {H:Hp} {x:V2} {u:VC} {pos:Zm} {Q:VC->VF->Prop} (I:Inv X pins σ H s) (hg:Gl X x) (hm:X.mg x=some u) (h:Q u s)
 (hd:(x == ("__debug__":V2))=false:=by decide):VT (Wb X.prog X.w) X.A (Xx (.Name x pos) X.env) Q E s :=
 Calls.Name_function_global I.ok.kind hg (Calls.loadGlobal_global (by rw [I.ok.glob];exact I.mod.glob.keeps I.bk) hm h) hd
theorem eE {E:VC->VF->Prop} {pins:List (Vy×Xn)} {s:VF} {σ:St} {H:Hp} {x:V2} {u:VC} {pos:Zm} {Q:VC->VF->Prop} (I:Inv X pins σ H s) (hg:Gl X x) (hm:X.mg x=none) (hv:ZO x=some u) (h:Q u s)
 (hn:x≠"__name__":=by decide) (hd:(x == ("__debug__":V2))=false:=by decide):VT (Wb X.prog X.w) X.A (Xx (.Name x pos) X.env) Q E s:=by
 obtain ⟨mb,h1,h2⟩:=I.mod.blt;exact Calls.Name_function_global I.ok.kind hg (Calls.loadGlobal_builtin (by rw [I.ok.glob];exact I.mod.glob.keeps I.bk) hm (by rw [I.ok.blt];exact h1.keeps I.bk) ((h2 x hn).trans hv) h) hd
theorem bp {x:V2} {v:V} {u:VC} {pos:Zm} (hg:Gl X x) (hm:X.mg x=some u) (r:RelV v u) (hd:(x == ("__debug__":V2))=false:=by decide):PE X (.Name x pos) (tC v) :=
 fun _ _ _ H _ I h=>nI I hg hm ⟨v,H,I,r,h⟩ hd
theorem ki {x:V2} {v:V} {u:VC} {pos:Zm} (hg:Gl X x) (hm:X.mg x=none) (hv:ZO x=some u) (r:RelV v u) (hn:x≠"__name__":=by decide) (hd:(x == ("__debug__":V2))=false:=by decide):PE X (.Name x pos) (tC v) :=
 fun _ _ _ H _ I h=>eE I hg hm hv ⟨v,H,I,r,h⟩ hn hd
variable {a b:WC} {ta tb:TE} {pos:Zm}
def PC (X:Cx) (op:CmpOp) (a b:WC) (t:TE):Prop :=
 ∀ (pins:List (Vy×Xn)) (s:VF) (σ:St) (H:Hp) (Q:VK),Inv X pins σ H s->t σ H Q →
   VT (Wb X.prog X.w) X.A (Xx a X.env) (fun v zK=>VT (Wb X.prog X.w) X.A (Xx b X.env) (fun u AA=>VT (Wb X.prog X.w) X.A (Xp op v u) (EP X pins σ Q) X.xe AA) X.xe zK) X.xe s
def tB (t:TE):TT:=fun σ H Q=>t σ H fun x H1=>∃ c,x=.bl c/\Q c H1
theorem xM {op:CmpOp} {t:TE} (h:PC X op a b t) (h1:behindInMarks op b=false:=by first | exact GS _ (by decide) (by decide) | rfl):PT X (.Compare a [op] [b] pos) (tB t):=by
 intro pins s σ H Q I hw;refine wpAny_isTrue_Compare1 (thn (h pins s σ H _ I hw) fun v s1 h1=>thn h1 fun u s2 h2=>thn h2 fun c s3 ⟨x,H1,I1,r1,q1⟩=>?_) h1;obtain ⟨d,rfl,q⟩:=q1;cases r1;exact Xo ⟨H1,I1,q⟩
variable {tA Jw:TT} {rest:List WC}
def zt (t u:TT):TT:=fun σ H Q=>t σ H fun c H1=>if c=true then u σ H1 Q else Q false H1
def tOr (t u:TT):TT:=fun σ H Q=>t σ H fun c H1=>if c=true then Q true H1 else u σ H1 Q
def yT (t:TT):TT:=fun σ H Q=>t σ H fun c H1=>Q (!c) H1
theorem vZ (ha:PT X a tA):PW X (.BoolOp .And [a] pos) tA:=by
 intro wh pins s σ H Q I h;refine isTrue_and (thn (ha pins s σ H Q I h) fun c s1 e=>?_);cases c with
 | true=>exact isTrue_and_nil e
 | false=>exact e
theorem gS (ha:PT X a tA):PW X (.BoolOp .Or [a] pos) tA:=by
 intro wh pins s σ H Q I h;refine isTrue_or (thn (ha pins s σ H Q I h) fun c s1 e=>?_);cases c with
 | false=>exact isTrue_or_nil e
 | true=>exact e
theorem xx (ha:PT X a tA) (hb:PW X (.BoolOp .And (b::rest) pos) Jw):PW X (.BoolOp .And (a::b::rest) pos) (zt tA Jw):=by
 intro wh pins s σ H Q I h;refine isTrue_and (thn (ha pins s σ H _ I h) fun c s1 ⟨H1,I1,q1⟩=>?_);cases c with
 | true=>exact hb wh pins s1 σ H1 Q I1 q1
 | false=>exact ⟨H1,I1,q1⟩
theorem lG (ha:PT X a tA) (hb:PW X (.BoolOp .Or (b::rest) pos) Jw):PW X (.BoolOp .Or (a::b::rest) pos) (tOr tA Jw):=by
 intro wh pins s σ H Q I h;refine isTrue_or (thn (ha pins s σ H _ I h) fun c s1 ⟨H1,I1,q1⟩=>?_);cases c with
 | true=>exact ⟨H1,I1,q1⟩
 | false=>exact hb wh pins s1 σ H1 Q I1 q1
theorem dm (ha:PT X a tA):PT X (.UnaryOp .Not a pos) (yT tA):=by
 intro pins s σ H Q I h;exact isTrue_not (ha pins s σ H (fun c H1=>Q (!c) H1) I h)
def yI (ta tb:TE):TE:=fun σ H Q=>ta σ H fun x H1=>∃ c,x=.bl c/\if c=true then tb σ H1 Q else Q (.bl false) H1
def xY (ta:TE):TE:=fun σ H Q=>ta σ H fun x H1=>∃ c,x=.bl c/\Q (.bl (!c)) H1
theorem iY {op} {t:TE} (h:PE X a t):PE X (.BoolOp op [a] pos) t:=fun pins s σ H Q I hw=>BoolOp_one (h pins s σ H Q I hw)
theorem fh (ha:PE X a ta) (hb:PE X (.BoolOp .And (b::rest) pos) tb):PE X (.BoolOp .And (a::b::rest) pos) (yI ta tb):=by
 intro pins s σ H Q I h;refine BoolOp_and (thn (ha pins s σ H _ I h) fun v s1 ⟨x,H1,I1,r1,q1⟩=>?_);obtain ⟨c,rfl,q1⟩:=q1;cases r1;refine Xo ?_;cases c with
 | true=>exact hb pins s1 σ H1 Q I1 q1
 | false=>exact ⟨.bl false,H1,I1,rfl,q1⟩
theorem qF (ha:PE X a ta):PE X (.UnaryOp .Not a pos) (xY ta):=by
 intro pins s σ H Q I h;refine UnaryOp_ (thn (ha pins s σ H _ I h) fun v s1 ⟨x,H1,I1,r1,q1⟩=>?_);obtain ⟨c,rfl,q1⟩:=q1;cases r1;exact not_of (Xo ⟨.bl (!c),H1,I1,rfl,q1⟩)
end
end L2
namespace L2
open PySem PySem.Spec PyProof.Rows
def SqL (K:VB) (H:Hp) (a:Vy) (xs:List V):Prop :=
 Rd H a (.lst xs) ∨
  ∃ (o:Xn) (its:Array VC) (n:Nat),K.lookup a=some o/\o.cls=.type "list"/\o.dict=none/\o.data=.seq its n/\its.size<=V1/\Vals xs its.toList
def SqT (K:VB) (H:Hp) (a:Vy) (xs:List V):Prop :=
 Rd H a (.tup xs) ∨
  ∃ (o:Xn) (its:Array VC) (n:Nat),K.lookup a=some o/\o.cls=.type "tuple"/\o.data=.seq its n/\its.size<=V1/\Vals xs its.toList
def zi:VC->Option V
 | .none=>some .non
 | .bool b=>some (.bl b)
 | .int i _=>some (.int i)
 | .str x _=>some (.str x)
 | .bytes b _=>some (.byt b)
 | .float b _=>some (.flt b)
 | .ref a=>some (.ref a)
 | .type n=>some (.ty n)
 | _=>none
theorem RelV.abs {x:V} {u:VC} (r:RelV x u):zi u=some x:=by
 cases x with
 | non=>cases r;rfl
 | bl _=>cases r;rfl
 | int _=>obtain ⟨t,rfl⟩:=r;rfl
 | str _=>obtain ⟨t,rfl⟩:=r;rfl
 | byt _=>obtain ⟨t,rfl⟩:=r;rfl
 | flt _=>obtain ⟨t,rfl⟩:=r;rfl
 | ref _=>cases r;rfl
 | ty _=>cases r;rfl
theorem RelV.inj {x y:V} {u:VC} (r:RelV x u) (q:RelV y u):x=y:=VZ (r.abs.symm.trans q.abs)
theorem Vals.inj:∀ {xs ys:List V} {us:List VC},Vals xs us->Vals ys us->xs=ys
 | _,_,_,.nil,.nil=>rfl
 | _,_,_,.cons r t,.cons r' t'=>by rw [r.inj r',Vals.inj t t']
section
variable {X:Cx} {pins:List (Vy×Xn)} {σ:St} {H:Hp} {s:VF} {a:Vy} {xs ys:List V}
theorem SqL.of {K:VB} (h:H a=some (.lst xs)):SqL K H a xs:=.inl (.inl h)
theorem SqT.of {K:VB} (h:H a=some (.tup xs)):SqT K H a xs:=.inl (.inl h)
theorem Inv.list (I:Inv X pins σ H s) (h:SqL X.K H a xs):∃ its:List VC,Vals xs its/\PlainL s.heap a its.toArray/\xs.length<=V1:=by
 rcases h with h | ⟨o,its,n,hk,hc,hd,hs,hz,r⟩
 · obtain ⟨z,its,n,r,e⟩:=h.ok I.hok;exact ⟨its,r,⟨_,n,e,rfl,rfl,rfl⟩,z⟩
 · refine ⟨its.toList,r,⟨o,n,I.kIn a o hk,hc,hd,by simpa using hs⟩,?_⟩;have e:=r.length;simp only [V7] at e;omega
theorem Inv.tuple (I:Inv X pins σ H s) (h:SqT X.K H a xs):∃ its:List VC,Vals xs its/\IsTup s.heap a its.toArray/\xs.length<=V1:=by
 rcases h with h | ⟨o,its,n,hk,hc,hs,hz,r⟩
 · obtain ⟨z,its,n,r,p⟩:=h.ok I.hok;exact ⟨its,r,⟨_,p,rfl,n,rfl⟩,z⟩
 · refine ⟨its.toList,r,⟨o,I.kIn a o hk,hc,n,by simpa using hs⟩,?_⟩;have e:=r.length;simp only [V7] at e;omega
theorem Inv.list_inj (I:Inv X pins σ H s) (h:SqL X.K H a xs) (h':SqL X.K H a ys):xs=ys:=by
 obtain ⟨its,r,⟨o,n,e,_,_,d⟩,_⟩:=I.list h;obtain ⟨its',r',⟨o',n',e',_,_,d'⟩,_⟩:=I.list h';rw [e] at e';cases e';rw [d] at d';injection d' with d1 _;have:its=its':=by simpa using congrArg Array.toList d1
 subst this;exact r.inj r'
theorem Inv.tuple_inj (I:Inv X pins σ H s) (h:SqT X.K H a xs) (h':SqT X.K H a ys):xs=ys:=by
 obtain ⟨its,r,⟨o,e,_,n,d⟩,_⟩:=I.tuple h;obtain ⟨its',r',⟨o',e',_,n',d'⟩,_⟩:=I.tuple h';rw [e] at e';cases e';rw [d] at d';injection d' with d1 _;have:its=its':=by simpa using congrArg Array.toList d1
 subst this;exact r.inj r'
end
abbrev Cx.wish (X:Cx) (E:VC->VF->Prop):Cx:={ X with xe:=E }
abbrev Cx.nox (X:Cx):Cx:=X.wish fun _ _=>False
theorem Cx.Ok.wish {X:Cx} (ok:X.Ok) (E:VC->VF->Prop):(X.wish E).Ok :=
 ⟨ok.mod,ok.kind,ok.glob,ok.blt,ok.above,ok.inj,ok.has,ok.cab,ok.hd,ok.frames,ok.stk,ok.exf,ok.bs,ok.bsz,ok.noex,ok.exfs,ok.funs,ok.frf⟩
theorem Cx.Ok.unwish {X:Cx} {E:VC->VF->Prop} (ok:(X.wish E).Ok):X.Ok :=
 ⟨ok.mod,ok.kind,ok.glob,ok.blt,ok.above,ok.inj,ok.has,ok.cab,ok.hd,ok.frames,ok.stk,ok.exf,ok.bs,ok.bsz,ok.noex,ok.exfs,ok.funs,ok.frf⟩
section
variable {X:Cx} {pins:List (Vy×Xn)} {σ:St} {H:Hp} {s:VF} {E:VC->VF->Prop}
theorem Inv.wish (I:Inv X pins σ H s) (E:VC->VF->Prop):Inv (X.wish E) pins σ H s:=⟨I.ok.wish E,I.os,I.bare,I.base,I.loc,I.cell,I.free,I.freeC,I.pin,I.hok,I.len⟩
theorem Inv.unwish (I:Inv (X.wish E) pins σ H s):Inv X pins σ H s:=⟨I.ok.unwish,I.os,I.bare,I.base,I.loc,I.cell,I.free,I.freeC,I.pin,I.hok,I.len⟩
theorem SP.unwish {D:Ends} {f:Flow} {s':VF} (h:SP (X.wish E) pins D f s'):SP X pins D f s':=by
 cases f with
 | next=>obtain ⟨zJ,H',I,q⟩:=h;exact ⟨zJ,H',I.unwish,q⟩
 | brk=>obtain ⟨zJ,H',I,q⟩:=h;exact ⟨zJ,H',I.unwish,q⟩
 | cont=>obtain ⟨zJ,H',I,q⟩:=h;exact ⟨zJ,H',I.unwish,q⟩
 | ret u=>obtain ⟨v,zJ,H',I,r,q⟩:=h;exact ⟨v,zJ,H',I.unwish,r,q⟩
theorem PSs.nox {st:List WZ} {t:TS} (h:PSs X.nox st t):PSs X st t:=fun pins s σ H D I hw =>
 XE (h pins s σ H D (I.wish _) hw) (fun _ _ q=>q.unwish) fun _ _ z=>Xl z
end
section
variable {X:Cx} {st:WZ} {rest:List WZ} {t u:TS} {e:WC} {te:TE} {pos:Zm}
def wy:TS:=fun D σ H=>D.nx σ H
def vc (t u:TS):TS:=fun D σ H=>t { D with nx:=u D } σ H
theorem bv:PSs X [] wy:=fun _ _ σ H _ I h=>wpAny_execs_nil ⟨σ,H,I,h⟩
theorem ai (h1:PS X st t) (h2:PSs X rest u):PSs X (st::rest) (vc t u):=by
 intro pins s σ H D I h;refine wpAny_execs_cons (thn (h1 pins s σ H { D with nx:=u D } I h) fun f s1 q=>?_);cases f with
 | next =>
   obtain ⟨zJ,H',I',q⟩:=q;exact h2 pins s1 zJ H' D I' q
 | ret v=>exact q
 | brk=>exact q
 | cont=>exact q
theorem aj (h1:PS X st t):PSs X [st] t:=by
 intro pins s σ H D I h;refine wpAny_execs_cons (thn (h1 pins s σ H D I h) fun f s1 q=>?_);cases f with
 | next=>exact wpAny_execs_nil q
 | ret v=>exact q
 | brk=>exact q
 | cont=>exact q
theorem Inv.quiet {pins:List (Vy×Xn)} {σ:St} {H:Hp} {s:VF} (I:Inv X pins σ H s):interactive X.env=false:=by simp [interactive,I.ok.kind]
def wH (te:TE):TS:=fun D σ H=>te σ H fun _ H1=>D.nx σ H1
theorem bd (he:PE X e te) (hs:swapsWith e none pos.line X.env=pure false:=by rfl):PS X (.Expr e pos) (wH te):=by
 intro pins s σ H D I h;exact wpAny_Expr_any (thn (he pins s σ H _ I h) fun v s1 ⟨x,H1,I1,r1,q1⟩=>⟨σ,H1,I1,q1⟩) I.quiet hs
def zb (te:TE):TS:=fun D σ H=>te σ H D.rt
theorem aB (he:PE X e te):PS X (.Return (some e) pos) (zb te):=by
 intro pins s σ H D I h;exact wpAny_Return_some (thn (he pins s σ H _ I h) fun v s1 ⟨x,H1,I1,r1,q1⟩=>⟨x,σ,H1,I1,r1,q1⟩)
def yP (c:TT) (t u:TS):TS:=fun D σ H=>c σ H fun b H1=>if b=true then t D σ H1 else u D σ H1
theorem bW {c:WC} {a b:List WZ} {tc:TT} (hc:PT X c tc) (ha:PSs X a t) (hb:PSs X b u):PS X (.If c a b pos) (yP tc t u):=by
 intro pins s σ H D I h;refine wpAny_If (thn (hc pins s σ H _ I h) fun d s1 ⟨H1,I1,q1⟩=>?_);cases d with
 | true=>exact ha pins s1 σ H1 D I1 q1
 | false=>exact hb pins s1 σ H1 D I1 q1
def xJ:TS:=fun _ _ _=>False
theorem dU:PS X st xJ:=fun _ _ _ _ _ _ h=>h.elim
end
abbrev TG:=V->St->Hp->(St->Hp->Prop)->Prop
abbrev TGs:=List V->St->Hp->(St->Hp->Prop)->Prop
def PG (X:Cx) (target:WC) (t:TG):Prop :=
 ∀ (pins:List (Vy×Xn)) (s:VF) (σ:St) (H:Hp) (v:V) (u:VC) (Q:St->Hp->Prop),Inv X pins σ H s->RelV v u->t v σ H Q →
   VT (Wb X.prog X.w) X.A (assign target X.env u) (fun _ s'=>∃ zJ H',Inv X pins zJ H' s'/\Q zJ H') X.xe s
def PGs (X:Cx) (ts:List WC) (t:TGs):Prop :=
 ∀ (pins:List (Vy×Xn)) (s:VF) (σ:St) (H:Hp) (vs:List V) (us:List VC) (Q:St->Hp->Prop),Inv X pins σ H s->Vals vs us->t vs σ H Q →
   VT (Wb X.prog X.w) X.A (assignInOrder ((assignEach ts X.env).map (·.2)) us) (fun _ s'=>∃ zJ H',Inv X pins zJ H' s'/\Q zJ H') X.xe s
abbrev TIp:=V->V->Hp->VK->Prop
def PIp (X:Cx) (op:Operator) (t:TIp):Prop :=
 ∀ (pins:List (Vy×Xn)) (s:VF) (σ:St) (H:Hp) (x y:V) (v u:VC) (Q:VK),Inv X pins σ H s->RelV x v->RelV y u->t x y H Q →
   VT (Wb X.prog X.w) X.A (inplaceOp op v u) (EP X pins σ Q) X.xe s
section
variable {X:Cx} {pos:Zm}
def aD (i:Nat):TG:=fun v σ H Q=>Q (σ.set i (some v)) H
theorem ar {i:Nat} {x:V2} (hN:X.N.Nodup) (hi:X.N[i]?=some x) (hx:Loc X.env.scope x) (hf:X.fn x=true∨X.env.scope.names.lookup x=some .local:=by first | exact .inl rfl | exact .inr rfl | assumption):PG X (.Name x pos) (aD i):=by
 intro pins s σ H v u Q I r h;exact wpAny_assign_Name (kO I hN hi hx r (fun s' I'=>⟨_,H,I',h⟩) hf)
def pH:TGs:=fun vs σ H Q=>vs=[]/\Q σ H
def dG (t:TG) (u:TGs):TGs:=fun vs σ H Q=>∃ v r,vs=v::r/\t v σ H fun zJ H'=>u r zJ H' Q
theorem aR:PGs X [] pH:=by
 intro pins s σ H vs us Q I r h;obtain ⟨e,h⟩:=h;subst e;cases r;exact assignInOrder_nil ⟨σ,H,I,h⟩
theorem aw {e:WC} {es:List WC} {t:TG} {u:TGs} (h1:PG X e t) (h2:PGs X es u)
 (hs:(assignEach (e::es) X.env).map (·.2)=assign e X.env::(assignEach es X.env).map (·.2):=by rfl):PGs X (e::es) (dG t u):=by
 intro pins s σ H vs us Q I r h;obtain ⟨v,vr,e1,h⟩:=h;subst e1;cases r with
 | cons r rr =>
   rw [hs];refine assignInOrder_cons (thn (h1 pins s σ H _ _ _ I r h) fun _ s1 ⟨AN,H1,I1,q1⟩=>?_);exact h2 pins s1 AN H1 _ _ Q I1 rr q1
def qd (K:VB) (n:Nat) (t:TGs):TG:=fun v σ H Q=>∃ a xs,v=.ref a/\SqT K H a xs/\xs.length=n/\t xs σ H Q
theorem bm {es:List WC} {k:Nat} {t:TGs} {n:Nat} (hc:X.calm=true) (h:PGs X es t)
 (hn:(assignEach es X.env).length=n:=by rfl) (BZ:(assignEach es X.env).findIdx? (·.1)=none:=by rfl):PG X (.Tuple es k pos) (qd X.K n t):=by
 intro pins s σ H v u Q I r hw;obtain ⟨a,xs,e1,hq,hl,hw⟩:=hw;subst e1;cases r;obtain ⟨its,rv,ht,hz⟩:=I.tuple hq;refine assign_Tuple_tuple (I.ok.hd hc) ht (by simp [hn,<- hl,rv.length]) BZ fun h' hx=>?_;have I1:Inv X pins σ H { s with heap:=h' }:=I.kept (t':=s.toks) fun b o e=>hx b o (Wm (VX e)) e;exact h pins _ σ H xs _ Q I1 (by simpa using rv) hw
def xh (te:TE) (g:TG):TS:=fun D σ H=>te σ H fun x H1=>g x σ H1 D.nx
theorem fS {tg e:WC} {te:TE} {g:TG} (he:PE X e te) (hg:PG X tg g) (hs:swapsWithSole [tg] e pos.line X.env=pure false:=by rfl) (hw:swappedStores [tg] e X.env=pure none:=by rfl)
 (h1:(assignEach [tg] X.env).map (·.2)=[assign tg X.env]:=by rfl):PS X (.Assign [tg] e pos) (xh te g):=by
 intro pins s σ H D I h;refine wpAny_Assign_stores (thn (he pins s σ H _ I h) fun v s1 ⟨x,H1,I1,r1,q1⟩=>?_) hs hw;rw [h1];exact thn (hg pins s1 σ H1 x v _ I1 r1 q1) fun _ s2 q=>q
theorem aA {i:Nat} {x:V2} {e:WC} {te:TE} {pos':Zm} (hN:X.N.Nodup) (hi:X.N[i]?=some x) (hx:Loc X.env.scope x) (he:PE X e te) (hs:swapsWith e (some (.Name x pos')) pos.line X.env=pure false:=by rfl) (hf:X.fn x=true∨X.env.scope.names.lookup x=some .local:=by first | exact .inl rfl | exact .inr rfl | assumption) :
 PS X (.Assign [.Name x pos'] e pos) (xh te (aD i)):=by
 intro pins s σ H D I h;refine wpAny_Assign_Name (thn (he pins s σ H _ I h) fun v s1 ⟨y,H1,I1,r1,q1⟩=>?_) hs;exact kO I1 hN hi hx r1 (fun s2 I2=>⟨_,H1,I2,q1⟩) hf
def zD (i:Nat) (te:TE) (ti:TIp):TS:=fun D σ H=>∃ x,σ[i]?=some (some x)/\te σ H fun y H1=>ti x y H1 fun z H2=>D.nx (σ.set i (some z)) H2
theorem xW {i:Nat} {x:V2} {e:WC} {te:TE} {op:Operator} {ti:TIp} {pos':Zm} (hN:X.N.Nodup) (hi:X.N[i]?=some x) (hx:Loc X.env.scope x) (he:PE X e te) (ho:PIp X op ti) (hf:X.fn x=true∨X.env.scope.names.lookup x=some .local:=by first | exact .inl rfl | exact .inr rfl | assumption) :
 PS X (.AugAssign (.Name x pos') op e pos) (zD i te ti):=by
 intro pins s σ H D I h;obtain ⟨v,e1,h⟩:=h;obtain ⟨m,hn,hl⟩:=I.loc;have Ol:Vis X.env.scope x:=by rcases hx with k | k;exact .inl k;exact .inr (.inl k)
 obtain ⟨u,r,l⟩:=hl i x v hi e1 Ol;refine wpAny_AugAssign_Name ?_
 have go:VT (Wb X.prog X.w) X.A (Xx e X.env) (fun w AA=>VT (Wb X.prog X.w) X.A (inplaceOp op u w) (fun r Bx=>VT (Wb X.prog X.w) X.A (storeName X.env x r) (fun _=>SP X pins D .next) X.xe Bx) X.xe AA) X.xe s:=by
  refine thn (he pins s σ H _ I h) fun w s1 ⟨y,H1,I1,r1,q1⟩=>?_;refine thn (ho pins s1 σ H1 v y u w _ I1 r r1 q1) fun z s2 ⟨zv,H2,I2,r2,q2⟩=>?_;exact kO I2 hN hi hx r2 (fun s3 I3=>⟨_,H2,I3,q2⟩) hf
 rcases l with ⟨hk,hm⟩ | ⟨hk,c,hc,Co⟩
 · exact wpAny_loadName_local I.ok.kind hk hn hm go
 · rcases hk with hk | hk
   · exact wpAny_loadName_cell I.ok.kind hk hc Co go
   · rcases hx with k | k
     · have:X.env.scope.names.lookup x=some .free:=hk;rw [k] at this;cases this
     · have:X.env.scope.names.lookup x=some .free:=hk;rw [k] at this;cases this
def ipI (f:Int->Int->Int):TIp:=fun x y H Q=>∃ i j,x=.int i/\y=.int j/\Q (.int (f i j)) H
theorem xH:PIp X .Add (ipI fun i j=>i+j):=by
 intro pins s σ H x y v u Q I r1 r2 h;obtain ⟨i,j,e1,e2,q⟩:=h;subst e1;subst e2;obtain ⟨t,rfl⟩:=r1;obtain ⟨t',rfl⟩:=r2;exact iadd_int ⟨.int _,H,I.tok _,⟨_,rfl⟩,q⟩
end
section
variable {X:Cx} {pos:Zm}
def xI (c:TT) (tb:TS):TS:=fun D σ H=>∃ W:Nat->St->Hp->Prop,(∃ m,W m σ H)/\∀ m σ H,W m σ H →
 c σ H fun b H1=>if b=true then ∃ N:St->Hp->Prop,(∀ zJ H',N zJ H'->∃ m',m'<m/\W m' zJ H')/\tb { D with nx:=N,ct:=N,bk:=D.nx } σ H1 else D.nx σ H1
theorem cM {c:WC} {body:List WZ} {tc:TT} {tb:TS} (hp:PassesOwn (Wb X.prog X.w) X.A X.env X.xe) (hc:PT X c tc) (hb:PSs X body tb):PS X (.While c body [] pos) (xI tc tb):=by
 intro pins s σ H D I h;obtain ⟨W,⟨m0,w0⟩,turn⟩:=h;refine wpAny_While (codeAny_whileLoop (fun n s'=>∃ zJ H',Inv X pins zJ H' s'/\W n zJ H') ?_ m0 ⟨σ,H,I,w0⟩);rintro n s1 ⟨AN,H1,I1,w1⟩;refine YC hp (thn (hc pins s1 AN H1 _ I1 (turn n AN H1 w1)) fun b s2 ⟨H2,I2,q2⟩=>?_);cases b with
 | true =>
   obtain ⟨N,hN,q2⟩:=q2;rw [if_pos rfl];refine YC hp (thn (hb pins s2 AN H2 _ I2 q2) fun f s3 q3=>?_);cases f with
   | next =>
     obtain ⟨Dc,H3,I3,n3⟩:=q3;obtain ⟨m',hm,w3⟩:=hN Dc H3 n3;exact ⟨m',hm,Dc,H3,I3,w3⟩
   | cont =>
     obtain ⟨Dc,H3,I3,n3⟩:=q3;obtain ⟨m',hm,w3⟩:=hN Dc H3 n3;exact ⟨m',hm,Dc,H3,I3,w3⟩
   | brk=>exact q3
   | ret v=>exact q3
 | false =>
   rw [if_neg VS];exact wpAny_execs_nil ⟨AN,H2,I2,q2⟩
end
structure It where
 go:Nat->Hp->Prop
 yld:Nat->Hp->V->Hp->Prop
 stop:Nat->Hp->Prop
def iR (X:Cx) (pins:List (Vy×Xn)) (H:Hp) (b:Vy):Prop :=
 H b=none/\b≠X.env.locals/\b∉X.fs/\(b∈X.ex∨X.s₀.heap.objs.size<=b)/\(∀ x c,X.env.cells.lookup x=some c->c≠b)/\∀ p∈X.pn++pins,p.1≠b
theorem Inv.fpOk {X:Cx} {pins:List (Vy×Xn)} {σ:St} {H H':Hp} {s:VF} {b:Vy} (I:Inv X pins σ H s) (hb:s.heap.objs.size<=b) (hn:H' b=none):iR X pins H' b:=by
 refine ⟨hn,YM (Wh I.lt hb),I.nofs hb,.inr (WI I.sz hb),fun x c e z=>?_,fun p hp z=>?_⟩
 · obtain ⟨v,q⟩:=I.cell x c e;exact absurd (Wh q.lt (by rw [z];exact hb)) (Xd _)
 · exact absurd (Wh (VX (I.pin p hp).1) (by rw [z];exact hb)) (Xd _)
structure Turn (P:V3) (w:Wg) (K:VB) (tg:WC) (J:It) (fp:List Vy) (it:Vy) (tn:Nat->WR->Prop):Prop where
 mem:it∈fp
 obj:∀ i h,tn i h->∀ b∈fp,∃ o,h.get? b=some o/\∀ v,o.data≠.cell v
 keep:∀ i h h',tn i h->(∀ b∈fp,∀ o,h.get? b=some o->h'.get? b=some o)->tn i h'
 item:∀ (X:Cx),X.prog=P->X.w=w->X.K=K->X.calm=true->∀ (i:Nat) (pins:List (Vy×Xn)) (s:VF) (σ:St) (H:Hp) (E:VC->VF->Prop),Inv X pins σ H s->(∀ b∈fp,iR X pins H b)->tn i s.heap->J.go i H →
  VT (Wb P w) X.A (Ym (.ref it)) (fun r s1=>∃ u,r=some u ∧
   VT (Wb P w) X.A (letOwnedTupleGo tg (.ref it) u) (fun _ s2=>∃ x H',Inv X pins σ H' s2/\RelV x u/\J.yld i H x H'/\tn (i+1) s2.heap/\∀ b∈fp,H' b=none) E s1) E s
 done:∀ (X:Cx),X.prog=P->X.w=w->X.K=K->X.calm=true->∀ (i:Nat) (pins:List (Vy×Xn)) (s:VF) (σ:St) (H:Hp) (E:VC->VF->Prop),Inv X pins σ H s->(∀ b∈fp,iR X pins H b)->tn i s.heap->J.stop i H →
  VT (Wb P w) X.A (Ym (.ref it)) (fun r s1=>r=none/\Inv X pins σ H s1) E s
 self:∀ (A:Wn) (i:Nat) (s:VF) (Q:VC->VF->Prop) (E:VC->VF->Prop),tn i s.heap->Q (.ref it) s->VT (Wb P w) A (pyIter (.ref it)) Q E s
abbrev TI:=St->Hp->(It->Hp->Prop)->Prop
def PIE (X:Cx) (pins:List (Vy×Xn)) (σ:St) (tg:WC) (R:It->Hp->Prop) (Jx:VC) (s2:VF):Prop :=
 ∃ (it:Vy) (fp:List Vy) (tn:Nat->WR->Prop) (J:It) (H':Hp),Jx=.ref it/\Inv X pins σ H' s2/\Turn X.prog X.w X.K tg J fp it tn/\tn 0 s2.heap/\(∀ b∈fp,iR X pins H' b)/\R J H'
def PI (X:Cx) (tg iter:WC) (wi:TI):Prop :=
 ∀ (pins:List (Vy×Xn)) (s:VF) (σ:St) (H:Hp) (R:It->Hp->Prop),Inv X pins σ H s->wi σ H R →
   VT (Wb X.prog X.w) X.A (Xx iter X.env) (fun v s1=>VT (Wb X.prog X.w) X.A (pyIter v) (PIE X pins σ tg R) X.xe s1) X.xe s
theorem iN {M:Model} {A:Wn} {E:VC->VF->Prop} {s:VF} {tg:WC} {it:Vy} {u:VC} {o:Xn} {n:String} {vs:Array VC} {Q:Unit->VF->Prop} (ho:s.heap.get? it=some o) (hc:o.cls=.type n) (hd:o.data=.fields vs)
 (hn:["enumerate","zip","dict_itemiterator","dict_reverseitemiterator","odict_iterator","itertools.zip_longest","itertools.pairwise"].contains n=false) (hQ:Q () s):VT M A (letOwnedTupleGo tg (.ref it) u) Q E s:=by
 unfold letOwnedTupleGo
 cases tg <;> first
  | exact VE hQ
  | (cases u <;> first
   | exact VE hQ
   | (refine Vu (wpAny_load ho ?_)
      rw [hc,hd];show VT M A (if (["enumerate","zip","dict_itemiterator","dict_reverseitemiterator","odict_iterator","itertools.zip_longest","itertools.pairwise"].contains n && vs[0]? == some (XF _))=true then _ else _) Q E s;rw [if_neg (by intro h;rw [hn,Bool.false_and] at h;cases h)];exact VE hQ))
def Itl (K:VB) (a:Vy):It :=
 ⟨fun i H=>∃ xs x,SqL K H a xs/\xs[i]?=some x,fun i H x H'=>H'=H/\∀ xs,SqL K H a xs->xs[i]?=some x,fun i H=>∃ xs,SqL K H a xs/\xs.length<=i⟩
def Itt (K:VB) (a:Vy):It :=
 ⟨fun i H=>∃ xs x,SqT K H a xs/\xs[i]?=some x,fun i H x H'=>H'=H/\∀ xs,SqT K H a xs->xs[i]?=some x,fun i H=>∃ xs,SqT K H a xs/\xs.length<=i⟩
def Itr (lo:Int) (n:Nat):It:=⟨fun i _=>i<n,fun i H x H'=>H'=H/\x=.int (lo+i),fun i _=>n<=i⟩
theorem nB {P:V3} {w:Wg} {K:VB} {tg:WC} (a it:Vy):Turn P w K tg (Itl K a) [it] it (fun i h=>h.IsListIter it a i) where
 mem:=by simp
 obj:=fun i h st b hb=>by
  have e:b=it:=by simpa using hb
  subst e;obtain ⟨o,e,c,d⟩:=st;exact ⟨o,e,fun v z=>by rw [d] at z;cases z⟩
 keep:=fun i h h' st k=>st.at fun o e=>k it (by simp) o e
 item:=by
  intro X hP hw hK hc i pins s σ H E I hf st hg;subst hP hw hK;obtain ⟨xs,x,hq,hx⟩:=hg;obtain ⟨its,rv,p,hz⟩:=I.list hq;obtain ⟨u,hu,ru⟩:=rv.get hx;obtain ⟨f0,f1,f2,f3,f4,f5⟩:=hf it (by simp);refine wpAny_pyNext_list_item st p.isList (x:=u) (by simpa using hu) fun h' AG sb=>?_;have I1:Inv X pins σ H { s with heap:=h' }:=I.turned (t':=s.toks) (fun b o hb e=>(sb.2 b hb).trans e) f0 f1 f3 f4 f5;obtain ⟨o,e,c,d⟩:=id AG;exact ⟨u,rfl,iN (s:={ s with heap:=h' }) e c d (by decide) ⟨x,H,I1,ru,⟨rfl,fun ys hy=>by rw [I.list_inj hy hq];exact hx⟩,AG,fun b hb=>(hf b hb).1⟩⟩
 done:=by
  intro X hP hw hK hc i pins s σ H E I hf st hg;subst hP hw hK;obtain ⟨xs,hq,hx⟩:=hg;obtain ⟨its,rv,p,hz⟩:=I.list hq;obtain ⟨f0,f1,f2,f3,f4,f5⟩:=hf it (by simp);have hl:=rv.length;exact wpAny_pyNext_list_end (I.ok.hd hc) st p.isList (by simp;omega) fun h' eb=>⟨rfl,I.turned (t':=s.toks) (fun b o hb e=>eb b o hb e) f0 f1 f3 f4 f5⟩
 self:=fun _ _ _ _ _ st h=>wpAny_pyIter_listiter st h
theorem kX {P:V3} {w:Wg} {K:VB} {tg:WC} (a it:Vy):Turn P w K tg (Itt K a) [it] it (fun i h=>h.IsTupleIter it a i) where
 mem:=by simp
 obj:=fun i h st b hb=>by
  have e:b=it:=by simpa using hb
  subst e;obtain ⟨o,e,c,d⟩:=st;exact ⟨o,e,fun v z=>by rw [d] at z;cases z⟩
 keep:=fun i h h' st k=>st.at fun o e=>k it (by simp) o e
 item:=by
  intro X hP hw hK hc i pins s σ H E I hf st hg;subst hP hw hK;obtain ⟨xs,x,hq,hx⟩:=hg;obtain ⟨its,rv,p,hz⟩:=I.tuple hq;obtain ⟨u,hu,ru⟩:=rv.get hx;obtain ⟨f0,f1,f2,f3,f4,f5⟩:=hf it (by simp);refine wpAny_pyNext_tuple_item st (show s.heap.IsTuple a its.toArray from p) (x:=u) (by simpa using hu) fun h' AG sb=>?_;have I1:Inv X pins σ H { s with heap:=h' }:=I.turned (t':=s.toks) (fun b o hb e=>(sb.2 b hb).trans e) f0 f1 f3 f4 f5;obtain ⟨o,e,c,d⟩:=id AG;exact ⟨u,rfl,iN (s:={ s with heap:=h' }) e c d (by decide) ⟨x,H,I1,ru,⟨rfl,fun ys hy=>by rw [I.tuple_inj hy hq];exact hx⟩,AG,fun b hb=>(hf b hb).1⟩⟩
 done:=by
  intro X hP hw hK hc i pins s σ H E I hf st hg;subst hP hw hK;obtain ⟨xs,hq,hx⟩:=hg;obtain ⟨its,rv,p,hz⟩:=I.tuple hq;obtain ⟨f0,f1,f2,f3,f4,f5⟩:=hf it (by simp);have hl:=rv.length;exact wpAny_pyNext_tuple_end (I.ok.hd hc) st (show s.heap.IsTuple a its.toArray from p) (by simp;omega) fun h' eb=>⟨rfl,I.turned (t':=s.toks) (fun b o hb e=>eb b o hb e) f0 f1 f3 f4 f5⟩
 self:=fun _ _ _ _ _ st h=>wpAny_pyIter_tupleiter st h
theorem qY {P:V3} {w:Wg} {K:VB} {tg:WC} (it:Vy) (lo:Int) (n:Nat):Turn P w K tg (Itr lo n) [it] it (fun i h=>IsRangeIter h it (lo+(i:Nat) * 1) ((n:Int) - (i:Nat)) 1) where
 mem:=by simp
 obj:=fun i h st b hb=>by
  have e:b=it:=by simpa using hb
  subst e
  exact ⟨_,st,fun v z=>by
   have z':Data.fields _=Data.cell v:=z;cases z'⟩
 keep:=fun i h h' st k=>k it (by simp) _ st
 item:=by
  intro X hP hw hK hc i pins s σ H E I hf st hg;subst hP hw hK;obtain ⟨f0,f1,f2,f3,f4,f5⟩:=hf it (by simp);have W:=Walks.range (prog:=X.prog) (w:=X.w) (I.ok.hd hc) it lo 1 n;refine W.item i s _ _ hg st fun v h' tk hv AG kk=>?_;obtain ⟨t,rfl⟩:=hv;have I1:Inv X pins σ H { s with heap:=h',toks:=tk }:=I.turned (fun b o hb e=>kk b o (by simpa using hb) e) f0 f1 f3 f4 f5;refine ⟨_,rfl,iN (s:={ s with heap:=h',toks:=tk }) (n:="range_iterator") AG rfl rfl (by decide) ⟨.int (lo+i),H,I1,⟨t,?_⟩,⟨rfl,rfl⟩,AG,fun b hb=>(hf b hb).1⟩⟩;rw [Int.mul_one]
 done:=by
  intro X hP hw hK hc i pins s σ H E I hf st hg;subst hP hw hK;obtain ⟨f0,f1,f2,f3,f4,f5⟩:=hf it (by simp);exact wpAny_pyNext_range_end (I.ok.hd hc) st (by have:n<=i:=hg;omega) fun h' eb=>⟨rfl,I.turned (t':=s.toks) (fun b o hb e=>eb b o hb e) f0 f1 f3 f4 f5⟩
 self:=fun _ _ _ _ _ st h=>wpAny_pyIter_rangeiter st h
end L2
namespace L2
open PySem PySem.Spec PyProof.Rows
section
variable {X:Cx} {tg:WC}
def x9 (K:VB) (tl:TE):TI:=fun σ H R=>tl σ H fun x H1=>∃ a,x=.ref a/\(∃ xs,SqL K H1 a xs)/\R (Itl K a) H1
def zH (K:VB) (tl:TE):TI:=fun σ H R=>tl σ H fun x H1=>∃ a,x=.ref a/\(∃ xs,SqT K H1 a xs)/\R (Itt K a) H1
theorem cm {l:WC} {tl:TE} (hl:PE X l tl):PI X tg l (x9 X.K tl):=by
 intro pins s σ H R I h;refine thn (hl pins s σ H _ I h) fun v s1 ⟨x,H1,I1,r1,q1⟩=>?_;obtain ⟨a,e,⟨xs,hq⟩,q⟩:=q1;subst e;cases r1;obtain ⟨its,rv,p,hz⟩:=I1.list hq;refine Zp p.isList ?_;refine ⟨s1.heap.objs.size,[s1.heap.objs.size],_,_,H1,rfl,I1.kept (t':=s1.toks) fun b o e=>VA _ e,nB a _,⟨_,VH _ rfl,rfl,rfl⟩,fun b hb=>?_,q⟩;have e:b=s1.heap.objs.size:=by simpa using hb
 subst e;exact I1.fpOk (VG _) (I1.hok.fresh (VG _))
theorem cR {l:WC} {tl:TE} (hl:PE X l tl):PI X tg l (zH X.K tl):=by
 intro pins s σ H R I h;refine thn (hl pins s σ H _ I h) fun v s1 ⟨x,H1,I1,r1,q1⟩=>?_;obtain ⟨a,e,⟨xs,hq⟩,q⟩:=q1;subst e;cases r1;obtain ⟨its,rv,p,hz⟩:=I1.tuple hq;refine X6 (show s1.heap.IsTuple a its.toArray from p) ?_;refine ⟨s1.heap.objs.size,[s1.heap.objs.size],_,_,H1,rfl,I1.kept (t':=s1.toks) fun b o e=>VA _ e,kX a _,⟨_,VH _ rfl,rfl,rfl⟩,fun b hb=>?_,q⟩;have e:b=s1.heap.objs.size:=by simpa using hb
 subst e;exact I1.fpOk (VG _) (I1.hok.fresh (VG _))
theorem vd {pins:List (Vy×Xn)} {σ:St} {H:Hp} {s:VF} {R:It->Hp->Prop} {E:VC->VF->Prop} {lo hi:Int} {t u v:Tok} {tk:Nat} (I:Inv X pins σ H s) (h1:-(2 ^ 62)<=lo) (h2:lo<2 ^ 62) (h3:-(2 ^ 62)<=hi) (h4:hi<2 ^ 62)
 (q:R (Itr lo (hi - lo).toNat) H):VT (Wb X.prog X.w) X.A (pyIter (.ref s.heap.objs.size)) (PIE X pins σ tg R) E { s with heap:=s.heap.push { cls:=.type "range",data:=.fields #[.int lo t,.int hi u,.int 1 v] },toks:=tk }:=by
 refine wpAny_pyIter_range (IsRange.new ..) (small_one h1 h2 h3 h4) ?_;have I1:Inv X pins σ H { s with heap:=s.heap.push { cls:=.type "range",data:=.fields #[.int lo t,.int hi u,.int 1 v] },toks:=tk }:=I.kept fun b o e=>VA _ e
 refine ⟨(s.heap.push { cls:=.type "range",data:=.fields #[.int lo t,.int hi u,.int 1 v] }).objs.size,[(s.heap.push { cls:=.type "range",data:=.fields #[.int lo t,.int hi u,.int 1 v] }).objs.size],_,_,H,rfl,
  I1.kept (t':=tk) fun b o e=>VA _ e,qY _ lo (hi - lo).toNat,?_,fun b hb=>?_,q⟩
 · have e1:lo+((0:Nat):Int) * 1=lo:=by simp
   have e2:(((hi - lo).toNat:Nat):Int) - ((0:Nat):Int)=Builtin.Range.rangeSize lo hi 1:=by rw [rangeSize_one];split <;> omega
   show IsRangeIter _ _ (lo+((0:Nat):Int) * 1) ((((hi - lo).toNat:Nat):Int) - ((0:Nat):Int)) 1;rw [e1,e2];exact VH _ rfl
 · have e:b=(s.heap.push { cls:=.type "range",data:=.fields #[.int lo t,.int hi u,.int 1 v] }).objs.size:=by simpa using hb
   subst e;exact I1.fpOk (VG _) (I1.hok.fresh (VG _))
def yh (ta:TA):TI:=fun σ H R=>ta σ H fun vs H1=>∃ j:Int,vs=[.int j]/\-(2 ^ 62)<=j/\j<2 ^ 62/\R (Itr 0 j.toNat) H1
theorem d4 {a:WC} {ta:TA} {p pos:Zm} (hg:Gl X "range") (hm:X.mg "range"=none) (ha:PA X [a] ta) (hs:Wr [a] X.env=[(false,Xx a X.env)]:=by rfl):PI X tg (.Call (.Name "range" p) [a] [] pos) (yh ta):=by
 intro pins s σ H R I h;refine Call_ (eE I hg hm boot_range (W6 (thn (ha pos pins s σ H _ I h) fun us s1 ⟨vs,H1,I1,r1,q1⟩=>?_) hs rfl));obtain ⟨j,e,q1,q2,q⟩:=q1;subst e;cases r1 with
 | cons r rr =>
   cases rr;obtain ⟨t,rfl⟩:=r;exact call_range_1 (vd I1 (by omega) (by omega) q1 q2 (by simpa using q))
def zw (wi:TI) (g:TG) (tb:TS):TS:=fun D σ H=>wi σ H fun J H1=>∃ W:Nat->Nat->St->Hp->Prop,(∃ m,W 0 m σ H1)/\∀ i m σ H,W i m σ H →
 (J.stop i H/\D.nx σ H)∨(J.go i H/\∃ N:St->Hp->Prop,(∀ zJ H',N zJ H'->∃ m',m'<m/\W (i+1) m' zJ H')/\∀ x H',J.yld i H x H'->g x σ H' fun zU H2=>tb { D with nx:=N,ct:=N,bk:=D.nx } zU H2)
def kY (fp:List Vy) (h:WR):List (Vy×Xn):=fp.filterMap fun b=>(h.get? b).map fun o=>(b,o)
theorem ej {fp:List Vy} {h:WR} {b:Vy} {o:Xn} (hb:b∈fp) (e:h.get? b=some o):(b,o)∈kY fp h:=List.mem_filterMap.mpr ⟨b,hb,by rw [e];rfl⟩
theorem tJ {fp:List Vy} {h:WR} {p:Vy×Xn} (hp:p∈kY fp h):p.1∈fp/\h.get? p.1=some p.2:=by
 obtain ⟨b,hb,e⟩:=List.mem_filterMap.mp hp;cases q:h.get? b with
 | none=>rw [q] at e;cases e
 | some o =>
   rw [q] at e;have e':(b,o)=p:=VZ e;subst e';exact ⟨hb,q⟩
theorem Inv.pinned {pins:List (Vy×Xn)} {σ:St} {H:Hp} {s:VF} {fp:List Vy} (I:Inv X pins σ H s) (hf:∀ b∈fp,iR X pins H b) (ho:∀ b∈fp,∃ o,s.heap.get? b=some o/\∀ v,o.data≠.cell v):Inv X (pins++kY fp s.heap) σ H s :=
 I.pins_of fun p hp=>(VV.mp hp).elim (fun z=>I.pin p (V5 _ z)) fun z=>by
  obtain ⟨hb,e⟩:=tJ z;obtain ⟨f0,f1,f2,_⟩:=hf p.1 hb;obtain ⟨o,e',d⟩:=ho p.1 hb;rw [e] at e';cases e';exact ⟨e,f0,f1,f2,d⟩
theorem Inv.unpinned {pins pl:List (Vy×Xn)} {σ:St} {H:Hp} {s:VF} (I:Inv X (pins++pl) σ H s):Inv X pins σ H s:=I.pins_of fun p hp=>I.pin p (V5 _ (V9 _ hp))
theorem bN {iter:WC} {body:List WZ} {wi:TI} {g:TG} {tb:TS} {pos:Zm} (hp:PassesOwn (Wb X.prog X.w) X.A X.env X.xe) (hc:X.calm=true) (hi:PI X tg iter wi) (hg:PG X tg g) (hb:PSs X body tb)
 (hs:∀ x,foldedSetIterable iter X.env x=pure x:=by intro _;rfl):PS X (.For tg iter body [] pos) (zw wi g tb):=by
 intro pins s σ H D I h;refine wpAny_For (thn (hi pins s σ H _ I h) fun v s1 h1=>thn h1 fun Jx s2 h2=>?_) hs;obtain ⟨it,fp,tn,J,H2,e,I2,T,E8,f2,W,⟨m0,w0⟩,turn⟩:=h2;subst e
 -- GK stays true of Bw E9 objects through Bw loop
 have B0:∀ {H':Hp},(∀ b∈fp,H' b=none)->∀ b∈fp,iR X pins H' b:=fun hn b hb=>⟨hn b hb,(f2 b hb).2⟩;refine codeAny_forLoop_any (fun n s'=>∃ i zJ H',Inv X pins zJ H' s'/\tn i s'.heap/\(∀ b∈fp,H' b=none)/\W i n zJ H') ?_ m0 ⟨0,σ,H2,I2,E8,fun b hb=>(f2 b hb).1,w0⟩;rintro n s3 ⟨i,Dc,H3,I3,Om,EE,w3⟩;rcases turn i n Dc H3 w3 with ⟨stop,qn⟩ | ⟨go,N,hN,step⟩
 · refine YC hp (thn (T.done X rfl rfl rfl hc i pins s3 Dc H3 X.xe I3 (B0 EE) Om stop) fun r s4 ⟨hr,I4⟩=>?_);subst hr;exact wpAny_execs_nil ⟨Dc,H3,I4,qn⟩
 · refine YC hp (thn (T.item X rfl rfl rfl hc i pins s3 Dc H3 X.xe I3 (B0 EE) Om go) fun r s4 ⟨u,hr,h4⟩=>?_);subst hr;refine YC hp (thn h4 fun _ s5 ⟨x,H5,I5,r5,y5,F9,DU⟩=>?_);have QH:=I5.pinned (B0 DU) (T.obj _ _ F9);refine YC hp (thn (hg _ s5 Dc H5 x u _ QH r5 (step x H5 y5)) fun _ s6 ⟨QI,H6,I6,q6⟩=>?_);refine YC hp (thn (hb _ s6 QI H6 _ I6 q6) fun f s7 q7=>?_)
   have again:∀ {Dd:St} {H7:Hp},Inv X (pins++kY fp s5.heap) Dd H7 s7->N Dd H7->∃ m,m<n/\∃ i zJ H',Inv X pins zJ H' s7/\tn i s7.heap/\(∀ b∈fp,H' b=none)/\W i m zJ H':=fun {Dd H7} I7 n7=>by
    obtain ⟨m',hm,w7⟩:=hN Dd H7 n7;refine ⟨m',hm,i+1,Dd,H7,I7.unpinned,T.keep _ _ _ F9 fun b hb o e=>(I7.pin (b,o) (V5 _ (V5 _ (ej hb e)))).1,fun b hb=>?_,w7⟩;obtain ⟨o,e,d⟩:=T.obj _ _ F9 b hb;exact (I7.pin (b,o) (V5 _ (V5 _ (ej hb e)))).2.1
   cases f with
   | next=>obtain ⟨Dd,H7,I7,n7⟩:=q7;exact again I7 n7
   | cont=>obtain ⟨Dd,H7,I7,n7⟩:=q7;exact again I7 n7
   | brk=>obtain ⟨Dd,H7,I7,q7⟩:=q7;exact ⟨Dd,H7,I7.unpinned,q7⟩
   | ret v=>obtain ⟨x7,Dd,H7,I7,r7,q7⟩:=q7;exact ⟨x7,Dd,H7,I7.unpinned,r7,q7⟩
end
theorem fN {K:VB} {a:Vy} {xs:List V} {g:TG} {tb:TS} {D:Ends} {σ:St} {H:Hp} (Pv:Nat->St->Hp->Prop) (h0:Pv 0 σ H) (hl:∀ i σ H,i<=xs.length->Pv i σ H->SqL K H a xs)
 (hs:∀ i x σ H,xs[i]?=some x->Pv i σ H->g x σ H fun zU H2=>tb { D with nx:=Pv (i+1),ct:=Pv (i+1),bk:=D.nx } zU H2) (hd:∀ σ H,Pv xs.length σ H->D.nx σ H) :
 ∃ W:Nat->Nat->St->Hp->Prop,(∃ m,W 0 m σ H)/\∀ i m σ H,W i m σ H →
   ((Itl K a).stop i H/\D.nx σ H)∨((Itl K a).go i H/\∃ N:St->Hp->Prop,(∀ zJ H',N zJ H'->∃ m',m'<m/\W (i+1) m' zJ H')/\∀ x H',(Itl K a).yld i H x H'->g x σ H' fun zU H2=>tb { D with nx:=N,ct:=N,bk:=D.nx } zU H2):=by
 refine ⟨fun i m σ H=>m=xs.length - i/\i<=xs.length/\Pv i σ H,⟨xs.length,by simp,Wc _,h0⟩,?_⟩;rintro i m σ H ⟨rfl,hi,p⟩;have q:=hl i σ H hi p;by_cases zV:i<xs.length
 · refine .inr ⟨⟨xs,xs[i],q,by simp [zV]⟩,Pv (i+1),fun zJ H' p'=>⟨xs.length - (i+1),by omega,rfl,zV,p'⟩,fun x H' y=>?_⟩;obtain ⟨e,y⟩:=y;subst e;exact hs i x σ _ (y xs q) p
 · have e:i=xs.length:=by omega
   subst e;exact .inl ⟨⟨xs,q,VG _⟩,hd σ H p⟩
theorem oA {K:VB} {a:Vy} {xs:List V} {g:TG} {tb:TS} {D:Ends} {σ:St} {H:Hp} (Pv:Nat->St->Hp->Prop) (h0:Pv 0 σ H) (hl:∀ i σ H,i<=xs.length->Pv i σ H->SqT K H a xs)
 (hs:∀ i x σ H,xs[i]?=some x->Pv i σ H->g x σ H fun zU H2=>tb { D with nx:=Pv (i+1),ct:=Pv (i+1),bk:=D.nx } zU H2) (hd:∀ σ H,Pv xs.length σ H->D.nx σ H) :
 ∃ W:Nat->Nat->St->Hp->Prop,(∃ m,W 0 m σ H)/\∀ i m σ H,W i m σ H →
   ((Itt K a).stop i H/\D.nx σ H)∨((Itt K a).go i H/\∃ N:St->Hp->Prop,(∀ zJ H',N zJ H'->∃ m',m'<m/\W (i+1) m' zJ H')/\∀ x H',(Itt K a).yld i H x H'->g x σ H' fun zU H2=>tb { D with nx:=N,ct:=N,bk:=D.nx } zU H2):=by
 refine ⟨fun i m σ H=>m=xs.length - i/\i<=xs.length/\Pv i σ H,⟨xs.length,by simp,Wc _,h0⟩,?_⟩;rintro i m σ H ⟨rfl,hi,p⟩;have q:=hl i σ H hi p;by_cases zV:i<xs.length
 · refine .inr ⟨⟨xs,xs[i],q,by simp [zV]⟩,Pv (i+1),fun zJ H' p'=>⟨xs.length - (i+1),by omega,rfl,zV,p'⟩,fun x H' y=>?_⟩;obtain ⟨e,y⟩:=y;subst e;exact hs i x σ _ (y xs q) p
 · have e:i=xs.length:=by omega
   subst e;exact .inl ⟨⟨xs,q,VG _⟩,hd σ H p⟩
theorem mE {lo:Int} {n:Nat} {g:TG} {tb:TS} {D:Ends} {σ:St} {H:Hp} (Pv:Nat->St->Hp->Prop) (h0:Pv 0 σ H)
 (hs:∀ i σ H,i<n->Pv i σ H->g (.int (lo+i)) σ H fun zU H2=>tb { D with nx:=Pv (i+1),ct:=Pv (i+1),bk:=D.nx } zU H2) (hd:∀ σ H,Pv n σ H->D.nx σ H) :
 ∃ W:Nat->Nat->St->Hp->Prop,(∃ m,W 0 m σ H)/\∀ i m σ H,W i m σ H →
   ((Itr lo n).stop i H/\D.nx σ H)∨((Itr lo n).go i H/\∃ N:St->Hp->Prop,(∀ zJ H',N zJ H'->∃ m',m'<m/\W (i+1) m' zJ H')/\∀ x H',(Itr lo n).yld i H x H'->g x σ H' fun zU H2=>tb { D with nx:=N,ct:=N,bk:=D.nx } zU H2):=by
 refine ⟨fun i m σ H=>m=n - i/\i<=n/\Pv i σ H,⟨n,by simp,Wc _,h0⟩,?_⟩;rintro i m σ H ⟨rfl,hi,p⟩;by_cases zV:i<n
 · refine .inr ⟨zV,Pv (i+1),fun zJ H' p'=>⟨n - (i+1),by omega,rfl,zV,p'⟩,fun x H' y=>?_⟩;obtain ⟨e,y⟩:=y;subst e y;exact hs i σ _ zV p
 · have e:i=n:=by omega
   subst e;exact .inl ⟨VG _,hd σ H p⟩
end L2
namespace L2
open PySem PySem.Spec PyProof.Rows
abbrev R2:=V->V->Hp->VK->Prop
def OpR (X:Cx) (f:VC->VC->Sem VC) (r:R2):Prop :=
 ∀ (pins:List (Vy×Xn)) (s:VF) (σ:St) (H:Hp) (x y:V) (v u:VC) (Q:VK),Inv X pins σ H s->RelV x v->RelV y u->r x y H Q →
   VT (Wb X.prog X.w) X.A (f v u) (EP X pins σ Q) X.xe s
def UnR (X:Cx) (f:VC->Sem VC) (r:V->Hp->VK->Prop):Prop :=
 ∀ (pins:List (Vy×Xn)) (s:VF) (σ:St) (H:Hp) (x:V) (v:VC) (Q:VK),Inv X pins σ H s->RelV x v->r x H Q →
   VT (Wb X.prog X.w) X.A (f v) (EP X pins σ Q) X.xe s
def dw (X:Cx) (f:VC) (r:List V->Hp->VK->Prop):Prop :=
 ∀ (pins:List (Vy×Xn)) (s:VF) (σ:St) (H:Hp) (xs:List V) (us:List VC) (Q:VK),Inv X pins σ H s->Vals xs us->r xs H Q →
   VT (Wb X.prog X.w) X.A (call f us) (EP X pins σ Q) X.xe s
def zz (X:Cx) (r:V->Hp->(Bool->Hp->Prop)->Prop):Prop :=
 ∀ (pins:List (Vy×Xn)) (s:VF) (σ:St) (H:Hp) (x:V) (v:VC) (Q:Bool->Hp->Prop),Inv X pins σ H s->RelV x v->r x H Q →
   VT (Wb X.prog X.w) X.A (truthy v) (TP X pins σ Q) X.xe s
def tOp (r:R2) (ta tb:TE):TE:=fun σ H Q=>ta σ H fun x H1=>tb σ H1 fun y H2=>r x y H2 Q
def tUn (r:V->Hp->VK->Prop) (ta:TE):TE:=fun σ H Q=>ta σ H fun x H1=>r x H1 Q
inductive IrI (C:Int->Int->Prop) (g:Int->Int->V) (x:V) (y:V) (H:Hp) (Q:VK):Prop
 | mk (i:_) (j:_) (zS:x=.int i) (zT:y=.int j) (zX:C i j) (Af:Q (g i j) H):IrI C g x y H Q
def rI (C:Int->Int->Prop) (g:Int->Int->V):R2:=IrI C g
inductive yB (g:Int->Int->V) (x:V) (y:V) (H:Hp) (Q:VK):Prop
 | mk (i:_) (j:_) (zS:x=.int i) (zT:y=.int j) (zX:Q (g i j) H):yB g x y H Q
def rI0 (g:Int->Int->V):R2:=yB g
inductive IrU (g:Int->V) (x:V) (H:Hp) (Q:VK):Prop
 | mk (i:_) (zS:x=.int i) (zT:Q (g i) H):IrU g x H Q
def rU (g:Int->V):V->Hp->VK->Prop:=IrU g
section
variable {X:Cx} {a b c:WC} {ta tb tc:TE} {pos:Zm}
theorem wU (ha:PE X a ta) (hb:PE X b tb) {pins:List (Vy×Xn)} {s:VF} {σ:St} {H:Hp} {R:V->V->Hp->Prop} (I:Inv X pins σ H s)
 (h:ta σ H fun x H1=>tb σ H1 fun y H2=>R x y H2) {Q:VC->VF->Prop} {f:VC->VC->Sem VC}
 (hf:∀ v u s2 x y H2,Inv X pins σ H2 s2->RelV x v->RelV y u->R x y H2->VT (Wb X.prog X.w) X.A (f v u) Q X.xe s2) :
 VT (Wb X.prog X.w) X.A (Xx a X.env) (fun v zK=>VT (Wb X.prog X.w) X.A (Xx b X.env) (fun u AA=>VT (Wb X.prog X.w) X.A (f v u) Q X.xe AA) X.xe zK) X.xe s:=by
 refine thn (ha pins s σ H _ I h) fun v s1 ⟨x,H1,I1,r1,q1⟩=>?_;refine thn (hb pins s1 σ H1 _ I1 q1) fun u s2 ⟨y,H2,I2,r2,q2⟩=>?_;exact hf v u s2 x y H2 I2 r1 r2 q2
theorem aE {op:Operator} {r:R2} (ho:OpR X (YX op) r) (ha:PE X a ta) (hb:PE X b tb):PE X (.BinOp a op b pos) (tOp r ta tb):=by
 intro pins s σ H Q I h;exact wpAny_BinOp (wU ha hb I h fun v u s2 x y H2 I2 rx ry q=>ho pins s2 σ H2 x y v u Q I2 rx ry q)
theorem wo {op:UnaryOp} {r:V->Hp->VK->Prop} (ho:UnR X (unaryOp op) r) (ha:PE X a ta):PE X (.UnaryOp op a pos) (tUn r ta):=by
 intro pins s σ H Q I h;exact UnaryOp_ (thn (ha pins s σ H _ I h) fun v s1 ⟨x,H1,I1,r1,q1⟩=>ho pins s1 σ H1 x v Q I1 r1 q1)
theorem opI {f:VC->VC->Sem VC} {C:Int->Int->Prop} {g:Int->Int->Int}
 (rule:∀ (i j:Int) (t u:Tok) (s:VF) (Q:VC->VF->Prop) (E:VC->VF->Prop),C i j->Q (.int (g i j) s.toks) { s with toks:=s.toks+1 }->VT (Wb X.prog X.w) X.A (f (.int i t) (.int j u)) Q E s) :
 OpR X f (rI C fun i j=>.int (g i j)):=by
 intro pins s σ H x y v u Q I rx ry h;obtain ⟨i,j,rfl,rfl,hc,q⟩:=h;obtain ⟨t,rfl⟩:=rx;obtain ⟨t',rfl⟩:=ry;exact rule i j t t' s _ _ hc ⟨.int (g i j),H,I.tok _,⟨_,rfl⟩,q⟩
theorem yL {f:VC->VC->Sem VC} {g:Int->Int->Int}
 (rule:∀ (i j:Int) (t u:Tok) (s:VF) (Q:VC->VF->Prop) (E:VC->VF->Prop),Q (.int (g i j) s.toks) { s with toks:=s.toks+1 }->VT (Wb X.prog X.w) X.A (f (.int i t) (.int j u)) Q E s) :
 OpR X f (rI0 fun i j=>.int (g i j)):=by
 intro pins s σ H x y v u Q I rx ry h;obtain ⟨i,j,rfl,rfl,q⟩:=h;obtain ⟨t,rfl⟩:=rx;obtain ⟨t',rfl⟩:=ry;exact rule i j t t' s _ _ ⟨.int (g i j),H,I.tok _,⟨_,rfl⟩,q⟩
theorem xn {f:VC->VC->Sem VC} {g:Int->Int->Bool}
 (rule:∀ (i j:Int) (t u:Tok) (s:VF) (Q:VC->VF->Prop) (E:VC->VF->Prop),Q (.bool (g i j)) s->VT (Wb X.prog X.w) X.A (f (.int i t) (.int j u)) Q E s) :
 OpR X f (rI0 fun i j=>.bl (g i j)):=by
 intro pins s σ H x y v u Q I rx ry h;obtain ⟨i,j,rfl,rfl,q⟩:=h;obtain ⟨t,rfl⟩:=rx;obtain ⟨t',rfl⟩:=ry;exact rule i j t t' s _ _ ⟨.bl (g i j),H,I,rfl,q⟩
def zG (i j:Int):Prop:=0<j/\j<1073741824
def CMul (i j:Int):Prop:=(-(2 ^ 64)<i/\i<2 ^ 64)∨(-(2 ^ 64)<j/\j<2 ^ 64)
theorem CMul.ok {i j:Int} (h:CMul i j):IntMulOk i j:=by
 rcases h with ⟨h1,h2⟩ | ⟨h1,h2⟩
 · exact .of_left (intBits_le_64 h1 h2)
 · exact .of_right (intBits_le_64 h1 h2)
theorem bE:OpR X (YX .Add) (rI0 fun i j=>.int (i+j)):=yL fun _ _ _ _ _ _ _ q=>add_int q
theorem lV:OpR X (YX .Sub) (rI0 fun i j=>.int (i - j)):=yL fun _ _ _ _ _ _ _ q=>sub_int q
theorem dR:OpR X (YX .Mult) (rI CMul fun i j=>.int (i * j)):=opI fun _ _ _ _ _ _ _ hc q=>mul_int q hc.ok
theorem dC:OpR X (YX .FloorDiv) (rI zG fun i j=>.int (i / j)):=opI fun i j _ _ _ _ _ hc q=>by
 have h1:(0:Int)<j:=hc.1;have h2:j<1073741824:=hc.2;exact floordiv_int (by omega) (by rw [Int.fdiv_eq_ediv_of_nonneg i (by omega)];exact q) (.inl (PyProof.noPylong_small (by omega)))
theorem b6:OpR X (YX .Mod) (rI (fun _ j=>0<j) fun i j=>.int (i%j)):=opI fun i j _ _ _ _ _ hc q=>by
 have h1:(0:Int)<j:=hc;exact mod_int' (by omega) (by rw [Int.fmod_eq_emod_of_nonneg i (by omega)];exact q)
theorem unI {f:VC->Sem VC} {g:Int->Int}
 (rule:∀ (i:Int) (t:Tok) (s:VF) (Q:VC->VF->Prop) (E:VC->VF->Prop),Q (.int (g i) s.toks) { s with toks:=s.toks+1 }->VT (Wb X.prog X.w) X.A (f (.int i t)) Q E s) :
 UnR X f (rU fun i=>.int (g i)):=by
 intro pins s σ H x v Q I rx h;obtain ⟨i,rfl,q⟩:=h;obtain ⟨t,rfl⟩:=rx;exact rule i t s _ _ ⟨.int (g i),H,I.tok _,⟨_,rfl⟩,q⟩
theorem uB:UnR X (unaryOp .USub) (rU fun i=>.int (-i)):=unI fun _ _ _ _ _ q=>neg_int q
end
def yd:V->V->Bool
 | .non,.non=>true | .non,.int _=>true | .int _,.non=>true | .non,.bl _=>true | .bl _,.non=>true | .non,.str _=>true | .str _,.non=>true
 | .int _,.int _=>true | .bl _,.bl _=>true | .str _,.str _=>true | .byt _,.byt _=>true
 | .int _,.str _=>true | .str _,.int _=>true | .bl _,.str _=>true | .str _,.bl _=>true
 | _,_=>false
inductive yw (x:V) (y:V) (H:Hp) (Q:VK):Prop
 | mk  (zS:yd x y=true) (zT:Q (.bl (decide (x=y))) H):yw  x y H Q
def rEq:R2:=yw
inductive yc (x:V) (y:V) (H:Hp) (Q:VK):Prop
 | mk  (zS:yd x y=true) (zT:Q (.bl (!decide (x=y))) H):yc  x y H Q
def rNe:R2:=yc
theorem sd {i j:Int}:decide (V.int i=V.int j)=(i == j):=by
 rw [Yu];simp
theorem uL {i j:Bool}:decide (V.bl i=V.bl j)=(i == j):=by
 rw [Yu];simp
theorem se {i j:V2}:decide (V.str i=V.str j)=(i == j):=by
 rw [Yu];simp
theorem r9 {i j:Array UInt8}:decide (V.byt i=V.byt j)=(i.toList == j.toList):=by
 rw [Yu];cases i;cases j;simp
section
variable {X:Cx} {a b c:WC} {ta tb tc:TE} {pos:Zm}
theorem aX {pins:List (Vy×Xn)} {σ:St} {H:Hp} {s:VF} {Q:VK} {k k':Bool} (I:Inv X pins σ H s) (q:Q (.bl k) H) (e:k=k'):EP X pins σ Q (.bool k') s:=by
 subst e;exact ⟨.bl k,H,I,rfl,q⟩
theorem hX:OpR X (Xp .Eq) rEq:=by
 intro pins s σ H x y v u Q I rx ry h;obtain ⟨hs,q⟩:=h;cases x with
 | non =>
   cases rx;cases y with
   | non=>cases ry;exact PySem.EqNone.eq_none_none (aX I q (by simp))
   | bl j=>cases ry;exact PySem.EqNone.eq_none_bool (aX I q (by simp))
   | int j=>obtain ⟨t',rfl⟩:=ry;exact PySem.EqNone.eq_none_int (aX I q (by simp))
   | str j=>obtain ⟨t',rfl⟩:=ry;exact PySem.EqNone.eq_none_str (aX I q (by simp))
   | _=>exact absurd (show false=true from hs) VS
 | bl i =>
   cases rx;cases y with
   | non=>cases ry;exact PySem.EqNone.eq_bool_none (aX I q (by simp))
   | bl j=>cases ry;exact eq_bool (aX I q uL)
   | str j=>obtain ⟨t',rfl⟩:=ry;exact PySem.EqMixed.eq_bool_str (aX I q (by simp))
   | _=>exact absurd (show false=true from hs) VS
 | int i =>
   obtain ⟨t,rfl⟩:=rx;cases y with
   | non=>cases ry;exact PySem.EqNone.eq_int_none (aX I q (by simp))
   | int j=>obtain ⟨t',rfl⟩:=ry;exact eq_int (aX I q sd)
   | str j=>obtain ⟨t',rfl⟩:=ry;exact PySem.EqMixed.eq_int_str (aX I q (by simp))
   | _=>exact absurd (show false=true from hs) VS
 | str i =>
   obtain ⟨t,rfl⟩:=rx;cases y with
   | non=>cases ry;exact PySem.EqNone.eq_str_none (aX I q (by simp))
   | bl j=>cases ry;exact PySem.EqMixed.eq_str_bool (aX I q (by simp))
   | int j=>obtain ⟨t',rfl⟩:=ry;exact PySem.EqMixed.eq_str_int (aX I q (by simp))
   | str j=>obtain ⟨t',rfl⟩:=ry;exact eq_str (aX I q se)
   | _=>exact absurd (show false=true from hs) VS
 | byt i =>
   obtain ⟨t,rfl⟩:=rx;cases y with
   | byt j=>obtain ⟨t',rfl⟩:=ry;exact PySem.W.eq_bytes (aX I q r9)
   | _=>exact absurd (show false=true from hs) VS
 | _=>cases y <;> exact absurd (show false=true from hs) VS
theorem u5:OpR X (Xp .NotEq) rNe:=by
 intro pins s σ H x y v u Q I rx ry h;obtain ⟨hs,q⟩:=h;cases x with
 | non =>
   cases rx;cases y with
   | non=>cases ry;exact PySem.EqNone.ne_none_none (aX I q (by simp))
   | bl j=>cases ry;exact PySem.EqNone.ne_none_bool (aX I q (by simp))
   | int j=>obtain ⟨t',rfl⟩:=ry;exact PySem.EqNone.ne_none_int (aX I q (by simp))
   | str j=>obtain ⟨t',rfl⟩:=ry;exact PySem.EqNone.ne_none_str (aX I q (by simp))
   | _=>exact absurd (show false=true from hs) VS
 | bl i =>
   cases rx;cases y with
   | non=>cases ry;exact PySem.EqNone.ne_bool_none (aX I q (by simp))
   | bl j=>cases ry;exact ne_bool (aX I q (congrArg not uL))
   | str j=>obtain ⟨t',rfl⟩:=ry;exact PySem.EqMixed.ne_bool_str (aX I q (by simp))
   | _=>exact absurd (show false=true from hs) VS
 | int i =>
   obtain ⟨t,rfl⟩:=rx;cases y with
   | non=>cases ry;exact PySem.EqNone.ne_int_none (aX I q (by simp))
   | int j=>obtain ⟨t',rfl⟩:=ry;exact ne_int (aX I q (congrArg not sd))
   | str j=>obtain ⟨t',rfl⟩:=ry;exact PySem.EqMixed.ne_int_str (aX I q (by simp))
   | _=>exact absurd (show false=true from hs) VS
 | str i =>
   obtain ⟨t,rfl⟩:=rx;cases y with
   | non=>cases ry;exact PySem.EqNone.ne_str_none (aX I q (by simp))
   | bl j=>cases ry;exact PySem.EqMixed.ne_str_bool (aX I q (by simp))
   | int j=>obtain ⟨t',rfl⟩:=ry;exact PySem.EqMixed.ne_str_int (aX I q (by simp))
   | str j=>obtain ⟨t',rfl⟩:=ry;exact ne_str (aX I q (congrArg not se))
   | _=>exact absurd (show false=true from hs) VS
 | byt i =>
   obtain ⟨t,rfl⟩:=rx;cases y with
   | byt j=>obtain ⟨t',rfl⟩:=ry;exact PySem.W.ne_bytes (aX I q (congrArg not r9))
   | _=>exact absurd (show false=true from hs) VS
 | _=>cases y <;> exact absurd (show false=true from hs) VS
theorem wL:OpR X (Xp .Lt) (rI0 fun i j=>.bl (decide (i<j))):=xn fun _ _ _ _ _ _ _ q=>lt_int q
theorem j1:OpR X (Xp .LtE) (rI0 fun i j=>.bl (decide (i<=j))):=xn fun _ _ _ _ _ _ _ q=>le_int q
theorem gz:OpR X (Xp .Gt) (rI0 fun i j=>.bl (decide (j<i))):=xn fun _ _ _ _ _ _ _ q=>gt_int q
theorem aW (b:WC) {op:CmpOp} (h:op≠.In:=by decide) (h2:op≠.NotIn:=by decide):behindInMarks op b=false:=by
 have e1:(op == CmpOp.In)=false:=by cases op <;> first | rfl | exact absurd rfl h
 have e2:(op == CmpOp.NotIn)=false:=by cases op <;> first | rfl | exact absurd rfl h2
 cases b <;> simp [behindInMarks,e1,e2]
theorem cb {op:CmpOp} {r:R2} (ho:OpR X (Xp op) r) (ha:PE X a ta) (hb:PE X b tb) (hm:behindInMarks op b=false):PE X (.Compare a [op] [b] pos) (tOp r ta tb):=by
 intro pins s σ H Q I h;exact wpAny_Compare1 (wU ha hb I h fun v u s2 x y H2 I2 rx ry q=>ho pins s2 σ H2 x y v u Q I2 rx ry q) hm
inductive wF (x:V) (Q:Bool->Hp->Prop) (H':Hp):Prop
 | mk (k:Bool) (zS:x=.bl k) (zT:Q k H'):wF x Q H'
def rQ (t:TE):TT:=fun σ H Q=>t σ H fun x H'=>wF x Q H'
theorem bt {op:CmpOp} {r:R2} (ho:OpR X (Xp op) r) (ha:PE X a ta) (hb:PE X b tb) (hm:behindInMarks op b=false):PT X (.Compare a [op] [b] pos) (rQ (tOp r ta tb)):=by
 intro pins s σ H Q I h
 refine wpAny_isTrue_Compare1 (thn (ha pins s σ H _ I h) fun v s1 ⟨x,H1,I1,r1,q1⟩=>thn (hb pins s1 σ H1 _ I1 q1) fun u s2 ⟨y,H2,I2,r2,q2⟩ =>
  thn (ho pins s2 σ H2 x y v u _ I2 r1 r2 q2) fun c s3 ⟨z,H3,I3,r3,k,e,q3⟩=>?_) hm
 subst e;cases r3;exact Xo ⟨H3,I3,q3⟩
def qB (r r':R2) (ta tb tc:TE):TE:=fun σ H Q=>ta σ H fun x H1=>tb σ H1 fun y H2=>r x y H2 fun z H3=>∃ k,z=.bl k ∧
 (if k=true then tc σ H3 fun w' H4=>r' y w' H4 Q else Q (.bl false) H3)
theorem qc {op Fb:CmpOp} {r r':R2} (ho:OpR X (Xp op) r) (CH:OpR X (Xp Fb) r') (ha:PE X a ta) (hb:PE X b tb) (hc:PE X c tc)
 (hm:lastMarks [op,Fb] [b,c]=false:=by with_unfolding_all rfl):PE X (.Compare a [op,Fb] [b,c] pos) (qB r r' ta tb tc):=by
 intro pins s σ H Q I h
 refine Compare_chain (thn (ha pins s σ H _ I h) fun v s1 ⟨x,H1,I1,r1,q1⟩=>chain_link (thn (hb pins s1 σ H1 _ I1 q1) fun u s2 ⟨y,H2,I2,r2,q2⟩ =>
  thn (ho pins s2 σ H2 x y v u _ I2 r1 r2 q2) fun d s3 ⟨z,H3,I3,r3,k,e,q3⟩=>?_)) hm
 subst e;cases r3;refine Xo ?_;cases k with
 | false=>exact ite_ff ⟨.bl false,H3,I3,rfl,q3⟩
 | true=>exact ite_tt (chain_last (thn (hc pins s3 σ H3 _ I3 q3) fun w' s4 ⟨z',H4,I4,r4,q4⟩=>CH pins s4 σ H4 y z' u w' Q I4 r2 r4 q4))
theorem pj {op Fb:CmpOp} {r r':R2} (ho:OpR X (Xp op) r) (CH:OpR X (Xp Fb) r') (ha:PE X a ta) (hb:PE X b tb) (hc:PE X c tc)
 (hm:lastMarks [op,Fb] [b,c]=false:=by with_unfolding_all rfl):PT X (.Compare a [op,Fb] [b,c] pos) (rQ (qB r r' ta tb tc)):=by
 intro pins s σ H Q I h
 refine isTrue_chain (thn (ha pins s σ H _ I h) fun v s1 ⟨x,H1,I1,r1,q1⟩=>test_link (thn (hb pins s1 σ H1 _ I1 q1) fun u s2 ⟨y,H2,I2,r2,q2⟩ =>
  thn (ho pins s2 σ H2 x y v u _ I2 r1 r2 q2) fun d s3 ⟨z,H3,I3,r3,k,e,q3⟩=>?_)) hm
 subst e;cases r3;refine Xo ?_;cases k with
 | false =>
   obtain ⟨k',e',q'⟩:=q3;cases e';exact ite_ff ⟨H3,I3,q'⟩
 | true =>
   refine ite_tt (test_last (thn (hc pins s3 σ H3 _ I3 q3) fun w' s4 ⟨z',H4,I4,r4,q4⟩=>thn (CH pins s4 σ H4 y z' u w' _ I4 r2 r4 q4) fun d' s5 ⟨z2,H5,I5,r5,k2,e2,q5⟩=>?_));subst e2;cases r5;exact Xo ⟨H5,I5,q5⟩
def vh (K:VB) (x:V) (H:Hp) (k:Bool):Prop :=
 match x with
 | .non=>k=false
 | .bl b=>k=b
 | .int i=>k=(i != 0)
 | .str y=>y.length<=V1/\k=((y.length:Int) != 0)
 | .byt y=>y.size<=V1/\k=((y.size:Int) != 0)
 | .ref p=>(∃ xs,SqL K H p xs/\k=!xs.isEmpty)∨(∃ xs,SqT K H p xs/\k=!xs.isEmpty)∨∃ kvs,H p=some (.dK kvs)/\k=!kvs.isEmpty
 | _=>False
theorem rb {κ:Type} {kvs:List (κ×V)} {vs:List (κ×VC)} (r:KV kvs vs):(!vs.isEmpty)=!kvs.isEmpty:=by
 cases r <;> rfl
theorem ly {xs:List V} {its:List VC} (r:Vals xs its):(!its.toArray.isEmpty)=!xs.isEmpty:=by
 cases r <;> simp
theorem eT:(V1:Nat)<2 ^ 63:=by rw [Yy];decide
theorem xo:zz X (fun x H Q=>∃ k,vh X.K x H k/\Q k H):=by
 intro pins s σ H x v Q I rx h;obtain ⟨k,e,q⟩:=h;have hl:=eT;have hs:V1=16777216:=Yy;cases x with
 | non =>
   cases rx;have e':k=false:=e;subst e';exact truthy_none ⟨H,I,q⟩
 | bl b =>
   cases rx;have e':k=b:=e;subst e';exact Xo ⟨H,I,q⟩
 | int i =>
   obtain ⟨t,rfl⟩:=rx;have e':k=(i != 0):=e;subst e';exact PySem.P.truthy_int ⟨H,I,q⟩
 | str y =>
   obtain ⟨t,rfl⟩:=rx;obtain ⟨hy,e'⟩:y.length<=V1/\k=((y.length:Int) != 0):=e;subst e';exact PySem.P.truthy_str (by omega) ⟨H,I.tok _,q⟩
 | byt y =>
   obtain ⟨t,rfl⟩:=rx;obtain ⟨hy,e'⟩:y.size<=V1/\k=((y.size:Int) != 0):=e;subst e';exact PySem.W.truthy_bytes (by omega) ⟨H,I.tok _,q⟩
 | ref p =>
   cases rx;have e':(∃ xs,SqL X.K H p xs/\k=!xs.isEmpty)∨(∃ xs,SqT X.K H p xs/\k=!xs.isEmpty)∨∃ kvs,H p=some (.dK kvs)/\k=!kvs.isEmpty:=e;rcases e' with ⟨xs,hx,e'⟩ | ⟨xs,hx,e'⟩ | ⟨kvs,hx,e'⟩
   · subst e';obtain ⟨its,r,pl,hz⟩:=I.list hx;have hlen:=r.length;exact wpAny_truthy_list pl.isList (by simp only [VL];omega) ⟨H,I.tok _,by rw [ly r];exact q⟩
   · subst e';obtain ⟨its,r,pl,hz⟩:=I.tuple hx;have hlen:=r.length;exact truthy_tuple pl (by simp only [VL];omega) ⟨H,I.tok _,by rw [ly r];exact q⟩
   · subst e';obtain ⟨hz,hS,vs,r,m⟩:kvs.length<=V1/\(p == XT)=false/\∃ vs,KV kvs vs/\s.heap.DictOf (aV X.prog X.w) p vs:=I.hok p _ hx;have hlen:kvs.length=vs.length:=VU r;exact wpAny_truthy_dict hS m (by omega) ⟨H,I.tok _,by rw [rb r];exact q⟩
 | _=>exact (show False from e).elim
theorem aU (ha:PE X a ta) (he:∀ whole,isTrue a X.env whole=(do let v ← whole;standAt a.pos;holding [v] (truthy v))) :
 PT X a (fun σ H Q=>ta σ H fun x H'=>∃ k,vh X.K x H' k/\Q k H'):=by
 intro pins s σ H Q I h;exact isTrue_plain (thn (ha pins s σ H _ I h) fun v s1 ⟨x,H1,I1,r1,q1⟩=>xo pins s1 σ H1 x v Q I1 r1 q1) (he _)
theorem gO:OpR X (YX .Add) (fun x y H Q=>∃ i j,x=.str i/\y=.str j/\i.length+j.length<=V1/\Q (.str (i++j)) H):=by
 intro pins s σ H x y v u Q I rx ry h;obtain ⟨i,j,rfl,rfl,hz,q⟩:=h;obtain ⟨t,rfl⟩:=rx;obtain ⟨t',rfl⟩:=ry;exact add_str (fun t' tk=>⟨.str (i++j),H,I.tok _,⟨_,rfl⟩,q⟩) hz
theorem vals1 {x:V} {us:List VC} (r:Vals [x] us):∃ u,us=[u]/\RelV x u:=by
 cases r with
 | cons r1 r2=>cases r2;exact ⟨_,rfl,r1⟩
theorem vals2 {x y:V} {us:List VC} (r:Vals [x,y] us):∃ u w',us=[u,w']/\RelV x u/\RelV y w':=by
 cases r with
 | cons r1 r2 =>
   cases r2 with
   | cons r3 r4=>cases r4;exact ⟨_,_,rfl,r1,r3⟩
theorem jB (hc:X.calm=true):dw X (.builtin "max") (fun xs H Q=>∃ i j,xs=[.int i,.int j]/\Q (.int (if j > i then j else i)) H):=by
 intro pins s σ H xs us Q I r h;obtain ⟨i,j,rfl,q⟩:=h;obtain ⟨u,w',rfl,⟨t,rfl⟩,⟨t',rfl⟩⟩:=vals2 r;refine max_two_ints (I.ok.hd hc) fun h' tk k=>⟨_,H,I.kept k,?_,q⟩;by_cases hj:j > i
 · rw [if_pos hj,if_pos hj];exact ⟨_,rfl⟩
 · rw [if_neg hj,if_neg hj];exact ⟨_,rfl⟩
theorem jw:dw X (.type "int") (fun xs H Q=>(∃ i,xs=[.int i]/\Q (.int i) H)∨∃ k,xs=[.bl k]/\Q (.int (if k then 1 else 0)) H):=by
 intro pins s σ H xs us Q I r h;rcases h with ⟨i,rfl,q⟩ | ⟨k,rfl,q⟩
 · obtain ⟨u,rfl,t,rfl⟩:=vals1 r;exact call_int_int ⟨.int i,H,I,⟨_,rfl⟩,q⟩
 · obtain ⟨u,rfl,r1⟩:=vals1 r;cases r1;exact call_int_bool ⟨.int (if k then 1 else 0),H,I.tok _,⟨_,rfl⟩,q⟩
end
end L2
namespace L2
open PySem PySem.Spec PyProof.Rows
structure ObjM (h:WR) (x dx C:Vy) (mA:V2->Option VC):Prop where
 obj:h.get? x=some (X4 C dx)
 ns:h.Ns1 dx mA
 ne:dx≠x
theorem sM {h:WR} {dx:Vy} {mA:V2->Option VC} (n:h.Ns1 dx mA):∃ od,h.get? dx=some od/\∀ name,PySem.W.lookIn name od=some (mA name):=by
 obtain ⟨o,es,ep,ho,hd,hk,_,hm⟩:=n;refine ⟨o,ho,fun name=>?_⟩;have e:=hm name;unfold nsFind findBy at e;rw [<- Array.find?_toList] at e;unfold PySem.W.lookIn;rw [hd];dsimp only;split
 · rename_i y q
   rw [q] at e;exact congrArg some e
 · rename_i q
   rw [q] at e
   have a:es.toList.any (·.refKey)=false:=by
    rw [List.any_eq_false];intro y hy;obtain ⟨z,t,Fc⟩:=hk y (Array.mem_toList_iff.mp hy);simp [DictEntry.refKey,Fc]
   have a':¬ es.toList.any (·.refKey)=true:=by rw [a];exact VS
   rw [if_neg a'];exact congrArg some e
theorem ObjM.look {h:WR} {x dx C:Vy} {mA:V2->Option VC} (I:ObjM h x dx C mA):∃ od,PySem.W.InstAt h x (X4 C dx) C (some od)/\∀ name,PySem.W.lookIn name od=some (mA name) :=
 let ⟨od,ho,hl⟩:=sM I.ns
 ⟨od,⟨I.obj,rfl,rfl,ho⟩,hl⟩
section
variable {prog:V3} {w:Wg} {A:Wn} {E:VC->VF->Prop} {s:VF} {K:VB} {x dx C f:Vy} {mA:V2->Option VC} {name:V2} {v:VC}
theorem get_map {expr:Bool} {Q:VC->VF->Prop} (X:K.In s.heap) (I:ObjM s.heap x dx C mA) (hg:YK K C name=true) (hh:Y8 K C=true)
 (ha:Wx K (.ref C) name=some none) (hv:mA name=some v) (By:PySem.W.handedIn v=true) (h:Q v { s with toks:=s.toks+1 }) :
 VT (Wb prog w) A (getAttr (.ref x) name expr) Q E s:=by
 obtain ⟨od,J,hl⟩:=I.look;exact PySem.W.get_value X J (PySem.W.plainGet_of hg).1 (PySem.W.findObj_own hh ha rfl (by rw [hl,hv])) By h
theorem ux {pl:Sem Bool} {Q:VC×List VC->VF->Prop} (X:K.In s.heap) (I:ObjM s.heap x dx C mA) (hg:YK K C name=true)
 (hf:Wx K (.ref C) name=some (some (.ref f))) (ht:Y7 K (.ref f)=true) (hv:mA name=none) (h:Q (.ref f,[.ref x]) s) :
 VT (Wb prog w) A (getMethod (.ref x) name pl) Q E s:=by
 obtain ⟨od,J,hl⟩:=I.look;exact PySem.W.method_fn X J (PySem.W.plainGet_of hg).1 (PySem.W.plainGet_of hg).2 hf (beq_iff_eq.mp ht) (by show (PySem.W.lookIn name od).map (·.isSome)=some false;rw [hl,hv];rfl) h
theorem wj {ns:List V2} {Q:Unit->VF->Prop} (X:K.In s.heap) (I:ObjM s.heap x dx C mA)
 (hs:Wx K (.ref C) "__setattr__"=some (some (.builtin "object.__setattr__"))) (hp:ZM K C=true) (ht:PySem.W.takerIn K C name=some none) (hh:Y8 K C=true)
 (hw:PySem.Within mA ns) (hsz:ns.length<=V1)
 (h:∀ h',ObjM h' x dx C (fun y=>if y=name then some v else mA y)->WN dx s.heap h'->Q () { s with heap:=h',toks:=s.toks+2 }) :
 VT (Wb prog w) A (setAttr (.ref x) name v) Q E s:=by
 obtain ⟨od,J,hl⟩:=I.look;refine PySem.W.set_plain X J hs (PySem.W.osa_open (s:={ s with toks:=s.toks+1 }) (r:=none) X J hp ht fun b=>?_);obtain ⟨cd,hc,Kl⟩:=PySem.W.any_some hh;have hx:s.heap.get? x=some ⟨.ref C,some dx,.plain,#[]⟩:=I.obj;refine Vu (VE (Vu (Vu (wpAny_loadPart hx (Vu (PySem.W.Looks.here (s:={ s with toks:=s.toks+1 }) (PySem.W.looks_clsIn X hc) ?_))))));rw [Kl];refine VE (a:=some dx) (Vu (VE (Vu ?_)));refine wpAny_nsSet1 (s:={ s with toks:=s.toks+1 }) I.ns fun h' GU Fd=>?_;obtain ⟨oD,UG,UH,QJ,QK,QL⟩:=GU.count (PySem.Within.cons name v hw);refine Vu (wpAny_lookBehind QJ (by rw [QK];exact pastItsLine_dict (WI QL (by rw [VY];omega))) ?_);exact VE (h _ ⟨(Fd.2 _ (Y9 I.ne)).trans I.obj,GU,I.ne⟩ Fd)
theorem uX {R:Result->VF->Prop} {vs:List VC} {kw:List (V2×VC)} (X:K.In s.heap) (hm:PySem.W.makesIn K C=true)
 (hi:Wx K (.ref C) "__init__"=some (some (.ref f))) (hf:PySem.W.typeIn K (.ref f)=some (.type "function"))
 (h:ZG (Wb prog w) (A.under (.builtin "type.__call__" ⟨.ref C::vs,kw⟩)) (.call (.ref f) ⟨.ref (s.heap.objs.size+1)::vs,kw⟩) (PySem.W.InitBack (s.heap.objs.size+1) R)
  { s with heap:=(s.heap.push Xi).push (X4 C s.heap.objs.size) }) :
 ZG (Wb prog w) A (.call (.ref C) ⟨vs,kw⟩) R s:=by
 obtain ⟨hh,g,d,t,os⟩:=s;exact PySem.W.make_core (PySem.W.makes_of X hm) (PySem.W.looks_findIn X hi) (fun self=>PySem.W.bind_fn X self hf) (.inl rfl) h
end
def cg (f:V2) (v:V):List (V2×V)->List (V2×V)
 | []=>[(f,v)]
 | (g,x)::r=>if g=f then (g,v)::r else (g,x)::cg f v r
theorem jI (f g:V2) (v:V):∀ fs:List (V2×V),(cg f v fs).lookup g=if g=f then some v else fs.lookup g
 | []=>by
   show Xg g [(f,v)]=_;by_cases h:g=f
   · have hb:(g == f)=true:=beq_iff_eq.mpr h;simp only [Xg,hb,if_pos h]
   · have hb:(g == f)=false:=beq_eq_false_iff_ne.mpr h;simp only [Xg,hb,if_neg h]
 | (k,x)::r=>by
   have ih:=jI f g v r;rw [show cg f v ((k,x)::r)=(if k=f then (k,v)::r else (k,x)::cg f v r) from rfl];by_cases hk:k=f
   · rw [if_pos hk];by_cases h:g=k
     · have hb:(g == k)=true:=beq_iff_eq.mpr h;simp only [Xg,hb,if_pos (h.trans hk)]
     · have hb:(g == k)=false:=beq_eq_false_iff_ne.mpr h;simp only [Xg,hb,if_neg (fun e:g=f=>h (e.trans hk.symm))]
   · rw [if_neg hk];by_cases h:g=k
     · have hb:(g == k)=true:=beq_iff_eq.mpr h;simp only [Xg,hb,if_neg (fun e:g=f=>hk (h.symm.trans e))]
     · have hb:(g == k)=false:=beq_eq_false_iff_ne.mpr h;simp only [Xg,hb];exact ih
theorem i6 (f:V2) (v:V):∀ fs:List (V2×V),f∈(cg f v fs).map (·.1)/\∀ g,g∈fs.map (·.1)->g∈(cg f v fs).map (·.1)
 | []=>⟨by simp [cg],fun g h=>by simp at h⟩
 | (k,x)::r=>by
   obtain ⟨i1,i2⟩:=i6 f v r;rw [show cg f v ((k,x)::r)=(if k=f then (k,v)::r else (k,x)::cg f v r) from rfl];by_cases hk:k=f
   · rw [if_pos hk];subst hk;exact ⟨by simp,fun g h=>by simpa using h⟩
   · rw [if_neg hk];refine ⟨?_,fun g h=>?_⟩
     · rw [Wf];exact Vv _ i1
     · rw [Wf] at h ⊢;rcases VP.mp h with e | e
       · exact VP.mpr (.inl e)
       · exact Vv _ (i2 g e)
theorem jP (f:V2) (v:V):∀ fs:List (V2×V),(cg f v fs).length<=fs.length+1
 | []=>by simp [cg]
 | (k,x)::r=>by
   have ih:=jP f v r;rw [show cg f v ((k,x)::r)=(if k=f then (k,v)::r else (k,x)::cg f v r) from rfl];by_cases hk:k=f
   · rw [if_pos hk,VY,VY];omega
   · rw [if_neg hk,VY,VY];omega
theorem RelO.some_of {v:V} {o:Option VC} (r:RelO (some v) o):∃ u,o=some u/\RelV v u:=by
 cases o with
 | none=>exact (show False from r).elim
 | some u=>exact ⟨u,rfl,r⟩
theorem RelO.none_of {o:Option VC} (r:RelO none o):o=none:=by
 cases o with
 | none=>rfl
 | some u=>exact (show False from r).elim
theorem sS {v:V} {u:VC} (r:RelV v u):PySem.W.handedIn u=true:=by
 cases v with
 | non=>cases (show u=WV from r);rfl
 | bl b=>cases (show u=Value.bool b from r);rfl
 | int i=>obtain ⟨t,e⟩:=(show ∃ t,u=ZW i t from r);cases e;rfl
 | str x=>obtain ⟨t,e⟩:=(show ∃ t,u=Value.str x t from r);cases e;rfl
 | byt b=>obtain ⟨t,e⟩:=(show ∃ t,u=Value.bytes b t from r);cases e;rfl
 | flt b=>obtain ⟨t,e⟩:=(show ∃ t,u=Value.float b t from r);cases e;rfl
 | ref a=>cases (show u=Wj a from r);rfl
 | ty n=>cases (show u=Value.type n from r);rfl
section
variable {P:V3} {w:Wg} {H H':Hp} {h h':WR} {a C dx:Vy} {fs F7:List (V2×V)}
theorem ko (hok:HOk P w H h) (e:H a=some (.ins C dx fs)):∃ mA,ObjM h a dx C mA/\(∀ f,RelO (fs.lookup f) (mA f))/\PySem.Within mA (fs.map (·.1))/\fs.length<=1000/\H dx=some (.own a):=by
 obtain ⟨d,z,ne,ob,mA,n,r,q⟩:=(show ObjOk P w H h a (.ins C dx fs) from hok a _ e);exact ⟨mA,⟨ob,n,ne⟩,r,q,z,d⟩
end
structure Cls (K:VB) (C:Vy):Prop where
 pg:YK K C XS=true
 hd:Y8 K C=true
 po:ZM K C=true
 sa:Wx K (.ref C) "__setattr__"=some (some (.builtin "object.__setattr__"))
theorem Cls.get {K:VB} {C:Vy} (c:Cls K C) (f:V2):YK K C f=true:=c.pg
def NoAttr (K:VB) (C:Vy) (f:V2):Prop:=Wx K (.ref C) f=some none
theorem NoAttr.taker {K:VB} {C:Vy} {f:V2} (n:NoAttr K C f):PySem.W.takerIn K C f=some none:=by
 unfold PySem.W.takerIn;rw [show Wx K (.ref C) f=some none from n];rfl
structure Meth (K:VB) (C:Vy) (m:V2) (f:Vy):Prop where
 at_:Wx K (.ref C) m=some (some (.ref f))
 fn:Y7 K (.ref f)=true
 kp:Xc K (.ref f)=true
section
variable {X:Cx} {pins:List (Vy×Xn)} {σ:St} {H:Hp} {s:VF} {a C dx:Vy} {fs:List (V2×V)} {f:V2} {v:V} {A:Wn} {E:VC->VF->Prop}
theorem kQ {b:Bool} {Q:VC->VF->Prop} (I:Inv X pins σ H s) (e:H a=some (.ins C dx fs)) (c:Cls X.K C) (n:NoAttr X.K C f) (l:fs.lookup f=some v)
 (h:∀ u s',Inv X pins σ H s'->RelV v u->Q u s'):VT (Wb X.prog X.w) A (getAttr (.ref a) f b) Q E s:=by
 obtain ⟨mA,O,r,_,_,_⟩:=ko I.hok e;obtain ⟨u,hu,ru⟩:=RelO.some_of (v:=v) (o:=mA f) (by rw [<- l];exact r f);exact get_map I.kIn O (c.get f) c.hd n hu (sS ru) (h u _ (I.tok _) ru)
theorem qp {m:V2} {g:Vy} {pl:Sem Bool} {Q:VC×List VC->VF->Prop} (I:Inv X pins σ H s) (e:H a=some (.ins C dx fs)) (c:Cls X.K C) (k:Meth X.K C m g) (l:fs.lookup m=none)
 (h:Q (.ref g,[.ref a]) s):VT (Wb X.prog X.w) A (getMethod (.ref a) m pl) Q E s:=by
 obtain ⟨mA,O,r,_,_,_⟩:=ko I.hok e;have hn:mA m=none:=RelO.none_of (by rw [<- l];exact r m);exact ux I.kIn O (c.get m) k.at_ k.fn hn h
theorem kM {y:V} {u:VC} {Q:Unit->VF->Prop} (I:Inv X pins σ H s) (e:H a=some (.ins C dx fs)) (c:Cls X.K C) (n:NoAttr X.K C f) (hl:fs.length<1000) (ry:RelV y u)
 (h:∀ s',Inv X pins σ (upd H a (.ins C dx (cg f y fs))) s'->Q () s'):VT (Wb X.prog X.w) A (setAttr (.ref a) f u) Q E s:=by
 obtain ⟨mA,O,r,wi,_,ho⟩:=ko I.hok e;have hz:(fs.map (·.1)).length<=V1:=by rw [Vt,Yy];omega
 refine wj I.kIn O c.sa c.po n.taker c.hd wi hz fun h' O' sb=>h _ ?_;have hd:∃ o,h'.get? dx=some o:=let ⟨o,_,_,e',_⟩:=O'.ns;⟨o,e'⟩
 refine I.write (x:=a) (e:=dx) (by rw [e];exact Yc) (.inr ho) (fun b q hb z=>(sb.2 b hb).trans z) hd ?_;refine ⟨by rw [af O.ne];exact ho,?_,O.ne,O'.obj,_,O'.ns,fun g=>?_,fun g hg=>?_⟩
 · have:=jP f y fs;omega
 · show RelO ((cg f y fs).lookup g) (if g=f then some u else mA g);rw [jI];by_cases q:g=f
   · rw [if_pos q,if_pos q];exact ry
   · rw [if_neg q,if_neg q];exact r g
 · by_cases q:g=f
   · rw [q];exact (i6 f y fs).1
   · refine (i6 f y fs).2 g (wi g fun z=>hg ?_);show (if g=f then some u else mA g)=none;rw [if_neg q];exact z
theorem Inv.made (I:Inv X pins σ H s):Inv X pins σ (upd (upd H s.heap.objs.size (.own (s.heap.objs.size+1))) (s.heap.objs.size+1) (.ins C s.heap.objs.size []))
 { s with heap:=(s.heap.push Xi).push (X4 C s.heap.objs.size) }:=by
 have e1:(s.heap.push Xi).get? s.heap.objs.size=some Xi:=VH s.heap rfl
 have e2:((s.heap.push Xi).push (X4 C s.heap.objs.size)).get? (s.heap.objs.size+1)=some (X4 C s.heap.objs.size):=by
  have:=VH (s.heap.push Xi) (o:=X4 C s.heap.objs.size) rfl
  rwa [WU] at this
 have e3:(s.heap.push Xi).Ns s.heap.objs.size (fun _=>none):=⟨Xi,#[],_,e1,rfl,(fun e he=>absurd he (by simp)),fun _=>rfl⟩;have I1:=I.laid (a:=s.heap.objs.size) (o:=.own (s.heap.objs.size+1)) (h':=s.heap.push Xi) (t':=s.toks) (fun b u q=>VA _ q) (VG _) ⟨_,e1⟩;refine I1.laid (a:=s.heap.objs.size+1) (o:=.ins C s.heap.objs.size []) (t':=s.toks) (fun b u q=>VA _ q) (Nat.le_of_eq (WU _ _)) ?_;have ne:s.heap.objs.size≠s.heap.objs.size+1:=Wm (Nat.lt_succ_self _);refine ⟨by rw [af ne,ad],Wc _,ne,e2,fun _=>none,(Heap.Ns1.of_empty e3).at fun o q=>VA _ q,fun _=>Yc,fun y hy=>absurd rfl hy⟩
theorem vF {prog:V3} {w:Wg} {env:Env} {e:WC} {f:V2} {pos:Zm} {s:VF} {Q:VC->VF->Prop} (hb:YH e f env (Xx e env)=Xx e env)
 (h:VT (Wb prog w) A (Xx e env) (fun o zK=>VT (Wb prog w) A (getAttr o f true) Q E zK) E s):VT (Wb prog w) A (Xx (.Attribute e f pos) env) Q E s :=
 Attribute_any_ h (by rw [arm_eval_Attribute,hb])
end
def yZ (K:VB) (ta:TE) (f:V2):TE:=fun σ H Q=>ta σ H fun x H1=>∃ a C dx fs v,x=.ref a/\H1 a=some (.ins C dx fs)/\Cls K C/\NoAttr K C f/\fs.lookup f=some v/\Q v H1
def zu (K:VB) (ta tv:TE) (f:V2):TS:=fun D σ H=>tv σ H fun y H1=>ta σ H1 fun x H2=>∃ a C dx fs,x=.ref a/\H2 a=some (.ins C dx fs)/\Cls K C/\NoAttr K C f/\fs.length<1000 ∧
 D.nx σ (upd H2 a (.ins C dx (cg f y fs)))
def yf (X:Cx) (op:Operator) (rd:V->V->Hp->VK->Prop):Prop :=
 ∀ (pins:List (Vy×Xn)) (s:VF) (σ:St) (H:Hp) (x y:V) (u v:VC) (Q:VK),Inv X pins σ H s->RelV x u->RelV y v->rd x y H Q->VT (Wb X.prog X.w) X.A (inplaceOp op u v) (EP X pins σ Q) X.xe s
def vf (K:VB) (ta tv:TE) (rd:V->V->Hp->VK->Prop) (f:V2):TS:=fun D σ H=>ta σ H fun x H1=>∃ a C dx fs v,x=.ref a/\H1 a=some (.ins C dx fs)/\Cls K C/\NoAttr K C f/\fs.lookup f=some v ∧
 tv σ H1 fun y H2=>rd v y H2 fun z H3=>∃ Kp F7,H3 a=some (.ins C Kp F7)/\F7.length<1000/\D.nx σ (upd H3 a (.ins C Kp (cg f z F7)))
section
variable {X:Cx} {o e value:WC} {f:V2} {pos pos' GV:Zm} {ta tv:TE}
theorem cf (he:PE X e ta) (hb:YH e f X.env (Xx e X.env)=Xx e X.env):PE X (.Attribute e f pos) (yZ X.K ta f):=by
 intro pins s σ H Q I h;refine vF hb (thn (he pins s σ H _ I h) fun u s1 ⟨x,H1,I1,rx,a,C,dx,fs,v,ex,ea,c,n,l,q⟩=>?_);subst ex;obtain rfl:u=Wj a:=rx;exact kQ I1 ea c n l fun u' s2 I2 ru=>⟨v,H1,I2,ru,q⟩
theorem l5 (ha:PE X o ta) (hv:PE X value tv) (hs:swapsWith value (some (.Attribute o f pos')) pos.line X.env=pure false):PS X (.Assign [.Attribute o f pos'] value pos) (zu X.K ta tv f):=by
 intro pins s σ H D I h;refine plainObj_wpAny_Assign_Attribute (thn (hv pins s σ H _ I h) fun u s1 ⟨y,H1,I1,ry,q⟩=>thn (ha pins s1 σ H1 _ I1 q) fun ov s2 ⟨x,H2,I2,rx,a,C,dx,fs,ex,ea,c,n,l,q2⟩=>?_) hs;subst ex;obtain rfl:ov=Wj a:=rx;exact kM I2 ea c n l ry fun s3 I3=>⟨σ,_,I3,q2⟩
theorem nh {op:Operator} {rd:V->V->Hp->VK->Prop} (ha:PE X o ta) (hv:PE X value tv) (QM:yf X op rd):PS X (.AugAssign (.Attribute o f GV) op value pos) (vf X.K ta tv rd f):=by
 intro pins s σ H D I h;refine wpAny_AugAssign_AttributeAny (thn (ha pins s σ H _ I h) fun ov s1 ⟨x,H1,I1,rx,a,C,dx,fs,v,ex,ea,c,n,l,q⟩=>?_);subst ex;obtain rfl:ov=Wj a:=rx;refine kQ I1 ea c n l fun u s2 I2 ru=>thn (hv pins s2 σ H1 _ I2 q) fun w3 s3 ⟨y,H2,I3,ry,q3⟩=>thn (QM pins s3 σ H2 v y u w3 _ I3 ru ry q3) fun w4 s4 ⟨z,H3,I4,rz,Kp,F7,QN,l',q4⟩=>?_;exact kM I4 QN c n l' rz fun s5 I5=>⟨σ,_,I5,q4⟩
def zy:V->V->Hp->VK->Prop:=fun x y H Q=>∃ i j,x=.int i/\y=.int j/\Q (.int (i+j)) H
theorem ul:yf X .Add zy:=by
 rintro pins s σ H x y u v Q I rx ry ⟨i,j,rfl,rfl,q⟩;obtain ⟨t,rfl⟩:=(show ∃ t,u=ZW i t from rx);obtain ⟨t',rfl⟩:=(show ∃ t',v=ZW j t' from ry);exact PyProof.Rows.iadd_int ⟨.int (i+j),H,I.tok _,⟨_,rfl⟩,q⟩
end
section
variable {X:Cx} {pins:List (Vy×Xn)} {σ:St} {H:Hp} {s:VF} {A:Wn} {E:VC->VF->Prop} {Q:VC->VF->Prop} {c:VC} {b:Bool}
inductive ik (K:VB) (H:Hp):V->VC->Prop where
 | non:ik K H .non (.type "NoneType")
 | bl (x:Bool):ik K H (.bl x) (.type "bool")
 | int (i:Int):ik K H (.int i) (.type "int")
 | str (x:V2):ik K H (.str x) (.type "str")
 | flt (x:UInt64):ik K H (.flt x) (.type "float")
 | lst {a:Vy} {xs:List V} (e:H a=some (.lst xs)):ik K H (.ref a) (.type "list")
 | frz {a:Vy} {o:Xn} {xs:List V} (e:H a=some (.frz o (.lst xs))):ik K H (.ref a) (.type "list")
 | tup {a:Vy} {xs:List V} (e:H a=some (.tup xs)):ik K H (.ref a) (.type "tuple")
 | dK {a:Vy} {kvs:List (Key×V)} (e:H a=some (.dK kvs)):ik K H (.ref a) (.type "dict")
 | dT {a:Vy} {kvs:List (List Key×V)} (e:H a=some (.dT kvs)):ik K H (.ref a) (.type "dict")
 | ins {a C dx:Vy} {fs:List (V2×V)} (e:H a=some (.ins C dx fs)) (cl:Cls K C) (ha:Wx K (.ref C) "__class__"=some (some (.builtin "object.__class__")))
  (hn:PySem.W.specialIn K (.builtin "object.__class__") "__get__"=some (some (.builtin "getset_descriptor.__get__"))) (Cp:PySem.W.takesIn K (.builtin "object.__class__")=some true)
  (hm:PySem.W.mroIn K C (.type "object")=some true):ik K H (.ref a) (.ref C)
theorem tK {x:V} {u t:VC} (I:Inv X pins σ H s) (rx:RelV x u) (ty:ik X.K H x t) (e:YD X.K t c=some b) (h:∀ tk,Q (.bool b) { s with toks:=tk }) :
 VT (Wb X.prog X.w) A (call (.builtin "isinstance") [u,c]) Q E s:=by
 cases ty with
 | non=>cases (show u=WV from rx);exact Xe PySem.W.kitx_none I.kIn Yc e (fun z=>nomatch z) h
 | bl y=>cases (show u=Value.bool y from rx);exact Xe PySem.W.kitx_bool I.kIn Yc e (fun z=>nomatch z) h
 | int i=>obtain ⟨t,q⟩:=(show ∃ t,u=ZW i t from rx);cases q;exact Xe PySem.W.kitx_int I.kIn Yc e (fun z=>nomatch z) h
 | str y=>obtain ⟨t,q⟩:=(show ∃ t,u=Value.str y t from rx);cases q;exact Xe PySem.W.kitx_str I.kIn Yc e (fun z=>nomatch z) h
 | flt y=>obtain ⟨t,q⟩:=(show ∃ t,u=Value.float y t from rx);cases q;exact Xe PySem.W.kitx_float I.kIn Yc e (fun z=>nomatch z) h
 | @lst a xs ea =>
   cases (show u=Wj a from rx);obtain ⟨_,_,n,_,h1⟩:=(show ObjOk X.prog X.w H s.heap a (.lst xs) from I.hok a _ ea);exact Xe PySem.W.kitx_list I.kIn ⟨_,h1,rfl⟩ e (fun z=>nomatch z) h
 | @frz a ob xs ea =>
   cases (show u=Wj a from rx);obtain ⟨_,_,_,n,_,h1⟩:=(show ObjOk X.prog X.w H s.heap a (.frz ob (.lst xs)) from I.hok a _ ea);exact Xe PySem.W.kitx_list I.kIn ⟨_,h1,rfl⟩ e (fun z=>nomatch z) h
 | @tup a xs ea =>
   cases (show u=Wj a from rx);obtain ⟨_,_,_,_,h1⟩:=(show ObjOk X.prog X.w H s.heap a (.tup xs) from I.hok a _ ea);exact Xe PySem.W.kitx_tuple I.kIn ⟨_,h1,rfl⟩ e (fun z=>nomatch z) h
 | @dK a kvs ea =>
   cases (show u=Wj a from rx);obtain ⟨_,_,vs,_,p⟩:=(show ObjOk X.prog X.w H s.heap a (.dK kvs) from I.hok a _ ea);obtain ⟨o,es,ep,h1,h2,_⟩:=p;exact Xe PySem.W.kitx_dict I.kIn ⟨o,h1,h2.1⟩ e (fun z=>nomatch z) h
 | @dT a kvs ea =>
   cases (show u=Wj a from rx);obtain ⟨_,_,xs,_,o,es,ep,h1,h2,_⟩:=(show ObjOk X.prog X.w H s.heap a (.dT kvs) from I.hok a _ ea);exact Xe PySem.W.kitx_dict I.kIn ⟨o,h1,h2.1⟩ e (fun z=>nomatch z) h
 | @ins a C dx fs ea cl ha hn Cp hm =>
   cases (show u=Wj a from rx);obtain ⟨mA,O,_⟩:=ko I.hok ea;obtain ⟨od,J,_⟩:=O.look;exact Xe (PySem.W.kitx_own (cl.get _) cl.hd ha hn Cp hm) I.kIn J e (fun z=>nomatch z) h
end
end L2
namespace L2
open PySem PySem.Spec PyProof.Rows
structure Room (k:Nat) (A:Wn):Prop where
 hd:A.handled=none
 dp:A.depth+3 * k+5<recursionLimit
 un:A.units+16 * k+200<Ys
theorem Room.mono {j k:Nat} {A:Wn} (r:Room k A) (h:j<=k):Room j A:=⟨r.hd,by have:=r.dp;omega,by have:=r.un;omega⟩
theorem Room.deeper {k:Nat} {A:Wn} (r:Room (k+1) A) (env:Env):Room k (A.deeper env) :=
 ⟨r.hd,by have:=r.dp;show A.depth+1+3 * k+5<_;omega,by have:=r.un;show A.units+3+16 * k+200<_;omega⟩
theorem rj {A:Wn} {C:Vy} {us:List VC} {kw:List (V2×VC)}:(A.under (.builtin "type.__call__" ⟨.ref C::us,kw⟩)).depth=A.depth+1:=by
 first | rfl | simp [Around.under,Code.weight,Code.isCreation,Code.isGuard,Code.isCaller,Code.frames,Code.isFrame,guardIds]
theorem rc {A:Wn} {C:Vy} {us:List VC} {kw:List (V2×VC)}:(A.under (.builtin "type.__call__" ⟨.ref C::us,kw⟩)).units=A.units+1:=by
 first | rfl | simp [Around.under,Code.cUnits,Code.frames,Code.isFrame]
theorem Room.make {k:Nat} {A:Wn} (r:Room (k+1) A) (C:Vy) (us:List VC) (kw:List (V2×VC)):Room k (A.under (.builtin "type.__call__" ⟨.ref C::us,kw⟩)) :=
 ⟨r.hd,by have:=r.dp;rw [rj];omega,by have:=r.un;rw [rc];omega⟩
theorem Room.depth {k:Nat} {A:Wn} (r:Room k A):A.depth<recursionLimit:=by have:=r.dp;omega
theorem Room.units {k:Nat} {A:Wn} (r:Room k A):A.units+64<Ys:=by have:=r.un;omega
def dk:TA:=fun _ H Q=>Q [] H
def bz (ta:TE) (tr:TA):TA:=fun σ H Q=>ta σ H fun x H1=>tr σ H1 fun xs H2=>Q (x::xs) H2
section
variable {X:Cx} {e:WC} {es:List WC} {te:TE} {t:TA} {pos:Zm}
theorem ae:PA X [] dk:=fun _ _ _ _ H Q I h=>Zt ⟨[],H,I,.nil,h⟩
theorem ac (ha:PE X e te) (hr:PA X es t) (hs:Wr (e::es) X.env=(false,Xx e X.env)::Wr es X.env:=by rfl):PA X (e::es) (bz te t):=by
 intro pos pins s σ H Q I h;rw [hs];show VT _ _ (spliced ((false,Xx e X.env)::YJ pos (Wr es X.env))) _ _ s;refine YB (thn (ha pins s σ H _ I h) fun u s1 ⟨x,H1,I1,r1,q1⟩=>?_);exact thn (hr pos pins s1 σ H1 _ I1 q1) fun us s2 ⟨xs,H2,I2,r2,q2⟩=>⟨x::xs,H2,I2,.cons r1 r2,q2⟩
def ow (t:TA):TE:=fun σ H Q=>t σ H fun xs H1=>xs.length<=V1/\∀ p,H1 p=none->Q (.ref p) (upd H1 p (.tup xs))
def zd (t:TA):TE:=fun σ H Q=>t σ H fun xs H1=>xs.length<=V1/\∀ p,H1 p=none->Q (.ref p) (upd H1 p (.lst xs))
theorem aO {x1} (h:PA X es t):PE X (.Tuple es x1 pos) (ow t):=by
 intro pins s σ H Q I hq;refine wpAny_Tuple_spliced (thn (h pos pins s σ H _ I hq) fun us s1 ⟨xs,H1,I1,r,z,q⟩=>⟨by rw [<- r.length];exact z,?_⟩);have hf:H1 s1.heap.objs.size=none:=I1.hok.fresh (VG _);refine ⟨.ref s1.heap.objs.size,upd H1 s1.heap.objs.size (.tup xs),I1.laid (t':=s1.toks) (fun b u e=>VA _ e) (VG _) ?_,rfl,q _ hf⟩;exact ⟨z,us,0,r,VH _ rfl⟩
theorem aT (h:PA X es t):PE X (.List es pos) (zd t):=by
 intro pins s σ H Q I hq;refine wpAny_List_spliced (thn (h pos pins s σ H _ I hq) fun us s1 ⟨xs,H1,I1,r,z,q⟩=>⟨by rw [<- r.length];exact z,?_⟩);have hf:H1 s1.heap.objs.size=none:=I1.hok.fresh (VG _);refine ⟨.ref s1.heap.objs.size,upd H1 s1.heap.objs.size (.lst xs),I1.laid (t':=s1.toks) (fun b u e=>VA _ e) (VG _) ?_,rfl,q _ hf⟩;exact ⟨z,us,0,r,VH _ rfl⟩
end
abbrev Sp:=List V->Hp->VK->XK->Prop
abbrev CXT:=List Env->Hp->VF->XK->VC->VF->Prop
structure Env0 (P:V3) (w:Wg) (K:VB) (mg:V2->Option VC) (base:WR) (A:Wn) (outer:List Env) (s:VF) (H:Hp):Prop where
 frames:A.frames=some outer
 mod:Mod K mg base
 bs:∀ b o,base.get? b=some o->s.heap.get? b=some o/\H b=none
 bsz:base.objs.size<=s.heap.objs.size
 funs:s.heap.FunFrames base outer
 frf:∀ b∈frs outer,H b=none
 hok:HOk P w H s.heap
 bare:AllBare s.gens
def CE (outer:List Env) (P:V3) (w:Wg) (H:Hp) (s:VF) (Q:VK) (u:VC) (s':VF):Prop :=
 ∃ v H',s'.os=s.os/\AllBare s'.gens/\Un (frs outer) [] H H' s.heap s'.heap/\HOk P w H' s'.heap/\RelV v u/\Q v H'
def CR (CX:CXT) (outer:List Env) (P:V3) (w:Wg) (H:Hp) (s:VF) (Q:VK) (E:XK) (r:Result) (s':VF):Prop :=
 match r with
 | .ok (.ret u)=>CE outer P w H s Q u s'
 | .ok _=>False
 | .error e=>CX outer H s E e s'
structure aP (P:V3) (w:Wg) (K:VB) (mg:V2->Option VC) (base:WR) (CX:CXT) (k:Nat) (f:Vy) (fd:XQ) (ps:List V2) (sp:Sp):Prop where
 len:∀ vs H Q E,sp vs H Q E->vs.length=ps.length
 run:∀ (A:Wn) (outer:List Env) (s:VF) (H:Hp) (args:Args) (us:List VC) (vs:List V) (Q:VK) (E:XK),Room k A->Env0 P w K mg base A outer s H->BindsTo s fd args (ps.zip us)->Vals vs us->sp vs H Q E →
  ZG (Wb P w) A (.call (.ref f) args) (CR CX outer P w H s Q E) s
theorem Env0.make {P:V3} {w:Wg} {K:VB} {mg:V2->Option VC} {base:WR} {A:Wn} {outer:List Env} {s:VF} {H:Hp} (e:Env0 P w K mg base A outer s H) (C:Vy) (us:List VC) (kw:List (V2×VC)) :
 Env0 P w K mg base (A.under (.builtin "type.__call__" ⟨.ref C::us,kw⟩)) outer s H:=⟨by first | exact e.frames | (simpa [Around.under,Code.envs,Code.isFrame,pushEnvs] using e.frames),e.mod,e.bs,e.bsz,e.funs,e.frf,e.hok,e.bare⟩
section
variable {X:Cx} {pins:List (Vy×Xn)} {σ:St} {H:Hp} {s s':VF}
theorem Inv.env0 (I:Inv X pins σ H s):Env0 X.prog X.w X.K X.mg X.base X.A X.stack s H :=
 ⟨I.ok.frames,I.ok.mod,I.bs,WI I.ok.bsz I.sz,I.stack,I.stkFree,I.hok,I.bare⟩
theorem Inv.after {Q:VK} {u:VC} (I:Inv X pins σ H s) (h:CE X.stack X.prog X.w H s Q u s'):EP X pins σ Q u s':=by
 obtain ⟨v,H',os,bare,un,hok,r,q⟩:=h;obtain ⟨hh,g,d,t,GW⟩:=s';obtain rfl:GW=s.os:=os;exact ⟨v,H',I.call (h':=hh) (g':=g) (d':=d) (t':=t) (ch:=[]) un hok bare (fun b z=>absurd z (by simp)),r,q⟩
end
def jU (sp:Sp) (dvs:List V) (E:XK) (t:TA):TE:=fun σ H Q=>t σ H fun vs H1=>sp (vs++dvs) H1 Q E
def yQ (C:Vy) (m:V2) (sp:Sp) (dvs:List V) (E:XK) (ta:TE) (t:TA):TE:=fun σ H Q=>ta σ H fun x H1=>∃ a dx fs,x=.ref a/\H1 a=some (.ins C dx fs)/\fs.lookup m=none ∧
 t σ H1 fun vs H2=>sp (x::(vs++dvs)) H2 Q E
def yz (C:Vy) (sp:Sp) (dvs:List V) (E:XK) (t:TA):TE:=fun σ H Q=>t σ H fun vs H1=>∀ x dx,H1 x=none->H1 dx=none->dx≠x →
 sp (.ref x::(vs++dvs)) (upd (upd H1 dx (.own x)) x (.ins C dx [])) (fun v H2=>v=.non/\Q (.ref x) H2) E
def Binds (K:VB) (fd:XQ) (ps:List V2) (ds:List VC):Prop :=
 ∀ (s:VF) (us:List VC),K.In s.heap->(us++ds).length=ps.length->BindsTo s fd ⟨us,[]⟩ (ps.zip (us++ds))
theorem Binds.all {K:VB} {fd:XQ} {ps:List V2} (h:∀ us:List VC,us.length=ps.length->bindArgs fd ⟨us,[]⟩=pure (ps.zip us)):Binds K fd ps []:=fun s us _ hl=>by
 rw [Xf] at hl ⊢;exact .of_eq (h us hl)
def Passes (CX:CXT) (X:Cx) (E:XK):Prop:=∀ (pins:List (Vy×Xn)) (σ:St) (H:Hp) (s:VF) (e:VC) (s':VF),Inv X pins σ H s->CX X.stack H s E e s'->X.xe e s'
section
variable {X:Cx} {CX:CXT} {k:Nat} {f C:Vy} {fd:XQ} {ps:List V2} {sp:Sp} {dvs:List V} {ds:List VC} {E:XK} {x m:V2} {p pos apos:Zm} {e o:WC} {es:List WC} {ta:TE} {t:TA}
theorem u8 {pins:List (Vy×Xn)} {σ:St} {H:Hp} {s:VF} {Q:VK} {us:List VC} {vs:List V} (F:aP X.prog X.w X.K X.mg X.base CX k f fd ps sp) (hr:Room k X.A) (hb:Binds X.K fd ps ds) (hd:Vals dvs ds) (hx:Passes CX X E)
 (I:Inv X pins σ H s) (r:Vals vs us) (h:sp (vs++dvs) H Q E):VT (Wb X.prog X.w) X.A (call (.ref f) us) (EP X pins σ Q) X.xe s:=by
 have r2:Vals (vs++dvs) (us++ds):=r.append hd;have hl:(us++ds).length=ps.length:=by rw [<- r2.length];exact F.len _ _ _ _ h
 refine wpAny_call (Zr (F.run X.A X.stack s H ⟨us,[]⟩ (us++ds) (vs++dvs) Q E hr I.env0 (hb s us I.kIn hl) r2 h) fun r s' hq=>?_);cases r with
 | error e=>exact hx pins σ H s e s' I hq
 | ok fl =>
   cases fl with
   | ret u=>exact I.after hq
   | next=>exact Xl hq
   | brk=>exact Xl hq
   | cont=>exact Xl hq
theorem rR (F:aP X.prog X.w X.K X.mg X.base CX k f fd ps sp) (hr:Room k X.A) (hg:Gl X x) (hm:X.mg x=some (.ref f)) (hk:Xc X.K (.ref f)=true) (hb:Binds X.K fd ps ds) (hd:Vals dvs ds) (hx:Passes CX X E)
 (ha:PA X (e::es) t) (De:(x == ("__debug__":V2))=false:=by decide) (he:Wr (e::es) X.env=(false,Xx e X.env)::Wr es X.env:=by rfl) (Bj:(YJ pos (Wr es X.env)).any (·.1)=false:=by rfl) :
 PE X (.Call (.Name x p) (e::es) [] pos) (jU sp dvs E t):=by
 intro pins s σ H Q I h;refine W9 (nI I hg hm ?_ De);refine PySem.W.callWith_K (h₀:=X.base) I.ok.mod.kin hk (thn (ha pos pins s σ H _ I h) fun us s1 ⟨vs,H1,I1,r,q⟩=>⟨I1.kIn,?_⟩) he Bj;exact u8 F hr hb hd hx I1 r q
theorem oB {pl:Sem Bool} (he:PE X o ta) (c:Cls X.K C) (hm:Meth X.K C m f) (F:aP X.prog X.w X.K X.mg X.base CX k f fd ps sp) (hr:Room k X.A) (hb:Binds X.K fd ps ds) (hd:Vals dvs ds) (hx:Passes CX X E) (ha:PA X (e::es) t)
 (BZ:Wr (e::es) X.env=(false,Xx e X.env)::Wr es X.env:=by rfl) (Bj:(YJ pos (Wr es X.env)).any (·.1)=false:=by rfl)
 (ht:Xx (.Call (.Attribute o m apos) (e::es) [] pos) X.env=(do
  let ov ← Xx o X.env
  standAt apos.atName
  let (f,first) ← holding [ov] (getMethod ov m pl)
  callWith pos f first (YJ pos (Wr (e::es) X.env)) (backToKw pos (keywordEach [] X.env))):=by rfl) :
 PE X (.Call (.Attribute o m apos) (e::es) [] pos) (yQ C m sp dvs E ta t):=by
 intro pins s σ H Q I h;refine PySem.W.methodCall_KW (pl:=pl) (thn (he pins s σ H _ I h) fun u s1 ⟨x,H1,I1,rx,a,dx,fs,ex,ea,l,q⟩=>?_) ht;subst ex;obtain rfl:u=Wj a:=rx;refine qp I1 ea c hm l ?_;refine PySem.W.callWith_K (first:=[.ref a]) (h₀:=X.base) I.ok.mod.kin hm.kp (thn (ha pos pins s1 σ H1 _ I1 q) fun us s2 ⟨vs,H2,I2,r,q2⟩=>⟨I2.kIn,?_⟩) BZ Bj;exact u8 (us:=.ref a::us) (vs:=.ref a::vs) F hr hb hd hx I2 (.cons rfl r) q2
structure Mk (K:VB) (C f:Vy):Prop where
 makes:PySem.W.makesIn K C=true
 init:Wx K (.ref C) "__init__"=some (some (.ref f))
 fn:Y7 K (.ref f)=true
 kp:Xc K (.ref C)=true
theorem ub {pins:List (Vy×Xn)} {σ:St} {H:Hp} {s:VF} {Q:VK} {us:List VC} {vs:List V} (M:Mk X.K C f) (F:aP X.prog X.w X.K X.mg X.base CX k f fd ps sp) (hr:Room (k+1) X.A) (hb:Binds X.K fd ps ds) (hd:Vals dvs ds)
 (hx:Passes CX X E) (I:Inv X pins σ H s) (r:Vals vs us)
 (h:∀ x dx,H x=none->H dx=none->dx≠x->sp (.ref x::(vs++dvs)) (upd (upd H dx (.own x)) x (.ins C dx [])) (fun v H2=>v=.non/\Q (.ref x) H2) E) :
 VT (Wb X.prog X.w) X.A (call (.ref C) us) (EP X pins σ Q) X.xe s:=by
 have hq:=h (s.heap.objs.size+1) s.heap.objs.size (I.hok.fresh (Nat.le_succ _)) (I.hok.fresh (VG _)) (Wm (Nat.lt_succ_self _));have I2:=Inv.made (C:=C) I;have r2:Vals (V.ref (s.heap.objs.size+1)::(vs++dvs)) (Wj (s.heap.objs.size+1)::(us++ds)):=.cons rfl (r.append hd)
 have hl:(Wj (s.heap.objs.size+1)::us++ds).length=ps.length:=by
  have e:=r2.length;rw [F.len _ _ _ _ hq] at e;exact e.symm
 refine wpAny_call (uX (f:=f) I.kIn M.makes M.init (beq_iff_eq.mp M.fn) (Zr (F.run _ X.stack _ _ ⟨Wj (s.heap.objs.size+1)::us,[]⟩ (Wj (s.heap.objs.size+1)::(us++ds)) _ _ E (hr.make C us [])
  (I2.env0.make C us []) (hb _ (Wj (s.heap.objs.size+1)::us) I2.kIn hl) r2 hq) fun r s' DV=>?_))
 cases r with
 | error e=>exact hx pins σ _ _ e s' I2 DV
 | ok fl =>
   cases fl with
   | ret u =>
     obtain ⟨v,H',I3,rv,ev,q3⟩:=I2.after DV;subst ev;exact ⟨rv,⟨V.ref (s.heap.objs.size+1),H',I3,rfl,q3⟩⟩
   | next=>exact Xl DV
   | brk=>exact Xl DV
   | cont=>exact Xl DV
theorem kT (M:Mk X.K C f) (F:aP X.prog X.w X.K X.mg X.base CX k f fd ps sp) (hr:Room (k+1) X.A) (hg:Gl X x) (hm:X.mg x=some (.ref C)) (hb:Binds X.K fd ps ds) (hd:Vals dvs ds) (hx:Passes CX X E)
 (De:(x == ("__debug__":V2))=false:=by decide):PE X (.Call (.Name x p) [] [] pos) (yz C sp dvs E dk):=by
 intro pins s σ H Q I h;refine W9 (nI I hg hm ?_ De);exact PySem.W.callWith_K0 I.kIn M.kp (ub (us:=[]) M F hr hb hd hx I .nil h)
end
section
variable {X:Cx} {CX:CXT} {k:Nat} {f C:Vy} {fd:XQ} {ps ks:List V2} {sp:Sp} {E:XK} {x m:V2} {p pos apos QO:Zm} {e o:WC} {es:List WC} {UI:List Keyword} {te ta:TE} {t tk:TA} {nm:Option V2}
variable {g:List VC->List VC->List VC} {gV:List V->List V->List V}
end
structure ax (N P:List V2) (sc:Zf):Prop where
 kind:sc.kind=.function
 co:sc.isCoroutine=false
 gen:sc.isGenerator=false
 nd:N.Nodup
 pre:N.take P.length=P
 par:∀ x∈P,sc.names.lookup x=some .local∨sc.names.lookup x=some .cell
 nofree:∀ y∈sc.names,y.2≠.free
theorem mW {kindOf:V2->Option XY} {x:V2}:∀ {binds:List (V2×VC)} {m:V2->Option VC},(∀ v,(x,v)∉binds)->bindL kindOf binds m x=m x
 | [],_,_=>rfl
 | (n,v)::r,m,h=>by
   unfold bindL;rw [mW fun w hw=>h w (Vv _ hw)];split
   · have:x≠n:=by rintro rfl;exact h v VI
     simp [this]
   · rfl
theorem na {kindOf:V2->Option XY} {x:V2}:∀ {binds:List (V2×VC)} {m:V2->Option VC},(∀ v,(x,v)∉binds)->bindC kindOf binds m x=m x
 | [],_,_=>rfl
 | (n,v)::r,m,h=>by
   unfold bindC;rw [na fun w hw=>h w (Vv _ hw)];split
   · rfl
   · have:x≠n:=by rintro rfl;exact h v VI
     simp [this]
theorem mX {kindOf:V2->Option XY} {x:V2} {v:VC}:∀ {P:List V2} {vs:List VC} {i:Nat} {m:V2->Option VC},P.Nodup->P[i]?=some x->vs[i]?=some v->kindOf x=some .local →
 bindL kindOf (P.zip vs) m x=some v
 | [],_,_,_,_,h,_,_=>by simp at h
 | _::_,[],_,_,_,_,h,_=>by simp at h
 | p::P,w::vs,0,m,nd,h1,h2,hk=>by
   simp at h1 h2;subst h1;subst h2;show bindL kindOf ((p,w)::P.zip vs) m p=_;unfold bindL;rw [mW fun v hv=>(WG.mp nd).1 (List.of_mem_zip hv).1,if_pos hk];simp
 | p::P,w::vs,i+1,m,nd,h1,h2,hk=>by
   show bindL kindOf ((p,w)::P.zip vs) m x=_;unfold bindL;exact mX (i:=i) (WG.mp nd).2 (by simpa using h1) (by simpa using h2) hk
theorem mK {kindOf:V2->Option XY} {x:V2} {v:VC}:∀ {P:List V2} {vs:List VC} {i:Nat} {m:V2->Option VC},P.Nodup->P[i]?=some x->vs[i]?=some v->kindOf x≠some .local →
 bindC kindOf (P.zip vs) m x=some v
 | [],_,_,_,_,h,_,_=>by simp at h
 | _::_,[],_,_,_,_,h,_=>by simp at h
 | p::P,w::vs,0,m,nd,h1,h2,hk=>by
   simp at h1 h2;subst h1;subst h2;show bindC kindOf ((p,w)::P.zip vs) m p=_;unfold bindC;rw [na fun v hv=>(WG.mp nd).1 (List.of_mem_zip hv).1,if_neg hk];simp
 | p::P,w::vs,i+1,m,nd,h1,h2,hk=>by
   show bindC kindOf ((p,w)::P.zip vs) m x=_;unfold bindC;exact mK (i:=i) (WG.mp nd).2 (by simpa using h1) (by simpa using h2) hk
def start (N:List V2) (vs:List V):St:=vs.map some++WA (N.length - vs.length) none
def sR (CX:CXT) (P:V3) (w:Wg) (K:VB) (mg:V2->Option VC) (base:WR) (N:List V2) (qual:V2) (scope:Zf) (f:Vy) (cd:VC) (A:Wn) (outer:List Env) (s:VF) (H:Hp) (E:XK):Cx where
 prog:=P
 w:=w
 K:=K
 mg:=mg
 base:=base
 A:=A.deeper (envOfC qual scope s.heap.objs.size f cd)
 N:=N
 s₀:=s
 H₀:=H
 env:=envOfC qual scope s.heap.objs.size f cd
 outer:=outer
 stack:=envOfC qual scope s.heap.objs.size f cd::outer
 ex:=[]
 calm:=true
 fn:=fun _=>true
 pn:=[]
 xe:=fun e s'=>VT (Wb P w) (A.deeper (envOfC qual scope s.heap.objs.size f cd)) (leaving (envOfC qual scope s.heap.objs.size f cd) e) (fun _ Kq=>CX outer H s E e Kq) (fun e' Kq=>CX outer H s E e' Kq) s'
theorem pC {sc:Zf} {n:Nat} {x:V2} (h:sc.names.lookup x=some .cell):∃ c,(cellsFrom n sc.names []).lookup x=some c:=by
 have q:=PySem.W.cellsFrom_some sc.names n [] (.inl h);exact ZR.mp q
theorem tw {CX:CXT} {P:V3} {w:Wg} {K:VB} {mg:V2->Option VC} {base:WR} {N ps:List V2} {qual:V2} {scope:Zf} {f:Vy} {cd:VC} {A:Wn} {outer:List Env} {s s1:VF} {H:Hp} {E:XK} {us:List VC} {vs:List V}
 (S:ax N ps scope) (hd:A.handled=none) (e0:Env0 P w K mg base A outer s H) (hl:vs.length=ps.length) (r:Vals vs us)
 (x:InCallC s s.heap.objs.size (bindL (envOfC qual scope s.heap.objs.size f cd).kindOf (ps.zip us) fun _=>none) (cellsFrom (s.heap.objs.size+1) scope.names []) (bindC (envOfC qual scope s.heap.objs.size f cd).kindOf (ps.zip us) fun _=>none) s1) :
 Inv (sR CX P w K mg base N qual scope f cd A outer s H E) [] (start N vs) H s1:=by
 have Bj:ps.length<=N.length:=by have:=congrArg Y5 S.pre;rw [Wi] at this;omega
 obtain ⟨h1,tk,rfl,hk⟩:=x.done;have GX:∀ b:Vy,b∉(sR CX P w K mg base N qual scope f cd A outer s H E).ex:=fun b z=>absurd (show b∈([]:List Vy) from z) (by simp)
 refine ⟨⟨e0.mod,S.kind,rfl,rfl,VG _,fun y z c h1 h2=>?_,fun y hy=>?_,fun y c _ h=>?_,fun _=>hd,Around.frames_deeper e0.frames,.inr ⟨rfl,rfl⟩,fun b z=>absurd z (GX b),e0.bs,e0.bsz,fun b _ _=>GX b,fun b z=>absurd z (GX b),e0.funs,e0.frf⟩,
  rfl,e0.bare,Un.kept hk,⟨_,x.toInCall.ns,fun i y v h1 h2 h3=>?_⟩,fun y c h=>⟨_,x.cell y c h⟩,e0.hok.fresh (VG _),fun y c h=>?_,fun p hp=>absurd (show p∈([]:List (Vy×Xn)) from hp) (by simp),e0.hok.kept hk,?_⟩
 · exact name_of_addr x.apart (YR h1) (YR h2)
 · have hy:scope.names.lookup y=some .cell∨scope.names.lookup y=some .free:=hy;rcases hy with hy | hy
   · exact pC hy
   · exact absurd rfl (S.nofree _ (YR hy))
 · exact YN (x.above y c (YR h))
 · have hi:i<vs.length:=by
    unfold start at h2;by_cases hi:i<vs.length
    · exact hi
    · rw [XZ (by simpa using hi)] at h2;rw [List.getElem?_replicate] at h2;split at h2 <;> cases h2
   have ha:vs[i]?=some v:=by
    unfold start at h2;rw [Xa (by simpa using hi),VM] at h2;cases e:vs[i]? with
    | none=>rw [e] at h2;cases h2
    | some a=>rw [e] at h2;cases h2;rfl
   obtain ⟨u,hu,rv⟩:=r.get ha
   have hp:ps[i]?=some y:=by
    rw [<- S.pre,List.getElem?_take_of_lt (by omega)];exact h1
   have Oo:ps.Nodup:=by rw [<- S.pre];exact S.nd.sublist (List.take_sublist _ _)
   refine ⟨u,rv,?_⟩;rcases S.par y (VD hp) with k | k
   · exact .inl ⟨k,mX Oo hp hu k⟩
   · obtain ⟨c,e⟩:=pC (n:=s.heap.objs.size+1) k;refine .inr ⟨.inl k,c,e,?_⟩;have q:=x.cell y c e;rw [mK Oo hp hu (by show scope.names.lookup y≠_;rw [k];decide)] at q;exact q
 · exact e0.hok.fresh (YN (x.above y c (YR h)))
 · unfold start;show _=N.length;rw [VO,Vt,List.length_replicate];omega
theorem yi {CX:CXT} {P:V3} {w:Wg} {K:VB} {mg:V2->Option VC} {base:WR} {k:Nat} {f:Vy} {name qual:V2} {params:Arguments} {body:List WZ} {scope:Zf} {dV kV doc pm zQ ct oc:VC} {an od:Option Vy}
 {DW:Array (Option VC)} {N ps:List V2} {sp:Sp} (lk:K.lookup f=some ⟨oc,od,.func (Xv name qual params body scope dV kV doc pm an zQ ct),DW⟩) (CI:Yj K zQ qual=true) (S:ax N ps scope)
 (len:∀ vs H Q E,sp vs H Q E->vs.length=ps.length)
 (Df:∀ (A:Wn) (outer:List Env) (s:VF) (H:Hp) (vs:List V) (Q:VK) (E:XK),Room k (A.deeper (envOfC qual scope s.heap.objs.size f zQ))->sp vs H Q E →
  ∃ t,PSs (sR CX P w K mg base N qual scope f zQ A outer s H E) body t/\t { nx:=fun _ H'=>Q .non H',rt:=Q } (start N vs) H) :
 aP P w K mg base CX (k+1) f (Xv name qual params body scope dV kV doc pm an zQ ct) ps sp:=by
 refine ⟨len,fun A outer s H args us vs Q E hr e0 hb r CJ=>?_⟩;have hl:=len _ _ _ _ CJ;have KX:K.In s.heap:=e0.mod.kin.keeps fun b o e=>(e0.bs b o e).1;have lim:s.heap.NoLimit:=e0.mod.nolimit.keeps fun b o e=>(e0.bs b o e).1
 have GY:∀ y∈ps.zip us,scope.names.lookup y.1=some .local∨(scope.names.lookup y.1=some .cell/\((cellsFrom (s.heap.objs.size+1) scope.names []).lookup y.1).isSome=true):=fun ⟨n,v⟩ hy=>by
  rcases S.par n (List.of_mem_zip hy).1 with q | q
  · exact .inl q
  · exact .inr ⟨q,PySem.W.cellsFrom_some _ _ _ (.inl q)⟩
 refine codeAny_call_function hr.depth (KX _ _ lk) rfl S.co S.gen rfl (PySem.W.codeRec_of KX CI) (hb _ _ _ _ ?_);refine wpAny_newFunctionEnv_cells S.kind GY fun env he s1 x=>?_;subst he;refine ⟨lim.keeps x.toInCall.keep,codeAny_func ?_⟩;obtain ⟨t,ht,hq⟩:=Df A outer s H vs Q E (hr.deeper _) CJ;have I:Inv (sR CX P w K mg base N qual scope f zQ A outer s H E) [] (start N vs) H s1:=tw S hr.hd e0 hl r x;refine XE (ht [] s1 (start N vs) H _ I hq) (fun fl s' hs=>?_) fun e s' hs=>hs
 have fin:∀ {zJ:St} {H':Hp} {v:V} {u:VC},Inv (sR CX P w K mg base N qual scope f zQ A outer s H E) [] zJ H' s'->RelV v u->Q v H'->CE outer P w H s Q u s' :=
  fun {zJ H' v u} J rv q=>⟨v,H',J.os,J.bare,J.base,J.hok,rv,q⟩
 cases fl with
 | ret u =>
   obtain ⟨v,zJ,H',J,rv,q⟩:=hs;exact fin J rv q
 | next =>
   obtain ⟨zJ,H',J,q⟩:=hs;exact fin (v:=V.non) (u:=WV) J rfl q
 | brk =>
   obtain ⟨_,_,_,q⟩:=hs;exact Xl q
 | cont =>
   obtain ⟨_,_,_,q⟩:=hs;exact Xl q
end L2
namespace L2
open PySem PySem.Spec PyProof.Rows
section
variable {X:Cx} {x:V2} {p pos:Zm} {e:WC} {es:List WC} {t:TA} {id T:String} {r:List V->Hp->VK->Prop}
def tCB (r:List V->Hp->VK->Prop) (t:TA):TE:=fun σ H Q=>t σ H fun vs H1=>r vs H1 Q
theorem az (hc:dw X (.builtin id) r) (hg:Gl X x) (hm:X.mg x=none) (hv:ZO x=some (.builtin id)) (ha:PA X (e::es) t) (hn:x≠"__name__":=by decide) (De:(x == ("__debug__":V2))=false:=by decide)
 (he:Wr (e::es) X.env=(false,Xx e X.env)::Wr es X.env:=by rfl) (Bj:(YJ pos (Wr es X.env)).any (·.1)=false:=by rfl):PE X (.Call (.Name x p) (e::es) [] pos) (tCB r t):=by
 intro pins s σ H Q I h;refine W9 (eE I hg hm hv ?_ hn De);exact PyProof.Rows.callWith_builtin1 (thn (ha pos pins s σ H _ I h) fun us s1 ⟨vs,H1,I1,r1,q1⟩=>hc pins s1 σ H1 vs us Q I1 r1 q1) he Bj
theorem bi (hc:dw X (.type T) r) (hg:Gl X x) (hm:X.mg x=none) (hv:ZO x=some (.type T)) (ha:PA X (e::es) t) (hn:x≠"__name__":=by decide) (De:(x == ("__debug__":V2))=false:=by decide)
 (he:Wr (e::es) X.env=(false,Xx e X.env)::Wr es X.env:=by rfl) (Bj:(YJ pos (Wr es X.env)).any (·.1)=false:=by rfl):PE X (.Call (.Name x p) (e::es) [] pos) (tCB r t):=by
 intro pins s σ H Q I h;refine W9 (eE I hg hm hv ?_ hn De);exact W6 (thn (ha pos pins s σ H _ I h) fun us s1 ⟨vs,H1,I1,r1,q1⟩=>hc pins s1 σ H1 vs us Q I1 r1 q1) he Bj
end
end L2
namespace HT
open PySem PyProof.Rows
section
open PySem.SeqAt
open PySem.AutoSeq1 (wpAny_loadPart')
open PySem.MeetsSeq PySem.MeetsSeq2 PySem.MeetsSeq3
end
section
variable {prog:V3} {w:Wg} {A:Wn} {E:VC->VF->Prop} {s:VF}
theorem cat_tup {t b:Vy} {vs ws:List VC} {Q:VC->VF->Prop} (ht:IsTup s.heap t vs.toArray) (hb:IsTup s.heap b ws.toArray) (hv:vs≠[])
 (h1:ws=[]->Q (.ref t) s) (h2:ws≠[]->Q (.ref s.heap.objs.size) { s with heap:=s.heap.push { cls:=.type "tuple",data:=.seq (vs++ws).toArray } })
 (hsz:vs.length+ws.length<=V1):VT (Wb prog w) A (YX .Add (.ref t) (.ref b)) Q E s:=by
 obtain ⟨⟨cls,dd,data,sl⟩,ho,hc,n,hd⟩:=id ht;obtain ⟨⟨GZ,F',data2,Ga⟩,DX,DL,n2,hd2⟩:=id hb;simp only at hc hd DL hd2;subst hc hd DL hd2;have e:vs.toArray++ws.toArray=(vs++ws).toArray:=by simp
 by_cases hw:ws=[]
 · exact concat_meets ⟨_,ho,rfl⟩ ⟨_,DX,rfl⟩ noFill_tuple_add seq_tuple_add Z8 Z0 (ZP _ _)
    (tuple_addW1 t b vs.toArray ws.toArray n n2 dd F' sl Ga (by simpa using hv) (by simp [hw])) ⟨ho,DX,h1 hw⟩
 · refine concat_meets ⟨_,ho,rfl⟩ ⟨_,DX,rfl⟩ noFill_tuple_add seq_tuple_add Z8 Z0 (ZP _ _)
    (tuple_addW2 t b vs.toArray ws.toArray n n2 dd F' sl Ga (by simpa using hv) (by simpa using hw) (by rw [VL,VL];exact hsz)) ⟨ho,DX,?_⟩
   rw [e];exact h2 hw
def sIx (n d:Nat):Option Int->Nat
 | none=>d
 | some v=>if v<0 then (v+(n:Int)).toNat else min v.toNat n
theorem sIx_none (n d:Nat):sIx n d none=d:=rfl
theorem sIx_nat (n d k:Nat):sIx n d (some (k:Int))=min k n:=by
 show (if (k:Int)<0 then ((k:Int)+(n:Int)).toNat else min (k:Int).toNat n)=min k n;rw [if_neg (by omega),WL]
theorem sIx_le (n d:Nat) (hd:d<=n) (o:Option Int):sIx n d o<=n:=by
 cases o with
 | none=>exact hd
 | some v =>
   show (if v<0 then (v+(n:Int)).toNat else min v.toNat n)<=n;by_cases hv:v<0
   · rw [if_pos hv];omega
   · rw [if_neg hv];exact Nat.min_le_right _ _
theorem clip_eq (v:Int) (n d:Nat):(if v<0 then max (v+(n:Int)) 0 else min v (n:Int))=((sIx n d (some v):Nat):Int):=by
 show (if v<0 then max (v+(n:Int)) 0 else min v (n:Int))=(((if v<0 then (v+(n:Int)).toNat else min v.toNat n):Nat):Int);by_cases hv:v<0
 · simp only [if_pos hv];omega
 · simp only [if_neg hv];omega
theorem adjust_gen (lo hi:Option Int) (n:Nat):Yh lo hi 1 (n:Int)=(((sIx n 0 lo:Nat):Int),((sIx n n hi:Nat):Int)):=by
 have h1:¬ ((1:Int)<0):=by omega
 unfold Yh;simp only [h1,if_false];refine Prod.ext ?_ ?_
 · cases lo with
   | none=>rfl
   | some v=>exact clip_eq v n 0
 · cases hi with
   | none=>rfl
   | some v=>exact clip_eq v n n
theorem places_gen (i j:Nat):W4 (i:Int) (j:Int) 1=j - i:=by
 unfold W4;have h1:(1:Int) > 0:=by omega
 simp only [h1,if_true,Int.ediv_one];split <;> omega
theorem slicePart_ {v:VC} {o:Option Int} {Q:Option Int->VF->Prop} (p:IsPart v o) (h:Q o s):VT (Wb prog w) A (Builtin.Slice.slicePartIndex v) Q E s:=by
 cases p with
 | none=>exact slicePart_none h
 | int i t=>exact slicePart_int h
theorem sliceApplied_gen {sl:Vy} {vl vu:VC} {lo hi:Option Int} {n:Nat} {Q:Int×Int×Nat->VF->Prop} (hs:s.heap.IsSliceOf sl vl vu .none) (pl:IsPart vl lo) (pu:IsPart vu hi)
 (h:Q (((sIx n 0 lo:Nat):Int),1,sIx n n hi - sIx n 0 lo) s):VT (Wb prog w) A (YZ (.ref sl) (pure (n:Int))) Q E s:=by
 obtain ⟨os,Bq,B3,BF⟩:=id hs;unfold YZ Builtin.Slice.sliceFields;refine Vu (Vu (Wq Bq BF (x:=vl) rfl (Vu (Wq Bq BF (x:=vu) rfl (Vu (Wq Bq BF (x:=.none) rfl (VE ?_)))))));refine Vu (slicePart_none ?_);show VT _ _ (if ((1:Int) == 0)=true then _ else _) _ _ s;rw [if_neg (by decide)];refine Vu (slicePart_ pl (Vu (slicePart_ pu (Vu (VE ?_)))));show VT _ _ (match Yh lo hi 1 (n:Int) with | (lo,hi)=>pure (lo,(1:Int),W4 lo hi 1)) _ _ s;rw [adjust_gen lo hi n];show VT _ _ (pure (((sIx n 0 lo:Nat):Int),(1:Int),W4 ((sIx n 0 lo:Nat):Int) ((sIx n n hi:Nat):Int) 1)) _ _ s;rw [places_gen];exact VE h
theorem pick_gen (xs:Array VC) (i k:Nat):((WT k).filterMap fun (m:Nat)=>xs[((i:Int)+(m:Int) * 1).toNat]?).toArray=((xs.toList.drop i).take k).toArray:=by
 have e:(fun (m:Nat)=>xs[((i:Int)+(m:Int) * 1).toNat]?)=fun m=>xs[i+m]?:=by
  funext m;have:((i:Int)+(m:Int) * 1).toNat=i+m:=by omega
  rw [this]
 rw [e];have:=pick_run xs i k;rw [List.filterMap_map] at this;have e2:((fun x=>xs[x]?) ∘ fun x=>i+x)=fun m=>xs[i+m]?:=rfl;rw [e2] at this;rw [this]
theorem getItem_tuple_cut {t sl:Vy} {items:Array VC} {vl vu:VC} {lo hi:Option Int} {Q:VC->VF->Prop} (ht:IsTup s.heap t items) (hs:s.heap.IsSliceOf sl vl vu .none) (pl:IsPart vl lo) (pu:IsPart vu hi)
 (hw:¬ (sIx items.size 0 lo=0/\sIx items.size items.size hi=items.size))
 (h:Q (.ref s.heap.objs.size) { s with heap:=s.heap.push { cls:=.type "tuple",data:=.seq ((items.toList.drop (sIx items.size 0 lo)).take (sIx items.size items.size hi - sIx items.size 0 lo)).toArray } })
 (hsz:items.size<=V1):VT (Wb prog w) A (Zq (.ref t) (.ref sl)) Q E s:=by
 have AJ:sizeOk (.seq ((items.toList.drop (sIx items.size 0 lo)).take (sIx items.size items.size hi - sIx items.size 0 lo)).toArray):=by
  show ((items.toList.drop (sIx items.size 0 lo)).take (sIx items.size items.size hi - sIx items.size 0 lo)).toArray.size<=V1;rw [VL,Wi,Wz,V7];omega
 have hj:sIx items.size items.size hi<=items.size:=sIx_le _ _ (VG _) hi;obtain ⟨os,Bq,B3,BF⟩:=id hs;have G0:s.TypeIs (.ref sl) "slice":=⟨os,Bq,B3⟩;unfold Zq
 try with_reducible refine XH ?_
 first | refine Vu (VE ?_) | skip
 refine Vu (wpAny_sequenceKey ht.typeIs (by decide) ?_)
 refine Vu (Ww (name:=Vx "__getitem__") ht.typeIs Wl
  (Wu Wl ht.typeIs entry_tuple_getitem ?_ (args_tuple_getitem _ _)))
 show VT _ _ (Z7 (.ref t) >>= _) _ _ s;refine Vu (tupleItemsOf_ ht ?_);refine Vu (Zn G0 ?_);rw [if_pos (by decide)];refine Vu (sliceApplied_gen hs pl pu ?_)
 have AY:¬ ((((sIx items.size 0 lo:Nat):Int) == 0 && (1:Int) == 1 && (sIx items.size items.size hi - sIx items.size 0 lo) == items.size)=true):=by
  intro q;rw [Zl,Zl] at q;have q1:((sIx items.size 0 lo:Nat):Int)=0:=eq_of_beq q.1.1;have q2:sIx items.size items.size hi - sIx items.size 0 lo=items.size:=eq_of_beq q.2;exact hw ⟨by omega,by omega⟩
 show VT _ _ (if (((sIx items.size 0 lo:Nat):Int) == 0 && (1:Int) == 1 && (sIx items.size items.size hi - sIx items.size 0 lo) == items.size)=true then _ else _) _ _ s;rw [if_neg AY,pick_gen]
 first
  | exact Vu (m:=W7 _) (Wo (VE ⟨_,rfl,VE h⟩) AJ)
  | exact Vu (m:=W7 _) (Wo (Vu (VE (VE ⟨_,rfl,VE h⟩))) AJ)
  | exact Vu (Vu (m:=W7 _) (Wo (VE (VE ⟨_,rfl,VE h⟩)) AJ))
  | exact Vu (Vu (m:=W7 _) (Wo (VE ⟨_,rfl,VE h⟩) AJ))
end
end HT
namespace L2
open PySem PySem.Spec PyProof.Rows
abbrev TO:=St->Hp->(Option Int->Hp->Prop)->Prop
def PO (X:Cx) (e:Option WC) (t:TO):Prop :=
 ∀ (pins:List (Vy×Xn)) (s:VF) (σ:St) (H:Hp) (Q:Option Int->Hp->Prop),Inv X pins σ H s->t σ H Q →
   VT (Wb X.prog X.w) X.A (evalPart e X.env) (fun u s'=>∃ o H',Inv X pins σ H' s'/\IsPart u o/\Q o H') X.xe s
def v9:TO:=fun _ H Q=>Q none H
inductive wx (x:V) (Q:Option Int->Hp->Prop) (H1:Hp):Prop
 | mk (i:Int) (zS:x=.int i) (zT:Q (some i) H1):wx x Q H1
def wM (t:TE):TO:=fun σ H Q=>t σ H fun x H1=>wx x Q H1
theorem intsAre_of {ns:List Int}:∀ {us:List VC},Vals (ns.map V.int) us->IntsAre us ns:=by
 induction ns with
 | nil=>intro us r;rw [Xj] at r;cases r;exact .nil
 | cons n ns ih =>
   intro us r;rw [Wf] at r;cases r with
   | cons r1 r2 =>
     obtain ⟨t,e⟩:=r1;subst e;exact .cons n t (ih r2)
section
variable {X:Cx} {e:WC} {te:TE} {lo hi:Option WC} {tl th:TO} {pos p2:Zm}
theorem bX:PO X none v9:=by
 intro pins s σ H Q I h;rw [evalPart_none];exact VE ⟨none,H,I,.none,h⟩
theorem bP (h:PE X e te):PO X (some e) (wM te):=by
 intro pins s σ H Q I hw;rw [evalPart_some];refine thn (h pins s σ H _ I hw) fun u s1 ⟨x,H1,I1,r1,q1⟩=>?_;obtain ⟨i,rfl,q⟩:=q1;obtain ⟨t,rfl⟩:=r1;exact ⟨some i,H1,I1,.int i t,q⟩
def SlR (X:Cx) (r:V->Option Int->Option Int->Hp->VK->Prop):Prop :=
 ∀ (pins:List (Vy×Xn)) (s:VF) (σ:St) (H:Hp) (x:V) (v vl vu:VC) (lo hi:Option Int) (sl:Vy) (Q:VK),Inv X pins σ H s->RelV x v->s.heap.IsSliceOf sl vl vu .none->IsPart vl lo->IsPart vu hi->r x lo hi H Q →
   ∃ T id,typeLookup (.type T) "__getitem__"=pure (some (.builtin id))/\s.TypeIs v T/\VT (Wb X.prog X.w) X.A (Zq v (.ref sl)) (EP X pins σ Q) X.xe s
def tSl (r:V->Option Int->Option Int->Hp->VK->Prop) (te:TE) (tl th:TO):TE:=fun σ H Q=>te σ H fun x H1=>tl σ H1 fun l H2=>th σ H2 fun u H3=>r x l u H3 Q
theorem bJ {r:V->Option Int->Option Int->Hp->VK->Prop} (hr:SlR X r) (he:PE X e te) (hl:PO X lo tl) (hu:PO X hi th):PE X (.Subscript e (.Slice lo hi none p2) pos) (tSl r te tl th):=by
 intro pins s σ H Q I h;refine Subscript_ (thn (he pins s σ H _ I h) fun v s1 ⟨x,H1,I1,r1,q1⟩=>?_);refine wpAny_Slice (thn (hl pins s1 σ H1 _ I1 q1) fun vl s2 ⟨l,H2,I2,pl,q2⟩=>thn (hu pins s2 σ H2 _ I2 q2) fun vu s3 ⟨u,H3,I3,pu,q3⟩=>?_);rw [evalPart_none];refine VE ?_;have I4:Inv X pins σ H3 { s3 with heap:=s3.heap.push { cls:=.type "slice",data:=.fields #[vl,vu,.none] } }:=I3.kept (t':=s3.toks) fun b ob q=>VA _ q;obtain ⟨T,id,hT,ht,hg⟩:=hr pins { s3 with heap:=s3.heap.push { cls:=.type "slice",data:=.fields #[vl,vu,.none] } } σ H3 x v vl vu l u s3.heap.objs.size Q I4 r1 (Heap.IsSliceOf.new ..) pl pu q3;show VT (Wb X.prog X.w) X.A (subscriptTail e (.Slice lo hi none p2) v (.ref s3.heap.objs.size)) (EP X pins σ Q) X.xe { s3 with heap:=s3.heap.push { cls:=.type "slice",data:=.fields #[vl,vu,.none] } };exact tail_any (ops:=[.ref s3.heap.objs.size,v]) ht hT hg (by with_unfolding_all rfl)
def cG (xs:List V) (lo hi:Option Int):List V:=(xs.drop (HT.sIx xs.length 0 lo)).take (HT.sIx xs.length xs.length hi - HT.sIx xs.length 0 lo)
theorem dI (xs:List V) (lo hi:Option Int):(cG xs lo hi).length<=xs.length:=by
 unfold cG;rw [Wi,Wz];omega
inductive wG (K:VB) (x:V) (lo:Option Int) (hi:Option Int) (H:Hp) (Q:VK):Prop
 | mk (a:_) (xs:_) (zS:x=.ref a) (zT:SqT K H a xs) (zX:¬ (HT.sIx xs.length 0 lo=0/\HT.sIx xs.length xs.length hi=xs.length)) (Af:∀ p,H p=none->Q (.ref p) (upd H p (.tup (cG xs lo hi)))):wG K x lo hi H Q
def zx (K:VB):V->Option Int->Option Int->Hp->VK->Prop:=wG K
theorem og:SlR X (zx X.K):=by
 intro pins s σ H x v vl vu lo hi sl Q I rx hs pl pu h;obtain ⟨a,xs,rfl,hx,hw,q⟩:=h;cases rx;obtain ⟨its,r,ht,hz⟩:=I.tuple hx;have hlen:its.toArray.size=xs.length:=by rw [VL];exact r.length.symm
 refine ⟨"tuple",_,Wl.lookup,ht.typeIs,?_⟩;refine HT.getItem_tuple_cut ht hs pl pu (by rw [hlen];exact hw) ?_ (by rw [hlen];exact hz);rw [hlen];refine ⟨.ref s.heap.objs.size,_,I.laid (t':=s.toks) (o:=.tup (cG xs lo hi)) (fun b ob q=>VA _ q) (VG _) ?_,rfl,q _ (I.hok.fresh (VG _))⟩;exact ⟨WI (dI xs lo hi) hz,_,0,(r.drop (HT.sIx xs.length 0 lo)).take (HT.sIx xs.length xs.length hi - HT.sIx xs.length 0 lo),VH _ rfl⟩
def yO (K:VB):R2:=fun x y H Q=>∃ a b xs ys,x=.ref a/\y=.ref b/\SqT K H a xs/\SqT K H b ys/\xs≠[]/\xs.length+ys.length<=V1 ∧
 (ys=[]->Q (.ref a) H)/\(ys≠[]->∀ p,H p=none->Q (.ref p) (upd H p (.tup (xs++ys))))
theorem Vals.nil_iff {xs:List V} {us:List VC} (r:Vals xs us):us=[]↔xs=[]:=by
 cases r with
 | nil=>simp
 | cons _ _=>simp
theorem vB:OpR X (YX .Add) (yO X.K):=by
 intro pins s σ H x y v u Q I rx ry h;obtain ⟨a,b,xs,ys,rfl,rfl,ha,hb,hx,hz,q1,q2⟩:=h;cases rx;cases ry;obtain ⟨its,r1,p1,_⟩:=I.tuple ha;obtain ⟨zW,r2,p2,_⟩:=I.tuple hb;refine HT.cat_tup p1 p2 (fun z=>hx (r1.nil_iff.mp z)) (fun z=>⟨.ref a,H,I,rfl,q1 (r2.nil_iff.mp z)⟩) (fun z=>?_) (by rw [<- r1.length,<- r2.length];exact hz);refine ⟨.ref s.heap.objs.size,_,I.laid (t':=s.toks) (o:=.tup (xs++ys)) (fun b ob q=>VA _ q) (VG _) ?_,rfl,q2 (fun w=>z (r2.nil_iff.mpr w)) _ (I.hok.fresh (VG _))⟩;exact ⟨by rw [VO];exact hz,_,0,r1.append r2,VH _ rfl⟩
end
end L2
namespace L2
open PySem PySem.Spec PyProof.Rows
def ixN (n:Nat) (i:Int):Option Nat:=if 0<=i then (if i<n then some i.toNat else none) else if -(n:Int)<=i then some (i+n).toNat else none
def atI {α:Type} (xs:List α) (i:Int):Option α:=(ixN xs.length i).bind fun j=>xs[j]?
theorem rZ {n:Nat} {i:Int} {j:Nat} (h:ixN n i=some j):seqIndex? i n=some j/\j<n/\-(n:Int)<=i/\i<n:=by
 unfold ixN at h;by_cases h0:0<=i
 · rw [if_pos h0] at h;by_cases h1:i<n
   · rw [if_pos h1] at h;have e:i.toNat=j:=VZ h;exact ⟨by rw [seqIndex_of h0 h1,e],by omega,by omega,h1⟩
   · rw [if_neg h1] at h;cases h
 · rw [if_neg h0] at h;by_cases h1:-(n:Int)<=i
   · rw [if_pos h1] at h;have e:(i+n).toNat=j:=VZ h;exact ⟨by rw [seqIndex_neg (by omega) h1,e],by omega,h1,by omega⟩
   · rw [if_neg h1] at h;cases h
theorem om {α:Type} {xs:List α} {i:Int} {v:α} (h:atI xs i=some v):∃ j,seqIndex? i xs.length=some j/\xs[j]?=some v/\j<xs.length/\-(xs.length:Int)<=i/\i<xs.length:=by
 unfold atI at h;cases e:ixN xs.length i with
 | none=>rw [e] at h;cases h
 | some j =>
   rw [e] at h;obtain ⟨h1,h2,h3,h4⟩:=rZ e;exact ⟨j,h1,h,h2,h3,h4⟩
theorem bK {α:Type} {xs:List α} {j:Nat} {v:α} (h:xs[j]?=some v):atI xs (j:Int)=some v:=by
 have hj:j<xs.length:=(Vz.mp h).1
 have e:ixN xs.length (j:Int)=some j:=by
  unfold ixN;rw [if_pos (by omega),if_pos (by omega)];simp
 unfold atI;rw [e];exact h
def vX (b:WC):Prop:=∀ o i,subscripted b false o i=operate [o,i] (Zq o i)
def IxR (X:Cx) (r:R2):Prop :=
 ∀ (value slice:WC) (pins:List (Vy×Xn)) (s:VF) (σ:St) (H:Hp) (x y:V) (v u:VC) (Q:VK),Inv X pins σ H s->RelV x v->RelV y u->r x y H Q →
   subscripted slice false v u=operate [v,u] (Zq v u)->VT (Wb X.prog X.w) X.A (subscriptTail value slice v u) (EP X pins σ Q) X.xe s
def MtR (X:Cx) (id:String) (r:V->List V->Hp->VK->Prop):Prop :=
 ∀ (pins:List (Vy×Xn)) (s:VF) (σ:St) (H:Hp) (x:V) (xs:List V) (v:VC) (us:List VC) (Q:VK),Inv X pins σ H s->RelV x v->Vals xs us->r x xs H Q →
   VT (Wb X.prog X.w) X.A (call (.builtin id) (v::us)) (EP X pins σ Q) X.xe s
section
variable {X:Cx} {a b:WC} {ta tb:TE} {pos:Zm}
theorem aK {r:R2} (hr:IxR X r) (ha:PE X a ta) (hb:PE X b tb) (hs:vX b):PE X (.Subscript a b pos) (tOp r ta tb):=by
 intro pins s σ H Q I h;exact Subscript_ (wU ha hb I h fun v u s2 x y H2 I2 rx ry q=>hr a b pins s2 σ H2 x y v u Q I2 rx ry q (hs _ _))
inductive wB (K:VB) (x:V) (y:V) (H:Hp) (Q:VK):Prop
 | mk (p:_) (xs:_) (i:_) (v:_) (zS:x=.ref p) (zT:y=.int i) (zX:SqL K H p xs) (Af:atI xs i=some v) (Av:Q v H):wB K x y H Q
def zE (K:VB):R2:=wB K
inductive wu (K:VB) (x:V) (y:V) (H:Hp) (Q:VK):Prop
 | mk (p:_) (xs:_) (i:_) (v:_) (zS:x=.ref p) (zT:y=.int i) (zX:SqT K H p xs) (Af:atI xs i=some v) (Av:Q v H):wu K x y H Q
def mw (K:VB):R2:=wu K
inductive wE (x:V) (y:V) (H:Hp) (Q:VK):Prop
 | mk (z:_) (i:_) (c:_) (zS:x=.str z) (zT:y=.int i) (zX:z.length<=V1) (Af:atI z.cps.toList i=some c) (Av:Q (.str ⟨#[c]⟩) H):wE  x y H Q
def ze:R2:=wE
theorem bY:IxR X (zE X.K):=by
 intro value slice pins s σ H x y v u Q I rx ry h hs;obtain ⟨p,xs,i,z,rfl,rfl,hq,he,q⟩:=h;cases rx;obtain ⟨t,rfl⟩:=ry;obtain ⟨its,r,pl,hz⟩:=I.list hq;obtain ⟨j,h1,h2,h3,h4,h5⟩:=om he;obtain ⟨w,ew,Dg⟩:=r.get h2;have hl:=r.length;have hn:=eT;have fin:EP X pins σ Q w s:=⟨z,H,I,Dg,q⟩;by_cases h0:0<=i
 · have hj:i.toNat=j:=by
    rw [seqIndex_of h0 h5] at h1;exact VZ h1
   exact item_listR pl.isList h0 (by omega) (by rw [hj];simpa using ew) fin hs
 · have hj:(i+(its.toArray.size:Int)).toNat=j:=by
    rw [seqIndex_neg (by omega) h4] at h1;rw [VL,<- hl];exact VZ h1
   exact subscriptTail_builtinR (x:=w) pl.isList.typeIs slot_list_getitem.lookup
    (wpAny_getItem_list_neg (Q:=fun r s'=>r=w/\EP X pins σ Q r s') pl.isList (by omega) (by rw [VL] <;> omega) (by omega) (by rw [hj];simpa using ew) ⟨rfl,fin⟩) hs
theorem aL:IxR X (mw X.K):=by
 intro value slice pins s σ H x y v u Q I rx ry h hs;obtain ⟨p,xs,i,z,rfl,rfl,hq,he,q⟩:=h;cases rx;obtain ⟨t,rfl⟩:=ry;obtain ⟨its,r,pl,hz⟩:=I.tuple hq;obtain ⟨j,h1,h2,h3,h4,h5⟩:=om he;obtain ⟨w,ew,Dg⟩:=r.get h2;have hl:=r.length;have hn:=eT;have fin:EP X pins σ Q w s:=⟨z,H,I,Dg,q⟩
 exact subscriptTail_builtinR (x:=w) pl.typeIs slot_tuple_getitem.lookup
  (getItem_tuple (j:=j) (Q:=fun r s'=>r=w/\EP X pins σ Q r s') pl (by omega) (by omega) (by rw [VL,<- hl];exact h1) (by simpa using ew) ⟨rfl,fin⟩) hs
theorem uV:IxR X ze:=by
 intro value slice pins s σ H x y v u Q I rx ry h hs;obtain ⟨z,i,c,rfl,rfl,hz,he,q⟩:=h;obtain ⟨t,rfl⟩:=rx;obtain ⟨t',rfl⟩:=ry;obtain ⟨j,h1,h2,h3,h4,h5⟩:=om he;have hl:z.cps.toList.length=z.length:=by simp [Str.length]
 rw [hl] at h1 h4 h5;have hn:=eT
 exact tail_any (typeIs_str s z t) slot_str_getitem.lookup (getItem_str (c:=c) (by
  have e1:decide (i < -(2 ^ 63:Int))=false:=decide_eq_false (by omega);have e2:decide (i ≥ 2 ^ 63)=false:=decide_eq_false (by omega);rw [e1,e2,Bool.or_false]) (by rw [h1];simpa using h2) ⟨.str ⟨#[c]⟩,H,I.tok _,⟨_,rfl⟩,q⟩) hs
theorem nO (lo hi:Option Int) (n:Nat):(Ze lo hi none n).1=((HT.sIx n 0 lo:Nat):Int)/\(Ze lo hi none n).2.1=((HT.sIx n n hi:Nat):Int)/\(Ze lo hi none n).2.2=1:=by
 refine ⟨?_,?_,rfl⟩
 · cases lo with
   | none=>simp [Ze,HT.sIx]
   | some i =>
     simp only [Ze,HT.sIx,Zj,show (1:Int) > 0 by decide,if_true];by_cases h:i<0
     · simp only [h,if_true] <;> omega
     · simp only [h,if_false] <;> omega
 · cases hi with
   | none=>simp [Ze,HT.sIx]
   | some i =>
     simp only [Ze,HT.sIx,Zj,show (1:Int) > 0 by decide,if_true];by_cases h:i<0
     · simp only [h,if_true] <;> omega
     · simp only [h,if_false] <;> omega
theorem ma (its:List VC) (lo hi:Option Int):slicePick its.toArray lo hi none=((its.drop (HT.sIx its.length 0 lo)).take (HT.sIx its.length its.length hi - HT.sIx its.length 0 lo)).toArray:=by
 obtain ⟨h1,h2,h3⟩:=nO lo hi its.toArray.size;unfold slicePick;rw [h1,h2,h3];simp only [sliceRange_one,pick_run,VL] <;> rfl
inductive wC (K:VB) (x:V) (lo:Option Int) (hi:Option Int) (H:Hp) (Q:VK):Prop
 | mk (a:_) (xs:_) (zS:x=.ref a) (zT:SqL K H a xs) (zX:∀ p,H p=none->Q (.ref p) (upd H p (.lst (cG xs lo hi)))):wC K x lo hi H Q
def zg (K:VB):V->Option Int->Option Int->Hp->VK->Prop:=wC K
theorem gb:SlR X (zg X.K):=by
 intro pins s σ H x v vl vu lo hi sl Q I rx hs pl pu h;obtain ⟨a,xs,rfl,hx,q⟩:=h;cases rx;obtain ⟨its,r,ht,hz⟩:=I.list hx;have hlen:=r.length;refine ⟨"list",_,slot_list_getitem.lookup,ht.isList.typeIs,?_⟩;refine wpAny_getItem_list_slice ht.isList hs pl pu .none (by simp) ?_ (by rw [VL] <;> omega);rw [ma,<- hlen];refine ⟨.ref s.heap.objs.size,_,I.laid (t':=s.toks) (o:=.lst (cG xs lo hi)) (fun b ob q=>VA _ q) (VG _) ?_,rfl,q _ (I.hok.fresh (VG _))⟩;exact ⟨WI (dI xs lo hi) hz,_,0,(r.drop (HT.sIx xs.length 0 lo)).take (HT.sIx xs.length xs.length hi - HT.sIx xs.length 0 lo),VH _ rfl⟩
def jQ:V->Bool
 | .non=>true
 | .bl _=>true
 | .int _=>true
 | .str _=>true
 | _=>false
def eqV:V->V->Bool
 | .non,.non=>true
 | .bl a,.bl b=>a == b
 | .bl a,.int b=>(if a then 1 else 0) == b
 | .int a,.bl b=>a == (if b then 1 else 0)
 | .int a,.int b=>a == b
 | .str a,.str b=>a == b
 | _,_=>false
theorem xk {A:Wn} {s:VF} {y x:V} {u v:VC} (ry:RelV y u) (rx:RelV x v) (fy:jQ y=true) (fx:jQ x=true):SeqAt.EqAt A s u v (eqV y x):=by
 cases y with
 | non =>
   cases ry;cases x with
   | non=>cases rx;exact SeqAt.EqAt.same _
   | bl b=>cases rx;exact SeqAt.EqAt.none_bool b
   | int b=>obtain ⟨t,rfl⟩:=rx;exact SeqAt.EqAt.none_int b t
   | str b=>obtain ⟨t,rfl⟩:=rx;exact SeqAt.EqAt.none_str b t
   | _=>exact absurd (show false=true from fx) VS
 | bl a =>
   cases ry;cases x with
   | non=>cases rx;exact SeqAt.EqAt.bool_none a
   | bl b=>cases rx;exact SeqAt.EqAt.bool_bool a b
   | int b=>obtain ⟨t,rfl⟩:=rx;exact SeqAt.EqAt.bool_int a b t
   | str b=>obtain ⟨t,rfl⟩:=rx;exact SeqAt.EqAt.bool_str a b t
   | _=>exact absurd (show false=true from fx) VS
 | int a =>
   obtain ⟨t',rfl⟩:=ry;cases x with
   | non=>cases rx;exact SeqAt.EqAt.int_none a t'
   | bl b=>cases rx;exact SeqAt.EqAt.int_bool a t' b
   | int b=>obtain ⟨t,rfl⟩:=rx;exact SeqAt.EqAt.int_int a t' b t
   | str b=>obtain ⟨t,rfl⟩:=rx;exact SeqAt.EqAt.int_str a t' b t
   | _=>exact absurd (show false=true from fx) VS
 | str a =>
   obtain ⟨t',rfl⟩:=ry;cases x with
   | non=>cases rx;exact SeqAt.EqAt.str_none a t'
   | bl b=>cases rx;exact SeqAt.EqAt.str_bool a t' b
   | int b=>obtain ⟨t,rfl⟩:=rx;exact SeqAt.EqAt.str_int a t' b t
   | str b=>obtain ⟨t,rfl⟩:=rx;exact SeqAt.EqAt.str_str a t' b t
   | _=>exact absurd (show false=true from fx) VS
 | _=>exact absurd (show false=true from fy) VS
def eqU (x:V) (u:VC):Bool:=match u with
 | .none=>eqV .non x
 | .bool b=>eqV (.bl b) x
 | .int i _=>eqV (.int i) x
 | .str z _=>eqV (.str z) x
 | _=>false
theorem uO {x y:V} {u:VC} (r:RelV y u) (f:jQ y=true):eqU x u=eqV y x:=by
 cases y with
 | non=>cases r;rfl
 | bl b=>cases r;rfl
 | int i=>obtain ⟨t,rfl⟩:=r;rfl
 | str z=>obtain ⟨t,rfl⟩:=r;rfl
 | _=>exact absurd (show false=true from f) VS
theorem oE {x:V}:∀ {xs:List V} {us:List VC},Vals xs us->xs.all jQ=true->us.any (eqU x)=xs.any fun y=>eqV y x
 | _,_,.nil,_=>rfl
 | y::xs,u::us,.cons r t,f=>by
   rw [ZT,Zl] at f;rw [ZS,ZS,uO r f.1,oE t f.2]
theorem lN {A:Wn} {s:VF} {x:V} {v:VC} (rx:RelV x v) (fx:jQ x=true):∀ {xs:List V} {us:List VC},Vals xs us->xs.all jQ=true->∀ u∈us,SeqAt.EqAt A s u v (eqU x u)
 | _,_,.nil,_=>fun u hu=>by cases hu
 | y::xs,u::us,.cons r t,f=>fun u' hu=>by
   rw [ZT,Zl] at f;rcases VP.mp hu with rfl | hu
   · rw [uO r f.1];exact xk r rx f.1 fx
   · exact lN rx fx t f.2 u' hu
def inV (x:V) (xs:List V):Bool:=xs.any fun y=>eqV y x
def rIn (K:VB) (neg:Bool):R2:=fun x y H Q=>∃ p xs,y=.ref p/\(SqL K H p xs∨SqT K H p xs)/\jQ x=true/\xs.all jQ=true/\Q (.bl (if neg then !inV x xs else inV x xs)) H
theorem tH:OpR X (Xp .In) (rIn X.K false):=by
 intro pins s σ H x y v u Q I rx ry h;obtain ⟨p,xs,rfl,hq,fx,fs,q⟩:=h;cases ry;rcases hq with hq | hq
 · obtain ⟨its,r,pl,hz⟩:=I.list hq;refine SeqAt.in_listAt (eqU x) pl.isList (fun w hw=>lN rx fx r fs w (by simpa using hw)) ⟨.bl _,H,I,rfl,?_⟩;rw [show its.toArray.any (eqU x)=its.any (eqU x) by simp,oE r fs];exact q
 · obtain ⟨its,r,pl,hz⟩:=I.tuple hq;refine SeqAt.in_tupleAt (eqU x) pl (fun w hw=>lN rx fx r fs w (by simpa using hw)) ⟨.bl _,H,I,rfl,?_⟩;rw [show its.toArray.any (eqU x)=its.any (eqU x) by simp,oE r fs];exact q
inductive wI (K:VB) (xs:List V) (H:Hp) (Q:VK):Prop
 | mk (p:Vy) (ys:List V) (zS:xs=[.ref p]) (zT:SqL K H p ys∨SqT K H p ys) (zX:Q (.int ys.length) H):wI K xs H Q
theorem ay:dw X (.builtin "len") (wI X.K):=by
 intro pins s σ H xs us Q I r h;obtain ⟨p,ys,rfl,hq,q⟩:=h;obtain ⟨u,rfl,rx⟩:=vals1 r;cases rx;have hn:=eT;rcases hq with hq | hq
 · obtain ⟨its,r',pl,hz⟩:=I.list hq;have hlen:=r'.length;exact Calls.call_len_list pl.isList (by simp only [VL] <;> omega) ⟨.int ys.length,H,I.tok _,⟨s.toks+1,by rw [VL,hlen]⟩,q⟩
 · obtain ⟨its,r',pl,hz⟩:=I.tuple hq;have hlen:=r'.length;exact len_tuple pl (by simp only [VL] <;> omega) ⟨.int ys.length,H,I.tok _,⟨s.toks+1,by rw [VL,hlen]⟩,q⟩
theorem eM:dw X (.builtin "len") (fun xs H Q=>∃ z,xs=[.str z]/\z.length<=V1/\Q (.int z.length) H):=by
 intro pins s σ H xs us Q I r h;obtain ⟨z,rfl,hz,q⟩:=h;obtain ⟨u,rfl,t,rfl⟩:=vals1 r;have hn:=eT;exact len_str (by omega) ⟨.int z.length,H,I.tok _,⟨_,rfl⟩,q⟩
theorem aY:dw X (.type "tuple") (fun xs H Q=>∃ p ys,xs=[.ref p]/\((SqL X.K H p ys/\∀ l,H l=none->Q (.ref l) (upd H l (.tup ys)))∨(SqT X.K H p ys/\Q (.ref p) H))):=by
 intro pins s σ H xs us Q I r h;obtain ⟨p,ys,rfl,h⟩:=h;obtain ⟨u,rfl,rx⟩:=vals1 r;cases rx;rcases h with ⟨hq,q⟩ | ⟨hq,q⟩
 · obtain ⟨its,r',pl,hz⟩:=I.list hq;have hlen:=r'.length;refine call_tuple_list pl.isList (fun h' kp=>?_) (by simp only [VL] <;> omega);have I1:Inv X pins σ H { s with heap:=h' }:=I.kept (t':=s.toks) kp
   have I2:Inv X pins σ (upd H h'.objs.size (.tup ys)) { s with heap:=h'.push { cls:=.type "tuple",data:=.seq its.toArray } } :=
    I1.laid (t':=s.toks) (fun b o e=>VA _ e) (VG _) (show ObjOk X.prog X.w _ _ _ (.tup ys) from ⟨hz,its,0,r',VH _ rfl⟩)
   exact ⟨.ref h'.objs.size,_,I2,rfl,q _ (I1.hok.fresh (VG _))⟩
 · obtain ⟨its,r',pl,hz⟩:=I.tuple hq;exact call_tuple_same pl ⟨.ref p,H,I,rfl,q⟩
def tyV (K:VB) (T:String) (x:V) (H:Hp):Prop:=match x with
 | .str _=>T="str"
 | .int _=>T="int"
 | .ref p=>(T="list"/\∃ xs,SqL K H p xs)∨(T="tuple"/\∃ o,K.lookup p=some o/\o.cls=.type "tuple"/\o.dict=none) ∨
  (T="dict"/\((∃ kvs,H p=some (.dK kvs))∨∃ kvs,H p=some (.dT kvs)))∨(T="set"/\∃ S n,H p=some (.set S n))
 | _=>False
theorem uc {pins:List (Vy×Xn)} {σ:St} {H:Hp} {s:VF} {T:String} {x:V} {v:VC} (I:Inv X pins σ H s) (r:RelV x v) (ty:tyV X.K T x H) :
 s.TypeIs v T/\∀ a,v=.ref a->∃ ob,s.heap.get? a=some ob/\ob.dict=none:=by
 cases x with
 | str z =>
   obtain ⟨t,rfl⟩:=r;cases (show T="str" from ty);exact ⟨typeIs_str s z t,fun _ e=>nomatch e⟩
 | int i =>
   obtain ⟨t,rfl⟩:=r;cases (show T="int" from ty);exact ⟨typeIs_int s i t,fun _ e=>nomatch e⟩
 | ref p =>
   cases r;rcases ty with ⟨rfl,xs,hq⟩ | ⟨rfl,o,hk,hc,hd⟩ | ⟨rfl,hk⟩ | ⟨rfl,S,n,hk⟩
   · obtain ⟨its,_,pl,_⟩:=I.list hq;refine ⟨pl.isList.typeIs,fun a e=>?_⟩;cases e;obtain ⟨o,n,e,c,hd,_⟩:=pl;exact ⟨o,e,hd⟩
   · refine ⟨⟨o,I.kIn p o hk,hc⟩,fun a e=>?_⟩;cases e;exact ⟨o,I.kIn _ o hk,hd⟩
   · have z:∃ o,s.heap.get? p=some o/\o.ExactDict:=by
      rcases hk with ⟨kvs,hk⟩ | ⟨kvs,hk⟩
      · obtain ⟨_,_,_,_,o,_,_,e,ex,_⟩:=I.hok p _ hk;exact ⟨o,e,ex⟩
      · obtain ⟨_,_,_,_,o,_,_,e,ex,_⟩:=I.hok p _ hk;exact ⟨o,e,ex⟩
     obtain ⟨o,e,ex⟩:=z;refine ⟨⟨o,e,ex.1⟩,fun a e2=>?_⟩;cases e2;exact ⟨o,e,ex.2.1⟩
   · obtain ⟨o,_,_,_,e,ex,_⟩:=I.hok p _ hk;refine ⟨⟨o,e,ex.1⟩,fun a e2=>?_⟩;cases e2;exact ⟨o,e,ex.2.1⟩
 | _=>exact Xl ty
def yJ (K:VB) (T:String) (r:V->List V->Hp->VK->Prop) (to:TE):TE:=fun σ H Q=>to σ H fun x H1=>tyV K T x H1/\r x [] H1 Q
def tBM (K:VB) (T:String) (r:V->List V->Hp->VK->Prop) (to:TE) (t:TA):TE:=fun σ H Q=>to σ H fun x H1=>tyV K T x H1/\t σ H1 fun xs H2=>r x xs H2 Q
variable {o e:WC} {es:List WC} {to:TE} {t:TA} {name:V2} {apos Ad:Zm} {T id:String} {r:V->List V->Hp->VK->Prop}
theorem kI (pa:PlainAttrs T) (slot:Slot T name id) (Kr:typeOf (.builtin id)=pure (.type "method_descriptor")) (hm:MtR X id r) (ho:PE X o to)
 (AK:YH o name X.env (Xx o X.env)=Xx o X.env:=by rfl) (AL:(apos.endLine == Ad.line)=true:=by rfl):PE X (.Call (.Attribute o name apos) [] [] Ad) (yJ X.K T r to):=by
 intro pins s σ H Q I h;refine Zd AK AL (thn (ho pins s σ H _ I h) fun v s1 ⟨x,H1,I1,r1,ty,q1⟩=>?_);obtain ⟨h1,h2⟩:=uc I1 r1 ty;exact ⟨T,id,pa,slot,Kr,h1,h2,Zu rfl (Zy (hm pins s1 σ H1 x [] v [] Q I1 r1 .nil q1))⟩
theorem cv (pa:PlainAttrs T) (slot:Slot T name id) (Kr:typeOf (.builtin id)=pure (.type "method_descriptor")) (hm:MtR X id r) (ho:PE X o to) (ha:PA X (e::es) t)
 (AK:YH o name X.env (Xx o X.env)=Xx o X.env:=by rfl)
 (Ks:((YJ Ad (Wr (e::es) X.env)).all (fun x=>!x.1) && (backToKw Ad (keywordEach [] X.env)).all (fun x=>x.1.isSome)
  && decide ((e::es).length+([]:List Keyword).length+(if ([]:List Keyword).isEmpty then 0 else 1)<30))=true:=by rfl)
 (AL:(apos.endLine == Ad.line)=true:=by rfl) (hs:Wr (e::es) X.env=(false,Xx e X.env)::Wr es X.env:=by rfl) (B4:(YJ Ad (Wr es X.env)).any (·.1)=false:=by rfl) :
 PE X (.Call (.Attribute o name apos) (e::es) [] Ad) (tBM X.K T r to t):=by
 intro pins s σ H Q I h;refine wpAny_Call_method_late AK Ks AL rfl (thn (ho pins s σ H _ I h) fun v s1 ⟨x,H1,I1,r1,ty,q1⟩=>?_);obtain ⟨h1,h2⟩:=uc I1 r1 ty;refine ⟨T,id,pa,slot,Kr,h1,h2,?_⟩;have hA:=ha Ad pins s1 σ H1 _ I1 q1;rw [hs] at hA ⊢;refine Zu (by show (false || (YJ Ad (Wr es X.env)).any (·.1))=false;rw [B4] <;> rfl) (Calls.evalArgs_plain ?_);exact thn hA fun us s2 ⟨vs,H2,I2,r2,q2⟩=>hm pins s2 σ H2 x vs v us Q I2 r1 r2 q2
end
end L2
namespace L2
open PySem PySem.Spec PyProof.Rows
def MtM (X:Cx) (id:String) (r:V->List V->Hp->VK->Prop):Prop :=
 ∀ (pins:List (Vy×Xn)) (s:VF) (σ:St) (H:Hp) (x:V) (xs:List V) (v:VC) (us:List VC) (Q:VK),Inv X pins σ H s->RelV x v->Vals xs us->r x xs H Q →
   VT (Wb X.prog X.w) X.A (call (.builtin id) (v::us)) (EP X pins σ Q) X.xe s
theorem Vals.one:∀ {x:V} {us:List VC},Vals [x] us->∃ u,us=[u]/\RelV x u
 | _,_,.cons r .nil=>⟨_,rfl,r⟩
theorem Vals.zero:∀ {us:List VC},Vals [] us->us=[]
 | _,.nil=>rfl
theorem Vals.dropLast {xs:List V} {us:List VC} (h:Vals xs us):Vals xs.dropLast us.dropLast:=by
 induction h with
 | nil=>exact .nil
 | cons r t ih =>
   cases t with
   | nil=>exact .nil
   | cons q t'=>exact .cons r ih
theorem Vals.rep {xs:List V} {us:List VC} (h:Vals xs us):∀ k:Nat,Vals (WA k xs).flatten (WA k us).flatten
 | 0=>.nil
 | k+1=>by
   rw [XO,XO,Za,Za];exact Vals.append h (Vals.rep h k)
theorem qr {α:Type} (l:List α):l.eraseIdx (l.length - 1)=l.dropLast:=by
 induction l with
 | nil=>rfl
 | cons a r ih =>
   cases r with
   | nil=>rfl
   | cons b r =>
     have e:(a::b::r).length - 1=((b::r).length - 1)+1:=by
      have h1:(a::b::r).length=r.length+2:=rfl;have h2:(b::r).length=r.length+1:=rfl;omega
     rw [e,List.eraseIdx_cons_succ,ih]
     all_goals rfl
theorem foldl_rep (its:List VC):∀ (k:Nat) (acc:List VC),
 List.foldl (fun x1 x2=>x1++x2) acc.toArray (WA k its.toArray)=(acc++(WA k its).flatten).toArray
 | 0,acc=>by simp
 | k+1,acc=>by
   have e:acc.toArray++its.toArray=(acc++its).toArray:=by simp
   have e2:(acc++its)++(WA k its).flatten=acc++(WA (k+1) its).flatten:=by
    rw [XO,Za,Xk]
   rw [<- e2,<- foldl_rep its k (acc++its),<- e,XO,List.foldl_cons]
section
variable {X:Cx} {pins:List (Vy×Xn)} {σ:St} {H:Hp} {s:VF} {l b:Vy} {xs ys zs:List V}
theorem Inv.lset {its its':List VC} {n:Nat} {f:Array VC->Array VC} {t':Nat} (I:Inv X pins σ H s) (hH:H l=some (.lst xs))
 (e:s.heap.get? l=some { cls:=.type "list",data:=.seq its.toArray n }) (hf:f its.toArray=its'.toArray) (hv:Vals ys its') (hz:ys.length<=V1) :
 Inv X pins σ (upd H l (.lst ys)) { s with heap:=s.heap.update l (Obj.mapSeq f),toks:=t' }:=by
 have q:=PySem.IsL.update e f;rw [hf] at q;refine I.write (x:=l) (e:=l) (by rw [hH];exact trivial) (.inl rfl) (fun b' u hb hu=>(Heap.get?_update_other s.heap (Obj.mapSeq f) (Y9 hb)).trans hu) ⟨_,q⟩ ?_;exact ⟨hz,its',_,hv,q⟩
theorem Inv.lnew {its:List VC} {t':Nat} (I:Inv X pins σ H s) (hv:Vals ys its) (hz:ys.length<=V1) :
 Inv X pins σ (upd H s.heap.objs.size (.lst ys)) { s with heap:=s.heap.push { cls:=.type "list",data:=.seq its.toArray },toks:=t' } :=
 I.laid (fun _ _ q=>VA _ q) (VG _) ⟨hz,its,0,hv,VH _ rfl⟩
theorem Inv.fresh (I:Inv X pins σ H s):H s.heap.objs.size=none:=I.hok.fresh (VG _)
theorem Inv.lstM (I:Inv X pins σ H s) (hH:H l=some (.lst xs)):xs.length<=V1/\∃ (its:List VC) (n:Nat),Vals xs its/\xs.length=its.length/\s.heap.get? l=some { cls:=.type "list",data:=.seq its.toArray n }:=by
 obtain ⟨z,its,n,r,e⟩:=I.hok l _ hH;exact ⟨z,its,n,r,r.length,e⟩
theorem lH {n:Nat} (h:n<=V1):XJ n=false:=by
 unfold XJ;exact decide_eq_false (by omega)
end
section
variable {X:Cx}
inductive o6 (x:V) (vs:List V) (H:Hp) (Q:VK):Prop
 | mk (l:_) (xs:_) (y:_) (zS:x=.ref l) (zT:vs=[y]) (zX:H l=some (.lst xs)) (Af:xs.length<V1) (Av:Q .non (upd H l (.lst (xs++[y])))):o6  x vs H Q
def rH:V->List V->Hp->VK->Prop:=o6
theorem bq:MtM X "list.append" rH:=by
 intro pins s σ H x vs v us Q I rx rv h;obtain ⟨l,xs,y,rfl,rfl,hH,hz,q⟩:=h;cases rx;obtain ⟨u,rfl,ru⟩:=rv.one;obtain ⟨z,its,n,r,hl,e⟩:=I.lstM hH;refine Zc F.slot_list_append ⟨_,e,rfl⟩ F.entry_list_append (F.args_list_append_2 _ _) (PySem.list_append l its.toArray n u (by rw [VL];omega)) ⟨e,?_⟩;refine ⟨.non,_,I.lset (its':=its++[u]) hH e (by simp) (r.append (.cons ru .nil)) ?_,rfl,q⟩;rw [VO,Xb];omega
inductive qk (x:V) (vs:List V) (H:Hp) (Q:VK):Prop
 | mk (l:_) (b:_) (xs:_) (zs:_) (zS:x=.ref l) (zT:vs=[.ref b]) (zX:H l=some (.lst xs)) (Af:H b=some (.lst zs)) (Av:xs.length+zs.length<=V1) (AZ:Q .non (upd H l (.lst (xs++zs)))):qk  x vs H Q
def vS:V->List V->Hp->VK->Prop:=qk
theorem i3:MtM X "list.extend" vS:=by
 intro pins s σ H x vs v us Q I rx rv h;obtain ⟨l,b,xs,zs,rfl,rfl,hH,hB,hz,q⟩:=h;cases rx;obtain ⟨u,rfl,ru⟩:=rv.one;cases ru;obtain ⟨z,its,n,r,hl,e⟩:=I.lstM hH;obtain ⟨z2,zW,n2,r2,AR,e2⟩:=I.lstM hB;have hsz:its.toArray.size+zW.toArray.size<=V1:=by rw [VL,VL];omega
 have BJ:¬ (!its.toArray.isEmpty && XJ (its.toArray.size+zW.toArray.size))=true:=by
  rw [lH hsz,Bool.and_false];exact VS
 refine Zc F.slot_list_extend ⟨_,e,rfl⟩ F.entry_list_extend (F.args_list_extend_2 _ _)
  (AutoSeq1.list_extend_list_list_0 l its.toArray n b zW.toArray n2 BJ (by rw [VL];omega) (by omega)) ⟨e,e2,?_⟩
 refine ⟨.non,_,I.lset (its':=its++zW) hH e (by simp) (r.append r2) ?_,rfl,q⟩;rw [VO];omega
inductive wn (x:V) (vs:List V) (H:Hp) (Q:VK):Prop
 | mk (l:_) (xs:_) (y:_) (zS:x=.ref l) (zT:vs=[]) (zX:H l=some (.lst xs)) (Af:xs[xs.length - 1]?=some y) (Av:Q y (upd H l (.lst xs.dropLast))):wn  x vs H Q
def yC:V->List V->Hp->VK->Prop:=wn
theorem kH:MtM X "list.pop" yC:=by
 intro pins s σ H x vs v us Q I rx rv h;obtain ⟨l,xs,y,rfl,rfl,hH,hy,q⟩:=h;cases rx;have DM:=rv.zero;subst DM;obtain ⟨z,its,n,r,hl,e⟩:=I.lstM hH;obtain ⟨u,hu,ru⟩:=r.get hy
 have B5:its.toArray[its.toArray.size - 1]?=some u:=by
  show its.toArray[its.length - 1]?=some u;rw [<- X2,<- hl];exact hu
 refine Zc F.slot_list_pop ⟨_,e,rfl⟩ F.entry_list_pop (F.args_list_pop_1 _) (MeetsSeq.list_pop_last l its.toArray n u B5 (by rw [VL];omega)) ⟨e,?_⟩;refine ⟨y,_,I.lset (its':=its.dropLast) hH e ?_ r.dropLast ?_,ru,q⟩
 · show its.toArray.eraseIdxIfInBounds (its.toArray.size - 1)=its.dropLast.toArray;rw [VL,List.eraseIdxIfInBounds_toArray,qr]
 · rw [List.length_dropLast];omega
inductive wD (x:V) (y:V) (H:Hp) (Q:VK):Prop
 | mk (l:_) (b:_) (xs:_) (zs:_) (zS:x=.ref l) (zT:y=.ref b) (zX:H l=some (.lst xs)) (Af:H b=some (.lst zs)) (Av:xs.length+zs.length<=V1) (AZ:∀ p,H p=none->Q (.ref p) (upd H p (.lst (xs++zs)))):wD  x y H Q
def zo:R2:=wD
theorem gY:OpR X (YX .Add) zo:=by
 intro pins s σ H x y v u Q I rx ry h;obtain ⟨l,b,xs,zs,rfl,rfl,hH,hB,hz,q⟩:=h;cases rx;cases ry;obtain ⟨z,its,n,r,hl,e⟩:=I.lstM hH;obtain ⟨z2,zW,n2,r2,AR,e2⟩:=I.lstM hB;refine PySem.P.add_list e e2 ?_ (by rw [VL,VL];omega);have ea:its.toArray++zW.toArray=(its++zW).toArray:=by simp
 rw [ea];exact ⟨.ref _,_,I.lnew (t':=s.toks) (r.append r2) (by rw [VO];omega),rfl,q _ I.fresh⟩
def zB:R2:=fun x y H Q=>∃ l k xs,x=.ref l/\y=.int k/\H l=some (.lst xs)/\-(2 ^ 63)<=k/\k<2 ^ 63/\xs.length * k.toNat<=V1 ∧
 ∀ p,H p=none->Q (.ref p) (upd H p (.lst (WA k.toNat xs).flatten))
theorem len_rep {α:Type} (xs:List α) (k:Nat):(WA k xs).flatten.length=k * xs.length:=by
 induction k with
 | zero=>simp
 | succ k ih=>rw [XO,Za,VO,ih,Nat.succ_mul,Nat.add_comm]
theorem xO:OpR X (YX .Mult) zB:=by
 intro pins s σ H x y v u Q I rx ry h;obtain ⟨l,k,xs,rfl,rfl,hH,h1,h2,hz,q⟩:=h;cases rx;obtain ⟨t,rfl⟩:=ry;obtain ⟨z,its,n,r,hl,e⟩:=I.lstM hH;have hlen:its.toArray.size * k.toNat<=V1:=by rw [VL,<- hl];exact hz
 have Kt:¬ its.toArray.size * k.toNat > (2 ^ 63 - 1) / 8:=by
  have:(V1:Nat)<=(2 ^ 63 - 1) / 8:=by decide
  omega
 have Aa:¬ (!Builtin.List.listFitsIndex k)=true:=by
  rw [fitsIndex_both h1 h2];exact VS
 have BJ:¬ XJ (its.toArray.size * k.toNat)=true:=by
  rw [lH hlen];exact VS
 have Ku:List.foldl (fun x1 x2=>x1++x2) #[] (WA (if its.toArray.isEmpty=true then 0 else k.toNat) its.toArray)=(WA k.toNat its).flatten.toArray:=by
  have f0:∀ m:Nat,List.foldl (fun x1 x2=>x1++x2) #[] (WA m its.toArray)=(WA m its).flatten.toArray:=fun m=>by
   have:=foldl_rep its m [];rw [Y0] at this;exact this
  rw [f0];cases its with
  | nil=>simp
  | cons a r'=>rw [if_neg (by simp)]
 refine wpAny_binaryOp_repeat_ref (T:="list") (U:="int") (by decide) ⟨_,e,rfl⟩ (fun s'=>typeIs_int s' k t) noFill_list_mul F.fills_int_mul F.slot_int_rmul repeat_list F.slot_int_index.lookup
  (Zc F.slot_int_rmul (typeIs_int s k t) F.entry_int_rmul (F.args_int_rmul_2 _ _) (int___rmul___int_list k t l its.toArray n)
   ⟨e,rfl,⟨_,e,rfl⟩,Zc F.slot_list_mul ⟨_,e,rfl⟩ F.entry_list_mul (F.args_list_mul_2 _ _) (AutoListH.list___mul___list_int_3 l its.toArray n k t Aa Kt BJ) ⟨e,?_⟩⟩)
 rw [Ku];exact ⟨.ref _,_,I.lnew (t':=s.toks) (r.rep k.toNat) (by rw [len_rep,Nat.mul_comm];exact hz),rfl,q _ I.fresh⟩
end
section
variable {prog:V3} {w:Wg} {A:Wn} {E:VC->VF->Prop} {s:VF}
end
section
variable {X:Cx}
end
end L2
namespace Att
open PySem PySem.W PySem.Calls PyProof.Rows
theorem ints_of_wellAll {P:Params} {h:WR}:∀ (ns:List Int) (vs:List VC),WellAll P h vs (ns.map WData.int)->IntsAre vs ns:=by
 intro ns;induction ns with
 | nil =>
   intro vs w;rw [Xj] at w;cases w;exact .nil
 | cons n ns ih =>
   intro vs w;rw [Wf] at w;cases w with
   | cons a b =>
     cases a;exact .cons _ _ (ih _ b)
theorem script_of {l:OpenLaw} {n:Nat} (hn:l.most=some n) {P:Params} {h:WR} {args:List WData} {vals:List VC}
 (DY:l.row.toRowW.claim.pre args=true) (C4:WellAll P h vals args) :
 ∃ a vs ns,vals=[Wj a]/\args=[WData.list (ns.map WData.int)]/\h.get? a=some { cls:=.type "list",data:=.seq vs.toArray }/\IntsAre vs ns/\ns.length<=n:=by
 have QP:WShape.hasAll [] args [.list .int]=true:=(pre_splitW DY).1;have hc:l.pre.holds [] { args:=args }=true:=(pre_splitW DY).2;obtain ⟨d,r,rfl,h1,h2⟩:=hasAllW_cons QP;obtain rfl:=hasAllW_nil h2;obtain ⟨xs,rfl,h3⟩:=hasW_list h1;obtain ⟨ns,rfl⟩:=items_int h3
 have hlen:ns.length<=n:=by
  unfold OpenLaw.pre at hc
  have h4:(WTm.not (.lt (.lit (.int (n:Int))) (.len (.arg 0)))).holds [] { args:=[.list (ns.map .int)] }=true:=by
   have h4:=(holds_andW hc).1;rw [hn] at h4;exact h4
  have h5:=condW_of h4 (w_not (w_lt w_lit (w_len_list (w_arg rfl))));rw [Vt] at h5;refine Nat.le_of_not_lt fun q=>?_;have q':(n:Int)<((ns.length:Nat):Int):=by omega
  first
   | (rw [decide_eq_true q'] at h5;exact absurd h5 (by decide))
   | (simp at h5;omega)
 cases C4 with
 | cons w1 w2 =>
   cases w2;cases w1 with
   | list ho zY=>exact ⟨_,_,ns,rfl,rfl,ho,ints_of_wellAll ns _ zY,hlen⟩
theorem post_true (l:OpenLaw) (args:List WData):l.row.toRowW.claim.post args (.bool true) args=true :=
 postW_of (r:=l.row.toRowW) (X:=(true == true))
  (show WShape.has [] (.bool true) .bool=true by first | rfl | decide | simp [WShape.has,WShape.arms,WShape.armsAll])
  (show (WTm.eq .res (.lit (.bool true))).value [] { args:=args,res:=some (.bool true),after:=args }=some (.bool (true == true)) from w_eq_bool (w_res rfl) w_lit) rfl
theorem attach_call {l:OpenLaw} {n:Nat} {q:V3} {loose:List V2} {XP:(V2->Option VC)->WR->Prop} {YP:Wg->WR->Prop} {d:DefRec}
 (hn:l.most=some n) (hdf:d.params.defaults=[])
 (call:∀ (w:Wg) (s₀ zK:VF) (mg mb:V2->Option VC) (fa:Vy) (o:Xn) (pm cd doc:VC) (a:Vy) (vs:List VC) (ns:List Int),
  Ground q loose [] XP w s₀ mg mb zK.heap->YP w zK.heap →
  zK.heap.get? fa=some o->o.data=.func (docDef d.name d.params d.body d.scope pm cd doc)->zK.heap.CodeRec cd d.name->mg d.name=some (.ref fa) →
  zK.heap.get? a=some { cls:=.type "list",data:=.seq vs.toArray }->IntsAre vs ns->ns.length<=n->zK.gens=#[] →
  ZG (Wb l.prog w) callerA (.call (.ref fa) ⟨[.ref a],[]⟩) (fun r s'=>r=.ok (.ret (.bool true))/\OldK zK.heap s'.heap/\s'.os=zK.os/\AllBare s'.gens) zK) :
 WalkO q loose XP YP l.row.toRowW d [] (fun f vs=>PySem.call f vs):=by
 intro w s₀ zK mg mb G Y fa o pm cd doc dV kV ho hd CI hD G1 hg args vals as DY QQ Jy C4 Oq;obtain rfl:dV=.none:=Dflts.none hD hdf;obtain rfl:kV=.none:=Dflts.noKw hD;obtain ⟨a,vs,ns,rfl,rfl,Fe,hints,hlen⟩:=script_of hn DY C4;refine enter_call (Zr (call w s₀ zK mg mb fa o pm cd doc a vs ns G Y ho (fd_plain hd) CI G1 Fe hints hlen hg) fun r s' hq=>?_);obtain ⟨rfl,h2,h3,h4⟩:=hq;exact ⟨.inl ⟨.bool true,.bool true,[],rfl,fun _=>rfl,.bool true,post_true l _,fun _=>⟨List.Pairwise.nil,fun _ hm=>(nomatch hm)⟩⟩,h2,h3,h4⟩
section
variable {prog:V3} {w:Wg} {A:Wn} {E:VC->VF->Prop} {s:VF} {K:Frag}
end
end Att
namespace L2
open PySem PySem.Spec PyProof.Rows
theorem nj:∀ {vs:List VC} {ns:List Int},IntsAre vs ns->Vals (ns.map V.int) vs
 | _,_,.nil=>.nil
 | _,_,.cons n t h=>.cons ⟨t,rfl⟩ (nj h)
def xL (H:Hp):Prop:=∀ b,H b=none∨∃ o xs,H b=some (.frz o (.lst xs))
theorem uv {P:V3} {w:Wg} {K:VB} {mg mb:V2->Option VC} {CX:CXT} {k:Nat} {fa a:Vy} {fd:XQ} {x:V2} {sp:Sp} {zK:VF} {vs:List VC} {ns:List Int}
 (KX:K.In zK.heap) (CK:zK.heap.Ns V6 mg) (hb:zK.heap.Ns builtinsNs mb) (Kv:∀ x:V2,x≠"__name__"->mb x=ZO x) (Kw:zK.heap.NoLimit) (hg:zK.gens=#[])
 (ha:zK.heap.get? a=some { cls:=.type "list",data:=.seq vs.toArray }) (hi:IntsAre vs ns) (hl:ns.length<=V1) (hr:Room k callerA)
 (F:∀ base:WR,K.In base->base.Ns V6 mg->aP P w K mg base CX k fa fd [x] sp) (G2:∀ (s:VF) (u:VC),BindsTo s fd ⟨[u],[]⟩ [(x,u)])
 (CJ:∀ H:Hp,xL H->SqL K H a (ns.map V.int)->sp [.ref a] H (fun v _=>v=.bl true) fun _ _ _=>False)
 (Kx:∀ H e s',CX [] H zK (fun _ _ _=>False) e s'->False) :
 ZG (Wb P w) callerA (.call (.ref fa) ⟨[.ref a],[]⟩) (fun r s'=>r=.ok (.ret (.bool true))/\OldK zK.heap s'.heap/\s'.os=zK.os/\AllBare s'.gens) zK:=by
 have rv:=nj hi;have Ky:=hi.length
 -- from an abstract heap in Ot nothing but Bw script may be tracked
 have core:∀ H:Hp,xL H->SqL K H a (ns.map V.int)->HOk P w H zK.heap->(∀ b,H b≠none->b=a)->(H a≠none->K.lookup a=none) →
  ZG (Wb P w) callerA (.call (.ref fa) ⟨[.ref a],[]⟩) (fun r s'=>r=.ok (.ret (.bool true))/\OldK zK.heap s'.heap/\s'.os=zK.os/\AllBare s'.gens) zK:=by
  intro H hO hS hok hA hK;have Cq:∀ {b:Vy} {o:Xn},zK.heap.get? b=some o->H b=none->(oF zK.heap H).get? b=some o:=fun e n=>uE e n
  have GX:∀ {b:Vy} {o:Xn} {es:Array Zi} {ep:Nat},zK.heap.get? b=some o->o.data=.dict es ep->H b=none:=fun {b o es ep} e d=>by
   cases q:H b with
   | none=>rfl
   | some u =>
     have e':b=a:=hA b (by rw [q];simp);subst e';rw [ha] at e;cases e;have d':Data.seq vs.toArray _=Data.dict es ep:=d;cases d'
  have Jz:∀ {b:Vy} {m:V2->Option VC},zK.heap.Ns b m->(oF zK.heap H).Ns b m:=fun {b m} ⟨o,es,ep,e,d,r⟩=>⟨o,es,ep,Cq e (GX e d),d,r⟩
  have Ou:K.In (oF zK.heap H):=fun b o e=>Cq (KX b o e) (by
   cases q:H b with
   | none=>rfl
   | some u =>
     have e':b=a:=hA b (by rw [q];simp);subst e';rw [hK (by rw [q];simp)] at e;cases e)
  have hM:Mod K mg (oF zK.heap H):=⟨Ou,Jz CK,⟨mb,Jz hb,Kv⟩,let ⟨mc,h1,h2⟩:=Kw;⟨mc,Jz h1,h2⟩⟩;have e0:Env0 P w K mg (oF zK.heap H) callerA [] zK H:=⟨rfl,hM,fun b o e=>vp e,Nat.le_of_eq (tF _ _),trivial,fun b hb=>absurd (show b∈([]:List Vy) from hb) (by simp),hok,.of_eq hg⟩;refine Zr ((F _ Ou (Jz CK)).run callerA [] zK H ⟨[.ref a],[]⟩ [.ref a] [.ref a] _ _ hr e0 (G2 zK (.ref a)) (.cons rfl .nil) (CJ H hO hS)) fun r s' h=>?_;cases r with
  | error e=>exact (Kx H e s' h).elim
  | ok fl =>
    cases fl with
    | next=>exact Xl h
    | brk=>exact Xl h
    | cont=>exact Xl h
    | ret u =>
      obtain ⟨v,H',os,bare,un,Kz,r',q⟩:=h;have q':v=.bl true:=q;subst q';obtain rfl:u=Value.bool true:=r';refine ⟨rfl,OldK.of_keep fun b o e=>?_,os,bare⟩;cases q:H b with
      | none=>exact un.keep b o e q (by intro z;exact absurd (show b∈([]:List Vy) from z) (by simp)) (by simp)
      | some u =>
        rcases hO b with z | ⟨ob,xs,z⟩
        · rw [q] at z;cases z
        · have z2:=un.frzs b ob _ z;obtain ⟨e1,_⟩:=hok b _ z;obtain ⟨e2,_⟩:=Kz b _ z2;rw [e] at e1;cases e1;exact e2
 cases hk:K.lookup a with
 | some o =>
   -- Bw script is one of Bw G3 own objects
   have e:=KX a o hk;rw [ha] at e;cases e;refine core (fun _=>none) (fun _=>.inl rfl) (.inr ⟨_,vs.toArray,_,hk,rfl,rfl,rfl,by rw [VL,Ky];exact hl,by simpa using rv⟩) (fun b u z=>by have z':(none:Option HO)=some u:=z;cases z') (fun b z=>absurd rfl z) fun z=>absurd rfl z
 | none =>
   refine core (fun b=>if b=a then some (.frz { cls:=.type "list",data:=.seq vs.toArray } (.lst (ns.map V.int))) else none) (fun b=>?_) (.inl (.inr ⟨{ cls:=.type "list",data:=.seq vs.toArray },if_pos rfl⟩)) (fun b u z=>?_) (fun b z=>?_) fun _=>hk
   · by_cases hb:b=a
     · exact .inr ⟨_,_,if_pos hb⟩
     · exact .inl (if_neg hb)
   · by_cases hb:b=a
     · have z':=(if_pos hb).symm.trans z;cases z';subst hb;exact ⟨ha,by rw [Vt];exact hl,vs,_,rv,ha⟩
     · have z':=(if_neg hb).symm.trans z;cases z'
   · by_cases hb:b=a
     · exact hb
     · exact absurd (if_neg hb) z
end L2
namespace L2
open PySem PySem.Spec PyProof.Rows
theorem vV {l:PySem.W.OpenLaw} {n k:Nat} {q:V3} {loose:List V2} {XP:(V2->Option VC)->WR->Prop} {YP:Wg->WR->Prop} {d:DefRec} {K:Params->VB} {CX:Wg->CXT} {sp:Wg->Sp} {x:V2}
 (hn:l.most=some n) (GU:n<=V1) (hdf:d.params.defaults=[]) (hr:Room k callerA)
 (hY:∀ (w:Wg) (h:WR),YP w h->(K w.params).In h)
 (F:∀ (w:Wg) (mg:V2->Option VC) (fa:Vy) (h:WR),(K w.params).In h->h.Ns V6 mg->mg d.name=some (.ref fa) →
  ∃ fd:XQ,(∀ (s:VF) (u:VC),BindsTo s fd ⟨[u],[]⟩ [(x,u)]) ∧
    ∀ base:WR,(K w.params).In base->base.Ns V6 mg->aP l.prog w (K w.params) mg base (CX w) k fa fd [x] (sp w))
 (CJ:∀ (w:Wg) (H:Hp) (a:Vy) (ns:List Int),ns.length<=n->xL H->SqL (K w.params) H a (ns.map V.int)->sp w [.ref a] H (fun v _=>v=.bl true) fun _ _ _=>False)
 (Kx:∀ (w:Wg) (H:Hp) (s:VF) (e:VC) (s':VF),CX w [] H s (fun _ _ _=>False) e s'->False) :
 PySem.W.WalkO q loose XP YP l.row.toRowW d [] (fun f vs=>PySem.call f vs):=by
 refine Att.attach_call hn hdf fun w s₀ zK mg mb fa o pm cd doc a vs ns G Y ho hd CI G1 Fe hints hlen hg=>?_;have KX:=hY w _ Y;obtain ⟨fd,hb,hF⟩:=F w mg fa _ KX G.T.g G1;exact uv KX G.T.g G.T.b G.T.builtins G.T.nolimit hg Fe hints (WI hlen GU) hr hF hb (fun H hO hS=>CJ w H a ns hlen hO hS) fun H e s'=>Kx w H zK e s'
end L2
namespace L2
open PySem PySem.Spec PyProof.Rows
def inClass (s:WZ) (j:Nat):WZ:=match s with
 | .ClassDef _ _ _ body _ _ _ _ _ _ _=>body.getD j (.Pass ⟨0,0,0,0⟩)
 | _=>.Pass ⟨0,0,0,0⟩
def br (s:WZ):Arguments:=match s with
 | .FunctionDef _ a _ _ _ _ _ _ _ _=>a
 | _=>{ posonlyargs:=[],args:=[],vararg:=none,kwonlyargs:=[],kw_defaults:=[],kwarg:=none,defaults:=[] }
def bj (s:WZ):List WZ:=match s with
 | .FunctionDef _ _ b _ _ _ _ _ _ _=>b
 | _=>[]
def ao (s:WZ):Zf:=match s with
 | .FunctionDef _ _ _ _ _ _ sc _ _ _=>sc
 | _=>{ kind:=.function,names:=[],isGenerator:=false,isCoroutine:=false }
abbrev CX0:CXT:=fun _ _ _ _ _ _=>False
abbrev E0:XK:=fun _ _ _=>False
theorem fQ {X:Cx}:Passes CX0 X E0:=fun _ _ _ _ _ _ _ h=>h.elim
structure Fun (K:VB) (x qual:V2) (st:WZ) (f:Vy) (fd:XQ):Prop where
 ex:∃ (oc:VC) (od:Option Vy) (kV doc pm:VC) (an:Option Vy) (zQ ct:VC) (DW:Array (Option VC)),
  fd=Xv x qual (br st) (bj st) (ao st) .none kV doc pm an zQ ct/\K.lookup f=some ⟨oc,od,.func fd,DW⟩/\Yj K zQ qual=true
 kp:Xc K (.ref f)=true
section
variable {P:V3} {w:Wg} {K:VB} {mg:V2->Option VC} {base:WR}
theorem Fun.ok {x qual:V2} {st:WZ} {f:Vy} {fd:XQ} {N ps:List V2} {k:Nat} {sp:Sp} (F:Fun K x qual st f fd) (S:ax N ps (ao st)) (len:∀ vs H Q E,sp vs H Q E->vs.length=ps.length)
 (Df:∀ (zQ:VC) (A:Wn) (outer:List Env) (s:VF) (H:Hp) (vs:List V) (Q:VK) (E:XK),Room k (A.deeper (envOfC qual (ao st) s.heap.objs.size f zQ))->sp vs H Q E →
  ∃ t,PSs (sR CX0 P w K mg base N qual (ao st) f zQ A outer s H E).nox (bj st) t/\t { nx:=fun _ H'=>Q .non H',rt:=Q } (start N vs) H):aP P w K mg base CX0 (k+1) f fd ps sp:=by
 obtain ⟨oc,od,kV,doc,pm,an,zQ,ct,DW,rfl,lk,CI⟩:=F.ex;refine yi lk CI S len fun A outer s H vs Q E hr CJ=>?_;obtain ⟨t,h,q⟩:=Df zQ A outer s H vs Q E hr CJ;exact ⟨t,h.nox,q⟩
theorem Fun.binds {x qual:V2} {st:WZ} {f:Vy} {fd:XQ} {ps:List V2} (F:Fun K x qual st f fd)
 (h:∀ (kV doc pm:VC) (an:Option Vy) (zQ ct:VC) (us:List VC),us.length=ps.length->bindArgs (Xv x qual (br st) (bj st) (ao st) .none kV doc pm an zQ ct) ⟨us,[]⟩=pure (ps.zip us)):Binds K fd ps []:=by
 obtain ⟨oc,od,kV,doc,pm,an,zQ,ct,DW,rfl,lk,CI⟩:=F.ex;exact .all (h kV doc pm an zQ ct)
theorem cu {x qual:V2} {st:WZ} {f:Vy} {oc:VC} {od an:Option Vy} {DW:Array (Option VC)} {kV doc pm zQ ct:VC} (l:K.lookup f=some ⟨oc,od,.func (Xv x qual (br st) (bj st) (ao st) .none kV doc pm an zQ ct),DW⟩)
 (c:Yj K zQ qual=true) (k:Xc K (.ref f)=true):Fun K x qual st f (Xv x qual (br st) (bj st) (ao st) .none kV doc pm an zQ ct):=⟨⟨oc,od,kV,doc,pm,an,zQ,ct,DW,rfl,l,c⟩,k⟩
end
theorem dq {A:Wn} {k:Nat} (hr:Room k A):A.units+1<Ys:=Nat.lt_of_le_of_lt (Nat.add_le_add_left (by decide:1<=64) _) hr.units
section
variable {X:Cx}
theorem pv (i:Nat) {x:V2} {pos:Zm} (hN:X.N[i]?=some x:=by rfl) (hv:Vis X.env.scope x:=by first | exact VQ rfl | exact ZI (VQ rfl) | exact ZI (ZI rfl)) (hd:(x == ("__debug__":V2))=false:=by decide)
 (CI:(x == ("__classdict__":V2))=false:=by decide):PE X (.Name x pos) (bC i):=uF hN hv hd CI
end
theorem kc {A B:Prop} (h:B):if false=true then A else B:=by
 rw [if_neg VS];exact h
theorem j7 {A B:Prop} (h:A):if true=true then A else B:=by
 rw [if_pos rfl];exact h
theorem cH {c A B:Prop} [Decidable c] (h1:c->A) (h2:¬ c->B):if c then A else B:=by
 by_cases h:c
 · rw [if_pos h];exact h1 h
 · rw [if_neg h];exact h2 h
def Same (H H':Hp):Prop:=∀ b o,H b=some o->H' b=some o
theorem Same.refl (H:Hp):Same H H:=fun _ _ h=>h
theorem Same.trans {H H1 H2:Hp} (a:Same H H1) (b:Same H1 H2):Same H H2:=fun c o h=>b c o (a c o h)
theorem Same.free {H H':Hp} (e:Same H H') {l:Vy} (h:H' l=Option.none):H l=Option.none:=by
 cases q:H l with
 | none=>rfl
 | some o =>
   rw [e l o q] at h;cases h
theorem Same.seq {K:VB} {H H':Hp} {a:Vy} {xs:List V} (e:Same H H') (h:SqL K H a xs):SqL K H' a xs:=by
 rcases h with (h | ⟨o,h⟩) | h
 · exact .inl (.inl (e _ _ h))
 · exact .inl (.inr ⟨o,e _ _ h⟩)
 · exact .inr h
end L2
namespace L2
open PySem PySem.Spec PyProof.Rows
theorem gG (env:Env):∀ (ns:List (V2×XY)) (acc:List (V2×Vy)),(∀ n,(n,WS)∈ns->∃ c,env.cells.lookup n=some c) →
 (∀ x c,acc.lookup x=some c->env.cells.lookup x=some c) →
 ∃ cl,(forIn ns acc fun (x:V2×XY) (cs:List (V2×Vy))=>(if (x.2 == WS)=true then (do let a ← cellOf env x.1;pure (X5 ((x.1,a)::cs))) else pure (X5 cs):Sem _))=pure cl ∧
   (∀ x c,cl.lookup x=some c->env.cells.lookup x=some c)/\(∀ n,(n,WS)∈ns->∃ c,cl.lookup n=some c)/\∀ n c,acc.lookup n=some c->cl.lookup n=some c
 | [],acc,_,ha=>⟨acc,rfl,ha,fun _ h=>by simp at h,fun _ _ h=>h⟩
 | (n,k)::r,acc,hf,ha=>by
   by_cases hk:k=WS
   · subst hk;obtain ⟨c,hc⟩:=hf n VI
     have KA:∀ x c',((n,c)::acc).lookup x=some c'->env.cells.lookup x=some c':=fun x c' e=>by
      rw [XU] at e;cases hx:x == n with
      | true =>
        rw [hx] at e;have e1:x=n:=by simpa using hx
        cases e;rw [e1];exact hc
      | false=>rw [hx] at e;exact ha x c' e
     obtain ⟨cl,h1,h2,h3,h4⟩:=gG env r ((n,c)::acc) (fun m hm=>hf m (Vv _ hm)) KA;have up:∀ m c',((n,c)::acc).lookup m=some c'->cl.lookup m=some c':=h4;refine ⟨cl,?_,h2,?_,?_⟩
     · rw [Zx];have e0:cellOf env n=pure c:=by unfold cellOf;rw [hc]
       simp only [beq_self_eq_true,if_true,e0,pure_bind];exact h1
     · intro m hm;rcases VP.mp hm with e | e
       · have:m=n:=by simpa using (Prod.mk.inj e).1
         subst this;exact ⟨c,up m c (by rw [XU];simp)⟩
       · exact h3 m e
     · intro m c' e;by_cases hm:m=n
       · subst hm;have:=ha m c' e;rw [hc] at this;cases this;exact up m c (by rw [XU];simp)
       · have QR:(m == n)=false:=by simpa using hm
         exact up m c' (by rw [XU,QR];exact e)
   · have hb:(k == WS)=false:=by simpa using hk
     obtain ⟨cl,h1,h2,h3,h4⟩:=gG env r acc (fun m hm=>hf m (Vv _ hm)) ha;refine ⟨cl,?_,h2,?_,h4⟩
     · rw [Zx];simp only [hb,Xu,if_false,pure_bind];exact h1
     · intro m hm;rcases VP.mp hm with e | e
       · exact absurd (Prod.mk.inj e).2.symm hk
       · exact h3 m e
theorem lU {env:Env} {sc:Zf} (hf:∀ n,(n,WS)∈sc.names->∃ c,env.cells.lookup n=some c) :
 ∃ cl,closureFor sc env=pure cl/\(∀ x c,cl.lookup x=some c->env.cells.lookup x=some c)/\∀ n,(n,WS)∈sc.names->∃ c,cl.lookup n=some c:=by
 obtain ⟨cl,h1,h2,h3,_⟩:=gG env sc.names [] hf (fun x c e=>by simp at e);refine ⟨cl,?_,h2,h3⟩;unfold closureFor;have e:(forIn sc.names ([]:List (V2×Vy)) fun (x:V2×XY) (cs:List (V2×Vy))=>(do if (x.2 == WS)=true then (do let a ← cellOf env x.1;pure (X5 ((x.1,a)::cs))) else pure (X5 cs):Sem _))=pure cl:=h1
 first
  | (rw [show (forIn sc.names ([]:List (V2×Vy)) _:Sem _)=pure cl from h1];rfl)
  | (simp only [h1,pure_bind])
theorem kN {f:V2×XY->V2×XY} (hf:∀ p,(f p).1=p.1):∀ {l:List (V2×XY)} {x:V2} {k:XY},l.lookup x=some k->(l.map f).lookup x=some (f (x,k)).2
 | [],_,_,h=>by simp at h
 | (n,k0)::r,x,k,h=>by
   have ih:=@kN f hf r x k;rw [Wf];obtain ⟨a,b,e⟩:∃ a b,f (n,k0)=(a,b):=⟨_,_,rfl⟩;have ea:a=n:=by have:=hf (n,k0);rw [e] at this;exact this
   subst ea;rw [e,XU];cases hx:x == a with
   | true =>
     rw [XU,hx] at h;cases h;have:x=a:=by simpa using hx
     subst this;rw [e]
   | false=>rw [XU,hx] at h;exact ih h
theorem dP {f:V2×XY->V2×XY} (hf:∀ p,(f p).1=p.1):∀ {l:List (V2×XY)} {x:V2} {k:XY},(l.map f).lookup x=some k->∃ k0,(x,k0)∈l/\(f (x,k0)).2=k
 | [],_,_,h=>by simp at h
 | (n,k0)::r,x,k,h=>by
   have ih:=@dP f hf r x k;rw [Wf] at h;obtain ⟨a,b,e⟩:∃ a b,f (n,k0)=(a,b):=⟨_,_,rfl⟩;have ea:a=n:=by have:=hf (n,k0);rw [e] at this;exact this
   subst ea;rw [e,XU] at h;cases hx:x == a with
   | true =>
     rw [hx] at h;cases h;have:x=a:=by simpa using hx
     subst this;exact ⟨k0,VI,by rw [e]⟩
   | false =>
     rw [hx] at h;obtain ⟨k1,h1,h2⟩:=ih h;exact ⟨k1,Vv _ h1,h2⟩
def rlb (env:Env) (p:V2×XY):V2×XY:=if (p.2 == WS && env.scope.kind == .function && env.kindOf p.1 == some .cell) then (p.1,ZH) else (p.1,p.2)
theorem nS (env:Env) (p:V2×XY):(rlb env p).1=p.1:=by unfold rlb;split <;> rfl
theorem gv (sc:Zf) (env:Env):(relabel sc env).names=sc.names.map (rlb env):=rfl
theorem g7 {sc:Zf} {env:Env} {x:V2} (h:sc.names.lookup x=some .free):(relabel sc env).names.lookup x=some .cell∨(relabel sc env).names.lookup x=some .free:=by
 rw [gv,kN (nS env) h];unfold rlb;split
 · exact .inl rfl
 · exact .inr rfl
theorem l7 {sc:Zf} {env:Env} {x:V2} (hn:∀ y∈sc.names,y.2≠ZH) (h:(relabel sc env).names.lookup x=some .cell∨(relabel sc env).names.lookup x=some .free):(x,WS)∈sc.names:=by
 rw [gv] at h
 have:∃ k0,(x,k0)∈sc.names/\((rlb env (x,k0)).2=.cell∨(rlb env (x,k0)).2=.free):=by
  rcases h with h | h
  · obtain ⟨k0,a,b⟩:=dP (nS env) h;exact ⟨k0,a,.inl b⟩
  · obtain ⟨k0,a,b⟩:=dP (nS env) h;exact ⟨k0,a,.inr b⟩
 obtain ⟨k0,hm,hk⟩:=this;have nc:=hn _ hm;cases k0 with
 | free=>exact hm
 | cell=>exact absurd rfl nc
 | _=>simp [rlb] at hk
def bQ (X:Cx) (N:List V2) (sc:Zf) (cl:List (V2×Vy)) (C:Vy) (s:VF) (H:Hp) (fp:List Vy) (pins:List (Vy×Xn)):Cx :=
 { X with N:=N,s₀:=s,H₀:=H,env:=compEnvC sc cl C X.env,outer:=X.stack,ex:=fp,fn:=fun _=>false,pn:=X.pn++pins,xe:=fun _ _=>False }
def cσ (js:List (Option Nat)) (σ:St):St:=js.map fun o=>o.bind fun j=>(σ[j]?).join
structure dW (X:Cx) (sc:Zf) (N:List V2) (js:List (Option Nat)):Prop where
 kind:sc.kind=.function
 nocell:∀ y∈sc.names,y.2≠ZH
 names:∀ y∈sc.names,y.2=NameKind.local->sc.names.lookup y.1=some .local
 frees:∀ y∈sc.names,y.2=WS->X.env.kindOf y.1=some .cell∨X.env.kindOf y.1=some .free
 len:js.length=N.length
 slots:∀ (i j:Nat) (x:V2),js[i]?=some (some j)->N[i]?=some x->X.N[j]?=some x/\sc.names.lookup x=some .free/\(X.env.kindOf x=some .cell∨X.env.kindOf x=some .free)
theorem bO {X:Cx} {sc:Zf} {N:List V2} {js:List (Option Nat)} (k:sc.kind=.function) (nc:∀ y∈sc.names,y.2≠ZH) (nm:∀ y∈sc.names,y.2=NameKind.local->sc.names.lookup y.1=some .local)
 (fr:(sc.names.all fun y=>y.2 != WS || X.env.kindOf y.1 == some ZH || X.env.kindOf y.1 == some WS)=true) (ln:js.length=N.length)
 (sl:((js.zip N).all fun p=>match p.1 with | none=>true | some j=>X.N[j]? == some p.2 && sc.names.lookup p.2 == some WS && (X.env.kindOf p.2 == some ZH || X.env.kindOf p.2 == some WS))=true):dW X sc N js:=by
 refine ⟨k,nc,nm,fun y hy hf=>?_,ln,fun i j x e1 e2=>?_⟩
 · have h:=Xs.mp fr y hy;rw [hf] at h;simpa using h
 · have hm:(some j,x)∈js.zip N:=by
    have:(js.zip N)[i]?=some (some j,x):=by rw [X3];exact ⟨e1,e2⟩
    exact VD this
   have h:=Xs.mp sl _ hm;simp at h;exact ⟨h.1.1,h.1.2,h.2⟩
def PTs (X:Cx) (ifs:List WC) (t:TT):Prop :=
 ∀ (pins:List (Vy×Xn)) (s:VF) (σ:St) (H:Hp) (Q:Bool->Hp->Prop),Inv X pins σ H s->t σ H Q →
   VT (Wb X.prog X.w) X.A (forIn ifs true fun c r=>if r=true then do let ok ← isTrue c X.env (Xx c X.env);pure (X5 ok) else pure (X5 r)) (TP X pins σ Q) X.xe s
def aQ:TT:=fun _ H Q=>Q true H
theorem bc {X:Cx}:PTs X [] aQ:=fun _ _ _ H _ I h=>wpAny_tests_nil ⟨H,I,h⟩
theorem ku {X:Cx} {c:WC} {t:TT} (h:PT X c t):PTs X [c] t:=fun pins s σ H Q I q=>wpAny_tests_one (h pins s σ H Q I q)
def Keep (σ zJ:St):Prop:=σ.length=zJ.length/\∀ (i:Nat) (v:V),σ[i]?=some (some v)->zJ[i]?=some (some v)
def mO (js:List (Option Nat)) (g:TG):Prop:=∀ (σ AN:St) (x:V) (H:Hp) (Q:St->Hp->Prop),Keep (cσ js σ) AN->g x AN H Q->g x AN H fun zU H2=>Keep (cσ js σ) zU/\Q zU H2
def oP (js:List (Option Nat)) (g:TGs):Prop:=∀ (σ AN:St) (x:List V) (H:Hp) (Q:St->Hp->Prop),Keep (cσ js σ) AN->g x AN H Q->g x AN H fun zU H2=>Keep (cσ js σ) zU/\Q zU H2
theorem Keep.refl (σ:St):Keep σ σ:=⟨rfl,fun _ _ h=>h⟩
theorem vA {js:List (Option Nat)} {σ:St} {i:Nat} (h:js[i]?=some none):(cσ js σ)[i]?=some none:=by
 unfold cσ;rw [VM,h];rfl
theorem aN {js:List (Option Nat)} {i:Nat} (h:js[i]?=some none):mO js (aD i):=fun σ AN x H Q k q=>by
 refine ⟨⟨by rw [List.length_set];exact k.1,fun j v e=>?_⟩,q⟩;by_cases hj:i=j
 · subst hj;rw [vA h] at e;cases e
 · rw [XB hj];exact k.2 j v e
theorem jc {js:List (Option Nat)}:oP js pH:=fun σ AN x H Q k ⟨e,q⟩=>⟨e,k,q⟩
theorem cp {js:List (Option Nat)} {t:TG} {u:TGs} (mono:∀ x σ H (Q Q':St->Hp->Prop),(∀ a b,Q a b->Q' a b)->t x σ H Q->t x σ H Q') (h1:mO js t) (h2:oP js u):oP js (dG t u):=fun σ AN x H Q k ⟨v,r,e,q⟩ =>
 ⟨v,r,e,mono _ _ _ _ _ (fun a b ⟨k',q'⟩=>h2 σ a r b Q k' q') (h1 σ AN v H _ k q)⟩
theorem bw {i:Nat}:∀ x σ H (Q Q':St->Hp->Prop),(∀ a b,Q a b->Q' a b)->aD i x σ H Q->aD i x σ H Q':=fun _ _ _ _ _ h q=>h _ _ q
theorem i7 {js:List (Option Nat)} {K:VB} {n:Nat} {t:TGs} (h:oP js t):mO js (qd K n t):=fun σ AN x H Q k ⟨a,xs,e,hs,hl,q⟩=>⟨a,xs,e,hs,hl,h σ AN xs H Q k q⟩
def dN (js:List (Option Nat)) (g:TG) (tt:TT) (te:TE) (σ:St) (J:It) (D:Vy) (n:Nat) (W:Nat->Hp->Prop) (fin:Hp->Prop):Prop :=
 ∀ i H,W i H->(J.stop i H/\fin H)∨(i<n/\J.go i H/\∀ x H1,J.yld i H x H1->g x (cσ js σ) H1 fun zU H2=>tt zU H2 fun b H3 =>
   if b=true then te zU H3 fun v H4=>∃ ys,H4 D=some (.lst ys)/\ys.length<V1/\W (i+1) (upd H4 D (.lst (ys++[v]))) else W (i+1) H3)
def rJ (js:List (Option Nat)) (wi:TI) (g:TG) (tt:TT) (te:TE):TE:=fun σ H Q=>wi σ H fun J H1=>∀ D,H1 D=none →
 ∃ (n:Nat) (W:Nat->Hp->Prop),W 0 (upd H1 D (.lst []))/\dN js g tt te σ J D n W fun H'=>Q (.ref D) H'
section
variable {X:Cx} {pins:List (Vy×Xn)} {σ:St} {s:VF} {H:Hp}
theorem uz {sc:Zf} {N:List V2} {js:List (Option Nat)} {cl:List (V2×Vy)} {fp:List Vy} {h1:WR} {t':Nat} (S:dW X sc N js) (I:Inv X pins σ H s)
 (Aw:∀ x c,cl.lookup x=some c->X.env.cells.lookup x=some c) (CL:∀ n,(n,WS)∈sc.names->∃ c,cl.lookup n=some c)
 (hf:∀ b∈fp,iR X pins H b) (zV:∀ b∈fp,b<s.heap.objs.size) (CK:h1.Ns s.heap.objs.size fun x=>Xg x ([]:List (V2×VC)))
 (C5:∀ b o,s.heap.get? b=some o->h1.get? b=some o) :
 Inv (bQ X N sc cl s.heap.objs.size s H fp pins) [] (cσ js σ) H { s with heap:=h1,toks:=t' }:=by
 have hok:(bQ X N sc cl s.heap.objs.size s H fp pins).Ok :=
  { mod:=I.ok.mod
    kind:=S.kind
    glob:=I.ok.glob
    blt:=I.ok.blt
    above:=VG _
    inj:=fun x y c a b=>I.ok.inj x y c (Aw x c a) (Aw y c b)
    has:=fun x h=>CL x (l7 S.nocell h)
    cab:=fun x c h=>by cases h
    hd:=I.ok.hd
    frames:=I.ok.frames
    stk:=.inl rfl
    exf:=fun b hb=>⟨fun e=>absurd (zV b hb) (by rw [e];exact Xd _),fun x c e z=>(hf b hb).2.2.2.2.1 x c (Aw x c e) z⟩
    bs:=I.bs
    bsz:=WI I.ok.bsz I.sz
    noex:=fun b o e hb=>by
     rcases (hf b hb).2.2.2.1 with h | h
     · exact I.ok.noex b o e h
     · exact absurd (Wh (Wh (VX e) I.ok.bsz) h) (Xd _)
    exfs:=fun b hb hm=>by
     rcases VP.mp (I.stkSub b hm) with e | e
     · exact (hf b hb).2.1 e
     · exact (hf b hb).2.2.1 e
    funs:=I.stack
    frf:=I.stkFree }
 have hC:H s.heap.objs.size=none:=I.hok.fresh (VG _);obtain ⟨m0,Ov,QS⟩:=I.loc
 exact
  { ok:=hok
    os:=rfl
    bare:=I.bare
    base:=Un.kept C5
    loc:=⟨_,CK,fun i x v e1 e2 Ol=>by
     have Cr:∃ j,js[i]?=some (some j)/\σ[j]?=some (some v):=by
      unfold cσ at e2;rw [VM] at e2;cases q:js[i]? with
      | none=>rw [q] at e2;cases e2
      | some o =>
        rw [q] at e2;cases o with
        | none=>cases e2
        | some j =>
          refine ⟨j,rfl,?_⟩;have e3:(σ[j]?).join=some v:=VZ e2;cases r:σ[j]? with
          | none=>rw [r] at e3;cases e3
          | some z=>rw [r] at e3;exact congrArg some e3
     obtain ⟨j,q1,q2⟩:=Cr;obtain ⟨n1,n2,n3⟩:=S.slots i j x q1 e1;obtain ⟨u,ru,look⟩:=QS j x v n1 q2 (by rcases n3 with z | z;exact .inr (.inl z);exact .inr (.inr z));refine ⟨u,ru,.inr ⟨g7 n2,?_⟩⟩;have hm:(x,WS)∈sc.names:=l7 (env:=X.env) S.nocell (g7 n2);obtain ⟨c,hc⟩:=CL x hm;refine ⟨c,hc,?_⟩;rcases look with ⟨k1,_⟩ | ⟨_,c',AX,ic⟩
     · rcases n3 with z | z <;> (rw [k1] at z;cases z)
     · have:=Aw x c hc;rw [AX] at this;cases this;exact ic.keeps C5⟩
    cell:=fun x c e=>by
     obtain ⟨v,q⟩:=I.cell x c (Aw x c e);exact ⟨v,q.keeps C5⟩
    free:=hC
    freeC:=fun x c e=>I.freeC x c (Aw x c e)
    pin:=fun p hp=>by
     have B6:p∈X.pn++pins:=by simpa [bQ] using hp
     obtain ⟨a1,a2,a3,a4,a5⟩:=I.pin p B6;refine ⟨C5 _ _ a1,a2,fun e=>?_,fun hm=>?_,a5⟩
     · have e':p.1=s.heap.objs.size:=e;exact absurd (VX a1) (by rw [e'];exact Xd _)
     · rcases VP.mp (I.stkSub p.1 hm) with e | e
       · exact a3 e
       · exact a4 e
    hok:=I.hok.kept C5
    len:=by
     show (cσ js σ).length=N.length;unfold cσ;rw [Vt];exact S.len }
theorem tI {prog:V3} {w:Wg} {A:Wn} {R:Result->VF->Prop} {elt target iter:WC} {ifs:List WC} {scope:Zf} {pos:Zm} {it acc:VC} {env:Env} (J:Nat->VF->Prop)
 (turn:∀ n s,J n s->VT (Wb prog w) A (Ym it) (fun r zK=>(r=none/\R (.ok .next) zK)∨∃ v,r=some v ∧
  VT (Wb prog w) A (letOwnedTupleGo target it v) (fun _ AA=>VT (Wb prog w) A (assign target env v) (fun _ Bx =>
   VT (Wb prog w) A (forIn ifs true fun c r=>if r=true then do let ok ← isTrue c env (Xx c env);pure (X5 ok) else pure (X5 r)) (fun ok Dh =>
    (ok=false/\∃ m,m<n/\J m Dh)∨(ok=true/\VT (Wb prog w) A (Xx elt env) (fun x G4=>VT (Wb prog w) A (call (.builtin "list.append") [acc,x]) (fun _ G5=>∃ m,m<n/\J m G5) (fun _ _=>False) G4) (fun _ _=>False) Dh))
    (fun _ _=>False) Bx) (fun _ _=>False) AA) (fun _ _=>False) zK) (fun _ _=>False) s)
 {s:VF} (n:Nat) (h:J n s):ZG (Wb prog w) A (.compLoop (.ListComp elt [⟨target,iter,ifs,0⟩] scope pos) 0 it acc env) R s:=by
 refine codeAny_loop rfl J (fun n s hJ=>?_) n h;show VT _ A ((compTurn (.ListComp elt [⟨target,iter,ifs,0⟩] scope pos) 0 it acc env).onRaise _) _ _ s;refine wpAny_noted ?_;rw [compTurn_list];have up:∀ {α:Type} {m:Sem α} {Q:α->VF->Prop} {E:VC->VF->Prop} {s:VF},VT (Wb prog w) A m Q (fun _ _=>False) s->VT (Wb prog w) A m Q E s:=fun q=>XE q (fun _ _ z=>z) fun _ _ z=>z.elim;refine Vu (wpAny_standAt (Vu (XE (up (turn n s hJ)) (fun r zK Ah=>?_) fun _ _ z=>z)));rcases Ah with ⟨rfl,Ah⟩ | ⟨v,rfl,Ah⟩
 · exact VE Ah
 · refine Vu (XE (up Ah) (fun _ AA AM=>?_) fun _ _ z=>z);refine Vu (XE (up AM) (fun _ Bx BK=>?_) fun _ _ z=>z);refine Vu (XE (up BK) (fun ok Dh A9=>?_) fun _ _ z=>z);rcases A9 with ⟨rfl,A9⟩ | ⟨rfl,A9⟩
   · exact VE ⟨rfl,A9⟩
   · exact Vu (Vu (XE (up A9) (fun x G4 Ar=>Vu (XE (up Ar) (fun _ G5 KC=>VE (VE ⟨rfl,KC⟩)) fun _ _ z=>z)) fun _ _ z=>z))
theorem lp {elt tg iter:WC} {ifs:List WC} {sc:Zf} {pos:Zm} {N:List V2} {js:List (Option Nat)} {g:TG} {tt:TT} {te:TE} {cl:List (V2×Vy)} {fp:List Vy} {it:Vy} {tn:Nat->WR->Prop} {J:It} {n:Nat} {W:Nat->Hp->Prop} {fin:Hp->Prop}
 {R:VC->Vy->Result->VF->Prop} (hc:X.calm=true) (S:dW X sc N js) (I:Inv X pins σ H s) (T:Turn X.prog X.w X.K tg J fp it tn) (st:tn 0 s.heap) (hf:∀ b∈fp,iR X pins H b)
 (Aw:∀ x c,cl.lookup x=some c->X.env.cells.lookup x=some c) (CL:∀ n,(n,WS)∈sc.names->∃ c,cl.lookup n=some c)
 (hg:∀ cl C s H fp pins,PG (bQ X N sc cl C s H fp pins) tg g) (gk:mO js g) (ht:∀ cl C s H fp pins,PTs (bQ X N sc cl C s H fp pins) ifs tt) (he:∀ cl C s H fp pins,PE (bQ X N sc cl C s H fp pins) elt te)
 (w0:W 0 (upd H s.heap.objs.size (.lst []))) (turn:dN js g tt te σ J s.heap.objs.size n W fin)
 (hR:∀ C H' s',C≠X.env.locals->s.heap.objs.size<C->(∃ m,s'.heap.Ns C m)->H' C=none->(∀ h' t',WN C s'.heap h'->Inv X pins σ H' { s' with heap:=h',toks:=t' })->fin H'->R (.ref s.heap.objs.size) C (.ok .next) s') {E:VC->VF->Prop} :
 VT (Wb X.prog X.w) X.A (newList []) (fun acc Bx=>VT (Wb X.prog X.w) X.A (newFunctionEnv sc X.env.globals cl [] X.env.qual none .none (some X.env)) (fun G6 Dh =>
  ZG (Wb X.prog X.w) X.A (.compStart (.ListComp elt [⟨tg,iter,ifs,0⟩] sc pos) 0 (.ref it) acc { G6 with scope:=relabel sc X.env }) (R acc G6.locals) Dh) E Bx) E s:=by
 refine Wo (wpAny_newFunctionEnv S.nocell (by intro y hy;simp at hy) (fun Ah B7 B8=>?_) S.kind);dsimp only at B7 B8 ⊢;have I3:Inv X pins σ (upd H s.heap.objs.size (.lst [])) { s with heap:=s.heap.push { cls:=.type "list",dict:=none,data:=.seq ([]:List VC).toArray } }:=I.lnew (t':=s.toks) (its:=[]) .nil (by decide)
 have zV:∀ b∈fp,b<s.heap.objs.size:=fun b hb=>by
  obtain ⟨o,ho,_⟩:=T.obj _ _ st b hb;exact VX ho
 have EF:∀ b o,s.heap.get? b=some o->(s.heap.push { cls:=.type "list",dict:=none,data:=.seq ([]:List VC).toArray }).get? b=some o:=fun b o e=>VA _ e;have hsz:(s.heap.push { cls:=.type "list",dict:=none,data:=.seq ([]:List VC).toArray }).objs.size=s.heap.objs.size+1:=WU ..;generalize Ow:({ s with heap:=s.heap.push { cls:=.type "list",dict:=none,data:=.seq ([]:List VC).toArray } }:VF)=s3 at I3;have G7:s.heap.push { cls:=.type "list",dict:=none,data:=.seq ([]:List VC).toArray }=s3.heap:=by rw [<- Ow]
 rw [G7] at B7 B8 EF hsz;rw [G7];have QT:∀ t',({ s with heap:=Ah,toks:=t' }:VF)={ s3 with heap:=Ah,toks:=t' }:=fun t'=>by rw [<- Ow]
 rw [QT];have C5:∀ b o,s3.heap.get? b=some o->Ah.get? b=some o:=fun b o e=>B8.extBut b o (Wm (VX e)) (VA _ e);have KD:∀ b∈fp,iR X pins (upd H s.heap.objs.size (.lst [])) b:=fun b hb=>⟨by rw [af (Wm (zV b hb))];exact (hf b hb).1,(hf b hb).2⟩;have I4:=uz (t':=s.toks+([]:List (V2×VC)).length) S I3 Aw CL KD (fun b hb=>by rw [hsz];exact Nat.lt_succ_of_lt (zV b hb)) B7 C5;generalize UJ:upd H s.heap.objs.size (.lst [])=H3 at I3 I4 KD w0;have BZ:tn 0 Ah:=T.keep _ _ _ st fun b hb o e=>C5 _ _ (EF _ _ e)
 have B0:∀ {H':Hp},(∀ b∈fp,H' b=none)->∀ b∈fp,iR (bQ X N sc cl s3.heap.objs.size s3 H3 fp pins) [] H' b:=fun {H'} hn b hb=>by
  obtain ⟨f0,f1,f2,f3,f4,f5⟩:=hf b hb;refine ⟨hn b hb,fun e=>?_,fun hm=>?_,.inl hb,fun x c e=>f4 x c (Aw x c e),fun p hp=>f5 p (by simpa [bQ] using hp)⟩
  · have e':b=s3.heap.objs.size:=e;have h9:b<s.heap.objs.size:=zV b hb;rw [e',hsz] at h9;exact absurd h9 (Nat.not_lt.mpr (Nat.le_succ _))
  · rcases VP.mp (I.stkSub b hm) with e | e
    · exact f1 e
    · exact f2 e
 have loop:ZG (Wb X.prog X.w) X.A (.compLoop (.ListComp elt [⟨tg,iter,ifs,0⟩] sc pos) 0 (.ref it) (.ref s.heap.objs.size) (compEnvC sc cl s3.heap.objs.size X.env)) (R (.ref s.heap.objs.size) s3.heap.objs.size)
  { s3 with heap:=Ah,toks:=s.toks+([]:List (V2×VC)).length }:=by
  refine tI (fun k s'=>∃ i H',Inv (bQ X N sc cl s3.heap.objs.size s3 H3 fp pins) [] (cσ js σ) H' s'/\tn i s'.heap/\(∀ b∈fp,H' b=none)/\W i H'/\k=n - i) ?_ n ⟨0,H3,I4,BZ,fun b hb=>(KD b hb).1,w0,rfl⟩;rintro k s5 ⟨i,H5,I5,F9,DU,w5,rfl⟩;rcases turn i H5 w5 with ⟨stop,qn⟩ | ⟨C6,go,step⟩
  · refine thn (T.done (bQ X N sc cl s3.heap.objs.size s3 H3 fp pins) rfl rfl rfl hc i [] s5 (cσ js σ) H5 _ I5 (B0 DU) F9 stop) fun r s6 ⟨hr,I6⟩=>.inl ⟨hr,?_⟩;have I7:Inv X pins σ H5 s6:=I3.call' (ch:=fp) (I6.os.trans rfl) I6.base I6.hok I6.bare fun b hb=>⟨(hf b hb).2.2.2.1,(hf b hb).2.1,(hf b hb).2.2.2.2.1,(hf b hb).2.2.2.2.2⟩;have Ox:H5 s3.heap.objs.size=none:=I6.free;have Oy:s3.heap.objs.size≠X.env.locals:=YM I3.lt;obtain ⟨m6,QU,_⟩:=I6.loc;refine hR s3.heap.objs.size H5 s6 Oy (by omega) ⟨m6,QU⟩ Ox (fun h' t' sb=>?_) qn;refine I7.turned (it:=s3.heap.objs.size) (fun b o hb e=>sb.extBut b o hb e) Ox Oy (.inr I3.sz) (fun x c e z=>?_) fun p hp z=>?_
    · obtain ⟨v,q⟩:=I3.cell x c e;exact absurd q.lt (by rw [z];exact Xd _)
    · exact absurd (VX (I3.pin p hp).1) (by rw [z];exact Xd _)
  · refine thn (T.item (bQ X N sc cl s3.heap.objs.size s3 H3 fp pins) rfl rfl rfl hc i [] s5 (cσ js σ) H5 _ I5 (B0 DU) F9 go) fun r s6 ⟨u,hr,h6⟩=>.inr ⟨u,hr,?_⟩;refine thn h6 fun _ s7 ⟨x,H7,I7,r7,y7,KG,QV⟩=>?_;have QW:=I7.pinned (B0 QV) (T.obj _ _ KG);refine thn (hg cl s3.heap.objs.size s3 H3 fp pins _ s7 (cσ js σ) H7 x u _ QW r7 (gk σ (cσ js σ) x H7 _ (.refl _) (step x H7 y7))) fun _ s8 ⟨KH,H8,I8,k8,q8⟩=>?_;refine thn (ht cl s3.heap.objs.size s3 H3 fp pins _ s8 KH H8 _ I8 q8) fun ok s9 ⟨H9,I9,q9⟩=>?_
    have again:∀ {s':VF} {zJ:St} {H':Hp},Keep (cσ js σ) zJ->Inv (bQ X N sc cl s3.heap.objs.size s3 H3 fp pins) ([]++kY fp s7.heap) zJ H' s'->W (i+1) H'->∃ m,m<n - i/\∃ i H',Inv (bQ X N sc cl s3.heap.objs.size s3 H3 fp pins) [] (cσ js σ) H' s'/\tn i s'.heap/\(∀ b∈fp,H' b=none)/\W i H'/\m=n - i:=fun {s' zJ H'} kp I' w'=>by
     refine ⟨n - (i+1),by omega,i+1,H',(I'.unpinned).weak kp.1 kp.2,T.keep _ _ _ KG fun b hb o e=>(I'.pin (b,o) (V5 _ (V5 _ (ej hb e)))).1,fun b hb=>?_,w',rfl⟩;obtain ⟨o,e,d⟩:=T.obj _ _ KG b hb;exact (I'.pin (b,o) (V5 _ (V5 _ (ej hb e)))).2.1
    cases ok with
    | false =>
      refine .inl ⟨rfl,again k8 I9 ?_⟩;have Oz:if false=true then _ else W (i+1) H9:=q9
      rw [if_neg VS] at Oz;exact Oz
    | true =>
      refine .inr ⟨rfl,?_⟩;rw [if_pos rfl] at q9;refine thn (he cl s3.heap.objs.size s3 H3 fp pins _ s9 KH H9 _ I9 q9) fun vv BG ⟨v,BL,QX,rv,ys,hD,KI,QY⟩=>?_;refine thn (bq _ BG KH BL (.ref s.heap.objs.size) [v] (.ref s.heap.objs.size) [vv] (fun _ H'=>W (i+1) H') QX rfl (.cons rv .nil) ⟨_,ys,v,rfl,rfl,hD,KI,QY⟩) fun _ DN ⟨_,G8,QZ,_,Q0⟩=>?_;exact again k8 QZ Q0
 exact codeAny_compStart_list loop (T.self X.A 0 _ _ _ BZ loop)
theorem bA {elt tg iter:WC} {ifs:List WC} {sc:Zf} {pos:Zm} {N:List V2} {js:List (Option Nat)} {wi:TI} {g:TG} {tt:TT} {te:TE} (hc:X.calm=true) (S:dW X sc N js) (hi:PI X tg iter wi)
 (hg:∀ cl C s H fp pins,PG (bQ X N sc cl C s H fp pins) tg g) (gk:mO js g) (ht:∀ cl C s H fp pins,PTs (bQ X N sc cl C s H fp pins) ifs tt) (he:∀ cl C s H fp pins,PE (bQ X N sc cl C s H fp pins) elt te)
 (hs:∀ x,foldedSetIterable iter X.env x=pure x:=by intro _;rfl):PE X (.ListComp elt [⟨tg,iter,ifs,0⟩] sc pos) (rJ js wi g tt te):=by
 intro pins s σ H Q I h;obtain ⟨cl,e1,e2,e3⟩:=lU (env:=X.env) (sc:=sc) fun n hn=>I.ok.has n (S.frees _ hn rfl);rw [eval_ListComp];refine wpAny_comprehension_free (use:=none) rfl hs e1 S.kind S.names (thn (hi pins s σ H _ I h) fun v s1 h1=>thn h1 fun Jx s2 h2=>?_);obtain ⟨it,fp,tn,J,H2,rfl,I2,T,E8,f2,R2⟩:=h2;obtain ⟨n,W,w0,turn⟩:=R2 s2.heap.objs.size I2.fresh;refine lp (R:=fun acc C=>compPost (Wb X.prog X.w) X.A X.xe none (EP X pins σ Q) acc C) hc S I2 T E8 f2 e2 e3 hg gk ht he w0 turn fun C H' s' _ _ hn _ inv fi=>?_;obtain ⟨m,hm⟩:=hn;exact ⟨m,hm,fun h' sb=>⟨.ref s2.heap.objs.size,H',inv h' s'.toks sb,rfl,fi⟩⟩
theorem eW {i:Nat} {y:V2} {elt tg iter:WC} {ifs:List WC} {sc:Zf} {pos G9 py:Zm} {N:List V2} {js:List (Option Nat)} {wi:TI} {g:TG} {tt:TT} {te:TE} (hN:X.N.Nodup) (hy:X.N[i]?=some y) (Q1:Loc X.env.scope y) (hc:X.calm=true) (S:dW X sc N js) (hi:PI X tg iter wi)
 (hg:∀ cl C s H fp pins,PG (bQ X N sc cl C s H fp pins) tg g) (gk:mO js g) (ht:∀ cl C s H fp pins,PTs (bQ X N sc cl C s H fp pins) ifs tt) (he:∀ cl C s H fp pins,PE (bQ X N sc cl C s H fp pins) elt te)
 (JA:swapsWith (.ListComp elt [⟨tg,iter,ifs,0⟩] sc pos) (some (.Name y py)) G9.line X.env=pure true:=by rfl)
 (hs:∀ x,foldedSetIterable iter X.env x=pure x:=by intro _;rfl) (hf:X.fn y=true∨X.env.scope.names.lookup y=some .local:=by first | exact .inl rfl | exact .inr rfl | assumption) :
 PS X (.Assign [.Name y py] (.ListComp elt [⟨tg,iter,ifs,0⟩] sc pos) G9) (xh (rJ js wi g tt te) (aD i)):=by
 intro pins s σ H D I h;obtain ⟨cl,e1,e2,e3⟩:=lU (env:=X.env) (sc:=sc) fun n hn=>I.ok.has n (S.frees _ hn rfl);rw [exec_Assign_Name_used _ _ _ _ JA];refine Vu (wpAny_standAt (Vu ?_));show VT _ X.A (do let _ ← comprehension (.ListComp elt [⟨tg,iter,ifs,0⟩] sc pos) sc X.env _ (newList []) false (Xx iter X.env) (some (assign (.Name y py) X.env))) _ _ s;refine Vu (XE (wpAny_comprehension_free (use:=some (assign (.Name y py) X.env)) (Q:=fun _ s'=>SP X pins D .next s') rfl hs e1 S.kind S.names (thn (hi pins s σ H _ I h) fun v s1 h1=>thn h1 fun Jx s2 h2=>?_)) (fun _ s' hq=>VE (VE hq)) fun _ _ z=>z);obtain ⟨it,fp,tn,J,H2,rfl,I2,T,E8,f2,R2⟩:=h2;obtain ⟨n,W,w0,turn⟩:=R2 s2.heap.objs.size I2.fresh;refine lp (R:=fun acc C=>compPost (Wb X.prog X.w) X.A X.xe (some (assign (.Name y py) X.env)) (fun _ s'=>SP X pins D .next s') acc C) hc S I2 T E8 f2 e2 e3 hg gk ht he w0 turn fun C H' s' OA hC hn Q2 inv fi=>?_;obtain ⟨m,hm⟩:=hn
 have I5:Inv X pins σ H' s':=by
  have q:=inv s'.heap s'.toks (.refl ..);exact q
 refine wpAny_assign_Name (nu (v:=.ref s2.heap.objs.size) I5 hN hy Q1 rfl (fun s6 I6 ⟨a,sb,ha⟩=>?_) hf)
 have Q3:C≠a:=by
  rcases ha with ha | ha
  · rw [ha];exact OA
  · intro z;obtain ⟨v,q⟩:=I2.cell y a ha;exact absurd (Nat.lt_trans q.lt hC) (by rw [z];exact Xd _)
 refine ⟨m,hm.sameBut sb Q3,fun h' Q4=>⟨_,H',I6.turned (it:=C) (t':=s6.toks) (fun b o hb e=>Q4.extBut b o hb e) Q2 OA (.inr (WI I2.sz (YN hC))) (fun x c e z=>?_) fun p hp z=>?_,fi⟩⟩
 · obtain ⟨v,q⟩:=I2.cell x c e;exact absurd (Nat.lt_trans q.lt hC) (by rw [z];exact Xd _)
 · exact absurd (Nat.lt_trans (VX (I2.pin p hp).1) hC) (by rw [z];exact Xd _)
end
end L2
namespace L2
open PySem PySem.Spec PyProof.Rows
def j8 {α:Type} (xs:List α) (lo hi:Option Int):List α:=(xs.drop (HT.sIx xs.length 0 lo)).take (HT.sIx xs.length xs.length hi - HT.sIx xs.length 0 lo)
def cq (z:V2) (lo hi:Option Int):V2:=⟨(j8 z.cps.toList lo hi).toArray⟩
theorem uQ {α:Type} (xs:List α) (a n:Nat):((WT n).map fun (k:Nat)=>a+k).filterMap (xs[·]?)=(xs.drop a).take n:=by
 induction n with
 | zero=>simp
 | succ n ih =>
   rw [List.range_succ,VN,List.filterMap_append,ih,WY];congr 1;rw [List.getElem?_drop];cases h:xs[a+n]? <;> simp [h]
theorem tV (n d:Nat) (i:Int):max 0 (min (if i<0 then i+(n:Int) else i) (n:Int))=((HT.sIx n d (some i):Nat):Int):=by
 show max 0 (min (if i<0 then i+(n:Int) else i) (n:Int))=(((if i<0 then (i+(n:Int)).toNat else min i.toNat n):Nat):Int);by_cases h:i<0
 · rw [if_pos h,if_pos h];omega
 · rw [if_neg h,if_neg h];omega
theorem uS (A B:Int) (a b:Nat) (hA:A=(a:Int)) (hB:B=(b:Int)):sliceRange A B 1=(WT (b - a)).map fun (k:Nat)=>a+k:=by
 subst hA;subst hB;unfold sliceRange;simp only [show (1:Int) > 0 by decide,if_true]
 have c:(if (a:Int)<(b:Int) then ((b:Int) - a+1 - 1) / 1 else 0).toNat=b - a:=by
  split
  · rw [Int.ediv_one];omega
  · omega
 rw [c];refine YT fun k _=>?_;omega
theorem sf (lo hi:Option Int) (n:Nat):ZU lo hi 1 n=(WT (HT.sIx n n hi - HT.sIx n 0 lo)).map fun (k:Nat)=>HT.sIx n 0 lo+k:=by
 unfold ZU;simp only [show (1:Int) > 0 by decide,if_true];cases lo <;> cases hi <;> refine uS _ _ _ _ ?_ ?_ <;> first | rfl | exact tV _ _ _
theorem fu (z:V2) (lo hi:Option Int):(cq z lo hi).length<=z.length:=by
 show (j8 z.cps.toList lo hi).toArray.size<=z.cps.size;unfold j8;rw [VL,Wi,Wz,V7];omega
theorem mC (x:V2) (t:Tok) (l u:Option (Int×Tok)) {Q:VC->VF->Prop} {s:VF} (hz:x.length<=V1) (h:∀ t' k,Q (.str (cq x (l.map (·.1)) (u.map (·.1))) t') { s with toks:=k }):(sliceMade x t l u none).post Q s:=by
 have e:(slicePicked x l u none).filterMap (x.cps[·]?)=j8 x.cps.toList (l.map (·.1)) (u.map (·.1)):=by
  unfold slicePicked j8;show (ZU (l.map (·.1)) (u.map (·.1)) 1 x.length).filterMap (x.cps[·]?)=_;rw [sf,show (x.cps[·]?)=(x.cps.toList[·]?) from funext fun i=>(X2 ..).symm,uQ,V7];rfl
 unfold sliceMade;split
 · rename_i hc
   have hl:(slicePicked x l u none).length=x.length:=by
    have:=(Zl _ _ ▸ hc).2;simpa using this
   have hw:cq x (l.map (·.1)) (u.map (·.1))=x:=by
    have e2:(j8 x.cps.toList (l.map (·.1)) (u.map (·.1)))=x.cps.toList:=by
     have hp:slicePicked x l u none=(WT (HT.sIx x.length x.length (u.map (·.1)) - HT.sIx x.length 0 (l.map (·.1)))).map fun (k:Nat)=>HT.sIx x.length 0 (l.map (·.1))+k:=sf _ _ _;rw [hp,Vt,WK] at hl;have b1:=HT.sIx_le x.length x.length (VG _) (u.map (·.1));have hx:x.cps.toList.length=x.length:=V7;unfold j8;rw [hx,hl];have Gb:HT.sIx x.length 0 (l.map (·.1))=0∨x.length=0:=by omega
     rcases Gb with h0 | h0
     · rw [h0,XC,W0 (by rw [hx];exact VG _)]
     · have:x.cps.toList=[]:=Xh.mp (by rw [hx];exact h0);rw [this];simp
    unfold cq;rw [e2]
   have:=h t s.toks;rw [hw] at this;exact this
 · show (⟨((slicePicked x l u none).filterMap (x.cps[·]?)).toArray⟩:V2).length<=V1/\Q _ _;rw [e];exact ⟨WI (fu x _ _) hz,h s.toks (s.toks+1)⟩
section
variable {X:Cx}
inductive wJ (x:V) (lo:Option Int) (hi:Option Int) (H:Hp) (Q:VK):Prop
 | mk (z:_) (zS:x=.str z) (zT:z.length<=V1) (zX:Q (.str (cq z lo hi)) H):wJ  x lo hi H Q
def zp:V->Option Int->Option Int->Hp->VK->Prop:=wJ
theorem part_of {v:VC} {o:Option Int} (h:IsPart v o):∃ l:Option (Int×Tok),v=partValue l/\l.map (·.1)=o:=by
 cases h with
 | none=>exact ⟨none,rfl,rfl⟩
 | int i t=>exact ⟨some (i,t),rfl,rfl⟩
theorem n9:SlR X zp:=by
 intro pins s σ H x v vl vu lo hi sl Q I rx hs pl pu h;obtain ⟨z,rfl,hz,q⟩:=h;obtain ⟨t,rfl⟩:=rx;obtain ⟨l,rfl,rfl⟩:=part_of pl;obtain ⟨u,rfl,rfl⟩:=part_of pu;refine ⟨"str",_,F.slot_str_getitem.lookup,typeIs_str s z t,wpAny_getItem_str_slice (l:=l) (u:=u) (st:=none) ?_ rfl (mC z t l u hz fun t' k=>?_)⟩
 · obtain ⟨o,ho,hc,hd⟩:=hs;exact ⟨o,ho,hc,hd⟩
 · exact ⟨.str (cq z (l.map (·.1)) (u.map (·.1))),H,I.tok k,⟨_,rfl⟩,q⟩
theorem o5 (hc:X.calm=true):dw X (.builtin "sum") (fun xs H Q=>∃ (p:Vy) (ns:List Int),xs=[.ref p]/\SqL X.K H p (ns.map V.int)/\Q (.int ns.sum) H):=by
 intro pins s σ H xs us Q I r h;obtain ⟨p,ns,rfl,hl,q⟩:=h;obtain ⟨u,rfl,rx⟩:=vals1 r;cases rx;obtain ⟨its,rv,pl,_⟩:=I.list hl;have hi:=intsAre_of rv;obtain ⟨ys,e⟩:=(hi.allInts).items;have Bi:s.heap.IsList p (intItems ys):=by rw [<- e];exact pl.isList
 refine sum_intListG (I.ok.hd hc) Bi fun h' tk t' hk=>?_
 have e3:preSum (numAt ys) ys.size=ns.sum:=by
  rw [preSum_eq,W0 (by simp),<- nums_intItems,<- e];show (numsOf its).sum=_;rw [hi.numsOf]
 rw [e3];exact ⟨.int ns.sum,H,I.kept hk,⟨_,rfl⟩,q⟩
theorem iV (hc:X.calm=true):dw X (.builtin "max") (fun xs H Q=>∃ (p:Vy) (ns:List Int),xs=[.ref p]/\SqL X.K H p (ns.map V.int)/\ns≠[]/\∀ M,M∈ns->(∀ a,a∈ns->a<=M)->Q (.int M) H):=by
 intro pins s σ H xs us Q I r h;obtain ⟨p,ns,rfl,hl,Al,q⟩:=h;obtain ⟨u,rfl,rx⟩:=vals1 r;cases rx;obtain ⟨its,rv,pl,_⟩:=I.list hl;have hi:=intsAre_of rv;have hlen:=hi.length;obtain ⟨ys,e⟩:=(hi.allInts).items;have Bi:s.heap.IsList p (intItems ys):=by rw [<- e];exact pl.isList
 have hn:ys.toList.map (·.1)=ns:=by rw [<- nums_intItems,<- e];exact hi.numsOf
 have hsz:0<ys.size:=by
  have:ns.length=ys.size:=by rw [<- hn];simp
  have:=List.length_pos_iff.mpr Al;omega
 refine max_intList (I.ok.hd hc) Bi hsz fun v h' tk hv hk=>?_;obtain ⟨t,rfl⟩:=intItems_at hv;obtain ⟨h1,h2⟩:=argBest_gt (numAt ys) (ys.size - 1);refine ⟨.int _,H,I.kept hk,⟨_,rfl⟩,q _ ?_ fun a ha=>?_⟩
 · rw [numAt_eq,<- hn];exact getD_mem (by rw [Vt,V7];omega)
 · rw [<- hn] at ha;obtain ⟨j,hj,rfl⟩:=mem_getD ha;rw [Vt,V7] at hj;rw [<- numAt_eq];exact h2 j (by omega)
theorem uU {T:String} {b:Bool} {t:VC}:dw X (.builtin "isinstance") (fun xs H Q=>∃ x,xs=[x,.ty T]/\ik X.K H x t/\YD X.K t (.type T)=some b/\Q (.bl b) H):=by
 intro pins s σ H xs us Q I r h;obtain ⟨x,rfl,ty,k,q⟩:=h;obtain ⟨u,w',rfl,r1,r2⟩:=vals2 r;cases r2;exact tK I r1 ty k fun tk=>⟨.bl b,H,I.tok tk,rfl,q⟩
end
end L2
namespace PySem
namespace F
theorem bb_owner_rev:Manifest.owners.lookup (String.ofList ['d','e','s','r','e','v','e','r'].reverse)=some Manifest.sig_reversed:=by kernel_rfl
theorem bb_slot_rev_next:Slot "reversed" "__next__" "reversed.__next__" :=
 .of (owner:="reversed") (n:="__next__") (by rw [ZK,YI];kernel_rfl) (by decide +kernel) (by decide +kernel) (by decide +kernel)
  (by first | exact .inl (by decide +kernel) | exact .inr (by decide +kernel)) (by rw [ZY];kernel_rfl)
theorem bb_entry_rev_next:entryFor table "reversed.__next__"=some Yb.«reversed.__next__»:=entryFor_of_tree (by kernel_rfl)
theorem bb_args_rev_next (a:VC):argsOk "reversed.__next__" ⟨[a],[]⟩:=by
 unfold argsOk;rw [signature?_of (id:="reversed.__next__") (n:=['_','_','t','x','e','n','_','_']) (o:=['d','e','s','r','e','v','e','r']) (by kernel_rfl) bb_owner_rev];kernel_rfl
theorem bb_slot_rev_iter:Slot "reversed" "__iter__" "reversed.__iter__" :=
 .of (owner:="reversed") (n:="__iter__") (by rw [ZK,YI];kernel_rfl) (by decide +kernel) (by decide +kernel) (by decide +kernel)
  (by first | exact .inl (by decide +kernel) | exact .inr (by decide +kernel)) (by rw [ZY];kernel_rfl)
theorem bb_args_rev_iter (a:VC):argsOk "reversed.__iter__" ⟨[a],[]⟩:=by
 unfold argsOk;rw [signature?_of (id:="reversed.__iter__") (n:=['_','_','r','e','t','i','_','_']) (o:=['d','e','s','r','e','v','e','r']) (by kernel_rfl) bb_owner_rev];kernel_rfl
theorem bb_entry_rev_iter:entryFor table "reversed.__iter__"=some Yb.«dict_keyiterator.__iter__» :=
 entryFor_alias (id':="dict_keyiterator.__iter__") (by kernel_rfl) (by first | rfl | decide +kernel | (unfold String.splitOn;simp +decide [String.splitOnAux])) (by decide +kernel) (by kernel_rfl)
theorem bb_tuple_norev:typeLookup (.type "tuple") "__reversed__"=pure none:=by rw [ZK,YI];kernel_rfl
theorem bb_sub_rev_rev:isSubtype (.type "reversed") (.type "reversed")=pure true:=by rw [ZY];kernel_rfl
theorem bb_sub_tuple_dict:isSubtype (.type "tuple") (.type "dict")=pure false:=by rw [ZY];kernel_rfl
end F
end PySem
namespace PySem
open Sem (wp)
section
variable {prog:V3} {w:Wg} {A:Wn} {E:VC->VF->Prop} {s:VF}
theorem bb_slot_rev_init:Slot "reversed" "__init__" "object.__init__" :=
 .of (owner:="object") (n:="__init__") (by rw [ZK,YI];kernel_rfl) (by decide +kernel) (by decide +kernel) (by decide +kernel)
  (by first | exact .inl (by decide +kernel) | exact .inr (by decide +kernel)) (by rw [ZY];kernel_rfl)
theorem bb_called_rev:TypeCalled "reversed" "reversed.__new__" "object.__init__" :=
 ⟨by decide +kernel,by decide +kernel,⟨_,_,F.mro_reversed⟩,F.made_reversed,by decide +kernel,F.bb_sub_rev_rev,bb_slot_rev_init⟩
def revTup (t:Vy) (i:Int):Xn:={ cls:=.type "reversed",data:=.fields #[.ref t,XF i] }
theorem bb_meets_rev_tuple (t:Vy) (items:Array VC) (hz:(items.size:Int)<2 ^ 63) :
 Meets (Yb.«reversed.__new__» ⟨[.type "reversed",.ref t],[]⟩) (fun _ R s=>PyProof.Rows.IsTup s.heap t items/\∀ tk,R (.ok (.ret (.ref s.heap.objs.size))) { s with heap:=s.heap.push (revTup t ((items.size:Int) - 1)),toks:=tk }):=by
 refine .of_wp fun prog w A R s h=>?_;obtain ⟨ht,h⟩:=h;unfold Yb.«reversed.__new__»;refine Vu (YW (newClass_reversed _) ?_)
 try dsimp only
 refine Vu (YW (a:=()) (by first | rfl | kernel_rfl) ?_);refine Vu (YW (a:=()) (by first | rfl | kernel_rfl) ?_)
 try dsimp only
 refine Vu (wpAny_specialOf ht.typeIs F.bb_tuple_norev ?_)
 try dsimp only
 have UK:=F.bb_sub_tuple_dict;have UL:=Wl.lookup;have hT:s.TypeIs (.ref t) "tuple":=ht.typeIs
 wp_walk using PyProof.Rows.len_tuple ht hz,Zn hT
 exact ⟨_,rfl,h _⟩
theorem bb_call_rev_tuple {t:Vy} {items:Array VC} {Q:VC->VF->Prop} (ht:PyProof.Rows.IsTup s.heap t items) (hz:(items.size:Int)<2 ^ 63)
 (h:∀ tk,Q (.ref s.heap.objs.size) { s with heap:=s.heap.push (revTup t ((items.size:Int) - 1)),toks:=tk }):VT (Wb prog w) A (call (.type "reversed") [.ref t]) Q E s :=
 callType_new bb_called_rev (by decide) (F.typeCall_reversed_1 _) (F.newCall_reversed_1 _) (fun obj=>F.args_object_init_2 obj _) F.entry_reversed_new (bb_meets_rev_tuple t items hz)
  ⟨ht,fun tk=>⟨⟨_,VH _ rfl,rfl⟩,h tk⟩⟩
def IsRevT (h:WR) (a t:Vy) (i:Int):Prop:=∃ o,h.get? a=some o/\o.cls=.type "reversed"/\o.data=.fields #[.ref t,XF i]
theorem IsRevT.typeIs {a t:Vy} {i:Int} (x:IsRevT s.heap a t i):s.TypeIs (.ref a) "reversed":=let ⟨o,ho,hc,_⟩:=x;⟨o,ho,hc⟩
theorem IsRevT.at {h h':WR} {a t:Vy} {i:Int} (x:IsRevT h a t i) (e:∀ o,h.get? a=some o->h'.get? a=some o):IsRevT h' a t i:=let ⟨o,ho,r⟩:=x;⟨o,e _ ho,r⟩
theorem bb_rev_iter {it t:Vy} {i:Int} {Q:VC->VF->Prop} (hit:IsRevT s.heap it t i) (h:Q (.ref it) s):VT (Wb prog w) A (pyIter (.ref it)) Q E s:=by
 refine Zo hit.typeIs F.bb_slot_rev_iter (Wu F.bb_slot_rev_iter hit.typeIs F.bb_entry_rev_iter ?_ (F.bb_args_rev_iter _));show VT _ _ (ret (.ref it)) _ _ s;exact VE ⟨_,rfl,"reversed",_,hit.typeIs,F.bb_slot_rev_next.lookup,h⟩
theorem bb_rev_next {it t:Vy} {i:Nat} {items:Array VC} {x:VC} {Q:Option VC->VF->Prop} (hit:IsRevT s.heap it t (i:Int)) (ht:PyProof.Rows.IsTup s.heap t items) (hx:items[i]?=some x) (hz:(items.size:Int)<2 ^ 63)
 (hQ:∀ h' tk,IsRevT h' it t ((i:Int) - 1)->WN it s.heap h'->Q (some x) { s with heap:=h',toks:=tk }):VT (Wb prog w) A (Ym (.ref it)) Q E s:=by
 obtain ⟨o,ho,hc,hd⟩:=id hit;have hi:i<items.size:=(X0.mp hx).1;unfold Ym
 refine Vu (Yl (Ww (name:=Vx "__next__") hit.typeIs F.bb_slot_rev_next
  (Wu F.bb_slot_rev_next hit.typeIs F.bb_entry_rev_next ?_ (F.bb_args_rev_next _))))
 unfold Yb.«reversed.__next__»;refine Vu (YW (a:=(Wj it,[])) rfl ?_)
 try dsimp only
 refine Vu (Wq ho hd (x:=.ref t) rfl ?_);refine Vu (Wq ho hd (x:=XF (i:Int)) rfl ?_);show VT _ _ (if (i:Int)<0 then _ else _) _ _ s;rw [if_neg (by omega)];refine Vu (wpAny_specialOf ht.typeIs Wl.lookup ?_)
 try dsimp only
 rw [if_neg (by decide)];refine Vu (m:=mkInt (i:Int)) (wpAny_mkInt ?_);refine Vu (Yl (PyProof.Rows.getItem_tuple (j:=i) (x:=x) ht (by omega) (by omega) ?_ hx ?_))
 · refine (L2.rZ (n:=items.size) (i:=(i:Int)) (j:=i) ?_).1;unfold L2.ixN;rw [if_pos (by omega),if_pos (by omega)];simp
 · try dsimp only
   refine Vu (Wq ho hd (x:=XF (i:Int)) rfl ?_)
   try dsimp only
   refine Vu (Yq ho hd (by simp) ?_);refine VE ⟨x,rfl,VE (hQ _ _ ?_ (Yo ..))⟩;exact ⟨_,ZA _ ho (Zz (XG hd _)),(Obj.cls_mapFields ..).trans hc,by rw [XG hd];simp⟩
theorem bb_rev_end {it t:Vy} {Q:Option VC->VF->Prop} (hh:A.handled=none) (hit:IsRevT s.heap it t (-1))
 (hQ:∀ h' tk,Heap.ExtBut it s.heap h'->Q none { s with heap:=h',toks:=tk }):VT (Wb prog w) A (Ym (.ref it)) Q E s:=by
 obtain ⟨o,ho,hc,hd⟩:=id hit;unfold Ym
 refine Vu (Yl (Ww (name:=Vx "__next__") hit.typeIs F.bb_slot_rev_next
  (Wu F.bb_slot_rev_next hit.typeIs F.bb_entry_rev_next ?_ (F.bb_args_rev_next _))))
 unfold Yb.«reversed.__next__»;refine Vu (YW (a:=(Wj it,[])) rfl ?_)
 try dsimp only
 refine Vu (Wq ho hd (x:=.ref t) rfl ?_);refine Vu (Wq ho hd (x:=XF (-1)) rfl ?_);show VT _ _ (if (-1:Int)<0 then _ else _) _ _ s;rw [if_pos (by decide)];refine Vu (wpAny_rule ?_);refine Vu ?_
 wp_delta
 refine Vu (Yq ho hd (by simp) ?_);have DX:=ZA (Obj.mapFields (·.setIfInBounds 1 (XF (-1)))) ho (Zz (XG hd _));refine Yq DX (XG hd _) (by simp) ?_;refine Vu ?_
 wp_delta
 refine Vu ?_;simp only [newExc,newTuple];refine Vu (Wo ?_ (by size_fits));refine Vu (m:=Yr _ _) (YW (a:=WV) (by first | rfl | (simp only [Yr];rfl)) ?_);refine Wo ?_ (by size_fits);simp only [raiseNew];refine Vu (wpAny_handled ?_)
 first | rw [show A.in1.handled=none from hh] | rw [hh]
 refine Vu (VE (wpAny_throw ?_));refine Vu (wpAny_isInstance (T:="StopIteration") (b:=true) ⟨_,VH _ rfl,rfl⟩ isSubtype_stop ?_);refine VE (hQ _ _ ?_);refine Heap.ExtBut.push (Heap.ExtBut.push ?_ _) _;intro b o' hb e;rw [Heap.get?_update_other _ _ (Y9 hb),Heap.get?_update_other _ _ (Y9 hb)];exact e
end
end PySem
namespace L2
open PySem PySem.Spec PyProof.Rows
section
variable {X:Cx} {e:WC} {te:TE} {p p2 pos AH:Zm}
def Itv (K:VB) (a:Vy) (n:Nat):It:=⟨fun i H=>i<n/\∃ xs,SqL K H a xs/\xs.length=n,fun i H x H'=>H'=H/\∀ xs,SqL K H a xs->xs[n - 1 - i]?=some x,fun i _=>i=n⟩
theorem um {P:V3} {w:Wg} {K:VB} {tg:WC} (a it:Vy) (n:Nat):Turn P w K tg (Itv K a n) [it] it (fun i h=>h.IsRevIter it a ((n:Int) - 1 - (i:Nat))) where
 mem:=by simp
 obj:=fun i h st b hb=>by
  have e:b=it:=by simpa using hb
  subst e;obtain ⟨o,e,c,d⟩:=st;exact ⟨o,e,fun v z=>by rw [d] at z;cases z⟩
 keep:=fun i h h' st k=>st.at fun o e=>k it (by simp) o e
 item:=by
  intro X hP hw hK hc i pins s σ H E I hf st hg;subst hP hw hK;obtain ⟨hi,xs,hq,hx⟩:=hg;obtain ⟨its,rv,p,hz⟩:=I.list hq;have hl:=rv.length;obtain ⟨x,C7⟩:∃ x,xs[n - 1 - i]?=some x:=⟨_,Vw (by omega)⟩;obtain ⟨u,hu,ru⟩:=rv.get C7;obtain ⟨f0,f1,f2,f3,f4,f5⟩:=hf it (by simp);have e1:(n:Int) - 1 - (i:Nat)=((n - 1 - i:Nat):Int):=by omega
  rw [e1] at st;refine wpAny_pyNext_rev_item st p.isList (x:=u) (by simpa using hu) fun h' AG sb=>?_;have I1:Inv X pins σ H { s with heap:=h' }:=I.turned (t':=s.toks) (fun b o hb e=>(sb.2 b hb).trans e) f0 f1 f3 f4 f5;have e2:((n - 1 - i:Nat):Int) - 1=(n:Int) - 1 - ((i+1:Nat):Int):=by omega
  rw [e2] at AG;obtain ⟨o,e,c,d⟩:=id AG;exact ⟨u,rfl,iN (s:={ s with heap:=h' }) e c d (by decide) ⟨x,H,I1,ru,⟨rfl,fun ys hy=>by rw [I.list_inj hy hq];exact C7⟩,AG,fun b hb=>(hf b hb).1⟩⟩
 done:=by
  intro X hP hw hK hc i pins s σ H E I hf st hg;subst hP hw hK;have KJ:i=n:=hg;subst KJ;obtain ⟨f0,f1,f2,f3,f4,f5⟩:=hf it (by simp);rw [show (i:Int) - 1 - (i:Nat)=-1 by omega] at st;exact wpAny_pyNext_rev_end (I.ok.hd hc) st fun h' eb=>⟨rfl,I.turned (t':=s.toks) (fun b o hb e=>eb b o hb e) f0 f1 f3 f4 f5⟩
 self:=fun _ _ _ _ _ st h=>wpAny_pyIter_revIter st h
def yV (K:VB) (tl:TE):TI:=fun σ H R=>tl σ H fun x H1=>∃ a xs,x=.ref a/\SqL K H1 a xs/\R (Itv K a xs.length) H1
theorem uH {tg:WC} (g2:Gl X "reversed") (m2:X.mg "reversed"=none) (he:PE X e te) (h2:Wr [e] X.env=[(false,Xx e X.env)]:=by rfl):PI X tg (.Call (.Name "reversed" p2) [e] [] AH) (yV X.K te):=by
 intro pins s σ H R I h;refine W9 (eE I g2 m2 boot_reversed (W6 ?_ h2 rfl));rw [h2];show VT _ _ (spliced ((false,Xx e X.env)::[])) _ _ s;refine YB (thn (he pins s σ H _ I h) fun u s1 ⟨x,H1,I1,r1,a,ys,ex,hq,q⟩=>Zt ?_);subst ex;cases r1;obtain ⟨its,rv,p,hz⟩:=I1.list hq;have hl:=rv.length;refine call_reversed_list p.isList ?_
 have hit:(s1.heap.push (revObj a ((its.toArray.size:Int) - 1))).IsRevIter s1.heap.objs.size a ((ys.length:Int) - 1 - ((0:Nat):Int)):=by
  rw [hl,show (its.length:Int) - 1 - ((0:Nat):Int)=(its.toArray.size:Int) - 1 by rw [VL];omega];exact ⟨_,VH _ rfl,rfl,rfl⟩
 refine wpAny_pyIter_revIter (s:={ s1 with heap:=s1.heap.push (revObj a ((its.toArray.size:Int) - 1)) }) hit ?_;refine ⟨s1.heap.objs.size,[s1.heap.objs.size],_,_,H1,rfl,I1.kept (t':=s1.toks) fun b o e=>VA _ e,um a _ ys.length,hit,fun b hb=>?_,q⟩;have e:b=s1.heap.objs.size:=by simpa using hb
 subst e;exact I1.fpOk (VG _) (I1.hok.fresh (VG _))
theorem si {K:VB} {a:Vy} {xs:List V} {g:TG} {tb:TS} {D:Ends} {σ:St} {H:Hp} (Pv:Nat->St->Hp->Prop) (h0:Pv 0 σ H) (hl:∀ i σ H,i<=xs.length->Pv i σ H->SqL K H a xs)
 (hs:∀ i x σ H,i<xs.length->xs[xs.length - 1 - i]?=some x->Pv i σ H->g x σ H fun zU H2=>tb { D with nx:=Pv (i+1),ct:=Pv (i+1),bk:=D.nx } zU H2) (hd:∀ σ H,Pv xs.length σ H->D.nx σ H) :
 ∃ W:Nat->Nat->St->Hp->Prop,(∃ m,W 0 m σ H)/\∀ i m σ H,W i m σ H →
   ((Itv K a xs.length).stop i H/\D.nx σ H)∨((Itv K a xs.length).go i H/\∃ N:St->Hp->Prop,(∀ zJ H',N zJ H'->∃ m',m'<m/\W (i+1) m' zJ H')/\∀ x H',(Itv K a xs.length).yld i H x H'->g x σ H' fun zU H2=>tb { D with nx:=N,ct:=N,bk:=D.nx } zU H2):=by
 refine ⟨fun i m σ H=>i<=xs.length/\m=xs.length - i/\Pv i σ H,⟨xs.length,Wc _,rfl,h0⟩,?_⟩;rintro i m σ H ⟨hi,rfl,p⟩;by_cases h:i=xs.length
 · left;exact ⟨h,hd σ H (by rw [<- h];exact p)⟩
 · right;have Bg:i<xs.length:=by omega
   refine ⟨⟨Bg,xs,hl i σ H hi p,rfl⟩,Pv (i+1),fun zJ H' q=>⟨xs.length - (i+1),by omega,by omega,rfl,q⟩,?_⟩;rintro x H' ⟨rfl,hx⟩;exact hs i x σ H' Bg (hx xs (hl i σ H' hi p)) p
end
end L2
namespace BB
open PySem L2
inductive Th where
 | knot (n:V2) (ks:List Th)
 | call (s k:Int)
def q:V2:=Vx "?"
def Th.kids:Th->List Th
 | .knot _ ks=>ks
 | .call _ _=>[]
mutual
def Th.size:Th->Nat
 | .knot _ ks=>au ks+1
 | .call _ _=>1
def au:List Th->Nat
 | []=>0
 | t::ts=>t.size+au ts
end
mutual
def Th.tall:Th->Nat
 | .knot _ ks=>aC ks+1
 | .call _ _=>1
def aC:List Th->Nat
 | []=>0
 | t::ts=>max t.tall (aC ts)
end
mutual
/-- by places Gd -/
def Th.walk:Th->List Th
 | .knot n ks=>.knot n ks::walks ks
 | .call s k=>[.call s k]
def walks:List Th->List Th
 | []=>[]
 | t::ts=>t.walk++walks ts
end
theorem Th.walk_eq (t:Th):t.walk=t::walks t.kids:=by
 cases t with
 | knot n ks=>rw [Th.walk];rfl
 | call s k=>rw [Th.walk];simp [Th.kids,walks]
theorem Th.size_eq (t:Th):t.size=au t.kids+1:=by
 cases t with
 | knot n ks=>rw [Th.size];rfl
 | call s k=>rw [Th.size];simp [Th.kids,au]
theorem Th.tall_eq (t:Th):t.tall=aC t.kids+1:=by
 cases t with
 | knot n ks=>rw [Th.tall];rfl
 | call s k=>rw [Th.tall];simp [Th.kids,aC]
theorem eg:∀ a b:List Th,walks (a++b)=walks a++walks b
 | [],b=>by simp [walks]
 | t::a,b=>by rw [Xr,walks,walks,eg a b,Xk]
theorem aF:∀ a b:List Th,au (a++b)=au a+au b
 | [],b=>by simp [au]
 | t::a,b=>by rw [Xr,au,au,aF a b,Nat.add_assoc]
mutual
theorem Th.walk_len:∀ t:Th,t.walk.length=t.size
 | .knot n ks=>by rw [Th.walk,Th.size,VY,f6 ks]
 | .call s k=>by rw [Th.walk,Th.size];rfl
theorem f6:∀ ts:List Th,(walks ts).length=au ts
 | []=>rfl
 | t::ts=>by rw [walks,au,VO,t.walk_len,f6 ts]
end
theorem Th.size_pos (t:Th):1<=t.size:=by rw [t.size_eq];omega
mutual
def At (H:Hp):Th->Vy->Prop
 | .knot n ks,a=>n≠q/\∃ as:List Vy,H a=some (.tup (.str n::as.map V.ref))/\Ats H ks as
 | .call s k,a=>H a=some (.tup [.str q,.int s,.int k])
def Ats (H:Hp):List Th->List Vy->Prop
 | [],as=>as=[]
 | t::ts,as=>∃ a r,as=a::r/\At H t a/\Ats H ts r
end
def KT (H H':Hp):Prop:=∀ b xs,H b=some (.tup xs)->H' b=some (.tup xs)
theorem KT.trans {H H1 H2:Hp} (a:KT H H1) (b:KT H1 H2):KT H H2:=fun c o h=>b c o (a c o h)
theorem Same.kt {H H':Hp} (h:L2.Same H H'):KT H H':=fun b xs e=>h b _ e
theorem fz {H:Hp} {l:Vy} {o:HO} (h:H l=none):KT H (upd H l o):=fun b xs e=>by rw [af (av e h)];exact e
theorem bx {H:Hp} {l:Vy} {o:HO} {xs:List V} (h:H l=some (.lst xs)):KT H (upd H l o):=fun b ys e=>by rw [af (aJ e h (by intro z;cases z))];exact e
mutual
theorem At.mono {H H':Hp} (k:KT H H'):∀ {t:Th} {a:Vy},At H t a->At H' t a
 | .knot n ks,a,h=>by
   rw [At] at h ⊢;obtain ⟨h0,as,h1,h2⟩:=h;exact ⟨h0,as,k _ _ h1,Ats.mono k h2⟩
 | .call s c,a,h=>by
   rw [At] at h ⊢;exact k _ _ h
theorem Ats.mono {H H':Hp} (k:KT H H'):∀ {ts:List Th} {as:List Vy},Ats H ts as->Ats H' ts as
 | [],as,h=>by rw [Ats] at h ⊢;exact h
 | t::ts,as,h=>by
   rw [Ats] at h ⊢;obtain ⟨a,r,e,h1,h2⟩:=h;exact ⟨a,r,e,At.mono k h1,Ats.mono k h2⟩
end
theorem Ats.nil {H:Hp}:Ats H [] []:=by rw [Ats]
theorem Ats.cons {H:Hp} {t:Th} {ts:List Th} {a:Vy} {as:List Vy} (h1:At H t a) (h2:Ats H ts as):Ats H (t::ts) (a::as):=by rw [Ats];exact ⟨a,as,rfl,h1,h2⟩
theorem Ats.append {H:Hp}:∀ {ts us:List Th} {as bs:List Vy},Ats H ts as->Ats H us bs->Ats H (ts++us) (as++bs)
 | [],us,as,bs,h,g=>by rw [Ats] at h;subst h;exact g
 | t::ts,us,as,bs,h,g=>by
   rw [Ats] at h;obtain ⟨a,r,rfl,h1,h2⟩:=h;exact .cons h1 (h2.append g)
theorem Ats.length {H:Hp}:∀ {ts:List Th} {as:List Vy},Ats H ts as->as.length=ts.length
 | [],as,h=>by rw [Ats] at h;subst h;rfl
 | t::ts,as,h=>by
   rw [Ats] at h;obtain ⟨a,r,rfl,h1,h2⟩:=h;rw [VY,VY,h2.length]
theorem Ats.reverse {H:Hp}:∀ {ts:List Th} {as:List Vy},Ats H ts as->Ats H ts.reverse as.reverse
 | [],as,h=>by rw [Ats] at h;subst h;exact .nil
 | t::ts,as,h=>by
   rw [Ats] at h;obtain ⟨a,r,rfl,h1,h2⟩:=h;rw [WJ,WJ];exact h2.reverse.append (.cons h1 .nil)
theorem Ats.get {H:Hp}:∀ {ts:List Th} {as:List Vy} {i:Nat} {a:Vy},Ats H ts as->as[i]?=some a->∃ t,ts[i]?=some t/\At H t a
 | [],as,i,a,h,e=>by rw [Ats] at h;subst h;simp at e
 | t::ts,as,i,a,h,e=>by
   rw [Ats] at h;obtain ⟨b,r,rfl,h1,h2⟩:=h;cases i with
   | zero=>simp at e;subst e;exact ⟨t,rfl,h1⟩
   | succ i=>exact h2.get (i:=i) (by simpa using e)
theorem Ats.snoc_inv {H:Hp} {ts:List Th} {as:List Vy} {a:Vy} (h:Ats H ts (as++[a])):∃ us t,ts=us++[t]/\Ats H us as/\At H t a:=by
 have r:=h.reverse;rw [Xm,List.reverse_singleton,List.singleton_append] at r;cases e:ts.reverse with
 | nil=>rw [e,Ats] at r;cases r
 | cons t us =>
   rw [e,Ats] at r;obtain ⟨b,z,e1,h1,h2⟩:=r;cases e1;refine ⟨us.reverse,t,?_,?_,h1⟩
   · rw [<- WJ,<- e,Xz]
   · have:=h2.reverse;rw [Xz] at this;exact this
theorem At.tup {H:Hp} {t:Th} {a:Vy} (h:At H t a):∃ n r,H a=some (.tup (.str n::r)):=by
 cases t with
 | knot n ks=>rw [At] at h;obtain ⟨_,as,h1,_⟩:=h;exact ⟨n,_,h1⟩
 | call s k=>rw [At] at h;exact ⟨q,_,h⟩
end BB
namespace BB
open PySem L2
end BB
namespace BB
open PySem L2
theorem at_nonneg {α:Type} {xs:List α} {i:Int} {v:α} (h0:0<=i) (h:xs[i.toNat]?=some v):atI xs i=some v:=by
 have e:i=((i.toNat:Nat):Int):=by omega
 rw [e];exact bK h
def Low (x:V2):Prop:=∀ c∈x.cps.toList,97<=c/\c<=122
theorem oH {x:V2} (h:Low x) (lo hi:Option Int):Low (cq x lo hi):=by
 intro c hc;have AX:c∈j8 x.cps.toList lo hi:=by simpa [cq] using hc
 exact h c (X8 (XA AX))
theorem rC {x y:V2} (hx:Low x) (hy:Low y):Low (x++y):=by
 intro c hc;have AX:c∈(x.cps++y.cps).toList:=hc;rw [Yi,VV] at AX;rcases AX with h | h
 · exact hx c h
 · exact hy c h
theorem vC {c:Nat} (h1:97<=c) (h2:c<=122):Low ⟨#[c]⟩:=by
 intro d hd;have:d=c:=by simpa using hd
 omega
theorem m8 {x:V2} (h:Low x):x≠q:=by
 intro e;subst e;have:=h 63 (by decide +kernel);omega
end BB
namespace L2
open PySem PySem.Spec PyProof.Rows
theorem Same.seqT {K:VB} {H H':Hp} {a:Vy} {xs:List V} (e:Same H H') (h:SqT K H a xs):SqT K H' a xs:=by
 rcases h with (h | ⟨o,h⟩) | h
 · exact .inl (.inl (e _ _ h))
 · exact .inl (.inr ⟨o,e _ _ h⟩)
 · exact .inr h
theorem ag {H:Hp} {p:Vy} (h:H p=none) (o:HO):Same H (upd H p o):=fun b u q=>by rw [af (av q h)];exact q
theorem aG {H H1:Hp} {l:Vy} {o:HO} (h:Same H H1) (n:H l=none):Same H (upd H1 l o):=fun b u e=>by rw [af (av e n)];exact h b u e
theorem rP {α:Type} {js:List (Option Nat)} {tt:TT} {te:TE} {σ:St} {J:It} {H:Hp} {xs:List V} {fin:Vy->Hp->Prop} (zs:List α) (p:α->Bool) (f:α->V) (hz:zs.length=xs.length) (hn:xs.length<=1000000)
 (Ff:∀ i H2,Same H H2->i<xs.length->J.go i H2) (A':∀ H2,Same H H2->J.stop xs.length H2) (Di:∀ (i:Nat) H2 x H3,Same H H2->i<xs.length->J.yld i H2 x H3->H3=H2/\xs[i]?=some x)
 (DZ:∀ (i:Nat) x z H2 (R:Bool->Hp->Prop),xs[i]?=some x->zs[i]?=some z->Same H H2->R (p z) H2->tt ((cσ js σ).set 0 (some x)) H2 R)
 (D0:∀ (i:Nat) x z H2 (R:VK),xs[i]?=some x->zs[i]?=some z->p z=true->Same H H2->R (f z) H2->te ((cσ js σ).set 0 (some x)) H2 R)
 (q:∀ D,H D=none->fin D (upd H D (.lst ((zs.filter p).map f)))) :
 ∀ D,H D=none->∃ (n:Nat) (W:Nat->Hp->Prop),W 0 (upd H D (.lst []))/\dN js (aD 0) tt te σ J D n W fun H'=>fin D H':=by
 intro D hD;refine ⟨xs.length,fun i H2=>i<=xs.length/\H2=upd H D (.lst (((zs.take i).filter p).map f)),⟨Wc _,by simp⟩,?_⟩;rintro i H2 ⟨hi,rfl⟩;have sm:∀ o,Same H (upd H D o):=fun o=>ag hD o;by_cases h:i=xs.length
 · left;subst h;refine ⟨A' _ (sm _),?_⟩;rw [<- hz,W8];exact q D hD
 · right;have Bg:i<xs.length:=by omega
   refine ⟨Bg,Ff i _ (sm _) Bg,fun x H1 hy=>?_⟩;obtain ⟨rfl,hx⟩:=Di i _ x H1 (sm _) Bg hy;have Q5:i<zs.length:=by omega
   have e1:zs[i]?=some zs[i]:=Vw Q5
   have e2:(zs.take (i+1)).filter p=(zs.take i).filter p++(if p zs[i]=true then [zs[i]] else []):=by
    rw [WY,e1,List.filter_append];show _++List.filter p [zs[i]]=_;rw [List.filter_cons,List.filter_nil]
   refine DZ i x zs[i] _ _ hx e1 (sm _) ?_
   have hlen:(((zs.take i).filter p).map f).length<=1000000:=by
    rw [Vt];have:=List.length_filter_le p (zs.take i);rw [Wi] at this;omega
   by_cases hp:p zs[i]=true
   · rw [if_pos hp];refine D0 i x zs[i] _ _ hx e1 hp (sm _) ⟨_,ad,Nat.lt_of_le_of_lt hlen (by decide),Bg,?_⟩;rw [nK,e2,if_pos hp,VN];rfl
   · rw [if_neg hp];refine ⟨Bg,?_⟩;rw [e2,if_neg hp,Xf]
theorem nV {α:Type} {K:VB} {a:Vy} {js:List (Option Nat)} {tt:TT} {te:TE} {σ:St} {H:Hp} {xs:List V} {fin:Vy->Hp->Prop} (zs:List α) (p:α->Bool) (f:α->V) (hS:SqL K H a xs) (hz:zs.length=xs.length) (hn:xs.length<=1000000)
 (DZ:∀ (i:Nat) x z H2 (R:Bool->Hp->Prop),xs[i]?=some x->zs[i]?=some z->Same H H2->R (p z) H2->tt ((cσ js σ).set 0 (some x)) H2 R)
 (D0:∀ (i:Nat) x z H2 (R:VK),xs[i]?=some x->zs[i]?=some z->p z=true->Same H H2->R (f z) H2->te ((cσ js σ).set 0 (some x)) H2 R)
 (q:∀ D,H D=none->fin D (upd H D (.lst ((zs.filter p).map f)))) :
 ∀ D,H D=none->∃ (n:Nat) (W:Nat->Hp->Prop),W 0 (upd H D (.lst []))/\dN js (aD 0) tt te σ (Itl K a) D n W fun H'=>fin D H' :=
 rP zs p f hz hn (fun i H2 s hi=>⟨xs,xs[i],s.seq hS,Vw hi⟩) (fun H2 s=>⟨xs,s.seq hS,VG _⟩) (fun i H2 x H3 s hi hy=>⟨hy.1,hy.2 xs (s.seq hS)⟩) DZ D0 q
theorem jZ {α:Type} {K:VB} {a:Vy} {js:List (Option Nat)} {tt:TT} {te:TE} {σ:St} {H:Hp} {xs:List V} {fin:Vy->Hp->Prop} (zs:List α) (p:α->Bool) (f:α->V) (hS:SqT K H a xs) (hz:zs.length=xs.length) (hn:xs.length<=1000000)
 (DZ:∀ (i:Nat) x z H2 (R:Bool->Hp->Prop),xs[i]?=some x->zs[i]?=some z->Same H H2->R (p z) H2->tt ((cσ js σ).set 0 (some x)) H2 R)
 (D0:∀ (i:Nat) x z H2 (R:VK),xs[i]?=some x->zs[i]?=some z->p z=true->Same H H2->R (f z) H2->te ((cσ js σ).set 0 (some x)) H2 R)
 (q:∀ D,H D=none->fin D (upd H D (.lst ((zs.filter p).map f)))) :
 ∀ D,H D=none->∃ (n:Nat) (W:Nat->Hp->Prop),W 0 (upd H D (.lst []))/\dN js (aD 0) tt te σ (Itt K a) D n W fun H'=>fin D H' :=
 rP zs p f hz hn (fun i H2 s hi=>⟨xs,xs[i],s.seqT hS,Vw hi⟩) (fun H2 s=>⟨xs,s.seqT hS,VG _⟩) (fun i H2 x H3 s hi hy=>⟨hy.1,hy.2 xs (s.seqT hS)⟩) DZ D0 q
end L2
namespace BB
open PySem L2
theorem at0 {α:Type} {x:α} {xs:List α}:atI (x::xs) 0=some x:=bK (j:=0) rfl
theorem at1 {α:Type} {x y:α} {xs:List α}:atI (x::y::xs) 1=some y:=bK (j:=1) rfl
theorem at2 {α:Type} {x y z:α} {xs:List α}:atI (x::y::z::xs) 2=some z:=bK (j:=2) rfl
theorem kP (x:V) (xs:List V):cG (x::xs) (some 1) none=xs:=by
 unfold cG;simp [HT.sIx]
theorem cy:∀ ts:List Th,ts.length<=au ts
 | []=>Wc _
 | t::ts=>by
   have:=t.size_pos;have:=cy ts;rw [VY,au];omega
theorem nb (ts:List Th):au ts.reverse=au ts:=by
 induction ts with
 | nil=>rfl
 | cons x xs ih=>rw [WJ,aF,ih,au,au,au];omega
theorem aI {n:Nat} (h:n<=1000000):n<V1:=Nat.lt_of_le_of_lt h (by decide)
theorem aq {n:Nat} (h:n<=1000000):n<=V1:=YN (aI h)
theorem int_at {ns:List Int} {k:Int} (h0:0<=k) (h:k<(ns.length:Int)):atI (ns.map V.int) k=some (.int (ns.getD k.toNat 0)):=by
 refine at_nonneg h0 ?_;have hk:k.toNat<ns.length:=by omega
 rw [VM,Vw hk,List.getD_eq_getElem?_getD,Vw hk];rfl
end BB
namespace BB
open PySem L2
section
variable {α β:Type} {F G:α->β->Prop}
theorem P2.append:∀ {a c:List α} {b d:List β},WD F a b->WD F c d->WD F (a++c) (b++d)
 | _,_,_,_,.nil,h=>h
 | _,_,_,_,.cons r t,h=>.cons r (P2.append t h)
theorem P2.get:∀ {a:List α} {b:List β} {i:Nat} {x:α},WD F a b->a[i]?=some x->∃ y,b[i]?=some y/\F x y
 | _,_,_,_,.nil,e=>by simp at e
 | _,_,0,_,.cons r _,e=>by simp at e;subst e;exact ⟨_,rfl,r⟩
 | _,_,i+1,x,.cons _ t,e=>by
   obtain ⟨u,h1,h2⟩:=P2.get (i:=i) (x:=x) t (by simpa using e);exact ⟨u,by simpa using h1,h2⟩
theorem P2.get':∀ {a:List α} {b:List β} {i:Nat} {y:β},WD F a b->b[i]?=some y->∃ x,a[i]?=some x/\F x y
 | _,_,_,_,.nil,e=>by simp at e
 | _,_,0,_,.cons r _,e=>by simp at e;subst e;exact ⟨_,rfl,r⟩
 | _,_,i+1,y,.cons _ t,e=>by
   obtain ⟨u,h1,h2⟩:=P2.get' (i:=i) (y:=y) t (by simpa using e);exact ⟨u,by simpa using h1,h2⟩
theorem P2.take:∀ {a:List α} {b:List β} (n:Nat),WD F a b->WD F (a.take n) (b.take n)
 | _,_,0,_=>.nil
 | _,_,_+1,.nil=>.nil
 | _,_,n+1,.cons r t=>.cons r (P2.take n t)
theorem P2.drop:∀ {a:List α} {b:List β} (n:Nat),WD F a b->WD F (a.drop n) (b.drop n)
 | _,_,0,r=>r
 | _,_,_+1,.nil=>.nil
 | _,_,n+1,.cons _ t=>P2.drop n t
theorem P2.mp (f:∀ x y,F x y->G x y):∀ {a:List α} {b:List β},WD F a b->WD G a b
 | _,_,.nil=>.nil
 | _,_,.cons r t=>.cons (f _ _ r) (P2.mp f t)
end
def KAt (H:Hp) (k:V2×Int) (a:Vy):Prop:=H a=some (.tup [.str k.1,.int k.2])
def KsAt (H:Hp) (ks:List (V2×Int)) (as:List Vy):Prop:=WD (KAt H) ks as
theorem KsAt.mono {H H':Hp} (k:KT H H') {ks:List (V2×Int)} {as:List Vy} (h:KsAt H ks as):KsAt H' ks as:=P2.mp (fun x y e=>k _ _ e) h
end BB
namespace L2
open PySem
theorem cZ {t u:TS} {D:Ends} {σ:St} {H:Hp} (R:St->Hp->Prop) (h1:∀ k:St->Hp->Prop,(∀ zJ H',R zJ H'->k zJ H')->t { D with nx:=k } σ H) (h2:∀ zJ H',R zJ H'->u D zJ H'):vc t u D σ H:=h1 _ h2
theorem cE {c:TT} {t u:TS} {D:Ends} {σ:St} {H:Hp} (R:Bool->Hp->Prop) (h1:∀ k:Bool->Hp->Prop,(∀ b H',R b H'->k b H')->c σ H k) (h2:∀ H',R true H'->t D σ H') (h3:∀ H',R false H'->u D σ H'):yP c t u D σ H :=
 h1 _ fun b H' r=>by
  cases b with
  | true=>rw [if_pos rfl];exact h2 H' r
  | false=>rw [if_neg VS];exact h3 H' r
end L2
namespace BB
open PySem L2
mutual
def Th.Fit (ks:List (V2×Int)):Th->Prop
 | .knot n ts=>(n,(ts.length:Int))∈ks/\Fits ks ts
 | .call _ _=>False
def Fits (ks:List (V2×Int)):List Th->Prop
 | []=>True
 | t::ts=>t.Fit ks/\Fits ks ts
end
theorem Fits.of {ks:List (V2×Int)}:∀ {ts:List Th},(∀ t∈ts,t.Fit ks)->Fits ks ts
 | [],_=>by rw [Fits];trivial
 | t::ts,h=>by
   rw [Fits];exact ⟨h t (VI ..),Fits.of fun u hu=>h u (Vv _ hu)⟩
theorem Fits.mem {ks:List (V2×Int)}:∀ {ts:List Th},Fits ks ts->∀ t∈ts,t.Fit ks
 | [],_,t,h=>by cases h
 | u::ts,h,t,m=>by
   rw [Fits] at h;rcases VP.mp m with rfl | m
   · exact h.1
   · exact Fits.mem h.2 t m
section
variable {ext:Th->List V} {H H':Hp} {t:Th} {a:Vy} {ts:List Th} {es:List Vy}
end
theorem cL:∀ {ts:List Th} {t:Th},t∈ts->t.tall<=aC ts
 | u::ts,t,h=>by
   rw [aC];rcases VP.mp h with rfl | h
   · omega
   · have:=cL h;omega
theorem jy:∀ {ts:List Th},ts≠[]->∃ t∈ts,t.tall=aC ts
 | [],h=>absurd rfl h
 | [u],_=>⟨u,VI ..,by rw [aC,aC];omega⟩
 | u::v::ts,_=>by
   obtain ⟨t,h1,h2⟩:=jy (ts:=v::ts) (by simp);rw [aC];by_cases c:aC (v::ts)<=u.tall
   · exact ⟨u,VI ..,by omega⟩
   · exact ⟨t,Vv _ h1,by omega⟩
theorem mS:∀ ts:List Th,(ts.map fun t=>((t.size:Nat):Int)).sum=((au ts:Nat):Int)
 | []=>rfl
 | t::ts=>by
   rw [Wf,List.sum_cons,mS ts,au];omega
theorem ints_map (ts:List Th) (f:Th->Int):(ts.map fun t=>V.int (f t))=(ts.map f).map V.int:=by rw [XR];rfl
theorem i8 {xs:List V} {n:Nat} (h:n<=xs.length):cG xs (some (n:Int)) none=xs.drop n:=by
 unfold cG;rw [HT.sIx_nat,HT.sIx_none,Zv h];exact W0 (by rw [Wz];exact VG _)
theorem take_snoc {α:Type} {xs:List α} {n:Nat} {x:α} (h:xs[n]?=some x):xs.take (n+1)=xs.take n++[x]:=by rw [WY,h];rfl
theorem aM {xs:List Vy} {i:Nat} {x:V} (h:(xs.map V.ref)[i]?=some x):∃ a,x=.ref a/\xs[i]?=some a:=by
 rw [VM] at h;obtain ⟨a,h1,h2⟩:=Yn.mp h;exact ⟨a,h2.symm,h1⟩
end BB
namespace PySem
open Sem (wp)
section
variable {prog:V3} {w:Wg} {A:Wn} {E:VC->VF->Prop} {s:VF}
theorem bb_tupNext {cur tp:Vy} {i:Nat} {items:Array VC} {x:VC} {Q:VC->VF->Prop} (g:s.heap.IsTupleIter cur tp i) (gt:s.heap.IsTuple tp items) (hx:items[i]?=some x)
 (fin:∀ h',h'.IsTupleIter cur tp (i+1)->WN cur s.heap h'->Q x { s with heap:=h' }):VT (Wb prog w) A (WH (.ref cur)) Q E s:=by
 obtain ⟨ob,e1,e2,e3⟩:=id g;obtain ⟨ot,e4,_,nt,e5⟩:=gt;unfold WH;refine Vu (Ww (name:=Vx "__next__") g.typeIs YY (Wu YY g.typeIs F.entry_tuple_iterator_next ?_ (F.args_tuple_iterator_next_1 _)));show VT _ _ (field (.ref cur) 0 >>= _) _ _ s;refine Vu (Wq e1 e3 (x:=.ref tp) rfl ?_);show VT _ _ (if (Wj tp == WV)=true then _ else _) _ _ s;rw [if_neg (show ¬ ((Wj tp == WV)=true) from VS)];show VT _ _ (field (.ref cur) 1 >>= _) _ _ s;refine Vu (Wq e1 e3 (x:=.int i 0) rfl ?_);show VT _ _ (seqItems? (.ref tp) >>= _) _ _ s;refine Vu (XN e4 e5 ?_);simp only [WL,hx];refine Vu (Yq e1 e3 (by simp) (VE ⟨x,rfl,VE (fin _ ?_ (Yo ..))⟩));exact ⟨_,ZA _ e1 (Zz (XG e3 _)),(Obj.cls_mapFields ..).trans e2,by rw [XG e3];simp [XF]⟩
theorem bb_tupEnd {cur tp:Vy} {i:Nat} {items:Array VC} {Q:VC->VF->Prop} (calm:A.handled=none) (g:s.heap.IsTupleIter cur tp i) (gt:s.heap.IsTuple tp items) (hx:items[i]?=none)
 (fin:∀ h' e,Heap.ExtBut cur s.heap h'->(∃ o,h'.get? e=some o/\o.cls=.type "StopIteration")->E (.ref e) { s with heap:=h' }):VT (Wb prog w) A (WH (.ref cur)) Q E s:=by
 obtain ⟨ob,e1,e2,e3⟩:=id g;obtain ⟨ot,e4,_,nt,e5⟩:=gt;unfold WH;refine Vu (Ww (name:=Vx "__next__") g.typeIs YY (Wu YY g.typeIs F.entry_tuple_iterator_next ?_ (F.args_tuple_iterator_next_1 _)));show VT _ _ (field (.ref cur) 0 >>= _) _ _ s;refine Vu (Wq e1 e3 (x:=.ref tp) rfl ?_);show VT _ _ (if (Wj tp == WV)=true then _ else _) _ _ s;rw [if_neg (show ¬ ((Wj tp == WV)=true) from VS)];show VT _ _ (field (.ref cur) 1 >>= _) _ _ s;refine Vu (Wq e1 e3 (x:=.int i 0) rfl ?_);show VT _ _ (seqItems? (.ref tp) >>= _) _ _ s;refine Vu (XN e4 e5 ?_);simp only [WL,hx];refine Vu (wpAny_rule (Vu (Yq e1 e3 (by simp) ?_)));show VT _ _ (newExc (.type "StopIteration") [] >>= _) _ _ _;refine Vu ?_;simp only [newExc,newTuple];refine Vu (Wo ?_ (by size_fits));refine Vu (m:=Yr _ _) (YW (a:=WV) (by first | rfl | (simp only [Yr];rfl)) ?_);refine Wo ?_ (by size_fits);simp only [raiseNew];refine Vu (wpAny_handled ?_)
 first | rw [show A.in1.handled=none from calm] | rw [calm]
 refine Vu (VE (wpAny_throw ?_));exact fin _ _ (((Yo ..).extBut.push _).push _) ⟨_,VH _ rfl,rfl⟩
end
theorem bb_drawsT {prog:V3} {w:Wg} {A:Wn} (calm:A.handled=none) (cur tp:Vy) (ne:tp≠cur) (items:Array VC) :
 Draws prog w A cur [cur,tp] items.size (fun i v=>items[i]?=some v) (fun i h=>h.IsTupleIter cur tp i/\h.IsTuple tp items) where
 live:=fun _ _ st=>let ⟨o,e,_⟩:=st.1;⟨o,e⟩
 frame:=fun _ _ _ st k=>⟨let ⟨o,e,r⟩:=st.1;⟨o,k cur (by simp) o e,r⟩,let ⟨o,e,r⟩:=st.2;⟨o,k tp (by simp) o e,r⟩⟩
 item:=fun i s Q E hi st q=>by
  refine bb_tupNext st.1 st.2 (x:=items[i]) (by simp [hi]) fun h' g' sb=>?_;exact q _ h' s.toks (by simp [hi]) ⟨g',st.2.extBut sb.extBut ne⟩ sb
 done:=fun s Q E st e=>bb_tupEnd calm st.1 st.2 (by simp) e
theorem bb_meetsEnumT (tp:Vy) (items:Array VC) (n:Nat) (dct:Option Vy) (sl:Array (Option VC)) :
 Meets (Yb.«enumerate.__new__» ⟨[.type "enumerate",.ref tp],[]⟩) (fun _ R s=>s.heap.get? tp=some { cls:=.type "tuple",dict:=dct,data:=.seq items n,slots:=sl } ∧
  R (.ok (.ret (.ref (s.heap.push { cls:=.type "tuple_iterator",data:=.fields #[.ref tp,.int 0 0] }).objs.size)))
    { s with heap:=(s.heap.push { cls:=.type "tuple_iterator",data:=.fields #[.ref tp,.int 0 0] }).push { cls:=.type "enumerate",data:=.fields #[.none,.bool false,.ref s.heap.objs.size,XF 0,.none,.none] } }) :=
 .of_wp fun prog w A R s h=>by
  obtain ⟨hp,g,d,tk,os⟩:=s;obtain ⟨gt,fin⟩:=h;have su:=sub_enumerate;have gT:Heap.IsTuple (Shared.heap ⟨hp,g,d,tk,os⟩) tp items:=⟨_,gt,rfl,n,rfl⟩
  wp_walk using XM gt
  refine wpAny_stack_any fun st=>VE ?_;split
  · rename_i c _ _ _ _ _
    cases (c == Value.type "enumerate")
    · wp_walk using XM gt,X6 gT
      exact ⟨_,rfl,fin⟩
    · wp_walk using XM gt,X6 gT
      exact ⟨_,rfl,fin⟩
  · wp_walk using XM gt,X6 gT
    exact ⟨_,rfl,fin⟩
section
variable {prog:V3} {w:Wg} {A:Wn} {E:VC->VF->Prop} {s:VF}
theorem bb_callEnumT {tp:Vy} {items:Array VC} {Q:VC->VF->Prop} (gT:s.heap.IsTuple tp items)
 (fin:∀ h',IsEnum h' (s.heap.objs.size+1) s.heap.objs.size 0 .none->h'.IsTupleIter s.heap.objs.size tp 0->h'.objs.size=s.heap.objs.size+2 →
  (∀ b o,s.heap.get? b=some o->h'.get? b=some o)->Q (.ref (s.heap.objs.size+1)) { s with heap:=h' }):VT (Wb prog w) A (call (.type "enumerate") [.ref tp]) Q E s:=by
 obtain ⟨⟨c,dct,dt,sl⟩,e1,e2,n,e3⟩:=gT;replace e2:c=.type "tuple":=e2;replace e3:dt=.seq items n:=e3;subst e2 e3;refine callType_new F.called_enumerate (by decide) (F.typeCall_enumerate_1 _) (F.newCall_enumerate_1 _) (fun obj=>F.args_object_init_2 obj _) F.entry_enumerate_new (bb_meetsEnumT tp items n dct sl) ⟨e1,?_⟩;have z:(s.heap.push { cls:=.type "tuple_iterator",data:=.fields #[.ref tp,.int 0 0] }).objs.size=s.heap.objs.size+1:=WU ..;show _/\_;rw [z]
 have ge:IsEnum ((s.heap.push { cls:=.type "tuple_iterator",data:=.fields #[.ref tp,.int 0 0] }).push { cls:=.type "enumerate",data:=.fields #[.none,.bool false,.ref s.heap.objs.size,XF 0,.none,.none] }) (s.heap.objs.size+1) s.heap.objs.size 0 .none:=by
  have t:=VH (s.heap.push { cls:=.type "tuple_iterator",data:=.fields #[.ref tp,.int 0 0] }) (o:={ cls:=.type "enumerate",data:=.fields #[.none,.bool false,.ref s.heap.objs.size,XF 0,.none,.none] }) rfl;rw [z] at t;exact t
 exact ⟨⟨_,ge,rfl⟩,fin _ ge ⟨_,VA _ (VH _ rfl),rfl,rfl⟩ (by rw [WU,z]) fun b o x=>VA _ (VA _ x)⟩
end
end PySem
namespace L2
open PySem PySem.Spec PyProof.Rows
theorem Inv.turnedL {X:Cx} {pins:List (Vy×Xn)} {σ:St} {H:Hp} {s:VF} {h':WR} {t':Nat} {fp:List Vy} (I:Inv X pins σ H s) (k:∀ b o,b∉fp->s.heap.get? b=some o->h'.get? b=some o) (hf:∀ b∈fp,iR X pins H b) :
 Inv X pins σ H { s with heap:=h',toks:=t' }:=by
 have GQ:∀ b u,H b=some u->b∉fp:=fun b u e z=>by rw [(hf b z).1] at e;cases e
 refine I.step (g':=s.gens) (d':=s.drawn) (ch:=fp) (fun b hb=>?_) (fun b o _ _ hc e _=>k b o hc e) (fun b o _ _ hc e _=>⟨o.slots,k b o hc e⟩) (fun _ _ _ _ n=>n)
  (fun b o hc e=>⟨o,k b o hc e⟩) (fun _ _ e=>e) (fun _ _ _ e=>e) (fun b ps e=>⟨#[],by rw [e];simp⟩) (fun m hm=>?_) (fun b u e=>?_) I.bare
 · obtain ⟨f0,f1,f2,f3,f4,f5⟩:=hf b hb;exact ⟨f3,f1,f4,f5⟩
 · obtain ⟨o,es,ep,ho,r⟩:=hm;exact ⟨o,es,ep,k _ o (fun z=>(hf _ z).2.1 rfl) ho,r⟩
 · refine (I.hok b u e).stay (fun c v hc q=>k c v ?_ q) (fun _ q=>q) fun _ _ q=>q;rcases hc with z | z
   · rw [z];exact GQ b u e
   · exact GQ c _ z
def Ite (K:VB) (a:Vy):It:=⟨fun i H=>∃ xs x,SqT K H a xs/\xs[i]?=some x,fun i H x H'=>∃ p y,H p=none/\x=.ref p/\H'=upd H p (.tup [.int (i:Nat),y])/\∀ xs,SqT K H a xs->xs[i]?=some y,fun i H=>∃ xs,SqT K H a xs/\xs.length=i⟩
theorem sJ {P:V3} {w:Wg} {K:VB} {elts:List WC} {k1} {pos:Zm} (a e it:Vy):Turn P w K (.Tuple elts k1 pos) (Ite K a) [e,it] e (fun i h=>(∃ old,IsEnum h e it ((i:Nat):Int) old)/\h.IsTupleIter it a i) where
 mem:=by simp
 obj:=fun i h st b hb=>by
  obtain ⟨⟨old,he⟩,o,e1,e2,e3⟩:=st;rcases VP.mp hb with rfl | hb
  · exact ⟨_,he,fun v z=>by cases z⟩
  · have:b=it:=by simpa using hb
    subst this;exact ⟨o,e1,fun v z=>by rw [e3] at z;cases z⟩
 keep:=fun i h h' st k=>by
  obtain ⟨⟨old,he⟩,o,e1,e2⟩:=st;exact ⟨⟨old,k e (by simp) _ he⟩,o,k it (by simp) _ e1,e2⟩
 item:=by
  intro X hP hw hK hc i pins s σ H E I hf st hg;subst hP hw hK;obtain ⟨xs,x,hq,hx⟩:=hg;obtain ⟨its,rv,p,hz⟩:=I.tuple hq;obtain ⟨u,hu,ru⟩:=rv.get hx;obtain ⟨⟨old,he⟩,hi⟩:=st
  have KL:e≠it:=by
   rintro rfl;obtain ⟨o,e1,e2,_⟩:=hi;rw [he] at e1;cases e1;exact absurd (Value.type.inj e2) (by decide)
  have KN:a≠it:=by
   rintro rfl;obtain ⟨o,e1,e2,_⟩:=hi;obtain ⟨o',Ge,Cr,_⟩:=p;rw [Ge] at e1;cases e1;rw [Cr] at e2;exact absurd (Value.type.inj e2) (by decide)
  have Q6:a≠e:=by
   rintro rfl;obtain ⟨o',Ge,Cr,_⟩:=p;rw [he] at Ge;cases Ge;exact absurd (Value.type.inj Cr) (by decide)
  have zV:i<its.toArray.size:=by
   have:=(Vz.mp hu).1;simpa using this
  have DO:e<s.heap.objs.size:=VX he;have BH:it<s.heap.objs.size:=by obtain ⟨o,e1,_⟩:=hi;exact VX e1
  refine wpAny_pyNext_enum_itemD (bb_drawsT (A:=X.A.in1) (show X.A.in1.handled=none from I.ok.hd hc) it a KN its.toArray) he ⟨hi,p⟩ zV KL (by simp [KL,Q6.symm]) fun y h1 tk hy ho Q7 hT hsz hk=>?_
  have Q8:y=u:=by
   have:its[i]?=some y:=by simpa using hy
   rw [hu] at this;exact (VZ this).symm
  subst Q8;refine ⟨_,rfl,wpAny_letOwnedTupleGo_enum ho fun h2 KO Gf=>?_⟩;replace Gf:WN e h1 h2:=Gf
  have Al:∀ b∈[e,it],b<s.heap.objs.size:=fun b hb=>by
   rcases VP.mp hb with rfl | hb
   · exact DO
   · have:b=it:=by simpa using hb
     subst this;exact BH
  have D6:H s.heap.objs.size=none:=I.hok.fresh (VG _)
  have IA:Inv X pins σ (upd H s.heap.objs.size (.tup [.int (i:Nat),x])) { s with heap:=s.heap.push { cls:=.type "tuple",data:=.seq #[.int (i:Nat) tk,y] },toks:=tk } :=
   I.laid (o:=.tup [.int (i:Nat),x]) (fun b ob q=>VA _ q) (VG _) ⟨by show 2<=V1;decide,[.int (i:Nat) tk,y],0,.cons ⟨tk,rfl⟩ (.cons ru .nil),VH _ rfl⟩
  refine ⟨.ref s.heap.objs.size,upd H s.heap.objs.size (.tup [.int (i:Nat),x]),?_,rfl,⟨_,x,D6,rfl,rfl,fun ys KI=>by rw [I.tuple_inj KI hq];exact hx⟩,⟨⟨y,by simpa using KO⟩,?_⟩,fun b hb=>?_⟩
  · have IB:Inv X pins σ (upd H s.heap.objs.size (.tup [.int (i:Nat),x])) { s with heap:=h2,toks:=tk+1 }:=by
     refine Inv.turnedL (s:={ s with heap:=s.heap.push { cls:=.type "tuple",data:=.seq #[.int (i:Nat) tk,y] },toks:=tk }) (h':=h2) (fp:=[e,it]) (t':=tk+1) IA (fun b o hb q=>?_) fun b hb=>?_
     · have DK:b≠e:=fun z=>hb (by simp [z]);have OB:b≠it:=fun z=>hb (by simp [z]);rw [Gf.2 b DK];by_cases Az:b=s.heap.objs.size
       · subst Az;rw [hT];have q':(s.heap.push { cls:=.type "tuple",data:=.seq #[.int (i:Nat) tk,y] }).get? s.heap.objs.size=some o:=q;rw [VH _ rfl] at q';exact q'
       · have Cs:b<(s.heap.push { cls:=.type "tuple",data:=.seq #[.int (i:Nat) tk,y] }).objs.size:=VX q;rw [WU] at Cs;refine hk b o DK OB ?_;have q':(s.heap.push { cls:=.type "tuple",data:=.seq #[.int (i:Nat) tk,y] }).get? b=some o:=q;rw [Zs _ _ _ Az] at q';exact q'
     · obtain ⟨f0,f1⟩:=hf b hb;exact ⟨by rw [af (Wm (Al b hb))];exact f0,f1⟩
    exact IB
  · obtain ⟨o,e1,r⟩:=Q7.1;exact ⟨o,(Gf.2 it (Y9 KL)).trans e1,r⟩
  · rw [af (Wm (Al b hb))];exact (hf b hb).1
 done:=by
  intro X hP hw hK hc i pins s σ H E I hf st hg;subst hP hw hK;obtain ⟨xs,hq,hx⟩:=hg;obtain ⟨its,rv,p,hz⟩:=I.tuple hq;obtain ⟨⟨old,he⟩,hi⟩:=st
  have KN:a≠it:=by
   rintro rfl;obtain ⟨o,e1,e2,_⟩:=hi;obtain ⟨o',Ge,Cr,_⟩:=p;rw [Ge] at e1;cases e1;rw [Cr] at e2;exact absurd (Value.type.inj e2) (by decide)
  have hn:its.toArray.size=i:=by
   have:=rv.length;rw [VL];omega
  refine wpAny_pyNext_enum_endD (bb_drawsT (A:=X.A.in1) (show X.A.in1.handled=none from I.ok.hd hc) it a KN its.toArray) he (by rw [hn];exact ⟨hi,p⟩) fun h' eb=>⟨rfl,?_⟩;exact I.turnedL (fp:=[e,it]) (t':=s.toks) (fun b o hb q=>eb b o (fun z=>hb (by simp [z])) q) hf
 self:=fun _ _ _ _ _ st h=>by
  obtain ⟨⟨old,he⟩,_⟩:=st;exact wpAny_pyIter_enum he h
section
variable {X:Cx} {e:WC} {te:TE} {p2 AH:Zm}
def yG (K:VB) (tl:TE):TI:=fun σ H R=>tl σ H fun x H1=>∃ a,x=.ref a/\(∃ xs,SqT K H1 a xs)/\R (Ite K a) H1
theorem rD {elts:List WC} {k1} {pos:Zm} (g2:Gl X "enumerate") (m2:X.mg "enumerate"=none) (he:PE X e te) (h2:Wr [e] X.env=[(false,Xx e X.env)]:=by rfl):PI X (.Tuple elts k1 pos) (.Call (.Name "enumerate" p2) [e] [] AH) (yG X.K te):=by
 intro pins s σ H R I h;refine W9 (eE I g2 m2 boot_enumerate (W6 ?_ h2 rfl));rw [h2];show VT _ _ (spliced ((false,Xx e X.env)::[])) _ _ s;refine YB (thn (he pins s σ H _ I h) fun u s1 ⟨x,H1,I1,r1,a,ex,⟨xs,hq⟩,q⟩=>Zt ?_);subst ex;cases r1;obtain ⟨its,rv,p,hz⟩:=I1.tuple hq;refine bb_callEnumT (show s1.heap.IsTuple a its.toArray from p) fun h' g1 g2 g3 g4=>?_;refine wpAny_pyIter_enum (s:={ s1 with heap:=h' }) g1 ?_;refine ⟨s1.heap.objs.size+1,[s1.heap.objs.size+1,s1.heap.objs.size],_,_,H1,rfl,I1.kept (t':=s1.toks) g4,sJ a _ _,⟨⟨_,g1⟩,g2⟩,fun b hb=>?_,q⟩
 have AU:s1.heap.objs.size<=b:=by
  rcases VP.mp hb with rfl | hb
  · omega
  · have:b=s1.heap.objs.size:=by simpa using hb
    exact Nat.le_of_eq this.symm
 exact I1.fpOk AU (I1.hok.fresh AU)
inductive ur (K:VB) (x:V) (y:V) (H:Hp) (Q:VK):Prop
 | mk (a:_) (b:_) (xs:_) (ys:_) (zS:x=.ref a) (zT:y=.ref b) (zX:SqT K H a xs) (Af:SqT K H b ys) (Av:xs.length+ys.length<=V1) (AZ:(xs=[]->Q (.ref b) H)) (Bz:(xs≠[]->ys=[]->Q (.ref a) H)) (Ct:(xs≠[]->ys≠[]->∀ p,H p=none->Q (.ref p) (upd H p (.tup (xs++ys))))):ur K x y H Q
def t6 (K:VB):R2:=ur K
theorem iK:OpR X (YX .Add) (t6 X.K):=by
 intro pins s σ H x y v u Q I rx ry h;obtain ⟨a,b,xs,ys,e1,e2,ha,hb,hz,q0,q1,q2⟩:=h;by_cases hx:xs=[]
 · subst e1 e2;cases rx;cases ry;obtain ⟨its,r1,p1,_⟩:=I.tuple ha;obtain ⟨zW,r2,p2,_⟩:=I.tuple hb;have hi:its=[]:=r1.nil_iff.mpr hx;obtain ⟨⟨cls,dd,data,sl⟩,ho,hc,n,hd⟩:=p1;obtain ⟨⟨GZ,F',data2,Ga⟩,DX,DL,n2,hd2⟩:=p2;simp only at hc hd DL hd2;subst hc hd DL hd2;exact concat_meets ⟨_,ho,rfl⟩ ⟨_,DX,rfl⟩ noFill_tuple_add seq_tuple_add Z8 Z0 (ZP _ _) (tuple_addW0 a b its.toArray zW.toArray n n2 dd F' sl Ga (by simp [hi])) ⟨ho,DX,⟨.ref b,H,I,rfl,q0 hx⟩⟩
 · exact vB pins s σ H x y v u Q I rx ry ⟨a,b,xs,ys,e1,e2,ha,hb,hx,hz,q1 hx,q2 hx⟩
end
end L2
namespace PySem
open Sem (wp)
abbrev tzH1 (h:WR) (l1:Vy):WR:=h.push { cls:=.type "tuple_iterator",data:=.fields #[.ref l1,.int 0 0] }
abbrev tzH2 (h:WR) (l1 l2:Vy):WR:=(tzH1 h l1).push { cls:=.type "tuple_iterator",data:=.fields #[.ref l2,.int 0 0] }
abbrev tzH3 (h:WR) (l1 l2:Vy):WR:=(tzH2 h l1 l2).push { cls:=.type "tuple",data:=.seq #[.ref h.objs.size,.ref (tzH1 h l1).objs.size] }
abbrev tzH4 (h:WR) (l1 l2:Vy):WR:=(tzH3 h l1 l2).push { cls:=.type "tuple",data:=.seq #[.none,.none] }
abbrev tzH5 (h:WR) (l1 l2:Vy):WR:=(tzH4 h l1 l2).push { cls:=.type "zip",data:=.fields #[.none,.bool false,.bool false,.ref (tzH2 h l1 l2).objs.size,.ref (tzH3 h l1 l2).objs.size] }
theorem IsTuple.push' {h:WR} {l:Vy} {xs:Array VC} (x:h.IsTuple l xs) (o:Xn):(h.push o).IsTuple l xs:=let ⟨ob,e,r⟩:=x;⟨ob,VA _ e,r⟩
theorem bb_meets_zip (l1 l2:Vy) (xs ys:Array VC) :
 Meets (Yb.«zip.__new__» ⟨[.type "zip",.ref l1,.ref l2],[]⟩) (fun _ R s=>s.heap.IsTuple l1 xs/\s.heap.IsTuple l2 ys ∧
  R (.ok (.ret (.ref (tzH4 s.heap l1 l2).objs.size))) { s with heap:=tzH5 s.heap l1 l2 }) :=
 .of_wp fun prog w A R s h=>by
  obtain ⟨hp,g,d,tk,os⟩:=s;obtain ⟨BM,AR,h⟩:=h;have KP:=sub_zip;have Fg:Heap.IsTuple (Shared.heap ⟨hp,g,d,tk,os⟩) l1 xs:=BM;have KQ:Heap.IsTuple (Shared.heap ⟨hp.push { cls:=.type "tuple_iterator",data:=.fields #[.ref l1,.int 0 0] },g,d,tk,os⟩) l2 ys:=IsTuple.push' AR _
  wp_walk using X6 Fg,X6 KQ
  exact ⟨_,rfl,h⟩
section
variable {prog:V3} {w:Wg} {A:Wn} {E:VC->VF->Prop} {s:VF}
theorem bb_call_zip {l1 l2:Vy} {xs ys:Array VC} {Q:VC->VF->Prop} (BM:s.heap.IsTuple l1 xs) (AR:s.heap.IsTuple l2 ys)
 (h:∀ h',IsZip h' (s.heap.objs.size+4) (s.heap.objs.size+2) (s.heap.objs.size+3) .none->Yg h' (s.heap.objs.size+2) (.ref s.heap.objs.size) (.ref (s.heap.objs.size+1)) →
  Yg h' (s.heap.objs.size+3) .none .none->h'.IsTupleIter s.heap.objs.size l1 0->h'.IsTupleIter (s.heap.objs.size+1) l2 0->h'.objs.size=s.heap.objs.size+5 →
  (∀ c o,s.heap.get? c=some o->h'.get? c=some o)->Q (.ref (s.heap.objs.size+4)) { s with heap:=h' }) :
 VT (Wb prog w) A (call (.type "zip") [.ref l1,.ref l2]) Q E s:=by
 refine callType_new F.called_zip (by decide) (F.typeCall_zip_2 _ _) (F.newCall_zip_2 _ _) (fun obj=>F.args_object_init_3 obj _ _) F.entry_zip_new
  (bb_meets_zip l1 l2 xs ys) ⟨BM,AR,?_⟩
 have z1:(tzH1 s.heap l1).objs.size=s.heap.objs.size+1:=WU ..;have z2:(tzH2 s.heap l1 l2).objs.size=s.heap.objs.size+2:=by rw [WU,z1]
 have z3:(tzH3 s.heap l1 l2).objs.size=s.heap.objs.size+3:=by rw [WU,z2]
 have z4:(tzH4 s.heap l1 l2).objs.size=s.heap.objs.size+4:=by rw [WU,z3]
 have z5:(tzH5 s.heap l1 l2).objs.size=s.heap.objs.size+5:=by rw [WU,z4]
 have g5:(tzH5 s.heap l1 l2).get? (tzH4 s.heap l1 l2).objs.size=some _:=VH _ rfl;have g4:(tzH5 s.heap l1 l2).get? (tzH3 s.heap l1 l2).objs.size=some _:=VA _ (VH _ rfl);have g3:(tzH5 s.heap l1 l2).get? (tzH2 s.heap l1 l2).objs.size=some _:=VA _ (VA _ (VH _ rfl));have g2:(tzH5 s.heap l1 l2).get? (tzH1 s.heap l1).objs.size=some _:=VA _ (VA _ (VA _ (VH _ rfl)));have g1:(tzH5 s.heap l1 l2).get? s.heap.objs.size=some _:=VA _ (VA _ (VA _ (VA _ (VH _ rfl))));show _/\_;rw [z2,z3,z4] at g5;rw [z1,z2] at g3;rw [z3] at g4;rw [z1] at g2;rw [z4]
 exact ⟨⟨_,g5,rfl⟩,h _ g5 g3 g4 ⟨_,g1,rfl,rfl⟩ ⟨_,g2,rfl,rfl⟩ z5 fun c o x =>
  VA _ (VA _ (VA _ (VA _ (VA _ x))))⟩
structure ZSt (xs ys:Array VC) (z TI TO i1 i2 l1 l2:Vy) (k:Nat) (h:WR):Prop where
 ap:ZipApart z TI TO i1 i2 l1 l2
 zip:IsZip h z TI TO .none∨∃ (T:Vy) (b:Bool) (x y:VC),h.get? z=some { cls:=.type "zip",data:=.fields #[XF T,.bool b,.bool false,.ref TI,.ref TO] }/\Yg h T x y/\T≠TO
 hTI:Yg h TI (.ref i1) (.ref i2)
 hTO:∃ a b,Yg h TO a b
 h1:h.IsTupleIter i1 l1 k
 h2:h.IsTupleIter i2 l2 k
 t1:h.IsTuple l1 xs
 t2:h.IsTuple l2 ys
theorem ZSt.typeIs {xs ys:Array VC} {z TI TO i1 i2 l1 l2:Vy} {k:Nat} (x:ZSt xs ys z TI TO i1 i2 l1 l2 k s.heap):s.TypeIs (.ref z) "zip":=by
 rcases x.zip with e | ⟨T,b,u,v,e,_⟩
 · exact ⟨_,e,rfl⟩
 · exact ⟨_,e,rfl⟩
theorem IsTuple.but {h h':WR} {c l:Vy} {xs:Array VC} (x:h.IsTuple l xs) (e:Heap.ExtBut c h h') (n:l≠c):h'.IsTuple l xs:=let ⟨ob,q,r⟩:=x;⟨ob,e _ _ n q,r⟩
theorem IsTupleIter.but {h h':WR} {c i l:Vy} {k:Nat} (x:h.IsTupleIter i l k) (e:Heap.ExtBut c h h') (n:i≠c):h'.IsTupleIter i l k:=let ⟨ob,q,r⟩:=x;⟨ob,e _ _ n q,r⟩
end
end PySem
namespace PySem
open Sem (wp)
section
variable {prog:V3} {w:Wg} {A:Wn} {E:VC->VF->Prop} {s:VF}
theorem bb_zip_itemA {z TI TO i1 i2 l1 l2:Vy} {k:Nat} {xs ys:Array VC} {x y a b:VC} {Q:VC->VF->Prop} (D:ZipApart z TI TO i1 i2 l1 l2)
 (hz:IsZip s.heap z TI TO .none) (hTI:Yg s.heap TI (.ref i1) (.ref i2)) (hTO:Yg s.heap TO a b)
 (h1:s.heap.IsTupleIter i1 l1 k) (h2:s.heap.IsTupleIter i2 l2 k) (BM:s.heap.IsTuple l1 xs) (AR:s.heap.IsTuple l2 ys) (hx:xs[k]?=some x) (hy:ys[k]?=some y)
 (hQ:∀ h',IsZip h' z TI TO (XF s.heap.objs.size)->Yg h' TO x y->h'.IsTupleIter i1 l1 (k+1)->h'.IsTupleIter i2 l2 (k+1)->Yg h' s.heap.objs.size x y->h'.objs.size=s.heap.objs.size+1 →
  (∀ c o,c≠z->c≠TO->c≠i1->c≠i2->s.heap.get? c=some o->h'.get? c=some o)->Q (.ref s.heap.objs.size) { s with heap:=h' }) :
 VT (Wb prog w) A (Yb.«zip.__next__» ⟨[.ref z],[]⟩) (fun fin s'=>∃ v,fin=.done (.ret v)/\Q v s') E s:=by
 show VT _ _ (field (.ref z) 2 >>= _) _ _ _;refine Vu (Wq hz rfl (x:=.bool false) rfl ?_);show VT _ _ (field (.ref z) 3 >>= _) _ _ _;refine Vu (Wq hz rfl (x:=.ref TI) rfl ?_);refine Vu (XN hTI rfl ?_);show VT _ _ (WQ (.ref z) >>= _) _ _ _;refine Vu ?_;unfold WQ;refine Vu (Wq hz rfl (x:=.none) rfl (VE ?_));simp only [if_true];refine Vu (wpAny_rule ?_);refine Vu (Wq hz rfl (x:=.ref TO) rfl ?_);refine Vu (XD hz (by simp) fun Ah Ax zP=>?_);replace Ax:IsZip Ah z TI TO .ellipsis:=Ax;refine Vu ?_;simp only [List.zipIdx_cons,List.zipIdx_nil,Zx,List.forIn_nil];refine Vu (Vu (wpAny_onRaise ?_));show VT _ _ (WH (.ref i1) >>= _) _ _ _;refine Vu (bb_tupNext (IsTupleIter.but h1 zP.extBut D.i1z) (IsTuple.but BM zP.extBut D.l1z) hx fun AM Dj zZ=>VE ?_);have Ba:Yg AM TO a b:=zZ.extBut _ _ D.TOi1 (zP.extBut _ _ D.TOz hTO);refine Vu (XN Ba rfl ?_);refine Vu (wpAny_updateSeq_pair Ba fun BK BA Am=>?_);replace BA:Yg BK TO x b:=BA;refine Vu (wpAny_letGo (VE ?_));refine Vu (Vu (wpAny_onRaise ?_));show VT _ _ (WH (.ref i2) >>= _) _ _ _
 refine Vu (bb_tupNext (IsTupleIter.but (IsTupleIter.but (IsTupleIter.but h2 zP.extBut D.i2z) zZ.extBut D.i12.symm) Am.extBut D.TOi2.symm)
  (IsTuple.but (IsTuple.but (IsTuple.but AR zP.extBut D.l2z) zZ.extBut D.l2i1) Am.extBut D.l2TO) hy fun A9 G' AB=>VE ?_)
 have Dk:Yg A9 TO x b:=AB.extBut _ _ D.TOi2 BA;refine Vu (XN Dk rfl ?_);refine Vu (wpAny_updateSeq_pair Dk fun Ar BC AS=>?_);replace BC:Yg Ar TO x y:=BC;refine Vu (wpAny_letGo (VE (VE ?_)));refine Vu (XN BC rfl ?_);refine Vu (wpAny_newTuple ?_);have hsz:Ar.objs.size=s.heap.objs.size:=by rw [AS.1,AB.1,Am.1,zZ.1,zP.1]
 have EG:IsZip Ar z TI TO .ellipsis:=AS.extBut _ _ D.TOz.symm (AB.extBut _ _ D.i2z.symm (Am.extBut _ _ D.TOz.symm (zZ.extBut _ _ D.i1z.symm Ax)))
 have Ha:∀ c o,c≠z->c≠TO->c≠i1->c≠i2->s.heap.get? c=some o->Ar.get? c=some o:=fun c o c1 c2 c3 c4 e =>
  AS.extBut _ _ c2 (AB.extBut _ _ c4 (Am.extBut _ _ c2 (zZ.extBut _ _ c3 (zP.extBut _ _ c1 e))))
 have Hb:Ar.IsTupleIter i1 l1 (k+1):=IsTupleIter.but (IsTupleIter.but (IsTupleIter.but Dj Am.extBut D.TOi1.symm) AB.extBut D.i12) AS.extBut D.TOi1.symm;have Hc:Ar.IsTupleIter i2 l2 (k+1):=IsTupleIter.but G' AS.extBut D.TOi2.symm;have Hd:z<Ar.objs.size:=VX EG;show VT _ _ (Builtin.SmallTypes.ownedTupleHandOut (.ref z) (.ref Ar.objs.size) >>= _) _ _ _;refine Vu ?_;unfold Builtin.SmallTypes.ownedTupleHandOut;have He:IsZip (Ar.push { cls:=.type "tuple",data:=.seq #[x,y] }) z TI TO .ellipsis:=VA _ EG;refine Vu (XD He (by simp) fun KR Dl Dm=>?_);replace Dl:IsZip KR z TI TO (XF Ar.objs.size):=Dl;refine XD Dl (by simp) fun Dn Cu Dq=>?_;replace Cu:IsZip Dn z TI TO (XF Ar.objs.size):=Cu;have up:∀ c o,c≠z->Ar.get? c=some o->Dn.get? c=some o:=fun c o c1 e=>Dq.extBut _ _ c1 (Dm.extBut _ _ c1 (VA _ e));have EI:Yg Dn Ar.objs.size x y:=Dq.extBut _ _ (YM Hd) (Dm.extBut _ _ (YM Hd) (VH _ rfl));have OC:Dn.objs.size=Ar.objs.size+1:=by rw [Dq.1,Dm.1,WU]
 rw [hsz] at Cu EI OC;refine VE ⟨_,rfl,?_⟩;show Q (.ref Ar.objs.size) _;rw [hsz];refine hQ Dn Cu (up _ _ D.TOz BC) ?_ ?_ EI OC fun c o c1 c2 c3 c4 e=>up c o c1 (Ha c o c1 c2 c3 c4 e)
 · obtain ⟨o,e,r⟩:=Hb;exact ⟨o,up _ o D.i1z e,r⟩
 · obtain ⟨o,e,r⟩:=Hc;exact ⟨o,up _ o D.i2z e,r⟩
theorem bb_loadIfAlive {a:Vy} {o:Xn} {Q:Option Xn->VF->Prop} (hQ:∀ u,some o=some u->Q (some u) s) (h:s.heap.get? a=some o):VT (Wb prog w) A (loadIfAlive a) Q E s:=by
 intro Γ p UM;show Sem.wp _ _ (.loadIfAlive a .pure) _ _ _ _;rw [Sem.wp_loadIfAlive,h];exact hQ o rfl
theorem bb_notfree {z T:Vy} {b:Bool} {f2 TI TO u v:VC} (hz:s.heap.get? z=some { cls:=.type "zip",data:=.fields #[XF T,.bool b,f2,TI,TO] }) (hT:Yg s.heap T u v) :
 VT (Wb prog w) A (WQ (.ref z)) (fun a s1=>a=false/\∃ Ah,s1={ s with heap:=Ah }/\Ah.get? z=some { cls:=.type "zip",data:=.fields #[XF T,.bool true,f2,TI,TO] }/\WN z s.heap Ah) E s:=by
 unfold WQ;refine Vu (Wq hz rfl (x:=XF T) rfl ?_);show VT _ _ (loadIfAlive (T:Int).toNat >>= _) _ _ _;rw [WL];refine Vu (bb_loadIfAlive (fun o (e:some _=some o)=>?_) hT);cases e;show VT _ _ (if (some _:Option Xn).isNone=true then _ else _) _ _ _;rw [if_neg (show ¬ ((some _:Option Xn).isNone=true) from VS)];refine Vu (Wq hz rfl (x:=.bool b) rfl ?_);cases b with
 | true=>exact VE ⟨rfl,s.heap,rfl,hz,rfl,fun _ _=>rfl⟩
 | false=>exact Vu (XD hz (by simp) fun Ah Ax zP=>VE ⟨rfl,Ah,rfl,Ax,zP⟩)
theorem bb_zip_end {z TI TO i1 i2 l1 l2:Vy} {k:Nat} {xs ys:Array VC} {Q:Fin->VF->Prop} (hh:A.handled=none)
 (S:ZSt xs ys z TI TO i1 i2 l1 l2 k s.heap) (BN:xs[k]?=none∨ys[k]?=none)
 (hE:∀ h' e,(∀ c o,c≠z->c≠TO->c≠i1->c≠i2->s.heap.get? c=some o->h'.get? c=some o)->(∃ o,h'.get? e=some o/\o.cls=.type "StopIteration")->E (.ref e) { s with heap:=h' }) :
 VT (Wb prog w) A (Yb.«zip.__next__» ⟨[.ref z],[]⟩) Q E s:=by
 obtain ⟨D,hz,hTI,⟨a,b,hTO⟩,h1,h2,BM,AR⟩:=S;rcases hz with hz | ⟨T,bb,u,v,hz,hT,UN⟩
 · show VT _ _ (field (.ref z) 2 >>= _) _ _ _;refine Vu (Wq hz rfl (x:=.bool false) rfl ?_);show VT _ _ (field (.ref z) 3 >>= _) _ _ _;refine Vu (Wq hz rfl (x:=.ref TI) rfl ?_);refine Vu (XN hTI rfl ?_);show VT _ _ (WQ (.ref z) >>= _) _ _ _;refine Vu ?_;unfold WQ;refine Vu (Wq hz rfl (x:=.none) rfl (VE ?_));simp only [if_true];refine Vu (wpAny_rule ?_);refine Vu (Wq hz rfl (x:=.ref TO) rfl ?_);refine Vu (XD hz (by simp) fun Ah Ax zP=>?_);replace Ax:IsZip Ah z TI TO .ellipsis:=Ax;refine Vu ?_;simp only [List.zipIdx_cons,List.zipIdx_nil,Zx,List.forIn_nil];refine Vu (Vu (wpAny_onRaise ?_));show VT _ _ (WH (.ref i1) >>= _) _ _ _;cases hx:xs[k]? with
   | none =>
     refine Vu (bb_tupEnd hh (IsTupleIter.but h1 zP.extBut D.i1z) (IsTuple.but BM zP.extBut D.l1z) hx fun AM e zZ he=>?_);obtain ⟨oe,Fh,Hf⟩:=he;have EJ:IsZip AM z TI TO .ellipsis:=zZ _ _ D.i1z.symm Ax;have KS:e≠z:=fun x=>by subst x;rw [EJ] at Fh;cases Fh;simp at Hf
     refine XD EJ (by simp) fun BK _ Am=>hE BK e (fun c o c1 _ c3 _ x=>Am.extBut _ _ c1 (zZ _ _ c3 (zP.extBut _ _ c1 x))) ⟨oe,Am.extBut _ _ KS Fh,Hf⟩
   | some x =>
     have hy:ys[k]?=none:=by rcases BN with h | h;rw [hx] at h;cases h;exact h
     refine Vu (bb_tupNext (IsTupleIter.but h1 zP.extBut D.i1z) (IsTuple.but BM zP.extBut D.l1z) hx fun AM Dj zZ=>VE ?_);have Ba:Yg AM TO a b:=zZ.extBut _ _ D.TOi1 (zP.extBut _ _ D.TOz hTO);refine Vu (XN Ba rfl ?_);refine Vu (wpAny_updateSeq_pair Ba fun BK BA Am=>?_);refine Vu (wpAny_letGo (VE ?_));refine Vu (Vu (wpAny_onRaise ?_));show VT _ _ (WH (.ref i2) >>= _) _ _ _
     refine Vu (bb_tupEnd hh (IsTupleIter.but (IsTupleIter.but (IsTupleIter.but h2 zP.extBut D.i2z) zZ.extBut D.i12.symm) Am.extBut D.TOi2.symm)
      (IsTuple.but (IsTuple.but (IsTuple.but AR zP.extBut D.l2z) zZ.extBut D.l2i1) Am.extBut D.l2TO) hy fun A9 e AB he=>?_)
     obtain ⟨oe,Fh,Hf⟩:=he;have EK:IsZip A9 z TI TO .ellipsis:=AB _ _ D.i2z.symm (Am.extBut _ _ D.TOz.symm (zZ.extBut _ _ D.i1z.symm Ax));have KS:e≠z:=fun x=>by subst x;rw [EK] at Fh;cases Fh;simp at Hf
     refine XD EK (by simp) fun Ar _ AS=>hE Ar e (fun c o c1 c2 c3 c4 x=>AS.extBut _ _ c1 (AB _ _ c4 (Am.extBut _ _ c2 (zZ.extBut _ _ c3 (zP.extBut _ _ c1 x))))) ⟨oe,AS.extBut _ _ KS Fh,Hf⟩
 · show VT _ _ (field (.ref z) 2 >>= _) _ _ _;refine Vu (Wq hz rfl (x:=.bool false) rfl ?_);show VT _ _ (field (.ref z) 3 >>= _) _ _ _;refine Vu (Wq hz rfl (x:=.ref TI) rfl ?_);refine Vu (XN hTI rfl ?_);show VT _ _ (WQ (.ref z) >>= _) _ _ _;refine Vu (XE (bb_notfree hz hT) (fun a s1 ⟨e1,Ah,e2,Ax,zP⟩=>?_) fun _ _ x=>x);subst e1 e2;simp only [Xu,if_false];rw [<- Array.forIn_toList];refine Vu ?_;simp only [Zx,List.forIn_nil];refine Vu (Vu (XH ?_));show VT _ _ (WH (.ref i1) >>= _) _ _ _;cases hx:xs[k]? with
   | none =>
     refine Vu (bb_tupEnd hh (IsTupleIter.but h1 zP.extBut D.i1z) (IsTuple.but BM zP.extBut D.l1z) hx fun AM e zZ he=>?_);exact hE AM e (fun c o c1 _ c3 _ x=>zZ _ _ c3 (zP.extBut _ _ c1 x)) he
   | some x =>
     have hy:ys[k]?=none:=by rcases BN with h | h;rw [hx] at h;cases h;exact h
     refine Vu (bb_tupNext (IsTupleIter.but h1 zP.extBut D.i1z) (IsTuple.but BM zP.extBut D.l1z) hx fun AM Dj zZ=>VE (VE ?_));refine Vu (Vu (XH ?_));show VT _ _ (WH (.ref i2) >>= _) _ _ _;refine Vu (bb_tupEnd hh (IsTupleIter.but (IsTupleIter.but h2 zP.extBut D.i2z) zZ.extBut D.i12.symm) (IsTuple.but (IsTuple.but AR zP.extBut D.l2z) zZ.extBut D.l2i1) hy fun A9 e AB he=>?_);exact hE A9 e (fun c o c1 _ c3 c4 x=>AB _ _ c4 (zZ.extBut _ _ c3 (zP.extBut _ _ c1 x))) he
theorem bb_zip_done {z TI TO i1 i2 l1 l2:Vy} {k:Nat} {xs ys:Array VC} {Q:Option VC->VF->Prop} (hh:A.handled=none) (S:ZSt xs ys z TI TO i1 i2 l1 l2 k s.heap) (BN:xs[k]?=none∨ys[k]?=none)
 (hQ:∀ h',(∀ c o,c∉[z,TO,i1,i2]->s.heap.get? c=some o->h'.get? c=some o)->Q none { s with heap:=h' }):VT (Wb prog w) A (Ym (.ref z)) Q E s:=by
 have hT:=S.typeIs;unfold Ym
 refine Vu (Yl (Ww (name:=Vx "__next__") hT F.slot_zip_next
  (Wu F.slot_zip_next hT F.entry_zip_next (bb_zip_end hh S BN fun h' e hk he=>?_) (F.args_zip_next_1 _))))
 obtain ⟨o,ho,hc⟩:=he;refine Vu (wpAny_isInstance (T:="StopIteration") (b:=true) ⟨o,ho,hc⟩ isSubtype_stop ?_);exact VE (hQ _ fun c o hc=>hk c o (fun q=>hc (by simp [q])) (fun q=>hc (by simp [q])) (fun q=>hc (by simp [q])) (fun q=>hc (by simp [q])))
end
end PySem
namespace PySem
open Sem (wp)
namespace F
end F
section
variable {prog:V3} {w:Wg} {A:Wn} {R:Result->VF->Prop}
end
section
variable {prog:V3} {w:Wg} {A:Wn} {E:VC->VF->Prop} {s:VF}
end
end PySem
namespace L2
open PySem PySem.Spec PyProof.Rows
section
variable {X:Cx} {e1 e2:WC} {t:TA} {p p2 pos AH:Zm}
end
end L2
namespace L2
open PySem PySem.Spec PyProof.Rows
section
variable {κ:Type} [DecidableEq κ]
def aS (kvs:List (κ×V)) (k:κ):Option V:=(kvs.find? fun kv=>decide (kv.1=k)).map (·.2)
def putK (kvs:List (κ×V)) (k:κ) (v:V):List (κ×V) :=
 if (kvs.any fun kv=>decide (kv.1=k))=true then kvs.map (fun kv=>if kv.1=k then (kv.1,v) else kv) else kvs++[(k,v)]
theorem bD {p:κ×V} {r:List (κ×V)} {k:κ} (e:p.1=k):aS (p::r) k=some p.2:=by simp [aS,Y1,e]
theorem bI {p:κ×V} {r:List (κ×V)} {k:κ} (e:¬ p.1=k):aS (p::r) k=aS r k:=by simp [aS,Y1,e]
theorem fg (k:κ):∀ kvs:List (κ×V),(kvs.any fun kv=>decide (kv.1=k))=(aS kvs k).isSome
 | []=>rfl
 | p::r=>by
   rw [ZS];by_cases e:p.1=k
   · simp only [bD e,decide_eq_true e,Bool.true_or,Option.isSome_some]
   · rw [bI e,decide_eq_false e,Bool.false_or];exact fg k r
theorem oY (k j:κ) (y:V):∀ kvs:List (κ×V),aS (kvs.map fun kv=>if kv.1=k then (kv.1,y) else kv) j=(aS kvs j).map fun x=>if j=k then y else x
 | []=>rfl
 | p::r=>by
   have ih:=oY k j y r;rw [Wf];by_cases h:p.1=k
   · rw [if_pos h];by_cases e:p.1=j
     · rw [bD (p:=(p.1,y)) e,bD e,Option.map_some,if_pos (e.symm.trans h)]
     · rw [bI (p:=(p.1,y)) e,bI e,ih]
   · rw [if_neg h];by_cases e:p.1=j
     · rw [bD (p:=p) e,bD e,Option.map_some,if_neg (fun z=>h (e.trans z))]
     · rw [bI (p:=p) e,bI e,ih]
theorem mP (k j:κ) (y:V):∀ kvs:List (κ×V),aS kvs k=none->aS (kvs++[(k,y)]) j=if j=k then some y else aS kvs j
 | [],_=>by
   by_cases e:k=j
   · rw [if_pos e.symm];exact bD (p:=(k,y)) e
   · rw [if_neg (fun z=>e z.symm)];exact bI (p:=(k,y)) e
 | p::r,hn=>by
   rw [Xr];have hk:¬ p.1=k:=fun z=>by rw [bD z] at hn;cases hn
   rw [bI hk] at hn;have ih:=mP k j y r hn;by_cases e:p.1=j
   · rw [bD e,bD e,if_neg (fun z=>hk (e.trans z))]
   · rw [bI e,bI e,ih]
theorem db (kvs:List (κ×V)) (k j:κ) (y:V):aS (putK kvs k y) j=if j=k then some y else aS kvs j:=by
 unfold putK;by_cases a:(kvs.any fun kv=>decide (kv.1=k))=true
 · rw [if_pos a,oY];rw [fg] at a;by_cases e:j=k
   · obtain ⟨x,hx⟩:=ZR.mp a;rw [if_pos e,e,hx,Option.map_some,if_pos rfl]
   · rw [if_neg e];cases aS kvs j with
     | none=>rfl
     | some x=>rw [Option.map_some,if_neg e]
 · rw [if_neg a];refine mP k j y kvs ?_;rw [fg] at a;cases q:aS kvs k with
   | none=>rfl
   | some x=>rw [q] at a;exact (a rfl).elim
theorem cA (kvs:List (κ×V)) (k:κ) (v:V):(putK kvs k v).length<=kvs.length+1:=by
 unfold putK;split
 · rw [Vt];omega
 · rw [VO,VY,List.length_nil];omega
theorem uT {kvs:List (κ×V)} {k:κ} (v:V) (h:aS kvs k=none):putK kvs k v=kvs++[(k,v)]:=by
 unfold putK;rw [fg,h];exact if_neg (by decide)
theorem RelO.isSome_eq {o:Option V} {u:Option VC} (r:RelO o u):o.isSome=u.isSome:=by
 cases o with
 | none=>cases u with
   | none=>rfl
   | some _=>exact (show False from r).elim
 | some _=>cases u with
   | none=>exact (show False from r).elim
   | some _=>rfl
theorem RelO.getD {o:Option V} {u:Option VC} {d:V} {d':VC} (r:RelO o u) (rd:RelV d d'):RelV (o.getD d) (u.getD d'):=by
 cases o with
 | none=>cases u with
   | none=>exact rd
   | some _=>exact (show False from r).elim
 | some _=>cases u with
   | none=>exact (show False from r).elim
   | some _=>exact r
theorem KV.val {kvs:List (κ×V)} {vs:List (κ×VC)} (r:KV kvs vs) (k:κ):RelO (aS kvs k) (valueAt vs k):=by
 unfold KV at r;induction r with
 | nil=>exact Yc
 | @cons p q ps qs h t ih =>
   obtain ⟨h1,h2⟩:=h;by_cases e:p.1=k
   · have e':q.1=k:=h1.symm.trans e;have b:valueAt (q::qs) k=some q.2:=by simp [valueAt,Y1,e']
     rw [bD e,b];exact h2
   · have e':¬ q.1=k:=fun z=>e (h1.trans z);have b:valueAt (q::qs) k=valueAt qs k:=by simp [valueAt,Y1,e']
     rw [bI e,b];exact ih
theorem KV.any {kvs:List (κ×V)} {vs:List (κ×VC)} (r:KV kvs vs) (k:κ):(kvs.any fun kv=>decide (kv.1=k))=vs.any fun kv=>decide (kv.1=k):=by
 unfold KV at r;induction r with
 | nil=>rfl
 | cons h t ih=>rw [ZS,ZS,ih,h.1]
theorem KV.repl {kvs:List (κ×V)} {vs:List (κ×VC)} (r:KV kvs vs) (k:κ) {y:V} {u:VC} (ry:RelV y u) :
 KV (kvs.map fun kv=>if kv.1=k then (kv.1,y) else kv) (vs.map fun kv=>if kv.1=k then (kv.1,u) else kv):=by
 unfold KV at r ⊢;induction r with
 | nil=>exact .nil
 | @cons p q ps qs h t ih =>
   rw [Wf,Wf];refine .cons ?_ ih;obtain ⟨h1,h2⟩:=h;by_cases e:p.1=k
   · rw [if_pos e,if_pos (h1.symm.trans e)];exact ⟨h1,ry⟩
   · rw [if_neg e,if_neg (fun z=>e (h1.trans z))];exact ⟨h1,h2⟩
theorem KV.put {kvs:List (κ×V)} {vs:List (κ×VC)} (r:KV kvs vs) (k:κ) {y:V} {u:VC} (ry:RelV y u):KV (putK kvs k y) (stored vs k u):=by
 unfold putK stored;rw [r.any k];by_cases e:(vs.any fun kv=>decide (kv.1=k))=true
 · rw [if_pos e,if_pos e];exact r.repl k ry
 · rw [if_neg e,if_neg e];exact Paired.snoc r ⟨rfl,ry⟩
theorem KV.length {kvs:List (κ×V)} {vs:List (κ×VC)} (r:KV kvs vs):kvs.length=vs.length:=VU r
end
theorem mZ {P:V3} {w:Wg} {k:Key} {u:VC} (r:RelV (kV k) u):(aV P w).is k u=true:=by
 cases k with
 | inl i=>obtain ⟨t,e⟩:=(show ∃ t,u=ZW i t from r);subst e;exact pd P w i t
 | inr x=>obtain ⟨t,e⟩:=(show ∃ t,u=Value.str x t from r);subst e;exact pI P w x t
theorem mJ {P:V3} {w:Wg}:∀ {ks:List Key} {us:List VC},Vals (ks.map kV) us->ItemsAre (aV P w) ks us
 | [],_,r=>by rw [Xj] at r;cases r;exact .nil
 | k::ks,_,r=>by
   rw [Wf] at r;cases r with
   | cons h t=>exact .cons (mZ h) (mJ t)
abbrev KTd (H:Hp):List (List Key×V)->List (List Key×Vy×VC)->Prop:=WD fun p q=>p.1=q.1/\H q.2.1=some (.tup (p.1.map kV))/\RelV p.2 q.2.2
theorem KTd.val {H:Hp} {kvs:List (List Key×V)} {xs:List (List Key×Vy×VC)} (r:KTd H kvs xs) (k:List Key):RelO (aS kvs k) ((atKey xs k).map (·.2)):=by
 induction r with
 | nil=>exact Yc
 | @cons p q ps qs h t ih =>
   obtain ⟨h1,_,h2⟩:=h;by_cases e:p.1=k
   · have e':q.1=k:=h1.symm.trans e;have b:atKey (q::qs) k=some q.2:=by simp [atKey,Y1,e']
     rw [bD e,b];exact h2
   · have e':¬ q.1=k:=fun z=>e (h1.trans z);have b:atKey (q::qs) k=atKey qs k:=by simp [atKey,Y1,e']
     rw [bI e,b];exact ih
theorem KTd.repl {H:Hp} {kvs:List (List Key×V)} {xs:List (List Key×Vy×VC)} (r:KTd H kvs xs) (k:List Key) {y:V} {u:VC} (ry:RelV y u) :
 KTd H (kvs.map fun kv=>if kv.1=k then (kv.1,y) else kv) (xs.map (putAt k u)):=by
 induction r with
 | nil=>exact .nil
 | @cons p q ps qs h t ih =>
   rw [Wf,Wf];refine .cons ?_ ih;obtain ⟨h1,h2,h3⟩:=h;unfold putAt;by_cases e:p.1=k
   · rw [if_pos e,if_pos (h1.symm.trans e)];exact ⟨h1,h2,ry⟩
   · rw [if_neg e,if_neg (fun z=>e (h1.trans z))];exact ⟨h1,h2,h3⟩
theorem KTd.put {H:Hp} {kvs:List (List Key×V)} {xs:List (List Key×Vy×VC)} (r:KTd H kvs xs) (k:List Key) {b:Vy} {y:V} {u:VC} (hb:H b=some (.tup (k.map kV))) (ry:RelV y u) :
 KTd H (putK kvs k y) (storedH xs k b u):=by
 have e:(kvs.any fun kv=>decide (kv.1=k))=(atKey xs k).isSome:=by
  rw [fg,(r.val k).isSome_eq,Option.isSome_map]
 unfold putK storedH;rw [e];by_cases q:(atKey xs k).isSome=true
 · rw [if_pos q,if_pos q];exact r.repl k ry
 · rw [if_neg q,if_neg q];exact Paired.snoc r ⟨rfl,hb,ry⟩
theorem KTd.keeps {H H':Hp} {kvs:List (List Key×V)} {xs:List (List Key×Vy×VC)} (r:KTd H kvs xs) (ht:∀ b ys,H b=some (.tup ys)->H' b=some (.tup ys)):KTd H' kvs xs :=
 WD.mapP r fun _ _ z=>⟨z.1,ht _ _ z.2.1,z.2.2⟩
section
variable {P:V3} {w:Wg} {H:Hp} {h:WR} {a:Vy}
theorem wQ {u:HO} (ok:HOk P w H h) (e:Rd H a u):ObjOk P w H h a u:=e.ok ok
theorem mR {kvs:List (Key×V)} (ok:HOk P w H h) (e:Rd H a (.dK kvs)):kvs.length<=V1/\(a == XT)=false/\∃ vs,KV kvs vs/\h.DictOf (aV P w) a vs :=
 show ObjOk P w H h a (.dK kvs) from wQ ok e
theorem wP {kvs:List (Key×V)} (ok:HOk P w H h) (e:H a=some (.dK kvs)):kvs.length<=V1/\(a == XT)=false/\∃ vs,KV kvs vs/\h.DictOf (aV P w) a vs:=mR ok (.inl e)
theorem lM {ks:List Key} (ok:HOk P w H h) (e:H a=some (.tup (ks.map kV))):(ZV (aV P w)).is h ks a:=by
 obtain ⟨_,its,n,r,h1⟩:=(show ObjOk P w H h a (.tup (ks.map kV)) from ok a _ e);exact ⟨_,its.toArray,n,h1,rfl,rfl,by simpa using mJ r⟩
theorem nk {kvs:List (List Key×V)} (ok:HOk P w H h) (e:Rd H a (.dT kvs)):kvs.length<=V1/\(a == XT)=false ∧
 ∃ xs,KTd H kvs xs/\h.DictOfH (ZV (aV P w)) a xs:=by
 obtain ⟨z,y,xs,r,o,es,ep,h1,h2,h3,h4,h5⟩:=(show ObjOk P w H h a (.dT kvs) from wQ ok e);refine ⟨z,y,xs,r,o,es,ep,h1,h2,h3,h4,fun x hx=>?_,h5⟩
 have all:∀ {l:List (List Key×V)} {m:List (List Key×Vy×VC)},KTd H l m->∀ x∈m,(ZV (aV P w)).is h x.1 x.2.1:=by
  intro l m q;induction q with
  | nil=>intro x hx;exact nomatch hx
  | @cons p q ps qs hq t ih =>
    intro x hx;rcases VP.mp hx with e | hx
    · subst e;exact lM ok (by rw [<- hq.1];exact hq.2.1)
    · exact ih x hx
 exact all r x hx
theorem yF {kvs:List (List Key×V)} (ok:HOk P w H h) (e:H a=some (.dT kvs)):kvs.length<=V1/\(a == XT)=false ∧
 ∃ xs,KTd H kvs xs/\h.DictOfH (ZV (aV P w)) a xs:=nk ok (.inl e)
end
def DGet (H:Hp) (a:Vy) (y:V) (r:Option V):Prop :=
 (∃ kvs k,Rd H a (.dK kvs)/\y=kV k/\r=aS kvs k)∨∃ kvs k b,Rd H a (.dT kvs)/\y=.ref b/\H b=some (.tup (k.map kV))/\r=aS kvs k
def DPut (H:Hp) (a:Vy) (y v:V) (H':Hp):Prop :=
 (∃ kvs k,H a=some (.dK kvs)/\y=kV k/\kvs.length<V1/\H'=upd H a (.dK (putK kvs k v))) ∨
 ∃ kvs k b,H a=some (.dT kvs)/\y=.ref b/\H b=some (.tup (k.map kV))/\kvs.length<V1/\H'=upd H a (.dT (putK kvs k v))
theorem DGet.k {H:Hp} {a:Vy} {kvs:List (Key×V)} {k:Key} (e:H a=some (.dK kvs)):DGet H a (kV k) (aS kvs k):=.inl ⟨kvs,k,.inl e,rfl,rfl⟩
theorem DGet.t {H:Hp} {a b:Vy} {kvs:List (List Key×V)} {k:List Key} (e:H a=some (.dT kvs)) (eb:H b=some (.tup (k.map kV))):DGet H a (.ref b) (aS kvs k):=.inr ⟨kvs,k,b,.inl e,rfl,eb,rfl⟩
theorem DPut.k {H:Hp} {a:Vy} {kvs:List (Key×V)} {k:Key} {v:V} (e:H a=some (.dK kvs)) (hl:kvs.length<V1):DPut H a (kV k) v (upd H a (.dK (putK kvs k v))):=.inl ⟨kvs,k,e,rfl,hl,rfl⟩
theorem DPut.t {H:Hp} {a b:Vy} {kvs:List (List Key×V)} {k:List Key} {v:V} (e:H a=some (.dT kvs)) (eb:H b=some (.tup (k.map kV))) (hl:kvs.length<V1) :
 DPut H a (.ref b) v (upd H a (.dT (putK kvs k v))):=.inr ⟨kvs,k,b,e,rfl,eb,hl,rfl⟩
section
variable {X:Cx} {pins:List (Vy×Xn)} {σ:St} {H:Hp} {s:VF} {a:Vy} {y v:V} {u r:VC} {o:Option V} {A:Wn} {E:VC->VF->Prop}
theorem Inv.big (I:Inv X pins σ H s):XT<s.heap.objs.size:=by
 have h:V6<s.heap.objs.size:=(I.mod.glob.keeps I.bk).lt;exact Nat.lt_trans (by decide) h
theorem tE {Q:VC->VF->Prop} (hu:A.units+1<Ys) (I:Inv X pins σ H s) (g:DGet H a y (some v)) (ry:RelV y u) (h:∀ w' s',Inv X pins σ H s'->RelV v w'->Q w' s') :
 VT (Wb X.prog X.w) A (Zq (.ref a) u) Q E s:=by
 rcases g with ⟨kvs,k,e,ey,l⟩ | ⟨kvs,k,b,e,ey,eb,l⟩
 · subst ey;obtain ⟨z,hd,vs,rel,dd⟩:=mR I.hok e;obtain ⟨w',hw,Dg⟩:=RelO.some_of (v:=v) (o:=valueAt vs k) (by rw [l];exact rel.val k);exact wpAny_getItem_of (mZ ry) dd.mapOf hw (h w' _ (I.tok _) Dg)
 · subst ey;cases (show u=Wj b from ry);obtain ⟨z,hd,xs,rel,dd⟩:=nk I.hok e;obtain ⟨w',hw,Dg⟩:=RelO.some_of (v:=v) (o:=(atKey xs k).map (·.2)) (by rw [l];exact rel.val k);obtain ⟨p,hp,D7⟩:=Yn.mp hw;refine wpAny_getItem_heap (ZX hu) (lM I.hok eb) dd hp ?_;rw [D7];exact h w' _ (I.tok _) Dg
theorem v8 {Q:VC->VF->Prop} (hu:A.units+1<Ys) (I:Inv X pins σ H s) (g:DGet H a y o) (ry:RelV y u) (h:∀ s',Inv X pins σ H s'->Q (.bool (!o.isSome)) s') :
 VT (Wb X.prog X.w) A (Xp .NotIn u (.ref a)) Q E s:=by
 rcases g with ⟨kvs,k,e,ey,l⟩ | ⟨kvs,k,b,e,ey,eb,l⟩
 · subst ey;obtain ⟨z,hd,vs,rel,dd⟩:=mR I.hok e;refine wpAny_notIn_of (mZ ry) hd dd.mapOf ?_;rw [<- (rel.val k).isSome_eq,<- l];exact h _ (I.tok _)
 · subst ey;cases (show u=Wj b from ry);obtain ⟨z,hd,xs,rel,dd⟩:=nk I.hok e;refine wpAny_notIn_heap (ZX hu) (lM I.hok eb) hd dd ?_;have q:=(rel.val k).isSome_eq;rw [Option.isSome_map] at q;rw [<- q,<- l];exact h _ (I.tok _)
theorem nW {h':WR} {t':Nat} {ob:HO} (I:Inv X pins σ H s) (mu:Mut (H a)) (hs:WN a s.heap h') (he:∃ q,h'.get? a=some q) (new:ObjOk X.prog X.w (upd H a ob) h' a ob) :
 Inv X pins σ (upd H a ob) { s with heap:=h',toks:=t' } :=
 I.write (x:=a) (e:=a) mu (.inl rfl) (fun b q hb z=>(hs.2 b hb).trans z) he new
theorem xD {P:V3} {w:Wg} {H':Hp} {h':WR} {kvs:List (Key×V)} {vs:List (Key×VC)} (z:kvs.length<=V1) (hd:(a == XT)=false) (rel:KV kvs vs) (dd:h'.DictOf (aV P w) a vs) :
 ObjOk P w H' h' a (.dK kvs):=⟨z,hd,vs,rel,dd⟩
theorem tP {H':Hp} {Q:Unit->VF->Prop} (hu:A.units+1<Ys) (I:Inv X pins σ H s) (g:DPut H a y v H') (ry:RelV y u) (rv:RelV v r) (h:∀ s',Inv X pins σ H' s'->Q () s') :
 VT (Wb X.prog X.w) A (setItem (.ref a) u r) Q E s:=by
 rcases g with ⟨kvs,k,e,ey,l,eH⟩ | ⟨kvs,k,b,e,ey,eb,l,eH⟩
 · subst ey eH;obtain ⟨z,hd,vs,rel,dd⟩:=wP I.hok e;have hz:vs.length<=V1:=by rw [<- rel.length];exact z
   have hl:(putK kvs k v).length<=V1:=by have:=cA kvs k v;omega
   refine wpAny_setItem_pairs (hsz:=hz) (mZ ry) dd fun h' Fi hs=>h _ ?_;have he:∃ q,h'.get? a=some q:=let ⟨q,_,_,hq,_⟩:=Fi;⟨q,hq⟩
   exact nW I (by rw [e];exact Yc) hs he (xD hl hd (rel.put k rv) Fi)
 · subst ey eH;cases (show u=Wj b from ry);obtain ⟨z,hd,xs,rel,dd⟩:=yF I.hok e;have hz:xs.length<=V1:=by rw [<- VU rel];exact z
   have hl:(putK kvs k v).length<=V1:=by have:=cA kvs k v;omega
   refine wpAny_setItem_heap (hsz:=hz) (ZX hu) (lM I.hok eb) dd fun h' Fi hs=>h _ ?_;obtain ⟨q,es,ep,hq,h2,h3,h4,_,h5⟩:=Fi;refine nW I (by rw [e];exact Yc) hs ⟨q,hq⟩ ⟨hl,hd,_,(rel.put k eb rv).keeps fun c ys ec=>?_,q,es,ep,hq,h2,h3,h4,h5⟩;rw [af (aJ ec e (fun z=>nomatch z))];exact ec
end
section
variable {X:Cx} {pins:List (Vy×Xn)} {σ:St} {H:Hp} {s:VF} {a:Vy} {kvs:List (Key×V)} {k:Key} {u:VC} {A:Wn} {E:VC->VF->Prop}
end
def yo (i:WC):Prop:=∀ ov iv,subscripted i false ov iv=operate [ov,iv] (Zq ov iv)
theorem vD {prog:V3} {w:Wg} {A:Wn} {E:VC->VF->Prop} {s:VF} {env:Env} {value slice:WC} {pos:Zm} {T id:String} {Q:VC->VF->Prop}
 (hl:typeLookup (.type T) "__getitem__"=pure (some (.builtin id))) (hs:yo slice)
 (h:VT (Wb prog w) A (Xx value env) (fun o zK=>VT (Wb prog w) A (Xx slice env) (fun i AA=>AA.TypeIs o T/\VT (Wb prog w) A (Zq o i) Q E AA) E zK) E s) :
 VT (Wb prog w) A (Xx (.Subscript value slice pos) env) Q E s:=by
 refine Subscript_ (XE h (fun o zK Ah=>XE Ah (fun i AA AM=>?_) fun _ _ x=>x) fun _ _ x=>x);obtain ⟨hT,AM⟩:=AM;unfold subscriptTail;refine Vu ?_;rw [getitemInPython_of_ne hT.not_modules];refine Vu (wpAny_specialOf hT hl ?_)
 have fin:VT (Wb prog w) A (subscripted slice false o i) (fun r Bx=>VT (Wb prog w) A (letTemporaryGo value o r >>= fun _=>pure r) Q E Bx) E AA:=by
  rw [hs o i];exact wpAny_operating (XE AM (fun r Bx BK=>Vu (wpAny_letTemporaryGo (VE BK))) fun _ _ x=>x)
 first
  | exact VE (Vu fin)
  | exact Vu (VE (Vu fin))
  | exact Vu fin
theorem oV {X:Cx} {pins:List (Vy×Xn)} {σ:St} {H:Hp} {s:VF} {a:Vy} {y:V} {o:Option V} (I:Inv X pins σ H s) (g:DGet H a y o):s.TypeIs (.ref a) "dict":=by
 rcases g with ⟨kvs,k,e,_,_⟩ | ⟨kvs,k,b,e,_,_,_⟩
 · obtain ⟨_,_,vs,_,dd⟩:=mR I.hok e;exact dd.typeIs
 · obtain ⟨_,_,xs,_,dd⟩:=nk I.hok e;exact dd.typeIs
def uj (td ty:TE):TE:=fun σ H Q=>td σ H fun x H1=>ty σ H1 fun y H2=>∃ a v,x=.ref a/\DGet H2 a y (some v)/\Q v H2
def vP (ty td:TE):TE:=fun σ H Q=>ty σ H fun y H1=>td σ H1 fun x H2=>∃ a o,x=.ref a/\DGet H2 a y o/\Q (.bl (!o.isSome)) H2
def yN (td ty tv:TE):TS:=fun D σ H=>tv σ H fun v H1=>td σ H1 fun x H2=>ty σ H2 fun y H3=>∃ a H4,x=.ref a/\DPut H3 a y v H4/\D.nx σ H4
section
variable {X:Cx} {o i e value:WC} {pos pos' GV:Zm} {td ty tv:TE}
theorem iM (hu:X.A.units+1<Ys) (ho:PE X o td) (hi:PE X i ty) (hs:yo i):PE X (.Subscript o i pos) (uj td ty):=by
 intro pins s σ H Q I h;refine vD PySem.F.slot_dict_getitem.lookup hs (thn (ho pins s σ H _ I h) fun u s1 ⟨x,H1,I1,rx,q1⟩=>thn (hi pins s1 σ H1 _ I1 q1) fun iv s2 ⟨y,H2,I2,ry,a,v,ex,g,q2⟩=>?_);subst ex;obtain rfl:u=Wj a:=rx;exact ⟨oV I2 g,tE hu I2 g ry fun w' s3 I3 Dg=>⟨v,H2,I3,Dg,q2⟩⟩
theorem tm (hu:X.A.units+1<Ys) (hi:PE X i ty) (ho:PE X o td):PC X .NotIn i o (vP ty td):=by
 intro pins s σ H Q I h;refine thn (hi pins s σ H _ I h) fun iv s1 ⟨y,H1,I1,ry,q1⟩=>thn (ho pins s1 σ H1 _ I1 q1) fun u s2 ⟨x,H2,I2,rx,a,ov,ex,g,q2⟩=>?_;subst ex;obtain rfl:u=Wj a:=rx;exact v8 hu I2 g ry fun s3 I3=>⟨.bl (!ov.isSome),H2,I3,rfl,q2⟩
theorem eL (hu:X.A.units+1<Ys) (ho:PE X o td) (hi:PE X i ty) (hv:PE X value tv) (hs:swapsWith value (some (.Subscript o i pos')) pos.line X.env=pure false) :
 PS X (.Assign [.Subscript o i pos'] value pos) (yN td ty tv):=by
 intro pins s σ H D I h;refine wpAny_Assign_Subscript (thn (hv pins s σ H _ I h) fun r s1 ⟨v,H1,I1,rv,q1⟩=>thn (ho pins s1 σ H1 _ I1 q1) fun u s2 ⟨x,H2,I2,rx,q2⟩=>thn (hi pins s2 σ H2 _ I2 q2) fun iv s3 ⟨y,H3,I3,ry,a,H4,ex,g,q3⟩=>?_) hs;subst ex;obtain rfl:u=Wj a:=rx;exact tP hu I3 g ry rv fun s4 I4=>⟨σ,H4,I4,q3⟩
end
theorem qm {P:V3} {w:Wg} {H:Hp} (h:WR) (hb:XT<h.objs.size):ObjOk P w H (h.push { cls:=.type "dict",data:=.dict #[] }) h.objs.size (.dK []) :=
 ⟨Wc _,beq_eq_false_iff_ne.mpr (Y9 (Wm hb)),[],.nil,Heap.DictOf.new h⟩
theorem uI {P:V3} {w:Wg} {H:Hp} (h:WR) (hb:XT<h.objs.size):ObjOk P w H (h.push { cls:=.type "dict",data:=.dict #[] }) h.objs.size (.dT []) :=
 ⟨Wc _,beq_eq_false_iff_ne.mpr (Y9 (Wm hb)),[],.nil,_,#[],0,VH _ rfl,⟨rfl,rfl,rfl⟩,rfl,rfl,YF⟩
def wW:TE:=fun _ H Q=>∀ p,H p=none->Q (.ref p) (upd H p (.dK []))
def xg:TE:=fun _ H Q=>∀ p,H p=none->Q (.ref p) (upd H p (.dT []))
section
variable {X:Cx} {pos:Zm}
theorem pJ:PE X (.Dict [] [] pos) wW:=fun pins s σ H Q I h =>
 wpAny_Dict_empty ⟨.ref s.heap.objs.size,_,I.laid (a:=s.heap.objs.size) (o:=.dK []) (t':=s.toks) (fun _ _ q=>VA _ q) (VG _) (qm s.heap I.big),rfl,h _ (I.hok.fresh (VG _))⟩
theorem ij:PE X (.Dict [] [] pos) xg:=fun pins s σ H Q I h =>
 wpAny_Dict_empty ⟨.ref s.heap.objs.size,_,I.laid (a:=s.heap.objs.size) (o:=.dT []) (t':=s.toks) (fun _ _ q=>VA _ q) (VG _) (uI s.heap I.big),rfl,h _ (I.hok.fresh (VG _))⟩
end
structure M2 (X:Cx) (o:WC) (m:V2) (apos:Zm) (e f:WC) (Ad:Zm):Prop where
 base:YH o m X.env (Xx o X.env)=Xx o X.env
 few:((YJ Ad (Wr [e,f] X.env)).all (fun x=>!x.1) && (backToKw Ad (keywordEach [] X.env)).all (fun x=>x.1.isSome)
  && decide (([e,f]:List WC).length+([]:List Keyword).length+(if ([]:List Keyword).isEmpty then 0 else 1)<30))=true
 line:(apos.endLine == Ad.line)=true
 trees:YJ Ad (Wr [e,f] X.env)=[(false,Xx e X.env),(false,Xx f X.env)]
def IsD (H:Hp) (a:Vy):Prop:=(∃ kvs,Rd H a (.dK kvs))∨∃ kvs,Rd H a (.dT kvs)
theorem xF {X:Cx} {pins:List (Vy×Xn)} {σ:St} {H:Hp} {s:VF} {a:Vy} (I:Inv X pins σ H s) (d:IsD H a) :
 s.TypeIs (.ref a) "dict"/\(∀ b,Wj a=.ref b->∃ ob,s.heap.get? b=some ob/\ob.dict=none)/\(a == XT)=false:=by
 rcases d with ⟨kvs,e⟩ | ⟨kvs,e⟩
 · obtain ⟨_,hd,vs,_,dd⟩:=mR I.hok e;refine ⟨dd.typeIs,fun b q=>?_,hd⟩;cases q;obtain ⟨ob,_,_,h1,h2,_⟩:=dd;exact ⟨ob,h1,h2.2.1⟩
 · obtain ⟨_,hd,xs,_,dd⟩:=nk I.hok e;refine ⟨dd.typeIs,fun b q=>?_,hd⟩;cases q;obtain ⟨ob,_,_,h1,h2,_⟩:=dd;exact ⟨ob,h1,h2.2.1⟩
section
variable {X:Cx} {pins:List (Vy×Xn)} {σ:St} {H:Hp} {s:VF} {a:Vy} {y d:V} {u r:VC} {o:Option V} {A:Wn} {E:VC->VF->Prop}
theorem xN {Q:VC->VF->Prop} (hu:A.units+1<Ys) (I:Inv X pins σ H s) (g:DGet H a y o) (ry:RelV y u) (rd:RelV d r) (h:∀ w' s',Inv X pins σ H s'->RelV (o.getD d) w'->Q w' s') :
 VT (Wb X.prog X.w) A (call (.builtin "dict.get") [.ref a,u,r]) Q E s:=by
 rcases g with ⟨kvs,k,e,ey,l⟩ | ⟨kvs,k,b,e,ey,eb,l⟩
 · subst ey;obtain ⟨z,hd,vs,rel,dd⟩:=mR I.hok e;refine call_meetsIn PySem.F.slot_dict_get dd.typeIs PySem.F.entry_dict_get (PySem.F.args_dict_get_3 _ _ _) (meets_dict_get_default (aV X.prog X.w) a (mZ ry) hd r) ⟨_,dd.mapOf,h _ _ (I.tok _) ?_⟩;rw [l];exact (rel.val k).getD rd
 · subst ey;cases (show u=Wj b from ry);obtain ⟨z,hd,xs,rel,dd⟩:=nk I.hok e;refine call_meetsIn PySem.F.slot_dict_get dd.typeIs PySem.F.entry_dict_get (PySem.F.args_dict_get_3 _ _ _) (meetsH_dict_get_default (ZV (aV X.prog X.w)) a b hd r) ⟨ZX hu,k,xs,lM I.hok eb,dd,h _ _ (I.tok _) ?_⟩;rw [l];exact (rel.val k).getD rd
end
def wV (td ty tx:TE):TE:=fun σ H Q=>td σ H fun x H1=>∃ a,x=.ref a/\IsD H1 a/\ty σ H1 fun y H2=>tx σ H2 fun z H3=>∃ o,DGet H3 a y o/\Q (o.getD z) H3
section
variable {X:Cx} {o e f:WC} {apos Ad:Zm} {td ty tx:TE}
theorem pV (hu:X.A.units+1<Ys) (ho:PE X o td) (he:PE X e ty) (hf:PE X f tx) (m:M2 X o "get" apos e f Ad):PE X (.Call (.Attribute o "get" apos) [e,f] [] Ad) (wV td ty tx):=by
 intro pins s σ H Q I h;refine wpAny_Call_method m.base m.few m.line PySem.F.plainAttrs_dict PySem.F.slot_dict_get PySem.F.type_dict_get (thn (ho pins s σ H _ I h) fun u s1 ⟨x,H1,I1,rx,a,ex,d,q1⟩=>?_);subst ex;obtain rfl:u=Wj a:=rx;obtain ⟨t1,t2,_⟩:=xF I1 d;refine ⟨t1,t2,?_⟩;rw [m.trees]
 refine Zu rfl (Calls.evalArgs_plain (YB (thn (he pins s1 σ H1 _ I1 q1) fun iv s2 ⟨y,H2,I2,ry,q2⟩ =>
  YB (thn (hf pins s2 σ H2 _ I2 q2) fun fv s3 ⟨z,H3,I3,rz,ov,g,q3⟩=>Zt ?_))))
 exact xN hu I3 g ry rz fun w' s4 I4 Dg=>⟨_,H3,I4,Dg,q3⟩
end
section
variable {X:Cx} {pins:List (Vy×Xn)} {σ:St} {H:Hp} {s:VF} {a:Vy} {kvs:List (Key×V)} {A:Wn} {E:VC->VF->Prop}
end
section
variable {X:Cx} {pins:List (Vy×Xn)} {σ:St} {H:Hp} {s:VF} {a:Vy} {y:V} {u:VC} {A:Wn} {E:VC->VF->Prop}
end
end L2
namespace L2
open PySem PySem.Spec PyProof.Rows
inductive wA (K:VB) (T:String) (xs:List V) (H:Hp) (Q:VK):Prop
 | mk (x:_) (b:_) (t:_) (zS:xs=[x,.ty T]) (zT:ik K H x t) (zX:YD K t (.type T)=some b) (Af:Q (.bl b) H):wA K T xs H Q
def yW (K:VB) (T:String):List V->Hp->VK->Prop:=wA K T
theorem f9 {X:Cx} {T:String}:dw X (.builtin "isinstance") (yW X.K T):=by
 intro pins s σ H xs us Q I r h;obtain ⟨x,b,t,e,ty,k,q⟩:=h;exact uU (T:=T) (b:=b) (t:=t) pins s σ H xs us Q I r ⟨x,e,ty,k,q⟩
variable {K:VB}
theorem xT:YD K (.type "tuple") (.type "tuple")=some true:=rfl
theorem xE:YD K (.type "str") (.type "str")=some true:=rfl
theorem xV:YD K (.type "int") (.type "int")=some true:=rfl
theorem wZ:YD K (.type "int") (.type "bool")=some false:=by with_unfolding_all rfl
end L2
namespace BB
open PySem L2
set_option genInjectivity true in
inductive Dv where
 | int (i:Int)
 | str (x:V2)
 | tup (ds:List Dv)
mutual
def Dv.deep:Dv->Nat
 | .int _=>0
 | .str _=>0
 | .tup ds=>bh ds+1
def bh:List Dv->Nat
 | []=>0
 | d::ds=>max d.deep (bh ds)
end
mutual
def Dv.tot:Dv->Nat
 | .int _=>1
 | .str _=>1
 | .tup ds=>vH ds+1
def vH:List Dv->Nat
 | []=>0
 | d::ds=>d.tot+vH ds
end
mutual
def DAt (H:Hp):Dv->V->Prop
 | .int i,v=>v=.int i
 | .str x,v=>v=.str x
 | .tup ds,v=>∃ a vs,v=.ref a/\H a=some (.tup vs)/\DAts H ds vs
def DAts (H:Hp):List Dv->List V->Prop
 | [],vs=>vs=[]
 | d::ds,vs=>∃ v r,vs=v::r/\DAt H d v/\DAts H ds r
end
theorem DAts.nil {H:Hp}:DAts H [] []:=by rw [DAts]
theorem DAts.cons {H:Hp} {d:Dv} {ds:List Dv} {v:V} {vs:List V} (h1:DAt H d v) (h2:DAts H ds vs):DAts H (d::ds) (v::vs):=by rw [DAts];exact ⟨v,vs,rfl,h1,h2⟩
theorem DAts.length {H:Hp}:∀ {ds:List Dv} {vs:List V},DAts H ds vs->vs.length=ds.length
 | [],vs,h=>by rw [DAts] at h;subst h;rfl
 | d::ds,vs,h=>by
   rw [DAts] at h;obtain ⟨v,r,rfl,h1,h2⟩:=h;rw [VY,VY,h2.length]
theorem DAts.at {H:Hp}:∀ {ds:List Dv} {vs:List V} {i:Nat} {d:Dv},DAts H ds vs->ds[i]?=some d->∃ v,vs[i]?=some v/\DAt H d v
 | [],vs,i,d,h,e=>by simp at e
 | d0::ds,vs,i,d,h,e=>by
   rw [DAts] at h;obtain ⟨v,r,rfl,h1,h2⟩:=h;cases i with
   | zero=>simp at e;subst e;exact ⟨v,rfl,h1⟩
   | succ i =>
     obtain ⟨u,g1,g2⟩:=h2.at (i:=i) (by simpa using e);exact ⟨u,by simpa using g1,g2⟩
theorem d6:∀ {ds:List Dv} {i:Nat} {d:Dv},ds[i]?=some d->d.deep<=bh ds
 | [],i,d,e=>by simp at e
 | d0::ds,i,d,e=>by
   rw [bh];cases i with
   | zero=>simp at e;subst e;omega
   | succ i =>
     have:=d6 (ds:=ds) (i:=i) (by simpa using e);omega
theorem rV:∀ {ds:List Dv} {i:Nat} {d:Dv},ds[i]?=some d->d.tot<=vH ds
 | [],i,d,e=>by simp at e
 | d0::ds,i,d,e=>by
   rw [vH];cases i with
   | zero=>simp at e;subst e;omega
   | succ i =>
     have:=rV (ds:=ds) (i:=i) (by simpa using e);omega
theorem Dv.tot_pos (d:Dv):1<=d.tot:=by
 cases d with
 | int i=>rw [Dv.tot];omega
 | str x=>rw [Dv.tot];omega
 | tup ds=>rw [Dv.tot];omega
mutual
def Th.dv:Th->Dv
 | .knot n ks=>.tup (.str n::dvs ks)
 | .call s k=>.tup [.str q,.int s,.int k]
def dvs:List Th->List Dv
 | []=>[]
 | t::ts=>t.dv::dvs ts
end
mutual
theorem At.dv {H:Hp}:∀ {t:Th} {a:Vy},At H t a->DAt H t.dv (.ref a)
 | .knot n ks,a,h=>by
   rw [At] at h;obtain ⟨_,as,h1,h2⟩:=h;rw [Th.dv,DAt];exact ⟨a,_,rfl,h1,.cons (by rw [DAt]) (Ats.dvs h2)⟩
 | .call s k,a,h=>by
   rw [At] at h;rw [Th.dv,DAt];exact ⟨a,_,rfl,h,.cons (by rw [DAt]) (.cons (by rw [DAt]) (.cons (by rw [DAt]) .nil))⟩
theorem Ats.dvs {H:Hp}:∀ {ts:List Th} {as:List Vy},Ats H ts as->DAts H (dvs ts) (as.map V.ref)
 | [],as,h=>by rw [Ats] at h;subst h;rw [BB.dvs];exact .nil
 | t::ts,as,h=>by
   rw [Ats] at h;obtain ⟨a,r,rfl,h1,h2⟩:=h;rw [BB.dvs,Wf];exact .cons (At.dv h1) (Ats.dvs h2)
end
mutual
theorem Th.dv_deep:∀ t:Th,t.dv.deep<=t.tall
 | .knot n ks=>by
   have:=fW ks;rw [Th.dv,Dv.deep,bh,Dv.deep,Th.tall];omega
 | .call s k=>by rw [Th.dv,Th.tall];simp [Dv.deep,bh]
theorem fW:∀ ts:List Th,bh (dvs ts)<=aC ts
 | []=>by rw [dvs,bh];exact Wc _
 | t::ts=>by
   have:=t.dv_deep;have:=fW ts;rw [dvs,bh,aC];omega
end
theorem ud {K:VB} {H:Hp} {a b:Vy} {xs ys:List V} {Q:VK} (ha:H a=some (.tup xs)) (hb:H b=some (.tup ys)) (hz:xs.length+ys.length<=1000000) (q:∀ p H',L2.Same H H'->H' p=some (.tup (xs++ys))->Q (.ref p) H'):t6 K (.ref a) (.ref b) H Q:=by
 refine ⟨a,b,xs,ys,rfl,rfl,SqT.of ha,SqT.of hb,aq hz,fun e=>?_,fun _ e=>?_,fun _ _ p hp=>?_⟩
 · exact q b H (.refl _) (by rw [e];exact hb)
 · exact q a H (.refl _) (by rw [e,Xf];exact ha)
 · exact q p _ (ag hp _) ad
mutual
/-- all OD with OE places,a knot ahead of its kids -/
def Th.pl (pre:List Int):Th->List (List Int×Th)
 | .knot n ks=>(pre,.knot n ks)::pls pre 0 ks
 | .call s k=>[(pre,.call s k)]
def pls (pre:List Int) (i:Int):List Th->List (List Int×Th)
 | []=>[]
 | t::ts=>t.pl (pre++[i])++pls pre (i+1) ts
end
theorem Th.pl_eq (pre:List Int) (t:Th):t.pl pre=(pre,t)::pls pre 0 t.kids:=by
 cases t with
 | knot n ks=>rw [Th.pl];rfl
 | call s k=>rw [Th.pl];simp [Th.kids,pls]
mutual
theorem Th.pl_len (pre:List Int):∀ t:Th,(t.pl pre).length=t.size
 | .knot n ks=>by rw [Th.pl,Th.size,VY,rS pre 0 ks]
 | .call s k=>by rw [Th.pl,Th.size];rfl
theorem rS (pre:List Int) (i:Int):∀ ts:List Th,(pls pre i ts).length=au ts
 | []=>by rw [pls,au];rfl
 | t::ts=>by rw [pls,au,VO,Th.pl_len _ t,rS pre (i+1) ts]
end
def szP:List (List Int×Th)->Nat
 | []=>0
 | p::ps=>p.2.size+szP ps
def plP:List (List Int×Th)->List (List Int×Th)
 | []=>[]
 | p::ps=>p.2.pl p.1++plP ps
theorem eY:∀ a b,szP (a++b)=szP a+szP b
 | [],b=>by simp [szP]
 | p::a,b=>by rw [Xr,szP,szP,eY a b,Nat.add_assoc]
theorem rO (a:List (List Int×Th)):szP a.reverse=szP a:=by
 induction a with
 | nil=>rfl
 | cons x xs ih=>rw [WJ,eY,ih,szP,szP,szP];omega
theorem lJ:∀ a b,plP (a++b)=plP a++plP b
 | [],b=>by simp [plP]
 | p::a,b=>by rw [Xr,plP,plP,lJ a b,Xk]
theorem rL:∀ a,(plP a).length=szP a
 | []=>rfl
 | p::a=>by rw [plP,szP,VO,Th.pl_len,rL a]
theorem sr:∀ a,a.length<=szP a
 | []=>Wc _
 | p::a=>by
   have:=p.2.size_pos;have:=sr a;rw [VY,szP];omega
def d3 (pre:List Int) (i:Int):List Th->List (List Int×Th)
 | []=>[]
 | t::ts=>(pre++[i],t)::d3 pre (i+1) ts
theorem kK (pre:List Int) (i:Int):∀ ts,(d3 pre i ts).length=ts.length
 | []=>rfl
 | t::ts=>by rw [d3,VY,VY,kK pre (i+1) ts]
theorem pS (pre:List Int) (i:Int):∀ ts,plP (d3 pre i ts)=pls pre i ts
 | []=>by rw [d3,plP,pls]
 | t::ts=>by rw [d3,plP,pls,pS pre (i+1) ts]
theorem pL (pre:List Int) (i:Int):∀ ts,szP (d3 pre i ts)=au ts
 | []=>by rw [d3,szP,au]
 | t::ts=>by rw [d3,szP,au,pL pre (i+1) ts]
theorem pQ (pre:List Int):∀ (i:Int) (ts:List Th) (j:Nat) (t:Th),ts[j]?=some t->(d3 pre i ts)[j]?=some (pre++[i+j],t)
 | i,[],j,t,e=>by simp at e
 | i,u::ts,0,t,e=>by simp at e;subst e;rw [d3];simp
 | i,u::ts,j+1,t,e=>by
   rw [d3,Z3,pQ pre (i+1) ts j t (by simpa using e)];have:i+1+(j:Int)=i+((j+1:Nat):Int):=by omega
   rw [this]
theorem ql (pre:List Int):∀ (i:Int) (ts:List Th) (p:List Int×Th),p∈d3 pre i ts->p.1.length=pre.length+1/\p.2∈ts
 | i,[],p,h=>by rw [d3] at h;cases h
 | i,u::ts,p,h=>by
   rw [d3] at h;rcases VP.mp h with rfl | h
   · exact ⟨by simp,VI ..⟩
   · have:=ql pre (i+1) ts p h;exact ⟨this.1,Vv _ this.2⟩
def PAt (H:Hp) (p:List Int×Th) (a:Vy):Prop:=∃ pa ta,H a=some (.tup [.ref pa,.ref ta])/\H pa=some (.tup (p.1.map V.int))/\At H p.2 ta
def PsAt (H:Hp) (ps:List (List Int×Th)) (as:List Vy):Prop:=WD (PAt H) ps as
theorem PAt.mono {H H':Hp} (k:KT H H') {p:List Int×Th} {a:Vy} (h:PAt H p a):PAt H' p a:=by
 obtain ⟨pa,ta,h1,h2,h3⟩:=h;exact ⟨pa,ta,k _ _ h1,k _ _ h2,h3.mono k⟩
theorem PsAt.mono {H H':Hp} (k:KT H H') {ps:List (List Int×Th)} {as:List Vy} (h:PsAt H ps as):PsAt H' ps as:=P2.mp (fun _ _ e=>PAt.mono k e) h
theorem P2.reverse {α β:Type} {F:α->β->Prop}:∀ {a:List α} {b:List β},WD F a b->WD F a.reverse b.reverse
 | _,_,.nil=>.nil
 | _,_,.cons r t=>by
   rw [WJ,WJ];exact P2.append (P2.reverse t) (.cons r .nil)
theorem P2.snoc_inv {α β:Type} {F:α->β->Prop} {a:List α} {b:List β} {y:β} (h:WD F a (b++[y])):∃ us x,a=us++[x]/\WD F us b/\F x y:=by
 have r:=P2.reverse h;rw [Xm,List.reverse_singleton,List.singleton_append] at r;cases e:a.reverse with
 | nil=>rw [e] at r;cases r
 | cons x us =>
   rw [e] at r;cases r with
   | cons h1 h2 =>
     refine ⟨us.reverse,x,?_,?_,h1⟩
     · rw [<- WJ,<- e,Xz]
     · have:=P2.reverse h2;rw [Xz] at this;exact this
theorem oN {t u:Th} (h:u∈t.kids):u.tall+1<=t.tall:=by
 have:=cL h;rw [t.tall_eq];omega
theorem nA:∀ {ts:List Th} {t:Th},t∈ts->t.size<=au ts
 | u::ts,t,h=>by
   rw [au];rcases VP.mp h with rfl | h
   · omega
   · have:=nA h;omega
theorem kD (n:Nat) (ts:List Th):au (ts.take n)<=au ts:=by
 have h:=aF (ts.take n) (ts.drop n);rw [List.take_append_drop] at h;omega
theorem rq {H:Hp}:∀ ns:List Int,DAts H (ns.map Dv.int) (ns.map V.int)
 | []=>.nil
 | n::ns=>by
   rw [Wf,Wf];exact .cons (by rw [DAt]) (rq ns)
theorem np:∀ ns:List Int,bh (ns.map Dv.int)=0
 | []=>by rw [Xj,bh]
 | n::ns=>by rw [Wf,bh,np ns,Dv.deep];rfl
end BB
namespace BB
open PySem L2
mutual
def Th.kn:Th->Nat
 | .knot _ ks=>kns ks+1
 | .call _ _=>0
def kns:List Th->Nat
 | []=>0
 | t::ts=>t.kn+kns ts
end
section
variable {ext:Th->List V} {H H':Hp} {t:Th} {a:Vy} {ts:List Th} {es:List Vy}
end
def Th.isCall:Th->Bool
 | .knot _ _=>false
 | .call _ _=>true
def xy:List Int×Th->Option (List Int×Int×Int)
 | (_,.knot _ _)=>none
 | (p,.call s k)=>some (p,s,k)
def callsOf (ps:List (List Int×Th)):List (List Int×Int×Int):=ps.filterMap xy
theorem du (a b:List (List Int×Th)):callsOf (a++b)=callsOf a++callsOf b:=List.filterMap_append
theorem dD (a:List (List Int×Th)):(callsOf a).length<=a.length:=List.length_filterMap_le _ _
def CAt (H:Hp) (c:List Int×Int×Int) (a:Vy):Prop:=∃ pa ca,H a=some (.tup [.ref pa,.ref ca])/\H pa=some (.tup (c.1.map V.int))/\H ca=some (.tup [.int c.2.1,.int c.2.2])
def CsAt (H:Hp) (cs:List (List Int×Int×Int)) (as:List Vy):Prop:=WD (CAt H) cs as
theorem CAt.mono {H H':Hp} (k:KT H H') {c:List Int×Int×Int} {a:Vy} (h:CAt H c a):CAt H' c a:=by
 obtain ⟨pa,ca,h1,h2,h3⟩:=h;exact ⟨pa,ca,k _ _ h1,k _ _ h2,k _ _ h3⟩
theorem CsAt.mono {H H':Hp} (k:KT H H') {cs:List (List Int×Int×Int)} {as:List Vy} (h:CsAt H cs as):CsAt H' cs as:=P2.mp (fun _ _ e=>CAt.mono k e) h
end BB
namespace BB
open PySem PySem.Spec PyProof.Rows L2
mutual
theorem DAt.inj {H:Hp}:∀ {d e:Dv} {v:V},DAt H d v->DAt H e v->d=e
 | .int i,.int j,v,h,g=>by rw [DAt] at h;rw [DAt] at g;rw [h] at g;cases g;rfl
 | .int i,.str y,v,h,g=>by rw [DAt] at h;rw [DAt] at g;rw [h] at g;cases g
 | .int i,.tup es,v,h,g=>by rw [DAt] at h;rw [DAt] at g;obtain ⟨a,vs,e,_⟩:=g;rw [h] at e;cases e
 | .str x,.int j,v,h,g=>by rw [DAt] at h;rw [DAt] at g;rw [h] at g;cases g
 | .str x,.str y,v,h,g=>by rw [DAt] at h;rw [DAt] at g;rw [h] at g;cases g;rfl
 | .str x,.tup es,v,h,g=>by rw [DAt] at h;rw [DAt] at g;obtain ⟨a,vs,e,_⟩:=g;rw [h] at e;cases e
 | .tup ds,.int j,v,h,g=>by rw [DAt] at h;rw [DAt] at g;obtain ⟨a,vs,e,_⟩:=h;rw [e] at g;cases g
 | .tup ds,.str y,v,h,g=>by rw [DAt] at h;rw [DAt] at g;obtain ⟨a,vs,e,_⟩:=h;rw [e] at g;cases g
 | .tup ds,.tup es,v,h,g=>by
   rw [DAt] at h;rw [DAt] at g;obtain ⟨a,vs,e1,h1,h2⟩:=h;obtain ⟨b,ws,e2,g1,g2⟩:=g;rw [e1] at e2;cases e2;rw [h1] at g1;cases g1;rw [DAts.inj h2 g2]
theorem DAts.inj {H:Hp}:∀ {ds es:List Dv} {vs:List V},DAts H ds vs->DAts H es vs->ds=es
 | [],[],vs,h,g=>rfl
 | [],e::es,vs,h,g=>by rw [DAts] at h;rw [DAts] at g;obtain ⟨v,r,z,_⟩:=g;rw [h] at z;cases z
 | d::ds,[],vs,h,g=>by rw [DAts] at h;rw [DAts] at g;obtain ⟨v,r,z,_⟩:=h;rw [g] at z;cases z
 | d::ds,e::es,vs,h,g=>by
   rw [DAts] at h;rw [DAts] at g;obtain ⟨v,r,z,h1,h2⟩:=h;obtain ⟨v',r',z',g1,g2⟩:=g;rw [z] at z';cases z';rw [DAt.inj h1 g1,DAts.inj h2 g2]
end
end BB
namespace L2
open PySem PySem.Spec PySem.SeqAt PyProof.Rows BB
open Classical in
theorem qb {X:Cx} {pins:List (Vy×Xn)} {σ:St} {H:Hp} {s:VF} (I:Inv X pins σ H s) {ds es:List Dv} {a b:Vy} {vs ws:List V} {A:Wn} (ha:SqT X.K H a vs) (hb:SqT X.K H b ws) (B9:DAts H ds vs) (Au:DAts H es ws) (hu:A.units<Ys)
 (ih:∀ (j:Nat) (d e:Dv) (x y:V) (u v:VC),ds[j]?=some d->DAt H d x->DAt H e y->RelV x u->RelV y v->EqAt A.in1 s u v (decide (d=e))):RcAt A s (.ref a) (.ref b) (decide (Dv.tup ds=Dv.tup es)):=by
 obtain ⟨its,r1,p1,_⟩:=I.tuple ha;obtain ⟨zW,r2,p2,_⟩:=I.tuple hb;have l1:its.length=ds.length:=by rw [<- r1.length,B9.length]
 have l2:zW.length=es.length:=by rw [<- r2.length,Au.length]
 have KU:RcAt A s (.ref a) (.ref b) ((WT (min its.toArray.size zW.toArray.size)).all (fun j=>decide (ds[j]?=es[j]?)) && its.toArray.size == zW.toArray.size):=by
  refine RcAt.tuples (show s.heap.IsTuple a its.toArray from p1) (show s.heap.IsTuple b zW.toArray from p2) hu fun j h1 h2=>?_;have BS:j<ds.length:=by rw [<- l1];simpa using h1
  have Ca:j<es.length:=by rw [<- l2];simpa using h2
  have e1:ds[j]?=some ds[j]:=Vw BS;have e2:es[j]?=some es[j]:=Vw Ca;obtain ⟨x',C7,dx⟩:=B9.at e1;obtain ⟨y',B5,dy⟩:=Au.at e2;obtain ⟨u',Cb,Fj⟩:=r1.get C7;obtain ⟨v',By,Dr⟩:=r2.get B5;have e3:decide (ds[j]?=es[j]?)=decide (ds[j]=es[j]):=by rw [e1,e2];simp
  have e4:its.toArray[j]=u':=by
   rw [Vw (by rw [l1];exact BS)] at Cb;simpa using Cb
  have e5:zW.toArray[j]=v':=by
   rw [Vw (by rw [l2];exact Ca)] at By;simpa using By
  rw [e3,e4,e5];exact ih j ds[j] es[j] x' y' u' v' e1 dx dy Fj Dr
 have e:decide (Dv.tup ds=Dv.tup es)=((WT (min its.toArray.size zW.toArray.size)).all (fun j=>decide (ds[j]?=es[j]?)) && its.toArray.size == zW.toArray.size):=by
  rw [VL,VL,l1,l2];by_cases h:ds=es
  · subst h;rw [decide_eq_true rfl];symm;simp
  · rw [decide_eq_false (fun z=>h (Dv.tup.inj z))];symm;by_cases hl:ds.length=es.length
    · rw [hl,Nat.min_self]
      have:¬ ((WT es.length).all (fun j=>decide (ds[j]?=es[j]?)))=true:=by
       intro z;apply h;apply ZN;intro j;by_cases hj:j<es.length
       · have:=Xs.mp z j (YG.mpr hj);exact of_decide_eq_true this
       · rw [W5 (by omega),W5 (by omega)]
      rw [X9.mpr this];rfl
    · have:(ds.length == es.length)=false:=by simpa using hl
      rw [this,Bool.and_false]
 rw [e];exact KU
open Classical in
theorem iJ {X:Cx} {pins:List (Vy×Xn)} {σ:St} {H:Hp} {s:VF} (I:Inv X pins σ H s):∀ (n:Nat) (d e:Dv),d.tot<=n->∀ (x y:V) (u v:VC) (A:Wn),DAt H d x->DAt H e y->RelV x u->RelV y v->A.units+d.deep<Ys->EqAt A s u v (decide (d=e))
 | 0,d,e,hn,x,y,u,v,A,hd,he,ru,rv,hu=>by have:=d.tot_pos;omega
 | n+1,.int i,.int j,hn,x,y,u,v,A,hd,he,ru,rv,hu=>by
   rw [DAt] at hd;rw [DAt] at he;subst hd he;obtain ⟨t,rfl⟩:=ru;obtain ⟨t',rfl⟩:=rv
   have e:decide (Dv.int i=Dv.int j)=(i == j):=by
    by_cases h:i=j
    · subst h;simp
    · rw [decide_eq_false (fun z=>h (Dv.int.inj z))];simp [h]
   rw [e];exact EqAt.int_int i t j t'
 | n+1,.int i,.str b,hn,x,y,u,v,A,hd,he,ru,rv,hu=>by
   rw [DAt] at hd;rw [DAt] at he;subst hd he;obtain ⟨t,rfl⟩:=ru;obtain ⟨t',rfl⟩:=rv;rw [decide_eq_false (fun z=>by cases z)];exact EqAt.int_str i t b t'
 | n+1,.int i,.tup es,hn,x,y,u,v,A,hd,he,ru,rv,hu=>by
   rw [DAt] at hd;rw [DAt] at he;obtain ⟨a,vs,rfl,ha,_⟩:=he;subst hd;obtain ⟨t,rfl⟩:=ru;cases rv;obtain ⟨its,_,p,_⟩:=I.tuple (SqT.of (K:=X.K) ha);rw [decide_eq_false (fun z=>by cases z)];exact EqAt.int_tuple i t (show s.heap.IsTuple a its.toArray from p) (by omega)
 | n+1,.str b,.int j,hn,x,y,u,v,A,hd,he,ru,rv,hu=>by
   rw [DAt] at hd;rw [DAt] at he;subst hd he;obtain ⟨t,rfl⟩:=ru;obtain ⟨t',rfl⟩:=rv;rw [decide_eq_false (fun z=>by cases z)];exact EqAt.str_int b t j t'
 | n+1,.str b,.str c,hn,x,y,u,v,A,hd,he,ru,rv,hu=>by
   rw [DAt] at hd;rw [DAt] at he;subst hd he;obtain ⟨t,rfl⟩:=ru;obtain ⟨t',rfl⟩:=rv
   have e:decide (Dv.str b=Dv.str c)=(b == c):=by
    by_cases h:b=c
    · subst h;simp
    · rw [decide_eq_false (fun z=>h (Dv.str.inj z))];simp [h]
   rw [e];exact EqAt.str_str b t c t'
 | n+1,.str b,.tup es,hn,x,y,u,v,A,hd,he,ru,rv,hu=>by
   rw [DAt] at hd;rw [DAt] at he;obtain ⟨a,vs,rfl,ha,_⟩:=he;subst hd;obtain ⟨t,rfl⟩:=ru;cases rv;obtain ⟨its,_,p,_⟩:=I.tuple (SqT.of (K:=X.K) ha);rw [decide_eq_false (fun z=>by cases z)];exact EqAt.str_tuple b t (show s.heap.IsTuple a its.toArray from p) (by omega)
 | n+1,.tup ds,.int j,hn,x,y,u,v,A,hd,he,ru,rv,hu=>by
   rw [DAt] at hd;rw [DAt] at he;obtain ⟨a,vs,rfl,ha,_⟩:=hd;subst he;cases ru;obtain ⟨t,rfl⟩:=rv;obtain ⟨its,_,p,_⟩:=I.tuple (SqT.of (K:=X.K) ha);rw [decide_eq_false (fun z=>by cases z)];exact EqAt.tuple_int j t (show s.heap.IsTuple a its.toArray from p) (by omega)
 | n+1,.tup ds,.str b,hn,x,y,u,v,A,hd,he,ru,rv,hu=>by
   rw [DAt] at hd;rw [DAt] at he;obtain ⟨a,vs,rfl,ha,_⟩:=hd;subst he;cases ru;obtain ⟨t,rfl⟩:=rv;obtain ⟨its,_,p,_⟩:=I.tuple (SqT.of (K:=X.K) ha);rw [decide_eq_false (fun z=>by cases z)];exact EqAt.tuple_str b t (show s.heap.IsTuple a its.toArray from p) (by omega)
 | n+1,.tup ds,.tup es,hn,x,y,u,v,A,hd,he,ru,rv,hu=>by
   have Gg:=hd;have Gh:=he;rw [DAt] at hd;rw [DAt] at he;obtain ⟨a,vs,rfl,ha,B9⟩:=hd;obtain ⟨b,ws,rfl,hb,Au⟩:=he;cases ru;cases rv;by_cases Gi:a=b
   · subst Gi;rw [decide_eq_true (DAt.inj Gg Gh)];exact EqAt.same _
   rw [Dv.tot] at hn;rw [Dv.deep] at hu;refine EqAt.of_refs Gi (qb I (SqT.of ha) (SqT.of hb) B9 Au (by omega) fun j d e x' y' u' v' e1 dx dy Fj Dr=>?_);have q1:=rV e1;have q2:=d6 e1;refine iJ I n d e (by omega) x' y' u' v' A.in1 dx dy Fj Dr ?_;show A.units+1+_<Ys;omega
def yR (K:VB) (B:Nat):R2:=fun x y H Q=>∃ a b vs ws ds es,x=.ref a/\y=.ref b/\SqT K H a vs/\SqT K H b ws/\DAts H ds vs/\DAts H es ws/\bh ds<=B/\∀ b:Bool,(b=true↔ds=es)->Q (.bl b) H
open Classical in
theorem ue {X:Cx} {B:Nat} (hu:X.A.units+B+2<Ys):OpR X (Xp .Eq) (yR X.K B):=by
 intro pins s σ H x y v u Q I rx ry h;obtain ⟨a,b,vs,ws,ds,es,rfl,rfl,ha,hb,B9,Au,hB,q⟩:=h;cases rx;cases ry
 have r:RcAt X.A s (.ref a) (.ref b) (decide (Dv.tup ds=Dv.tup es)):=qb I ha hb B9 Au (by omega) fun j d e x' y' u' v' e1 dx dy Fj Dr=>by
  have q2:=d6 e1;refine iJ I _ d e (VG _) x' y' u' v' X.A.in1 dx dy Fj Dr ?_;show X.A.units+1+_<Ys;omega
 refine r X.prog X.w X.xe _ ⟨.bl (decide (Dv.tup ds=Dv.tup es)),H,I,rfl,q _ ?_⟩;constructor
 · intro z;exact Dv.tup.inj (of_decide_eq_true z)
 · intro z;rw [z];exact decide_eq_true rfl
end L2
namespace BB
open PySem L2
end BB
namespace PySem
theorem bb_extendT (l:Vy) (items:Array VC) (n:Nat) (b:Vy) (Bb:Array VC) (n2:Nat) (dd:Option Vy) (sl:Array (Option VC)) (g0:¬(!items.isEmpty && XJ (items.size+Bb.size))=true) (g1:items.size<=V1) (g2:items.size+Bb.size<=V1+1) :
 Meets (Yb.«list.extend» ⟨[.ref l,.ref b],[]⟩) (fun _ R s=>s.heap.get? l=some { cls:=.type "list",dict:=none,data:=.seq items n,slots:=#[] }/\s.heap.get? b=some { cls:=.type "tuple",dict:=dd,data:=.seq Bb n2,slots:=sl }/\R (.ok (.ret WV)) { s with heap:=s.heap.update l (Obj.mapSeq fun x=>x++Bb),toks:=s.toks }) :=
 .of_wp fun prog w A R s h=>by
  obtain ⟨hp,g,d,tk,os⟩:=s;obtain ⟨hl,hb,h⟩:=h;have f1:=AutoSeq1.idx_int;have f2:=AutoSeq1.sub_tuple_tuple;have f3:=AutoSeq1.sub_list_list;have f4:=AutoSeq1.sub_tuple_list;have f5:=AutoSeq1.sub_list_tuple;have z2:(items++Bb).size<=V1+1:=by rw [Array.size_append];exact g2
  wp_walk using (wpAny_updateSeq hl rfl (hz:=g1) (_hz':=z2)),XM hl,XM hb
  exact ⟨_,rfl,h⟩
end PySem
namespace L2
open PySem PySem.Spec PyProof.Rows
section
variable {X:Cx}
def u6 (K:VB):V->List V->Hp->VK->Prop:=fun x vs H Q=>∃ l b xs zs,x=.ref l/\vs=[.ref b]/\H l=some (.lst xs)/\SqT K H b zs/\xs.length+zs.length<=V1/\Q .non (upd H l (.lst (xs++zs)))
theorem kB:MtM X "list.extend" (u6 X.K):=by
 intro pins s σ H x vs v us Q I rx rv h;obtain ⟨l,b,xs,zs,rfl,rfl,hH,hB,hz,q⟩:=h;cases rx;obtain ⟨u,rfl,ru⟩:=rv.one;cases ru;obtain ⟨z,its,n,r,hl,e⟩:=I.lstM hH;obtain ⟨zW,r2,p2,_⟩:=I.tuple hB;have AR:=r2.length;obtain ⟨⟨GZ,F',data2,Ga⟩,e2,DL,n2,hd2⟩:=p2;simp only at DL hd2;subst DL hd2;have hsz:its.toArray.size+zW.toArray.size<=V1:=by rw [VL,VL];omega
 have BJ:¬ (!its.toArray.isEmpty && XJ (its.toArray.size+zW.toArray.size))=true:=by
  rw [lH hsz,Bool.and_false];exact VS
 refine Zc F.slot_list_extend ⟨_,e,rfl⟩ F.entry_list_extend (F.args_list_extend_2 _ _)
  (bb_extendT l its.toArray n b zW.toArray n2 F' Ga BJ (by rw [VL];omega) (by omega)) ⟨e,e2,?_⟩
 refine ⟨.non,_,I.lset (its':=its++zW) hH e (by simp) (r.append r2) ?_,rfl,q⟩;rw [VO];omega
theorem tR {bs:List Bool} {its:List VC} (r:Vals (bs.map V.bl) its) {i:Nat} {v:VC} (h:its[i]?=some v):∃ b,bs[i]?=some b/\v=.bool b:=by
 have hl:=r.length;have hi:i<its.length:=(Vz.mp h).1;rw [Vt] at hl;obtain ⟨u,hu,ru⟩:=r.get (i:=i) (x:=.bl bs[i]) (by rw [VM,Vw (by omega)];rfl);rw [h] at hu;cases hu;cases ru;exact ⟨_,Vw (by omega),rfl⟩
def yS (K:VB):List V->Hp->VK->Prop:=fun xs H Q=>∃ (p:Vy) (bs:List Bool),xs=[.ref p]/\SqL K H p (bs.map V.bl)/\Q (.bl (bs.all id)) H
theorem p5 (hc:X.calm=true):dw X (.builtin "all") (yS X.K):=by
 intro pins s σ H xs us Q I r h;obtain ⟨p,bs,rfl,hl,q⟩:=h;obtain ⟨u,rfl,rx⟩:=vals1 r;cases rx;obtain ⟨its,rv,pl,_⟩:=I.list hl;have hlen:=rv.length;rw [Vt] at hlen;have zV:p<s.heap.objs.size:=by obtain ⟨_,_,e,_⟩:=pl;exact VX e
 refine call_all_walk (Zp pl.isList ?_);refine ⟨s.heap.objs.size,[s.heap.objs.size,p],[s.heap.objs.size],its.toArray.size,_,_,fun i=>(bs[i]?).getD true,rfl,Walks.list (A:=X.A.in1) (I.ok.hd hc) _ p (Wm zV) its.toArray,⟨⟨_,VH _ rfl,rfl,rfl⟩,pl.isList.push _⟩,fun i v s' Q' E' hP hQ=>?_,fun h' tk hk=>?_⟩
 · obtain ⟨b,e,rfl⟩:=tR rv (i:=i) (v:=v) (by simpa using hP);simp only [e,YL] at hQ;exact Xo hQ
 · have e:((WT its.toArray.size).all fun i=>(bs[i]?).getD true)=bs.all id:=by
    rw [VL,<- hlen];exact LSm.range_all bs
   rw [e];exact ⟨.bl (bs.all id),H,I.kept (LSm.kept_iter hk),rfl,q⟩
end
end L2
namespace BB
open PySem L2
def cQ:List (V2×Int)->V2->Int
 | [],_=>-1
 | k::r,n=>if k.1=n then k.2 else cQ r n
theorem lq {n:V2} {m:Nat}:∀ {ks:List (V2×Int)},(ks.map (·.1)).Nodup->(cQ ks n=(m:Int)↔(n,(m:Int))∈ks)
 | [],_=>by
   rw [cQ];constructor
   · intro h;omega
   · intro h;cases h
 | (a,b)::r,nd=>by
   rw [Wf,WG] at nd;rw [cQ];by_cases h:a=n
   · rw [if_pos h];subst h;constructor
     · intro e;have e':b=(m:Int):=e;rw [e'];exact VI ..
     · intro e;rcases VP.mp e with e | e
       · exact (Prod.mk.inj e).2.symm
       · exact absurd (V4.mpr ⟨_,e,rfl⟩) nd.1
   · rw [if_neg h,lq nd.2];constructor
     · exact Vv _
     · intro e;rcases VP.mp e with e | e
       · exact absurd (Prod.mk.inj e).1.symm h
       · exact e
theorem eF:∀ a b:List Th,aC (a++b)=max (aC a) (aC b)
 | [],b=>by rw [Y0,aC];omega
 | t::a,b=>by rw [Xr,aC,aC,eF a b];omega
def ba (ts:List Th):List Th:=(ts.map Th.kids).flatten
theorem cD (t:Th) (ts:List Th):ba (t::ts)=t.kids++ba ts:=by unfold ba;rw [Wf,Za]
theorem fT (a b:List Th):ba (a++b)=ba a++ba b:=by unfold ba;rw [VN,List.flatten_append]
theorem eU:∀ ts:List Th,au (ba ts)+ts.length=au ts
 | []=>by rfl
 | t::ts=>by
   have:=eU ts;have:=t.size_eq;rw [cD,aF,VY,au];omega
theorem il:∀ {ts:List Th},ts≠[]->aC ts=aC (ba ts)+1
 | [],h=>absurd rfl h
 | [t],_=>by
   have:=t.tall_eq;rw [cD,eF,aC,aC];have:aC (ba [])=0:=by unfold ba;rw [Xj,List.flatten_nil,aC]
   omega
 | t::u::ts,_=>by
   have h:=il (ts:=u::ts) (by simp);have:=t.tall_eq;rw [cD,eF,aC];omega
def okP (ks:List (V2×Int)) (st kd:Int):Th->Bool
 | .knot n ts=>decide (cQ ks n=((ts.length:Nat):Int))
 | .call s k=>decide (0<=s/\s<st) && decide (0<=k/\k<kd)
def fpb (ks:List (V2×Int)) (st kd:Int) (t:Th):Bool:=t.walk.all (okP ks st kd)
def uh (ks:List (V2×Int)) (st kd:Int) (ts:List Th):Bool:=(walks ts).all (okP ks st kd)
theorem uZ (ks:List (V2×Int)) (st kd:Int) (t:Th):fpb ks st kd t=(okP ks st kd t && uh ks st kd t.kids):=by
 unfold fpb uh;rw [t.walk_eq,ZT]
theorem lD (ks:List (V2×Int)) (st kd:Int):∀ ts:List Th,uh ks st kd ts=(ts.map (fpb ks st kd)).all id
 | []=>by rfl
 | t::ts=>by
   rw [Wf,ZT,<- lD ks st kd ts];unfold uh fpb;rw [walks,List.all_append];rfl
def kDv (k:V2×Int):Dv:=.tup [.str k.1,.int k.2]
theorem uu {H:Hp}:∀ {ks:List (V2×Int)} {as:List Vy},WD (KAt H) ks as->DAts H (ks.map kDv) (as.map V.ref)
 | _,_,.nil=>.nil
 | _,_,.cons r h=>by
   rw [Wf,Wf];refine .cons ?_ (uu h);rw [kDv,DAt];exact ⟨_,_,rfl,r,.cons (by rw [DAt]) (.cons (by rw [DAt]) .nil)⟩
theorem lX:∀ ks:List (V2×Int),bh (ks.map kDv)<=1
 | []=>by rw [Xj,bh];exact Wc _
 | k::ks=>by
   have:=lX ks;rw [Wf,bh,kDv];simp only [Dv.deep,bh];omega
def star:V2:=Vx "*"
theorem ve {x:V2} (h:Low x):x≠star:=by
 intro e;subst e;have:=h 42 (by decide +kernel);omega
open Classical in
def Th.isHole:Th->Bool
 | .knot n ks=>decide (n=star/\ks=[])
 | .call _ _=>false
def Th.isKnot (t:Th):Bool:=!t.isCall && !t.isHole
theorem gX:∀ (n:Nat) (ts:List Th),au ts<=n->∀ x∈walks ts,x.tall<=aC ts
 | _,[],_,x,h=>by simp [walks] at h
 | 0,t::ts,hn,x,h=>by
   have:=t.size_pos;rw [au] at hn;omega
 | n+1,t::ts,hn,x,h=>by
   have hs:=t.size_eq;have ht:=t.tall_eq;rw [au] at hn;rw [aC];rw [walks,t.walk_eq,Xr,VP,VV] at h;rcases h with rfl | h | h
   · omega
   · have:=gX n t.kids (by omega) x h;omega
   · have:=gX n ts (by omega) x h;omega
theorem sU (t x:Th) (h:x∈t.walk):x.tall<=t.tall:=by
 have:=gX _ [t] (VG _) x (by simpa [walks] using h);simpa [aC] using this
theorem yl {p:Prop} [Decidable p] (h:(!decide p)=true):¬ p:=by
 intro z;rw [decide_eq_true z] at h;cases h
theorem xC {p:Prop} [Decidable p] (h:¬ (!decide p)=true):p:=by
 by_cases z:p
 · exact z
 · exfalso;apply h;rw [decide_eq_false z];rfl
end BB
namespace PySem
open Sem (wp)
namespace F
theorem bb_entry_upd:entryFor table "dict.update.loop"=some Yb.«dict.update.loop»:=entryFor_of_tree (by kernel_rfl)
theorem bb_plain_upd:plainId "dict.update.loop"=true:=by decide +kernel
end F
section
variable {prog:V3} {w:Wg} {A:Wn} {E:VC->VF->Prop} {s:VF} {a:Vy} {xs:Array VC} {k:Nat}
end
end PySem
namespace L2
open PySem PySem.Spec PyProof.Rows BB
section
variable {X:Cx}
end
end L2
namespace BB
open PySem L2
end BB
namespace HT
open PySem PySem.Spec PyProof.Rows
section
variable {prog:V3} {w:Wg} {A:Wn} {E:VC->VF->Prop} {s:VF}
theorem getItem_tuple_whole {t sl:Vy} {items:Array VC} {vl vu:VC} {lo hi:Option Int} {Q:VC->VF->Prop} (ht:IsTup s.heap t items) (hs:s.heap.IsSliceOf sl vl vu .none) (pl:IsPart vl lo) (pu:IsPart vu hi)
 (hw:sIx items.size 0 lo=0/\sIx items.size items.size hi=items.size) (h:Q (.ref t) s):VT (Wb prog w) A (Zq (.ref t) (.ref sl)) Q E s:=by
 obtain ⟨os,Bq,B3,BF⟩:=id hs;have G0:s.TypeIs (.ref sl) "slice":=⟨os,Bq,B3⟩;have hT:s.TypeIs (.ref t) "tuple":=ht.typeIs;unfold Zq
 try with_reducible refine XH ?_
 first | refine Vu (VE ?_) | skip
 refine Vu (wpAny_sequenceKey ht.typeIs (by decide) ?_)
 refine Vu (Ww (name:=Vx "__getitem__") ht.typeIs Wl
  (Wu Wl ht.typeIs entry_tuple_getitem ?_ (args_tuple_getitem _ _)))
 show VT _ _ (Z7 (.ref t) >>= _) _ _ s;refine Vu (tupleItemsOf_ ht ?_);refine Vu (Zn G0 ?_);rw [if_pos (by decide)];refine Vu (sliceApplied_gen hs pl pu ?_)
 have CM:(((sIx items.size 0 lo:Nat):Int) == 0 && (1:Int) == 1 && (sIx items.size items.size hi - sIx items.size 0 lo) == items.size)=true:=by
  rw [hw.1,hw.2];simp
 show VT _ _ (if (((sIx items.size 0 lo:Nat):Int) == 0 && (1:Int) == 1 && (sIx items.size items.size hi - sIx items.size 0 lo) == items.size)=true then _ else _) _ _ s;rw [if_pos CM];refine Vu (m:=Builtin.Tuple.tupleIsExact _) ?_;unfold Builtin.Tuple.tupleIsExact;refine Vu (Zn hT (VE ?_));rw [if_pos (by decide)];exact Vu (wpAny_rule (VE ⟨_,rfl,VE h⟩))
end
end HT
namespace L2
open PySem PySem.Spec PyProof.Rows
inductive wt (x:V) (lo:Option Int) (hi:Option Int) (H:Hp) (Q:VK):Prop
 | mk (a:_) (xs:_) (zS:x=.ref a) (zT:H a=some (.tup xs)) (zX:∀ p H',Same H H'->H' p=some (.tup (cG xs lo hi))->Q (.ref p) H'):wt  x lo hi H Q
def zI:V->Option Int->Option Int->Hp->VK->Prop:=wt
theorem vz {X:Cx}:SlR X zI:=by
 intro pins s σ H x v vl vu lo hi sl Q I rx hs pl pu h;obtain ⟨a,xs,rfl,ha,q⟩:=h;by_cases hw:HT.sIx xs.length 0 lo=0/\HT.sIx xs.length xs.length hi=xs.length
 · obtain ⟨its,r,p1,hz⟩:=I.tuple (SqT.of (K:=X.K) ha);have hl:=r.length;cases rx
   have e:cG xs lo hi=xs:=by
    unfold cG;rw [hw.1,hw.2,XC,Z9,W8]
   refine ⟨"tuple",_,Wl.lookup,p1.typeIs,HT.getItem_tuple_whole p1 hs pl pu (by rw [VL,<- hl];exact hw) ⟨.ref a,H,I,rfl,q a H (.refl _) (by rw [e];exact ha)⟩⟩
 · exact og pins s σ H _ v vl vu lo hi sl Q I rx hs pl pu ⟨a,xs,rfl,SqT.of ha,hw,fun p hp=>q p _ (ag hp _) ad⟩
end L2
namespace PySem
open Sem (wp)
section
variable {prog:V3} {w:Wg} {A:Wn} {E:VC->VF->Prop} {s:VF} {it d:Vy} {i ep:Nat} {od:Xn} {es:Array Zi}
theorem bb_keyNext {en:Zi} {Q:Option VC->VF->Prop} (g:s.heap.IsKeyIter it d i es.size ep) (g1:s.heap.get? d=some od) (g2:od.data=.dict es ep) (hx:es[i]?=some en)
 (fin:∀ h',h'.IsKeyIter it d (i+1) es.size ep->WN it s.heap h'->Q (some en.key) { s with heap:=h' }):VT (Wb prog w) A (Ym (.ref it)) Q E s:=by
 obtain ⟨o,q1,q2,q3⟩:=id g;unfold Ym;refine Vu (Yl (Ww (name:=Vx "__next__") g.typeIs XW (Wu XW g.typeIs F.entry_dict_keyiterator_next ?_ (F.args_dict_keyiterator_next_1 _))));refine Vu (VE ?_);refine Vu ?_;refine Vu ?_
 first | refine Vu (Yx g.typeIs (VE ?_)) | refine Vu (Y6 g.typeIs (VE ?_))
 refine Vu (wpAny_fieldsOf q1 q3 ?_);have own:XX "dict_keyiterator"=false:=by decide
 simp only [own,Xu,if_false];show VT _ _ (if (Wj d == WV)=true then _ else _) _ _ s;rw [if_neg (show ¬ ((Wj d == WV)=true) from VS)];refine Vu (VE ?_);refine Vu (YO g1 g2 ?_);rw [if_neg (by simp)];refine Vu (VE ?_);refine Vu (Zb g1 g2 ?_);rw [if_neg (by simp)];refine VE ?_;have lt:i<es.size:=(X0.mp hx).1;have ee:es[i]=en:=(X0.mp hx).2;simp only [show ¬ ((i:Int)<0) from by omega,if_false,WL,Array.getElem?_eq_getElem lt];refine Vu ?_
 first | refine Vu (Yx g.typeIs (VE ?_)) | refine Vu (Y6 g.typeIs (VE ?_))
 refine Vu (wpAny_isOneOf_keyiter g.typeIs ?_);show VT _ _ (setField (.ref it) 1 (XF ((i:Int)+1)) >>= _) _ _ s;refine Vu (Yq q1 q3 (by simp) ?_);have g':(s.heap.update it (Obj.mapFields (·.setIfInBounds 1 (XF ((i:Int)+1))))).IsKeyIter it d (i+1) es.size ep:=⟨_,ZA _ q1 (Zz (XG q3 _)),(Obj.cls_mapFields ..).trans q2,by rw [XG q3];simp [XF]⟩;refine Vu (XH ?_);refine Vu (wpAny_isOneOf_keyiter (s:={ s with heap:=s.heap.update it (Obj.mapFields (·.setIfInBounds 1 (XF ((i:Int)+1)))) }) g'.typeIs ?_);show VT _ _ (pure es[i].key) _ _ _;rw [ee];exact VE (VE ⟨_,rfl,VE (fin _ g' (Yo ..))⟩)
theorem bb_keyEnd {Q:Option VC->VF->Prop} (calm:A.handled=none) (g:s.heap.IsKeyIter it d i es.size ep) (g1:s.heap.get? d=some od) (g2:od.data=.dict es ep) (hx:es.size<=i)
 (fin:∀ h',Heap.ExtBut it s.heap h'->Q none { s with heap:=h' }):VT (Wb prog w) A (Ym (.ref it)) Q E s:=by
 obtain ⟨o,q1,q2,q3⟩:=id g;unfold Ym;refine Vu (Yl (Ww (name:=Vx "__next__") g.typeIs XW (Wu XW g.typeIs F.entry_dict_keyiterator_next ?_ (F.args_dict_keyiterator_next_1 _))));refine Vu (VE ?_);refine Vu ?_;refine Vu ?_
 first | refine Vu (Yx g.typeIs (VE ?_)) | refine Vu (Y6 g.typeIs (VE ?_))
 refine Vu (wpAny_fieldsOf q1 q3 ?_);have own:XX "dict_keyiterator"=false:=by decide
 simp only [own,Xu,if_false];show VT _ _ (if (Wj d == WV)=true then _ else _) _ _ s;rw [if_neg (show ¬ ((Wj d == WV)=true) from VS)];refine Vu (VE ?_);refine Vu (YO g1 g2 ?_);rw [if_neg (by simp)];refine Vu (VE ?_);refine Vu (Zb g1 g2 ?_);rw [if_neg (by simp)];refine VE ?_;simp only [show ¬ ((i:Int)<0) from by omega,if_false,WL,Array.getElem?_eq_none hx];refine Vu ?_
 first | refine Vu (Yx g.typeIs (VE ?_)) | refine Vu (Y6 g.typeIs (VE ?_))
 show VT _ _ (setField (.ref it) 0 .none >>= _) _ _ s;refine Vu (Yq q1 q3 (by simp) ?_);show VT _ _ (newExc (.type "StopIteration") [] >>= _) _ _ _;refine Vu ?_;simp only [newExc,newTuple];refine Vu (Wo ?_ (by size_fits));refine Vu (m:=Yr _ _) (YW (a:=WV) (by first | rfl | (simp only [Yr];rfl)) ?_);refine Wo ?_ (by size_fits);simp only [raiseNew];refine Vu (wpAny_handled ?_)
 first | rw [show A.in1.handled=none from calm] | rw [calm]
 refine Vu (VE (wpAny_throw ?_));refine Vu (wpAny_isInstance (T:="StopIteration") (b:=true) ⟨_,VH _ rfl,rfl⟩ isSubtype_stop ?_);exact VE (fin _ (((Yo ..).extBut.push _).push _))
theorem bb_keyIter {Q:VC->VF->Prop} (ns:(d == XT)=false) (g1:s.heap.get? d=some od) (gc:od.cls=.type "dict") (g2:od.data=.dict es ep)
 (fin:Q (.ref s.heap.objs.size) { s with heap:=s.heap.push { cls:=.type "dict_keyiterator",data:=.fields #[.ref d,.int 0 0,.int es.size 0,.int ep 0] } }):VT (Wb prog w) A (pyIter (.ref d)) Q E s:=by
 have gT:s.TypeIs (.ref d) "dict":=⟨_,g1,gc⟩;refine Zo gT F.slot_dict_iter (Wu F.slot_dict_iter gT F.entry_dict_iter ?_ (F.args_dict_iter_1 _));unfold Yb.«dict.__iter__»;refine Vu ?_;unfold Builtin.Dict.dictSlotNone;refine Vu (wpAny_notOrdered_dict gT ?_);show VT _ _ (pure (Wj d)) _ _ s;refine VE ?_;show VT _ _ (ZC d >>= _) _ _ s;unfold ZC;rw [if_neg (by rw [ns];exact VS)];refine Vu (VE ?_);refine Vu (YO g1 g2 ?_);refine Vu (Zb g1 g2 ?_);refine Vu (Wo (VE ⟨_,rfl,"dict_keyiterator",_,⟨_,VH _ rfl,rfl⟩,XW.lookup,?_⟩));simpa [XF] using fin
end
end PySem
namespace L2
open PySem PySem.Spec PyProof.Rows
theorem Inv.freeze {X:Cx} {pins:List (Vy×Xn)} {σ:St} {H:Hp} {s:VF} {a:Vy} {kvs:List (List Key×V)} {o:Xn} (I:Inv X pins σ H s) (ha:H a=some (.dT kvs)) (ho:s.heap.get? a=some o):Inv X pins σ (upd H a (.frz o (.dT kvs))) s:=by
 have ne:∀ b u,H b=some u->u≠.dT kvs->b≠a:=fun b u e d z=>by rw [z,ha] at e;exact d (VZ e).symm
 have ht:∀ b xs,H b=some (.tup xs)->upd H a (.frz o (.dT kvs)) b=some (.tup xs):=fun b xs e=>by rw [af (ne b _ e (by intro z;cases z))];exact e
 have hw:∀ c b,H b=some (.own c)->upd H a (.frz o (.dT kvs)) b=some (.own c):=fun c b e=>by rw [af (ne b _ e (by intro z;cases z))];exact e
 have st:∀ b u,H b=some u->ObjOk X.prog X.w (upd H a (.frz o (.dT kvs))) s.heap b u:=fun b u e=>(I.hok b u e).stay (fun _ _ _ q=>q) (hw b) ht;refine I.step (g':=s.gens) (d':=s.drawn) (t':=s.toks) (ch:=[]) (fun _ z=>nomatch z) (fun b ob _ _ _ e _=>e) (fun b ob _ _ _ e _=>⟨ob.slots,e⟩) (fun b ob _ e n=>?_) (fun b ob _ e=>⟨ob,e⟩) ht (fun b ob u e=>?_) (fun b ps e=>⟨#[],?_⟩) (fun m hm=>hm) (fun b u e=>?_) I.bare
 · rw [af (fun z=>by rw [z,ha] at n;cases n)];exact n
 · rw [af (ne b _ e (by intro z;cases z))];exact e
 · rw [af (ne b _ e (by intro z;cases z)),e];simp
 · by_cases hb:b=a
   · subst hb;rw [ad] at e;cases e;exact ⟨ho,st _ _ ha⟩
   · rw [af hb] at e;exact st b u e
def ItD (a:Vy) (o:Xn):It:=⟨fun i H=>∃ kvs p,H a=some (.frz o (.dT kvs))/\kvs[i]?=some p,fun i H x H'=>H'=H/\∀ kvs,H a=some (.frz o (.dT kvs))->∃ p b,kvs[i]?=some p/\x=.ref b/\H b=some (.tup (p.1.map kV)),fun i H=>∃ kvs,H a=some (.frz o (.dT kvs))/\kvs.length=i⟩
theorem sI {P:V3} {w:Wg} {K:VB} {tg:WC} (a it:Vy) (o:Xn) (es:Array Zi) (ep:Nat) (hd:o.data=.dict es ep):Turn P w K tg (ItD a o) [it] it (fun i h=>h.IsKeyIter it a i es.size ep) where
 mem:=by simp
 obj:=fun i h st b hb=>by
  have e:b=it:=by simpa using hb
  subst e;obtain ⟨ob,e,c,d⟩:=st;exact ⟨ob,e,fun v z=>by rw [d] at z;cases z⟩
 keep:=fun i h h' st k=>st.at fun ob e=>k it (by simp) ob e
 item:=by
  intro X hP hw hK hc i pins s σ H E I hf st hg;subst hP hw hK;obtain ⟨kvs,p,hq,hx⟩:=hg;obtain ⟨e0,z,y,xs,r,o',Ez,EA,h1,h2,h3,h4,h5⟩:=(show ObjOk X.prog X.w H s.heap a (.frz o (.dT kvs)) from I.hok a _ hq);rw [e0] at h1;cases h1;rw [hd] at h3;cases h3;obtain ⟨q',DV,hr⟩:=BB.P2.get r hx;have KW:es[i]?=some (entryOfKey (ZV (aV X.prog X.w)) q'):=by rw [<- X2,h4,VM,DV];rfl
  obtain ⟨f0,f1,f2,f3,f4,f5⟩:=hf it (by simp);refine bb_keyNext st e0 hd KW fun h' AG sb=>?_;have I1:Inv X pins σ H { s with heap:=h' }:=I.turned (t':=s.toks) (fun b ob hb e=>(sb.2 b hb).trans e) f0 f1 f3 f4 f5;obtain ⟨ob,e,c,d⟩:=id AG;refine ⟨_,rfl,iN (s:={ s with heap:=h' }) e c d (by decide) ⟨.ref q'.2.1,H,I1,rfl,⟨rfl,fun Q9 Br=>?_⟩,AG,fun b hb=>(hf b hb).1⟩⟩;rw [hq] at Br;cases Br;exact ⟨p,q'.2.1,hx,rfl,hr.2.1⟩
 done:=by
  intro X hP hw hK hc i pins s σ H E I hf st hg;subst hP hw hK;obtain ⟨kvs,hq,hx⟩:=hg;obtain ⟨e0,z,y,xs,r,o',Ez,EA,h1,h2,h3,h4,h5⟩:=(show ObjOk X.prog X.w H s.heap a (.frz o (.dT kvs)) from I.hok a _ hq);rw [e0] at h1;cases h1;rw [hd] at h3;cases h3;have hl:=VU r
  have AR:es.size=xs.length:=by
   have:=congrArg Y5 h4;rw [Vt,V7] at this;exact this
  obtain ⟨f0,f1,f2,f3,f4,f5⟩:=hf it (by simp);exact bb_keyEnd (I.ok.hd hc) st e0 hd (by omega) fun h' eb=>⟨rfl,I.turned (t':=s.toks) (fun b ob hb e=>eb b ob hb e) f0 f1 f3 f4 f5⟩
 self:=fun _ _ _ _ _ st h=>wpAny_pyIter_keyiter st h
section
variable {X:Cx} {e:WC} {te:TE}
def yD (tl:TE):TI:=fun σ H R=>tl σ H fun x H1=>∃ a kvs,x=.ref a/\H1 a=some (.dT kvs)/\∀ o,R (ItD a o) (upd H1 a (.frz o (.dT kvs)))
theorem vJ {tg:WC} (he:PE X e te):PI X tg e (yD te):=by
 intro pins s σ H R I h;refine thn (he pins s σ H _ I h) fun v s1 ⟨x,H1,I1,r1,a,kvs,ex,ha,q⟩=>?_;subst ex;cases r1;obtain ⟨z,y,xs,r,o,es,ep,h1,h2,h3,h4,h5⟩:=(show ObjOk X.prog X.w H1 s1.heap a (.dT kvs) from I1.hok a _ ha);have I2:=I1.freeze ha h1;refine bb_keyIter y h1 h2.1 h3 ?_;refine ⟨s1.heap.objs.size,[s1.heap.objs.size],_,_,upd H1 a (.frz o (.dT kvs)),rfl,I2.kept (t':=s1.toks) fun b ob e=>VA _ e,sI a _ o es ep h3,⟨_,VH _ rfl,rfl,rfl⟩,fun b hb=>?_,q o⟩;have e:b=s1.heap.objs.size:=by simpa using hb
 subst e;exact I2.fpOk (VG _) (I2.hok.fresh (VG _))
theorem uf {a:Vy} {o:Xn} {kvs:List (List Key×V)} {g:TG} {tb:TS} {D:Ends} {σ:St} {H:Hp} (Pv:Nat->St->Hp->Prop) (h0:Pv 0 σ H) (hl:∀ i σ H,i<=kvs.length->Pv i σ H->H a=some (.frz o (.dT kvs)))
 (hs:∀ i p b σ H,kvs[i]?=some p->H b=some (.tup (p.1.map kV))->Pv i σ H->g (.ref b) σ H fun zU H2=>tb { D with nx:=Pv (i+1),ct:=Pv (i+1),bk:=D.nx } zU H2) (hd:∀ σ H,Pv kvs.length σ H->D.nx σ H) :
 ∃ W:Nat->Nat->St->Hp->Prop,(∃ m,W 0 m σ H)/\∀ i m σ H,W i m σ H →
   ((ItD a o).stop i H/\D.nx σ H)∨((ItD a o).go i H/\∃ N:St->Hp->Prop,(∀ zJ H',N zJ H'->∃ m',m'<m/\W (i+1) m' zJ H')/\∀ x H',(ItD a o).yld i H x H'->g x σ H' fun zU H2=>tb { D with nx:=N,ct:=N,bk:=D.nx } zU H2):=by
 refine ⟨fun i m σ H=>m=kvs.length - i/\i<=kvs.length/\Pv i σ H,⟨kvs.length,by simp,Wc _,h0⟩,?_⟩;rintro i m σ H ⟨rfl,hi,p⟩;have q:=hl i σ H hi p;by_cases zV:i<kvs.length
 · refine .inr ⟨⟨kvs,kvs[i],q,Vw zV⟩,Pv (i+1),fun zJ H' p'=>⟨kvs.length - (i+1),by omega,rfl,zV,p'⟩,fun x H' y=>?_⟩;obtain ⟨e,y⟩:=y;subst e;obtain ⟨p1,b,e1,rfl,e2⟩:=y kvs q;exact hs i p1 b σ _ e1 e2 p
 · have e:i=kvs.length:=by omega
   subst e;exact .inl ⟨⟨kvs,q,rfl⟩,hd σ H p⟩
end
end L2
namespace BB
open PySem L2
inductive Top where
 | nm (n:V2) (m:Nat)
 | th (t:Th)
def bl:List Top->List Th
 | []=>[]
 | .nm n m::S=>.knot n ((bl S).take m)::(bl S).drop m
 | .th t::S=>t::bl S
def TopsOk:List Top->Prop
 | []=>True
 | .nm _ m::S=>m<=(bl S).length/\TopsOk S
 | .th _::S=>TopsOk S
theorem TopsOk.drop:∀ {l:List Top} (i:Nat),TopsOk l->TopsOk (l.drop i)
 | l,0,h=>by rw [XC];exact h
 | [],i+1,h=>by rw [List.drop_nil];exact h
 | .nm n m::S,i+1,h=>by
   rw [TopsOk] at h;rw [List.drop_succ_cons];exact TopsOk.drop i h.2
 | .th t::S,i+1,h=>by
   rw [TopsOk] at h;rw [List.drop_succ_cons];exact TopsOk.drop i h
theorem qA:∀ l:List Top,(bl l).length<=l.length
 | []=>VG _
 | .nm n m::S=>by
   have:=qA S;rw [bl,VY,VY,Wz];omega
 | .th t::S=>by
   have:=qA S;rw [bl,VY,VY];omega
def TopAt (H:Hp):Top->Vy->Prop
 | .nm n m,a=>∃ ta,H a=some (.tup [.ref ta,.int (m:Nat)])/\n≠q/\H ta=some (.tup [.str n])
 | .th t,a=>∃ ta,H a=some (.tup [.ref ta,.int 0])/\At H t ta
theorem TopAt.mono {H H':Hp} (k:KT H H'):∀ {x:Top} {a:Vy},TopAt H x a->TopAt H' x a
 | .nm n m,a,h=>by
   obtain ⟨ta,h1,h2,h3⟩:=h;exact ⟨ta,k _ _ h1,h2,k _ _ h3⟩
 | .th t,a,h=>by
   obtain ⟨ta,h1,h2⟩:=h;exact ⟨ta,k _ _ h1,h2.mono k⟩
theorem nC {H H':Hp} (k:KT H H') {l:List Top} {as:List Vy} (h:WD (TopAt H) l as):WD (TopAt H') l as:=P2.mp (fun _ _ e=>TopAt.mono k e) h
theorem At.same {H:Hp} {t:Th} {a p:Vy} {xs:List V} (h:At H t a) (ha:H a=some (.tup xs)) (hp:H p=some (.tup xs)):At H t p:=by
 cases t with
 | knot n ks =>
   rw [At] at h ⊢;obtain ⟨h0,as,h1,h2⟩:=h;rw [ha] at h1;exact ⟨h0,as,by rw [hp,<- h1],h2⟩
 | call s k =>
   rw [At] at h ⊢;rw [hp,<- ha,h]
mutual
def Th.fill (f:Int->Int->Th):Th->Th
 | .knot n ks=>.knot n (fills f ks)
 | .call s k=>f s k
def fills (f:Int->Int->Th):List Th->List Th
 | []=>[]
 | t::ts=>t.fill f::fills f ts
end
theorem ju (f:Int->Int->Th):∀ ts:List Th,(fills f ts).length=ts.length
 | []=>by rw [fills]
 | t::ts=>by rw [fills,VY,VY,ju f ts]
mutual
theorem sg:∀ t:Th,t.fill Th.call=t
 | .knot n ks=>by rw [Th.fill,pX ks]
 | .call s k=>by rw [Th.fill]
theorem pX:∀ ts:List Th,fills Th.call ts=ts
 | []=>by rw [fills]
 | t::ts=>by rw [fills,sg t,pX ts]
end
def fj (f:Int->Int->Th):Th->Top
 | .knot n ks=>.nm n ks.length
 | .call s k=>.th (f s k)
theorem lF (f:Int->Int->Th):∀ (n:Nat) (ts:List Th),au ts<=n->∀ S,bl ((walks ts).map (fj f)++S)=fills f ts++bl S/\(TopsOk S->TopsOk ((walks ts).map (fj f)++S))
 | _,[],_,S=>by rw [walks,fills];exact ⟨rfl,fun h=>h⟩
 | 0,t::ts,hn,S=>by
   have:=t.size_pos;rw [au] at hn;omega
 | n+1,t::ts,hn,S=>by
   have hs:=t.size_eq;rw [au] at hn;have h2:=lF f n ts (by omega) S;have e:(walks (t::ts)).map (fj f)++S=fj f t::((walks t.kids).map (fj f)++((walks ts).map (fj f)++S)):=by rw [walks,t.walk_eq];simp
   have h1:=lF f n t.kids (by omega) ((walks ts).map (fj f)++S);rw [e];cases t with
   | knot nm ks =>
     simp only [Th.kids] at h1 ⊢;refine ⟨?_,fun hS=>?_⟩
     · show bl (.nm nm ks.length::_)=_;rw [bl,h1.1,h2.1,<- ju f ks,List.take_left,List.drop_left,fills,Th.fill];rfl
     · show TopsOk (.nm nm ks.length::_);rw [TopsOk];refine ⟨?_,h1.2 (h2.2 hS)⟩;rw [h1.1,VO,ju];exact Xq _ _
   | call s k =>
     simp only [Th.kids,walks,Xj,Y0] at h1 ⊢;refine ⟨?_,fun hS=>?_⟩
     · show bl (.th (f s k)::_)=_;rw [bl,h2.1,fills,Th.fill];rfl
     · show TopsOk (.th (f s k)::_);rw [TopsOk];exact h2.2 hS
theorem vi (f:Int->Int->Th) (t:Th):bl (t.walk.map (fj f))=[t.fill f]/\TopsOk (t.walk.map (fj f)):=by
 have h:=lF f _ [t] (VG _) [];have e:walks [t]=t.walk:=by simp [walks]
 rw [e,Xf] at h;refine ⟨?_,h.2 (by rw [TopsOk];trivial)⟩;rw [h.1,fills,fills,bl];rfl
theorem vy (x:V) (xs:List V):cG (x::xs) none (some 1)=[x]:=by
 unfold cG;rw [show (some (1:Int))=some ((1:Nat):Int) from rfl,HT.sIx_nat,HT.sIx_none,VY,Zv (by omega)];rfl
theorem At.width {H:Hp} {t:Th} {a:Vy} {xs:List V} (h:At H t a) (ha:H a=some (.tup xs)):xs.length<=t.size+2:=by
 cases t with
 | knot n ks =>
   rw [At] at h;obtain ⟨_,as,h1,h2⟩:=h;rw [ha] at h1;cases h1;have:=h2.length;have:=cy ks;rw [VY,Vt,Th.size];omega
 | call s k =>
   rw [At] at h;rw [ha] at h;cases h;rw [Th.size];exact VG _
end BB
namespace PySem
open Sem (wp)
end PySem
namespace L2
open PySem PySem.Spec PyProof.Rows BB
end L2
namespace BB
open PySem L2
theorem dh {k:Nat} {A:Wn} (hr:L2.Room k A):A.units+150+2<Ys:=by
 have:=hr.un;omega
end BB
namespace BB
open PySem L2
end BB
namespace BB
open PySem L2
end BB
namespace L2
open PySem PySem.Spec PySem.SeqAt PyProof.Rows BB
open Classical in
theorem t8 {X:Cx} {pins:List (Vy×Xn)} {σ:St} {H:Hp} {s:VF} (I:Inv X pins σ H s) {ds es:List Dv} {vs ws:List V} {its zW:List VC} {A:Wn} (r1:Vals vs its) (r2:Vals ws zW) (B9:DAts H ds vs) (Au:DAts H es ws) (hu:A.units+bh ds+2<Ys) :
 ∀ j (h1:j<its.toArray.size) (h2:j<zW.toArray.size),EqAt A.in1 s its.toArray[j] zW.toArray[j] (decide (ds[j]?=es[j]?)):=by
 intro j h1 h2;have l1:its.length=ds.length:=by rw [<- r1.length,B9.length]
 have l2:zW.length=es.length:=by rw [<- r2.length,Au.length]
 have BS:j<ds.length:=by rw [<- l1];simpa using h1
 have Ca:j<es.length:=by rw [<- l2];simpa using h2
 have e1:ds[j]?=some ds[j]:=Vw BS;have e2:es[j]?=some es[j]:=Vw Ca;obtain ⟨x',C7,dx⟩:=B9.at e1;obtain ⟨y',B5,dy⟩:=Au.at e2;obtain ⟨u',Cb,Fj⟩:=r1.get C7;obtain ⟨v',By,Dr⟩:=r2.get B5;have e3:decide (ds[j]?=es[j]?)=decide (ds[j]=es[j]):=by rw [e1,e2];simp
 have e4:its.toArray[j]=u':=by
  rw [Vw (by rw [l1];exact BS)] at Cb;simpa using Cb
 have e5:zW.toArray[j]=v':=by
  rw [Vw (by rw [l2];exact Ca)] at By;simpa using By
 rw [e3,e4,e5];have q2:=d6 e1;refine iJ I _ ds[j] es[j] (VG _) x' y' u' v' A.in1 dx dy Fj Dr ?_;show A.units+1+_<Ys;omega
open Classical in
theorem qH {ds es:List Dv} (hl:ds.length=es.length):(WT ds.length).all (fun j=>decide (ds[j]?=es[j]?))=decide (ds=es):=by
 by_cases h:ds=es
 · subst h;rw [decide_eq_true rfl];simp
 · rw [decide_eq_false h];refine X9.mpr fun z=>h (ZN fun j=>?_);by_cases hj:j<ds.length
   · exact of_decide_eq_true (Xs.mp z j (YG.mpr hj))
   · rw [W5 (by omega),W5 (by omega)]
def zc (K:VB) (B:Nat):R2:=fun x y H Q=>∃ a b vs ws ds es,x=.ref a/\y=.ref b/\SqT K H a vs/\SqT K H b ws/\DAts H ds vs/\DAts H es ws/\bh ds<=B/\∀ b:Bool,(b=true↔ds≠es)->Q (.bl b) H
open Classical in
theorem qP {X:Cx} {B:Nat} (hu:X.A.units+B+2<Ys):OpR X (Xp .NotEq) (zc X.K B):=by
 intro pins s σ H x y v u Q I rx ry h;obtain ⟨a,b,vs,ws,ds,es,rfl,rfl,ha,hb,B9,Au,hB,q⟩:=h;cases rx;cases ry;obtain ⟨its,r1,p1,_⟩:=I.tuple ha;obtain ⟨zW,r2,p2,_⟩:=I.tuple hb;have l1:its.length=ds.length:=by rw [<- r1.length,B9.length]
 have l2:zW.length=es.length:=by rw [<- r2.length,Au.length]
 refine RcNeAt.tuples (show s.heap.IsTuple a its.toArray from p1) (show s.heap.IsTuple b zW.toArray from p2) (by omega) (t8 I r1 r2 B9 Au (by omega)) X.prog X.w X.xe _ ?_
 have e:((WT (min its.toArray.size zW.toArray.size)).all (fun j=>decide (ds[j]?=es[j]?)) && its.toArray.size == zW.toArray.size)=decide (ds=es):=by
  rw [VL,VL,l1,l2];by_cases hl:ds.length=es.length
  · rw [<- hl,Nat.min_self,qH hl];simp
  · rw [decide_eq_false (fun z=>hl (by rw [z]))];simp [hl]
 refine ⟨.bl (!decide (ds=es)),H,I,by rw [e];rfl,q _ ?_⟩;simp
end L2
namespace BB
open PySem L2
end BB
namespace BB
open PySem L2
end BB
namespace L2
open PySem PySem.Spec PySem.SeqAt PyProof.Rows BB
end L2
namespace BB
open PySem L2
end BB
namespace BB
open PySem L2
end BB
namespace L2
open PySem PySem.Spec PyProof.Rows BB
end L2
namespace BB
open PySem L2
end BB
namespace BB
open PySem L2
end BB
namespace L2
open PySem PySem.Spec PySem.Calls PyProof.Rows PySem.W
section
variable {prog:V3} {w:Wg} {A:Wn} {E:VC->VF->Prop} {h:WR} {g:Array GenState} {d:Drawn} {t:Nat} {os:ZQ} {a C:Vy} {o:Xn} {K:Frag}
end
end L2
namespace L2
open PySem PySem.Spec PySem.Calls PyProof.Rows PySem.W
section
variable {P:V3} {w:Wg} {K:VB} {mg:V2->Option VC} {base:WR} {N:List V2} {qual:V2} {scope:Zf} {f:Vy} {cd:VC} {A:Wn} {outer:List Env} {s:VF} {H:Hp} {E:XK}
end
end L2
namespace L2
open PySem PySem.Spec PySem.Calls PyProof.Rows PySem.W
section
variable {X:Cx} {pins:List (Vy×Xn)} {σ:St} {H:Hp} {s:VF}
end
end L2
namespace L2
open PySem PySem.Spec PySem.Calls PyProof.Rows PySem.W
section
variable {P:V3} {w:Wg} {K:VB} {mg:V2->Option VC} {base:WR}
end
end L2
namespace L2
open PySem PySem.Spec PySem.Calls PyProof.Rows PySem.SeqAt
end L2
namespace L2
open PySem PySem.Spec PySem.Calls PyProof.Rows
def Its (x:V2):It:=⟨fun i _=>i<x.cps.size,fun i H v H'=>H'=H/\∃ c,x.cps[i]?=some c/\v=.str ⟨#[c]⟩,fun i _=>x.cps.size=i⟩
theorem rf {P:V3} {w:Wg} {K:VB} {tg:WC} (x:V2) (t:Tok) (it:Vy):Turn P w K tg (Its x) [it] it (fun i h=>h.IsStrIter it "str_ascii_iterator" x t i) where
 mem:=by simp
 obj:=fun i h st b hb=>by
  have e:b=it:=by simpa using hb
  subst e;obtain ⟨o,e,c,d⟩:=st;exact ⟨o,e,fun v z=>by rw [d] at z;cases z⟩
 keep:=fun i h h' st k=>let ⟨o,ho,r⟩:=st;⟨o,k it (by simp) o ho,r⟩
 item:=by
  intro X hP hw hK hc i pins s σ H E I hf st hg;subst hP hw hK;obtain ⟨f0,f1,f2,f3,f4,f5⟩:=hf it (by simp);have hg:i<x.cps.size:=hg;refine wpAny_pyNext_ascii_item st (c:=x.cps[i]) (by simp [hg]) fun h' AG sb=>?_;have I1:Inv X pins σ H { s with heap:=h',toks:=s.toks+1 }:=I.turned (fun b o hb e=>(sb.2 b hb).trans e) f0 f1 f3 f4 f5;obtain ⟨o,e,c,d⟩:=id AG;exact ⟨_,rfl,iN (s:={ s with heap:=h',toks:=s.toks+1 }) e c d (by decide) ⟨.str ⟨#[x.cps[i]]⟩,H,I1,⟨_,rfl⟩,⟨rfl,_,by simp [hg],rfl⟩,AG,fun b hb=>(hf b hb).1⟩⟩
 done:=by
  intro X hP hw hK hc i pins s σ H E I hf st hg;subst hP hw hK;obtain ⟨f0,f1,f2,f3,f4,f5⟩:=hf it (by simp);have hg:x.cps.size=i:=hg;exact wpAny_pyNext_ascii_end (I.ok.hd hc) st (by simp [<- hg]) fun h' eb=>⟨rfl,I.turned (t':=s.toks) (fun b o hb e=>eb b o hb e) f0 f1 f3 f4 f5⟩
 self:=fun _ _ _ _ _ st h=>wpAny_pyIter_striter_ascii st h
theorem tL {P:V3} {w:Wg} {K:VB} {tg:WC} (x:V2) (t:Tok) (it:Vy):Turn P w K tg (Its x) [it] it (fun i h=>h.IsStrIter it "str_iterator" x t i) where
 mem:=by simp
 obj:=fun i h st b hb=>by
  have e:b=it:=by simpa using hb
  subst e;obtain ⟨o,e,c,d⟩:=st;exact ⟨o,e,fun v z=>by rw [d] at z;cases z⟩
 keep:=fun i h h' st k=>let ⟨o,ho,r⟩:=st;⟨o,k it (by simp) o ho,r⟩
 item:=by
  intro X hP hw hK hc i pins s σ H E I hf st hg;subst hP hw hK;obtain ⟨f0,f1,f2,f3,f4,f5⟩:=hf it (by simp);have hg:i<x.cps.size:=hg;refine wpAny_pyNext_wide_item st (c:=x.cps[i]) (by simp [hg]) fun h' AG sb=>?_;have I1:Inv X pins σ H { s with heap:=h',toks:=s.toks+1 }:=I.turned (fun b o hb e=>(sb.2 b hb).trans e) f0 f1 f3 f4 f5;obtain ⟨o,e,c,d⟩:=id AG;exact ⟨_,rfl,iN (s:={ s with heap:=h',toks:=s.toks+1 }) e c d (by decide) ⟨.str ⟨#[x.cps[i]]⟩,H,I1,⟨_,rfl⟩,⟨rfl,_,by simp [hg],rfl⟩,AG,fun b hb=>(hf b hb).1⟩⟩
 done:=by
  intro X hP hw hK hc i pins s σ H E I hf st hg;subst hP hw hK;obtain ⟨f0,f1,f2,f3,f4,f5⟩:=hf it (by simp);have hg:x.cps.size=i:=hg;exact wpAny_pyNext_wide_end (I.ok.hd hc) st (by simp [<- hg]) fun h' eb=>⟨rfl,I.turned (t':=s.toks) (fun b o hb e=>eb b o hb e) f0 f1 f3 f4 f5⟩
 self:=fun _ _ _ _ _ st h=>wpAny_pyIter_striter_wide st h
def zh (tl:TE):TI:=fun σ H R=>tl σ H fun v H1=>∃ x,v=.str x/\R (Its x) H1
theorem xX {X:Cx} {tg l:WC} {tl:TE} (hl:PE X l tl):PI X tg l (zh tl):=by
 intro pins s σ H R I h;refine thn (hl pins s σ H _ I h) fun v s1 ⟨y,H1,I1,r1,q1⟩=>?_;obtain ⟨x,rfl,q⟩:=q1;obtain ⟨t,rfl⟩:=r1
 have fp:∀ b∈[s1.heap.objs.size],iR X pins H1 b:=fun b hb=>by
  have e:b=s1.heap.objs.size:=by simpa using hb
  subst e;exact I1.fpOk (VG _) (I1.hok.fresh (VG _))
 cases ha:x.cps.all (·<128)
 · refine wpAny_pyIter_wide ha ?_;exact ⟨s1.heap.objs.size,[s1.heap.objs.size],_,_,H1,rfl,I1.kept (t':=s1.toks) fun b o e=>VA _ e,tL x t _,⟨_,VH _ rfl,rfl,rfl⟩,fp,q⟩
 · refine wpAny_pyIter_ascii ha ?_;exact ⟨s1.heap.objs.size,[s1.heap.objs.size],_,_,H1,rfl,I1.kept (t':=s1.toks) fun b o e=>VA _ e,rf x t _,⟨_,VH _ rfl,rfl,rfl⟩,fp,q⟩
end L2
namespace BB
open PySem
def dn (zs:List V2):Nat->Nat
 | 0=>0
 | i+1=>if zs.getD i default∈zs.take i then dn zs i else dn zs i+1
theorem uA (zs:List V2):∀ i,dn zs i<=i
 | 0=>VG _
 | i+1=>by
   have:=uA zs i;rw [dn];split <;> omega
theorem take_succ_get {zs:List V2} {i:Nat} (h:i<zs.length):zs.take (i+1)=zs.take i++[zs.getD i default]:=by
 rw [List.take_succ_eq_append_getElem h];congr 2;simp [List.getD,h]
theorem o8 (zs:List V2):∀ i,i<=zs.length->(dn zs i=i↔(zs.take i).Nodup)
 | 0,_=>by simp [dn]
 | i+1,h=>by
   have ih:=o8 zs i (by omega);have hle:=uA zs i;rw [take_succ_get (by omega),dn,Yz];by_cases hm:zs.getD i default∈zs.take i
   · rw [if_pos hm];constructor
     · intro z;omega
     · intro z;exact absurd rfl (z.2.2 _ hm _ (VJ.mpr rfl))
   · rw [if_neg hm];constructor
     · intro z;refine ⟨ih.mp (by omega),WG.mpr ⟨by simp,YF⟩,fun a ha b hb=>?_⟩;rw [VJ.mp hb];rintro rfl;exact hm ha
     · intro z;have:=ih.mpr z.1;omega
end BB
namespace L2
open PySem PySem.Spec PySem.Calls PyProof.Rows BB
section
variable {prog:V3} {w:Wg} {A:Wn} {R:Result->VF->Prop}
theorem nN {l I S:Vy} {items:Array VC} {zs:List V2} (hh:A.in1.handled=none) (Al:l≠I) (KY:S≠I) (KZ:S≠l) (hi:∀ (i:Nat) (v:VC),items[i]?=some v->∃ t,v=.str (zs.getD i default) t) (hlen:zs.length=items.size) (hb:items.size+1<scanBound) :
 ∀ (k i:Nat) (s:VF),items.size - i=k->i<=items.size->s.heap.IsListIter I l i->s.heap.IsList l items->s.heap.SetOf (strKind prog w) S (fun x=>decide (x∈zs.take i)) (dn zs i) →
   (∀ h' tk,(∀ b o,b≠S->b≠I->s.heap.get? b=some o->h'.get? b=some o)->h'.SetOf (strKind prog w) S (fun x=>decide (x∈zs)) (dn zs zs.length)->R (.ok (.ret .none)) { s with heap:=h',toks:=tk }) →
   ZG (Wb prog w) A (.builtin "set.update.loop" ⟨[.ref S,.ref I],[]⟩) R s:=by
 intro k;induction k with
 | zero =>
   intro i s hk K0 BZ hl hS hR;have C6:i=items.size:=by omega
   subst C6;refine ZL PyProof.Rows.F.entry_set_update_loop ?_;rw [ZJ YS _];show VT _ A.in1 (Ym (.ref I) >>= _) _ _ s;refine Vu (wpAny_pyNext_list_end hh BZ hl (by simp) fun h' eb=>?_);show VT _ A.in1 (ret WV) _ _ _;refine VE (hR h' s.toks (fun b o _ JB e=>eb b o JB e) ?_);obtain ⟨o,es,ep,t,ho,rest⟩:=hS;rw [<- hlen,W8] at rest;exact ⟨o,es,ep,t,eb S o KY ho,rest⟩
 | succ k ih =>
   intro i s hk K0 BZ hl hS hR;have zV:i<items.size:=by omega
   refine ZL PyProof.Rows.F.entry_set_update_loop ?_;rw [ZJ YS _];show VT _ A.in1 (Ym (.ref I) >>= _) _ _ s;have CN:items[i]?=some items[i]:=by simp [zV]
   refine Vu (wpAny_pyNext_list_item BZ hl CN fun h' AG sb=>?_);obtain ⟨t,ht⟩:=hi i _ CN;rw [ht];have Bi:h'.IsList l items:=let ⟨o,e,r⟩:=hl;⟨o,(sb.2 l Al).trans e,r⟩
   have K1:h'.SetOf (strKind prog w) S (fun x=>decide (x∈zs.take i)) (dn zs i):=by
    obtain ⟨o,es,ep,tb,ho,rest⟩:=hS;exact ⟨o,es,ep,tb,(sb.2 S KY).trans ho,rest⟩
   show VT _ A.in1 (holding [Value.str (zs.getD i default) t] (setAdd S (.str (zs.getD i default) t)) >>= _) _ _ _;refine Vu (XH ?_);unfold setAdd;refine XH ?_;refine Vu ((strKind prog w).pyHash (k:=zs.getD i default) (strKind_is _ _ _ _) ?_);have Hh:dn zs i+1<scanBound:=by have:=uA zs i;omega
   refine wpAny_setAddHashed_of (knd:=strKind prog w) (strKind_is _ _ _ _) rfl K1 Hh fun h2 C5 Ra=>?_
   have Rb:h2.SetOf (strKind prog w) S (fun x=>decide (x∈zs.take (i+1))) (dn zs (i+1)):=by
    refine PyProof.Rows.SetOf_congr Ra (fun x=>?_) ?_
    · rw [take_succ_get (by omega)];simp
    · rw [dn];by_cases hm:zs.getD i default∈zs.take i
      · rw [if_pos hm,if_pos (by simpa using hm)]
      · rw [if_neg hm,if_neg (by simpa using hm)]
   have E8:h2.IsListIter I l (i+1):=let ⟨o,e,r⟩:=AG;⟨o,(C5.2 I (Y9 KY)).trans e,r⟩
   have AR:h2.IsList l items:=let ⟨o,e,r⟩:=Bi;⟨o,(C5.2 l (Y9 KZ)).trans e,r⟩
   refine VE ⟨plainId_quiet YS _,ih (i+1) _ (by omega) zV E8 AR Rb fun h4 tk k4 S4=>?_⟩;exact hR h4 tk (fun b o OF JB e=>k4 b o OF JB ((C5.2 b OF).trans ((sb.2 b JB).trans e))) S4
end
end L2
namespace PySem
section
variable {prog:V3} {w:Wg} {A:Wn} {E:VC->VF->Prop} {s:VF}
set_option maxHeartbeats 3200000 in
theorem bb_set_strs {l:Vy} {items:Array VC} {zs:List V2} {Q:VC->VF->Prop} (hh:A.handled=none) (hl:s.heap.IsList l items) (hi:∀ (i:Nat) (v:VC),items[i]?=some v->∃ t,v=.str (zs.getD i default) t) (hlen:zs.length=items.size) (hb:items.size+1<scanBound)
 (h:∀ (h':WR) (tk:Nat),h'.SetOf (strKind prog w) s.heap.objs.size (fun x=>decide (x∈zs)) (BB.dn zs zs.length)->(∀ b o,b<s.heap.objs.size->s.heap.get? b=some o->h'.get? b=some o)->Q (.ref s.heap.objs.size) { s with heap:=h',toks:=tk }) :
 VT (Wb prog w) A (call (.type "set") [.ref l]) Q E s:=by
 obtain ⟨c,tl,Rc⟩:=Y2.mro;have OG:=Y2.made;have KP:=Y2.sub;have h1:=Y2.notType;have h2:=Y2.canCreate;have UO:=F.typeCall_set_1 (.ref l);refine wpAny_call (codeAny_of_tree ?_);show VT _ _ (callAny (.type "set") _) _ _ _;refine VE ⟨Code.quiet_builtin _ (by decide +kernel),ZL F.entry_type_call ?_⟩;rw [Around.under_plain (weight_type_call_type "set" [.ref l] []) rfl]
 repeat (any_goals (first | assumption | wp_step))
 refine Zr (code_set_new_1 (.ref l) (E:=E) (Q₁:=fun obj zK=>∃ led:Bool,obj=.ref s.heap.objs.size/\zK={ s with heap:=s.heap.push { cls:=.type "set",dict:=none,data:=.set #[] 0 (.fresh 0 0 led) } }) fun led=>⟨led,rfl,rfl⟩) fun r zK hr=>?_;cases r with
 | error e=>exact hr
 | ok fl =>
   cases fl with
   | next=>exact hr.elim
   | brk=>exact hr.elim
   | cont=>exact hr.elim
   | ret obj =>
     obtain ⟨led,rfl,rfl⟩:=hr;have hS:(s.heap.push { cls:=.type "set",dict:=none,data:=.set #[] 0 (.fresh 0 0 led) }).get? s.heap.objs.size=some { cls:=.type "set",dict:=none,data:=.set #[] 0 (.fresh 0 0 led) }:=VH _ rfl;have hT:Shared.TypeIs { s with heap:=s.heap.push { cls:=.type "set",dict:=none,data:=.set #[] 0 (.fresh 0 0 led) } } (.ref s.heap.objs.size) "set":=⟨_,hS,rfl⟩;have UP:=Y2.init.lookup;have OB:=Y2.init.bind (.ref s.heap.objs.size)
     repeat (any_goals (first | assumption | wp_step))
     refine Zr (codeAny_call_builtin (R:=wants (fun r AA=>r=.none/\∃ h' tk,AA={ s with heap:=h',toks:=tk }/\h'.SetOf (strKind prog w) s.heap.objs.size (fun x=>decide (x∈zs)) (BB.dn zs zs.length) ∧
      (∀ b o,b<s.heap.objs.size->s.heap.get? b=some o->h'.get? b=some o)) E) Y2.init.plain F.entry_set_init (check_set_init_1 hT ?_)) fun K2 AA BO=>?_
     · obtain ⟨ol,OH,Aw,nl,EL⟩:=hl;obtain ⟨Rf,Hi,OI,Fl⟩:=ol;simp only at Aw EL;subst Aw;subst EL;have OJ:l<s.heap.objs.size:=VX OH;have K3:(s.heap.push { cls:=.type "set",dict:=none,data:=.set #[] 0 (.fresh 0 0 led) }).get? l=some { cls:=.type "list",dict:=Hi,data:=.seq items nl,slots:=Fl }:=VA _ OH;have Rg:=F.sub_list_set;have Rh:=F.sub_list_frozenset;have Ri:(Value.type "list" == Value.type "dict")=false:=by decide
       have BM:(s.heap.push { cls:=.type "set",dict:=none,data:=.set #[] 0 (.fresh 0 0 led) }).IsList l items:=⟨_,K3,rfl,nl,rfl⟩;unfold Yb.«set.__init__» noKeywords Builtin.Frozenset.updateFrom;generalize Rj:pyIter=PI
       wp_walk
       subst Rj;refine Zp BM ?_;refine Vu (wpAny_runValue ?_);have hsz:(s.heap.push { cls:=.type "set",dict:=none,data:=.set #[] 0 (.fresh 0 0 led) }).objs.size=s.heap.objs.size+1:=WU ..;refine L2.nN (l:=l) (zs:=zs) (items:=items) (by simp [hh]) (by rw [hsz];exact Wm (Nat.lt_succ_of_lt OJ)) (by rw [hsz];exact Wm (Nat.lt_succ_self _)) (YM OJ) hi hlen hb (items.size - 0) 0 _ (by omega) (Wc _) ⟨_,VH _ rfl,rfl,rfl⟩ (BM.push _) ?_ ?_
       · have CN:((s.heap.push { cls:=.type "set",dict:=none,data:=.set #[] 0 (.fresh 0 0 led) }).push { cls:=.type "list_iterator",data:=.fields #[.ref l,.int 0 0] }).get? s.heap.objs.size=some { cls:=.type "set",dict:=none,data:=.set #[] 0 (.fresh 0 0 led) }:=VA _ hS;exact PyProof.Rows.SetOf_congr ((PyProof.Rows.setObjOf_fresh (knd:=strKind prog w) led).setOf CN (by unfold scanBound;omega)) (fun x=>by simp) rfl
       · intro h' tk kk S';show VT _ _ _ _ _ _;refine VE ?_;show VT _ _ (ret WV) _ _ _;refine VE ⟨rfl,h',tk,rfl,S',fun b o AU e=>?_⟩;exact kk b o (Wm AU) (by rw [hsz];exact Wm (Nat.lt_succ_of_lt AU)) (VA _ (VA _ e))
     · cases K2 with
       | error e=>exact BO
       | ok Hj =>
         cases Hj with
         | ret r =>
           obtain ⟨rfl,h',tk,rfl,K1,Br⟩:=BO
           repeat (any_goals (first | assumption | wp_step))
           exact h _ _ K1 Br
         | next=>exact BO.elim
         | brk=>exact BO.elim
         | cont=>exact BO.elim
end
end PySem
namespace L2
open PySem PySem.Spec PySem.Calls PyProof.Rows BB
def vG (P:V3) (w:Wg) (a:Vy) (zs:List V2) (h:WR):Prop:=h.SetOf (strKind P w) a (fun x=>decide (x∈zs)) (dn zs zs.length)
theorem tO {X:Cx} (hc:X.calm=true):dw X (.type "set") (fun xs H Q=>∃ p zs,xs=[.ref p]/\SqL X.K H p (zs.map V.str)/\zs.length<=4000/\∀ a,H a=none->Q (.ref a) (upd H a (.ext (vG X.prog X.w a zs)))):=by
 intro pins s σ H xs us Q I r h;obtain ⟨p,zs,rfl,hq,hz,q⟩:=h;obtain ⟨u,rfl,rx⟩:=vals1 r;cases rx;obtain ⟨its,r',pl,_⟩:=I.list hq;have hlen:=r'.length;rw [Vt] at hlen;refine bb_set_strs (I.ok.hd hc) pl.isList (zs:=zs) (fun i v hv=>?_) (by simpa using hlen) (by rw [VL,<- hlen];show zs.length+1<4096;omega) fun h' tk hS kp=>?_
 · have By:its[i]?=some v:=by simpa using hv
   have BH:i<its.length:=(Vz.mp By).1
   have Bs:(zs.map V.str)[i]?=some (.str (zs.getD i default)):=by
    rw [VM,List.getD,Vw (by omega)];rfl
   obtain ⟨u,hu,ru⟩:=r'.get Bs;rw [By] at hu;cases hu;exact ru
 · have hk:∀ b o,s.heap.get? b=some o->h'.get? b=some o:=fun b o e=>kp b o (VX e) e;refine ⟨.ref s.heap.objs.size,_,I.laid (t':=tk) (o:=.ext (vG X.prog X.w s.heap.objs.size zs)) hk (VG _) ?_,rfl,q _ (I.hok.fresh (VG _))⟩;refine ⟨hS,?_,fun g1 g2 gs gk=>?_⟩
   · obtain ⟨o,_,_,_,ho,_⟩:=hS;exact ⟨o,ho⟩
   · obtain ⟨o,es,ep,t,ho,rest⟩:=gs;exact ⟨o,es,ep,t,gk o ho,rest⟩
theorem tu {X:Cx}:dw X (.builtin "len") (fun xs H Q=>∃ a zs,xs=[.ref a]/\H a=some (.ext (vG X.prog X.w a zs))/\Q (.int (dn zs zs.length)) H):=by
 intro pins s σ H xs us Q I r h;obtain ⟨a,zs,rfl,ha,q⟩:=h;obtain ⟨u,rfl,rx⟩:=vals1 r;cases rx;obtain ⟨⟨o,es,ep,t,ho,hex,hd,_,_,hb,hf,hn⟩,_⟩:=(show ObjOk X.prog X.w H s.heap a (.ext (vG X.prog X.w a zs)) from I.hok a _ ha);have AU:es.size<4096:=hb;refine call_len_set ho hex hd hf (by omega) ?_;exact ⟨.int es.size,H,I.tok _,⟨_,rfl⟩,by rw [hn];exact q⟩
end L2
namespace L2
open PySem PySem.Spec PySem.Calls PyProof.Rows BB
section
variable {X:Cx}
def xl:R2:=fun x y H Q=>∃ i j,x=.str i/\y=.str j/\Q (.bl (!decide (j.cps.toList<i.cps.toList))) H
theorem mY:OpR X (Xp .LtE) xl:=by
 intro pins s σ H x y v u Q I rx ry h;obtain ⟨i,j,rfl,rfl,q⟩:=h;obtain ⟨t,rfl⟩:=rx;obtain ⟨t',rfl⟩:=ry;exact PySem.P.le_str ⟨.bl _,H,I,rfl,q⟩
def zn (K:VB) (tl:TE):TI:=fun σ H R=>tl σ H fun x H1=>∃ a,x=.ref a/\(((∃ xs,SqL K H1 a xs)/\R (Itl K a) H1)∨((∃ xs,SqT K H1 a xs)/\R (Itt K a) H1))
theorem xA {tg l:WC} {tl:TE} (hl:PE X l tl):PI X tg l (zn X.K tl):=by
 intro pins s σ H R I h;refine thn (hl pins s σ H _ I h) fun v s1 ⟨x,H1,I1,r1,q1⟩=>?_;obtain ⟨a,e,q⟩:=q1;subst e;cases r1
 have fp:∀ b∈[s1.heap.objs.size],iR X pins H1 b:=fun b hb=>by
  have e:b=s1.heap.objs.size:=by simpa using hb
  subst e;exact I1.fpOk (VG _) (I1.hok.fresh (VG _))
 rcases q with ⟨⟨xs,hq⟩,q⟩ | ⟨⟨xs,hq⟩,q⟩
 · obtain ⟨its,rv,p,hz⟩:=I1.list hq;refine Zp p.isList ?_;exact ⟨s1.heap.objs.size,[s1.heap.objs.size],_,_,H1,rfl,I1.kept (t':=s1.toks) fun b o e=>VA _ e,nB a _,⟨_,VH _ rfl,rfl,rfl⟩,fp,q⟩
 · obtain ⟨its,rv,p,hz⟩:=I1.tuple hq;refine X6 (show s1.heap.IsTuple a its.toArray from p) ?_;exact ⟨s1.heap.objs.size,[s1.heap.objs.size],_,_,H1,rfl,I1.kept (t':=s1.toks) fun b o e=>VA _ e,kX a _,⟨_,VH _ rfl,rfl,rfl⟩,fp,q⟩
end
end L2
namespace BB
open PySem L2
theorem re {js:List (Option Nat)} {g:TG} {tt:TT} {te:TE} {σ:St} {H:Hp} {x:V2} {fin:Vy->Hp->Prop} (f:Nat->Bool) (hz:x.cps.size<=100000)
 (Hk:∀ c H1 (Q:VK) (W':Hp->Prop),c∈x.cps.toList->Q (.bl (f c)) H1->g (.str ⟨#[c]⟩) (cσ js σ) H1 fun zU H2=>tt zU H2 fun b H3=>if b=true then te zU H3 Q else W' H3)
 (AV:∀ D H',H D=none->L2.Same H H'->H' D=some (.lst ((x.cps.toList.map f).map V.bl))->fin D H') :
 ∀ D,H D=none->∃ (n:Nat) (W:Nat->Hp->Prop),W 0 (upd H D (.lst []))/\dN js g tt te σ (Its x) D n W fun H'=>fin D H':=by
 intro D hD;refine ⟨x.cps.size,fun i H'=>i<=x.cps.size/\L2.Same H H'/\H' D=some (.lst (((x.cps.toList.take i).map f).map V.bl)),⟨Wc _,ag hD _,by rw [ad];rfl⟩,?_⟩;rintro i H' ⟨hi,s1,e1⟩;by_cases zV:i<x.cps.size
 · refine .inr ⟨zV,zV,fun v H1 hy=>?_⟩;obtain ⟨rfl,c,hc,rfl⟩:=hy;have AX:x.cps.toList[i]?=some c:=by rw [X2];exact hc
   refine Hk c _ _ _ (VD AX) ⟨_,e1,?_,zV,?_,?_⟩
   · rw [Vt,Vt,Wi,V7];have:V1=16777216:=Yy;omega
   · exact aG s1 hD
   · rw [ad,take_snoc AX];simp
 · have Bg:i=x.cps.size:=by omega
   subst Bg;refine .inl ⟨rfl,AV D H' hD s1 ?_⟩;rw [e1,W0 (by rw [V7];exact VG _)]
theorem rK {α:Type} {js:List (Option Nat)} {g:TG} {tt:TT} {te:TE} {σ:St} {J:It} {H:Hp} {xs:List V} {fin:Vy->Hp->Prop} (zs:List α) (f:α->V) (hz:zs.length=xs.length) (hn:xs.length<=1000000)
 (Ff:∀ i H2,L2.Same H H2->i<xs.length->J.go i H2) (A':∀ H2,L2.Same H H2->J.stop xs.length H2) (Di:∀ (i:Nat) H2 x H3,L2.Same H H2->i<xs.length->J.yld i H2 x H3->H3=H2/\xs[i]?=some x)
 (hb:∀ (i:Nat) x z H2 (R:VK) (W':Hp->Prop),xs[i]?=some x->zs[i]?=some z->L2.Same H H2->(∀ H3,L2.Same H2 H3->R (f z) H3)->g x (cσ js σ) H2 fun zU H3=>tt zU H3 fun b H4=>if b=true then te zU H4 R else W' H4)
 (AV:∀ D H',H D=none->L2.Same H H'->H' D=some (.lst (zs.map f))->fin D H') :
 ∀ D,H D=none->∃ (n:Nat) (W:Nat->Hp->Prop),W 0 (upd H D (.lst []))/\dN js g tt te σ J D n W fun H'=>fin D H':=by
 intro D hD;refine ⟨xs.length,fun i H'=>i<=xs.length/\L2.Same H H'/\H' D=some (.lst ((zs.take i).map f)),⟨Wc _,ag hD _,by rw [ad];rfl⟩,?_⟩;rintro i H' ⟨hi,s1,e1⟩;by_cases zV:i<xs.length
 · refine .inr ⟨zV,Ff i H' s1 zV,fun v H1 hy=>?_⟩;obtain ⟨e,hx⟩:=Di i H' v H1 s1 zV hy;subst e;obtain ⟨z,Bs⟩:∃ z,zs[i]?=some z:=⟨_,Vw (by omega)⟩;refine hb i v z _ _ _ hx Bs s1 fun H3 s3=>⟨_,s3 _ _ e1,?_,zV,aG (s1.trans s3) hD,?_⟩
   · rw [Vt,Wi];have:V1=16777216:=Yy;omega
   · rw [ad,take_snoc Bs,VN];rfl
 · have Bg:i=xs.length:=by omega
   subst Bg;refine .inl ⟨A' _ s1,AV D H' hD s1 ?_⟩;rw [e1,W0 (by omega)]
theorem cN {α:Type} {K:VB} {a:Vy} {js:List (Option Nat)} {g:TG} {tt:TT} {te:TE} {σ:St} {H:Hp} {xs:List V} {fin:Vy->Hp->Prop} (zs:List α) (f:α->V) (hS:SqT K H a xs) (hz:zs.length=xs.length) (hn:xs.length<=1000000)
 (hb:∀ (i:Nat) x z H2 (R:VK) (W':Hp->Prop),xs[i]?=some x->zs[i]?=some z->L2.Same H H2->(∀ H3,L2.Same H2 H3->R (f z) H3)->g x (cσ js σ) H2 fun zU H3=>tt zU H3 fun b H4=>if b=true then te zU H4 R else W' H4)
 (AV:∀ D H',H D=none->L2.Same H H'->H' D=some (.lst (zs.map f))->fin D H') :
 ∀ D,H D=none->∃ (n:Nat) (W:Nat->Hp->Prop),W 0 (upd H D (.lst []))/\dN js g tt te σ (Itt K a) D n W fun H'=>fin D H' :=
 rK zs f hz hn (fun i H2 s hi=>⟨xs,xs[i],s.seqT hS,Vw hi⟩) (fun H2 s=>⟨xs,s.seqT hS,VG _⟩) (fun i H2 x H3 s hi hy=>⟨hy.1,hy.2 xs (s.seqT hS)⟩) hb AV
theorem cC {α:Type} {K:VB} {a:Vy} {js:List (Option Nat)} {g:TG} {tt:TT} {te:TE} {σ:St} {H:Hp} {xs:List V} {fin:Vy->Hp->Prop} (zs:List α) (f:α->V) (hS:SqL K H a xs) (hz:zs.length=xs.length) (hn:xs.length<=1000000)
 (hb:∀ (i:Nat) x z H2 (R:VK) (W':Hp->Prop),xs[i]?=some x->zs[i]?=some z->L2.Same H H2->(∀ H3,L2.Same H2 H3->R (f z) H3)->g x (cσ js σ) H2 fun zU H3=>tt zU H3 fun b H4=>if b=true then te zU H4 R else W' H4)
 (AV:∀ D H',H D=none->L2.Same H H'->H' D=some (.lst (zs.map f))->fin D H') :
 ∀ D,H D=none->∃ (n:Nat) (W:Nat->Hp->Prop),W 0 (upd H D (.lst []))/\dN js g tt te σ (Itl K a) D n W fun H'=>fin D H' :=
 rK zs f hz hn (fun i H2 s hi=>⟨xs,xs[i],s.seq hS,Vw hi⟩) (fun H2 s=>⟨xs,s.seq hS,VG _⟩) (fun i H2 x H3 s hi hy=>⟨hy.1,hy.2 xs (s.seq hS)⟩) hb AV
def low (z:V2):Bool:=z.cps.toList.all fun c=>decide (97<=c/\c<=122)
def df (z:V2):Bool:=decide (1<=z.length/\z.length<=8) && low z
theorem ui (c d:Nat):(!decide (([d]:List Nat)<[c]))=decide (c<=d):=by
 have h:(([d]:List Nat)<[c])↔d<c:=by
  constructor
  · intro h;cases h with
    | rel h=>exact h
    | cons h=>cases h
  · intro h;exact List.Lex.rel h
 by_cases hc:c<=d
 · rw [decide_eq_true hc,decide_eq_false (fun z=>by have:=h.mp z;omega)];rfl
 · rw [decide_eq_false hc,decide_eq_true (h.mpr (by omega))];rfl
end BB
namespace HT
open PySem PySem.Spec PyProof.Rows
section
variable {prog:V3} {w:Wg} {A:Wn} {E:VC->VF->Prop} {s:VF}
theorem adjust_back (n:Nat):Yh none none (-1) (n:Int)=((n:Int) - 1,-1):=rfl
theorem places_back (n:Nat):W4 ((n:Int) - 1) (-1) (-1)=n:=by
 unfold W4;have h1:¬ ((-1:Int) > 0):=by omega
 simp only [h1,if_false];by_cases h:n=0
 · subst h;decide
 · have h2:((n:Int) - 1) > -1:=by omega
   simp only [h2,if_true];rw [show (- -1:Int)=1 by decide,Int.ediv_one];omega
theorem pick_back (xs:Array VC):((WT xs.size).filterMap fun (m:Nat)=>xs[(((xs.size:Nat):Int) - 1+(m:Int) * (-1)).toNat]?).toArray=xs.toList.reverse.toArray:=by
 congr 1
 have e:∀ m∈WT xs.size,xs[(((xs.size:Nat):Int) - 1+(m:Int) * (-1)).toNat]?=xs.toList.reverse[m]?:=by
  intro m hm;have Cv:=YG.mp hm;rw [Zh (by rw [V7];exact Cv),X2,V7];congr 1;omega
 have f:∀ (l:List Nat) (f g:Nat->Option VC),(∀ m∈l,f m=g m)->l.filterMap f=l.filterMap g:=by
  intro l f g;induction l with
  | nil=>intro _;rfl
  | cons y ys ih =>
    intro h;rw [YV,YV,h y (by simp),ih (fun m hm=>h m (by simp [hm]))]
 rw [f _ _ _ e]
 have gl:∀ (ys:List VC),(WT ys.length).filterMap (fun m=>ys[m]?)=ys:=by
  intro ys;have:=pick_run ys.toArray 0 ys.length;simp only [List.filterMap_map] at this
  have e3:((fun x=>ys.toArray[x]?) ∘ fun x=>0+x)=fun m=>ys[m]?:=by
   funext m;simp
  rw [e3] at this;rw [this];simp
 have:=gl xs.toList.reverse;rw [Wy,V7] at this;exact this
theorem sliceApplied_back {sl:Vy} {n:Nat} {t:Tok} {Q:Int×Int×Nat->VF->Prop} (hs:s.heap.IsSliceOf sl .none .none (.int (-1) t))
 (h:Q ((n:Int) - 1,-1,n) s):VT (Wb prog w) A (YZ (.ref sl) (pure (n:Int))) Q E s:=by
 obtain ⟨os,Bq,B3,BF⟩:=id hs;unfold YZ Builtin.Slice.sliceFields;refine Vu (Vu (Wq Bq BF (x:=.none) rfl (Vu (Wq Bq BF (x:=.none) rfl (Vu (Wq Bq BF (x:=.int (-1) t) rfl (VE ?_)))))));refine Vu (slicePart_int ?_);show VT _ _ (if ((-1:Int) == 0)=true then _ else _) _ _ s;rw [if_neg (by decide)];refine Vu (slicePart_none (Vu (slicePart_none (Vu (VE ?_)))));show VT _ _ (match Yh none none (-1) (n:Int) with | (lo,hi)=>pure (lo,(-1:Int),W4 lo hi (-1))) _ _ s;rw [adjust_back n];show VT _ _ (pure ((n:Int) - 1,(-1:Int),W4 ((n:Int) - 1) (-1) (-1))) _ _ s;rw [places_back];exact VE h
theorem getItem_tuple_back {t sl:Vy} {items:Array VC} {tk:Tok} {Q:VC->VF->Prop} (ht:IsTup s.heap t items) (hs:s.heap.IsSliceOf sl .none .none (.int (-1) tk))
 (h:Q (.ref s.heap.objs.size) { s with heap:=s.heap.push { cls:=.type "tuple",data:=.seq items.toList.reverse.toArray } })
 (hsz:items.size<=V1):VT (Wb prog w) A (Zq (.ref t) (.ref sl)) Q E s:=by
 have AJ:sizeOk (.seq items.toList.reverse.toArray):=by
  show items.toList.reverse.toArray.size<=V1;rw [VL,Wy,V7];exact hsz
 obtain ⟨os,Bq,B3,BF⟩:=id hs;have G0:s.TypeIs (.ref sl) "slice":=⟨os,Bq,B3⟩;unfold Zq
 try with_reducible refine XH ?_
 first | refine Vu (VE ?_) | skip
 refine Vu (wpAny_sequenceKey ht.typeIs (by decide) ?_)
 refine Vu (Ww (name:=Vx "__getitem__") ht.typeIs Wl
  (Wu Wl ht.typeIs entry_tuple_getitem ?_ (args_tuple_getitem _ _)))
 show VT _ _ (Z7 (.ref t) >>= _) _ _ s;refine Vu (tupleItemsOf_ ht ?_);refine Vu (Zn G0 ?_);rw [if_pos (by decide)];refine Vu (sliceApplied_back hs ?_)
 have AY:¬ ((((items.size:Nat):Int) - 1 == 0 && (-1:Int) == 1 && items.size == items.size)=true):=by
  simp
 show VT _ _ (if (((items.size:Nat):Int) - 1 == 0 && (-1:Int) == 1 && items.size == items.size)=true then _ else _) _ _ s;rw [if_neg AY,pick_back]
 first
  | exact Vu (m:=W7 _) (Wo (VE ⟨_,rfl,VE h⟩) AJ)
  | exact Vu (m:=W7 _) (Wo (Vu (VE (VE ⟨_,rfl,VE h⟩))) AJ)
  | exact Vu (Vu (m:=W7 _) (Wo (VE (VE ⟨_,rfl,VE h⟩)) AJ))
  | exact Vu (Vu (m:=W7 _) (Wo (VE ⟨_,rfl,VE h⟩) AJ))
end
end HT
namespace L2
open PySem PySem.Spec PyProof.Rows
section
variable {X:Cx} {e:WC} {te:TE} {pos p2 p3 p4:Zm}
def BkR (X:Cx) (r:V->Hp->VK->Prop):Prop :=
 ∀ (pins:List (Vy×Xn)) (s:VF) (σ:St) (H:Hp) (x:V) (v:VC) (t:Tok) (sl:Vy) (Q:VK),Inv X pins σ H s->RelV x v->s.heap.IsSliceOf sl .none .none (.int (-1) t)->r x H Q →
   ∃ T id,typeLookup (.type T) "__getitem__"=pure (some (.builtin id))/\s.TypeIs v T/\VT (Wb X.prog X.w) X.A (Zq v (.ref sl)) (EP X pins σ Q) X.xe s
def tBk (r:V->Hp->VK->Prop) (te:TE):TE:=fun σ H Q=>te σ H fun x H1=>r x H1 Q
theorem rM {r:V->Hp->VK->Prop} (hr:BkR X r) (he:PE X e te):PE X (.Subscript e (.Slice none none (some (.UnaryOp .USub (.Constant (.int 1) 0 p3) p4)) p2) pos) (tBk r te):=by
 intro pins s σ H Q I h;refine Subscript_ (thn (he pins s σ H _ I h) fun v s1 ⟨x,H1,I1,r1,q1⟩=>?_);refine wpAny_Slice ?_;rw [evalPart_none];refine VE ?_;refine VE ?_;have K4:PO X (some (.UnaryOp .USub (.Constant (.int 1) 0 p3) p4)) (wM (tUn (rU fun i=>.int (-i)) (tC (.int 1)))):=bP (wo uB am);refine thn (K4 pins s1 σ H1 (fun o H'=>o=some (-1)/\r x H' Q) I1 ⟨1,rfl,_,rfl,rfl,q1⟩) fun vs s2 ⟨o,H2,I2,ps,ho,q2⟩=>?_;subst ho;cases ps with
 | int i t =>
   have I4:Inv X pins σ H2 { s2 with heap:=s2.heap.push { cls:=.type "slice",data:=.fields #[.none,.none,.int (-1) t] } }:=I2.kept (t':=s2.toks) fun b ob q=>VA _ q;obtain ⟨T,id,hT,ht,hg⟩:=hr pins { s2 with heap:=s2.heap.push { cls:=.type "slice",data:=.fields #[.none,.none,.int (-1) t] } } σ H2 x v t s2.heap.objs.size Q I4 r1 (Heap.IsSliceOf.new ..) q2;show VT (Wb X.prog X.w) X.A (subscriptTail e (.Slice none none (some (.UnaryOp .USub (.Constant (.int 1) 0 p3) p4)) p2) v (.ref s2.heap.objs.size)) (EP X pins σ Q) X.xe { s2 with heap:=s2.heap.push { cls:=.type "slice",data:=.fields #[.none,.none,.int (-1) t] } };exact tail_any (ops:=[v,.ref s2.heap.objs.size]) ht hT hg (by with_unfolding_all rfl)
def zm (K:VB):V->Hp->VK->Prop:=fun x H Q=>∃ a xs,x=.ref a/\SqT K H a xs/\∀ p,H p=none->Q (.ref p) (upd H p (.tup xs.reverse))
def za (K:VB):V->Hp->VK->Prop:=fun x H Q=>∃ a xs,x=.ref a/\SqL K H a xs/\∀ p,H p=none->Q (.ref p) (upd H p (.lst xs.reverse))
theorem Vals.rev {xs:List V} {us:List VC} (r:Vals xs us):Vals xs.reverse us.reverse:=by
 induction r with
 | nil=>exact .nil
 | cons r1 r2 ih=>rw [WJ,WJ];exact ih.append (.cons r1 .nil)
theorem xu:BkR X (zm X.K):=by
 intro pins s σ H x v t sl Q I rx hs h;obtain ⟨a,xs,rfl,hx,q⟩:=h;cases rx;obtain ⟨its,r,ht,hz⟩:=I.tuple hx;have hlen:its.toArray.size=xs.length:=by rw [VL];exact r.length.symm
 refine ⟨"tuple",_,Wl.lookup,ht.typeIs,?_⟩;refine HT.getItem_tuple_back ht hs ?_ (by rw [hlen];exact hz);refine ⟨.ref s.heap.objs.size,_,I.laid (t':=s.toks) (o:=.tup xs.reverse) (fun b ob q=>VA _ q) (VG _) ?_,rfl,q _ (I.hok.fresh (VG _))⟩;exact ⟨by rw [Wy];exact hz,_,0,r.rev,VH _ rfl⟩
theorem lR (its:List VC):slicePick its.toArray none none (some (-1))=its.reverse.toArray:=by
 unfold slicePick;have e:Ze none none (some (-1)) its.toArray.size=((its.toArray.size:Int) - 1,-1,-1):=rfl;rw [e];unfold sliceRange;have h1:¬ ((-1:Int) > 0):=by omega
 simp only [h1,if_false]
 have hc:(if ((its.toArray.size:Nat):Int) - 1 > -1 then (((its.toArray.size:Nat):Int) - 1 - -1 - -1 - 1) / (- -1) else 0).toNat=its.toArray.size:=by
  by_cases h:its.toArray.size=0
  · rw [h];decide
  · rw [if_pos (by omega),show (- -1:Int)=1 by decide,Int.ediv_one];omega
 rw [hc,List.filterMap_map];have:=HT.pick_back its.toArray;rw [<- this];congr 1;congr 1;funext m;show its.toArray[(((its.toArray.size:Nat):Int) - 1+-1 * (m:Int)).toNat]?=_;rw [Int.mul_comm]
theorem wg:BkR X (za X.K):=by
 intro pins s σ H x v t sl Q I rx hs h;obtain ⟨a,xs,rfl,hx,q⟩:=h;cases rx;obtain ⟨its,r,ht,hz⟩:=I.list hx;have hlen:=r.length;refine ⟨"list",_,slot_list_getitem.lookup,ht.isList.typeIs,?_⟩;refine wpAny_getItem_list_slice ht.isList hs .none .none (.int _ _) (by simp) ?_ (by rw [VL] <;> omega);rw [lR];refine ⟨.ref s.heap.objs.size,_,I.laid (t':=s.toks) (o:=.lst xs.reverse) (fun b ob q=>VA _ q) (VG _) ?_,rfl,q _ (I.hok.fresh (VG _))⟩;exact ⟨by rw [Wy];exact hz,_,0,r.rev,VH _ rfl⟩
end
end L2
namespace L2
open PySem PySem.Spec PySem.Calls PyProof.Rows
section
variable {X:Cx}
end
end L2
namespace L2
open PySem PySem.Spec PySem.Calls PyProof.Rows
def pW (z:V2) (n:Nat):V2:=⟨(WA n z.cps).foldl (·++·) #[]⟩
theorem qf (c:Nat):∀ (n:Nat) (a:Array Nat),(WA n #[c]).foldl (·++·) a=a++(WA n c).toArray
 | 0,a=>by simp
 | n+1,a=>by
   rw [XO,List.foldl_cons,qf c n,XO,Array.append_assoc];congr 1;simp
theorem lB (c n:Nat):pW ⟨#[c]⟩ n=⟨(WA n c).toArray⟩:=by
 unfold pW;rw [qf];simp
theorem fE (c n:Nat):(pW ⟨#[c]⟩ n).length=n:=by
 rw [lB];show (WA n c).toArray.size=n;simp
section
variable {X:Cx}
def yq:R2:=fun x y H Q=>∃ (c:Nat) (n:Int),x=.str ⟨#[c]⟩/\y=.int n/\1<=n/\n<=1000/\Q (.str (pW ⟨#[c]⟩ n.toNat)) H
theorem wa:OpR X (YX .Mult) yq:=by
 intro pins s σ H x y v u Q I rx ry h;obtain ⟨c,n,rfl,rfl,h1,h2,q⟩:=h;obtain ⟨t,rfl⟩:=rx;obtain ⟨t',rfl⟩:=ry;have hlen:(⟨#[c]⟩:V2).length=1:=rfl;refine PySem.P.mul_str ?_ ?_ ?_ ?_
 · rw [decide_eq_false (by omega),decide_eq_false (by omega)];rfl
 · intro _ _;rw [hlen]
   have:(1:Int)<=(2 ^ 63 - 1) / n:=by
    rw [Int.le_ediv_iff_mul_le (by omega)];omega
   show ¬ ((1:Nat):Int) > (2 ^ 63 - 1) / n;omega
 · intro _ _;rw [hlen,Nat.one_mul];have:V1=16777216:=Yy;exact decide_eq_false (by omega)
 · rw [if_neg (by omega)];by_cases hn:n=1
   · subst hn;rw [if_pos (by rfl)];exact ⟨.str ⟨#[c]⟩,H,I,⟨_,rfl⟩,by rw [show pW ⟨#[c]⟩ (1:Int).toNat=⟨#[c]⟩ from lB c 1] at q;exact q⟩
   · rw [if_neg (by rw [hlen];simp;omega)];refine ⟨?_,⟨.str (pW ⟨#[c]⟩ n.toNat),H,I.tok _,⟨_,rfl⟩,q⟩⟩;show (pW ⟨#[c]⟩ n.toNat).length<=V1;have:V1=16777216:=Yy;rw [fE];omega
def isStr (z:V2):VC->Bool
 | .str y _=>y == z
 | _=>false
def v5 (K:VB):V->List V->Hp->VK->Prop:=fun x vs H Q=>∃ (l:Vy) (zs:List V2) (z:V2) (j:Nat),x=.ref l/\vs=[.str z]/\SqL K H l (zs.map V.str)/\zs[j]?=some z/\(∀ i,i<j->zs[i]?≠some z)/\zs.length<=100000/\Q (.int (j:Nat)) H
theorem tM:MtM X "list.index" (v5 X.K):=by
 intro pins s σ H x vs v us Q I rx rv h;obtain ⟨l,zs,z,j,rfl,rfl,hS,hj,AY,hz,q⟩:=h;cases rx;obtain ⟨u,rfl,t,rfl⟩:=rv.one;obtain ⟨its,r,pl,_⟩:=I.list hS;have hlen:=r.length;rw [Vt] at hlen;obtain ⟨⟨cls,dd,data,sl⟩,ho,hc,n,hd⟩:=pl.isList;simp only at hc hd;subst hc hd;have CO:j<zs.length:=(Vz.mp hj).1
 have get:∀ m,m<zs.length->∃ y t',its[m]?=some (.str y t')/\zs[m]?=some y:=fun m hm=>by
  obtain ⟨v,hv,rv⟩:=r.get (i:=m) (x:=.str zs[m]) (by rw [VM,Vw hm];rfl);obtain ⟨t',rfl⟩:=rv;exact ⟨_,t',hv,Vw hm⟩
 refine Zc Y4 ⟨_,ho,rfl⟩ PySem.F.entry_list_index (PySem.F.args_list_index_2 _ _)
  (SeqAt.list_indexAt l its.toArray n dd sl (.str z t) (isStr z) j (by rw [VL];omega) (by omega) ?_ ?_) ⟨ho,fun y hy=>?_,⟨.int (j:Nat),H,I.tok _,⟨_,rfl⟩,q⟩⟩
 · obtain ⟨y,t',h1,h2⟩:=get j CO;rw [hj] at h2;cases h2
   have h3:its.toArray[j]'(by rw [VL];omega)=.str z t':=by
    rw [Vw (by omega)] at h1;simpa using h1
   rw [h3];show (z == z)=true;simp
 · intro m hm zV;obtain ⟨y,t',h1,h2⟩:=get m (by omega)
   have h3:its.toArray[m]'hm=.str y t':=by
    rw [Vw (by omega)] at h1;simpa using h1
   rw [h3];show (y == z)=false;refine X9.mpr fun e=>AY m zV ?_;rw [h2,beq_iff_eq.mp e]
 · have B5:y∈its:=by simpa using hy
   obtain ⟨m,hm,rfl⟩:=List.getElem_of_mem B5;obtain ⟨y,t',h1,h2⟩:=get m (by omega);rw [Vw hm] at h1;have h3:=VZ h1;rw [h3];exact SeqAt.EqAt.str_str _ _ _ _
end
end L2
namespace BB
open PySem L2
structure bu (ks:List (V2×Int)):Prop where
 ne:1<=ks.length
 le:ks.length<=8
 low:∀ k∈ks,Low k.1/\k.1.length<=8
 num:∀ k∈ks,0<=k.2/\k.2<=3
 zero:∃ k∈ks,k.2=0
 nd:∀ (i j:Nat) (k l:V2×Int),ks[i]?=some k->ks[j]?=some l->k.1=l.1->i=j
mutual
/-- a pattern over kinds,its calls of so many states and kids -/
def Th.FitS (ks:List (V2×Int)) (S C:Int):Th->Prop
 | .knot n ts=>(n,(ts.length:Int))∈ks/\cT ks S C ts
 | .call s k=>0<=s/\s<S/\0<=k/\k<C
def cT (ks:List (V2×Int)) (S C:Int):List Th->Prop
 | []=>True
 | t::ts=>t.FitS ks S C/\cT ks S C ts
end
theorem mL {ts:List Th} {n:Nat} (h:∀ t∈ts,t.tall<=n):aC ts<=n:=by
 induction ts with
 | nil=>rw [aC];exact Wc _
 | cons t ts ih =>
   rw [aC];have h1:=h t (VI ..);have h2:=ih fun u hu=>h u (Vv _ hu);omega
def SameB (l:Vy) (H H':Hp):Prop:=∀ b o,b≠l->H b=some o->H' b=some o
theorem SameB.refl {l:Vy} {H:Hp}:SameB l H H:=fun _ _ _ e=>e
def RowAt (H:Hp) (row:List Th) (a:Vy):Prop:=∃ as:List Vy,H a=some (.tup (as.map V.ref))/\Ats H row as
theorem RowAt.mono {H H':Hp} (k:KT H H') {row:List Th} {a:Vy} (h:RowAt H row a):RowAt H' row a:=by
 obtain ⟨as,h1,h2⟩:=h;exact ⟨as,k _ _ h1,h2.mono k⟩
structure yv (ins outs:List (V2×Int)) (S:Int) (deep:Nat) (row:List Th):Prop where
 len:row.length=ins.length
 fit:∀ (j:Nat) (t:Th) (k:V2×Int),row[j]?=some t->ins[j]?=some k->t.FitS outs S k.2/\t.tall<=deep+1
structure BookAt (H:Hp) (ins outs:List (V2×Int)) (head:Th) (rows:List (List Th)) (r ia oa ha ra:Vy) (Ac Ap AD:List Vy):Prop where
 bk:H r=some (.tup [.ref ia,.ref oa,.ref ha,.ref ra])
 inE:H ia=some (.tup (Ac.map V.ref))
 inK:KsAt H ins Ac
 outE:H oa=some (.tup (Ap.map V.ref))
 outK:KsAt H outs Ap
 hd:At H head ha
 rl:H ra=some (.tup (AD.map V.ref))
 rw:WD (RowAt H) rows AD
theorem BookAt.mono {H H':Hp} (k:KT H H') {ins outs:List (V2×Int)} {head:Th} {rows:List (List Th)} {r ia oa ha ra:Vy} {Ac Ap AD:List Vy} (b:BookAt H ins outs head rows r ia oa ha ra Ac Ap AD):BookAt H' ins outs head rows r ia oa ha ra Ac Ap AD :=
 ⟨k _ _ b.bk,k _ _ b.inE,b.inK.mono k,k _ _ b.outE,b.outK.mono k,b.hd.mono k,k _ _ b.rl,P2.mp (fun _ _ e=>e.mono k) b.rw⟩
structure oy (ins outs:List (V2×Int)) (S:Int) (deep:Nat) (head:Th) (rows:List (List Th)):Prop where
 len:(rows.length:Int)=S
 row:∀ row∈rows,yv ins outs S deep row
 hdf:head.FitS outs S 1
 hdt:head.tall<=2
def cW:V2:=Vx "aeio"
def gum:V2:=Vx "gumleafs"
theorem vI:Low gum:=by unfold Low;decide +kernel
theorem je {z:V2} {n:Nat} (h:n<=z.length):(cq z none (some (n:Int))).cps.toList=z.cps.toList.take n/\(cq z none (some (n:Int))).length=n:=by
 have hz:z.cps.toList.length=z.length:=V7
 have e:(cq z none (some (n:Int))).cps.toList=z.cps.toList.take n:=by
  show (j8 z.cps.toList none (some (n:Int))).toArray.toList=_;rw [List.toList_toArray];unfold j8;rw [HT.sIx_nat,HT.sIx_none,hz,Zv h];simp
 refine ⟨e,?_⟩;show (cq z none (some (n:Int))).cps.size=n;rw [<- V7,e,Wi,hz];omega
def i4 (begun:Bool) (c0:Nat) (stem:V2) (at':Int) (L:List Nat) (p:Nat):V2 :=
 if begun then pW ⟨#[c0]⟩ (1+p) else cq stem none (some at')++⟨#[L.getD p 0]⟩++cq stem (some at') none
theorem xQ {begun:Bool} {c0:Nat} {stem:V2} {at':Int} {L:List Nat} (hL:∀ (p r:Nat) (c:Nat),L[p]?=some c->L[r]?=some c->p=r) {p r:Nat} (hp:p<L.length) (hr:r<L.length) (h:i4 begun c0 stem at' L p=i4 begun c0 stem at' L r):p=r:=by
 unfold i4 at h;cases begun with
 | true =>
   simp only [if_true] at h;have:=congrArg Str.length h;rw [fE,fE] at this;omega
 | false =>
   simp only [Xu,if_false] at h;have h2:=congrArg (fun z:V2=>z.cps.toList) h;have h3:((cq stem none (some at')).cps++#[L.getD p 0]++(cq stem (some at') none).cps).toList=((cq stem none (some at')).cps++#[L.getD r 0]++(cq stem (some at') none).cps).toList:=h2;rw [Yi,Yi,Yi,Yi] at h3;have h4:=List.append_cancel_right h3;have h5:=List.append_cancel_left h4;have h6:L.getD p 0=L.getD r 0:=by simpa using h5
   refine hL p r (L.getD r 0) ?_ ?_
   · rw [<- h6,List.getD,Vw hp];rfl
   · rw [List.getD,Vw hr];rfl
theorem xc {begun:Bool} {c0:Nat} {stem:V2} {at':Int} {L:List Nat} (hc:97<=c0/\c0<=122) (hs:Low stem) (hL:∀ c∈L,97<=c/\c<=122) {p:Nat} (hp:p<L.length):Low (i4 begun c0 stem at' L p):=by
 unfold i4;cases begun with
 | true =>
   simp only [if_true];rw [lB];intro c AX;have K5:c∈WA (1+p) c0:=by simpa using AX
   rw [List.eq_of_mem_replicate K5];exact hc
 | false =>
   simp only [Xu,if_false];have h1:L.getD p 0∈L:=by rw [List.getD,Vw hp];exact List.getElem_mem hp
   have h2:=hL _ h1;exact rC (rC (oH hs _ _) (vC h2.1 h2.2)) (oH hs _ _)
structure pw (letters:V2):Prop where
 len:letters.length=4
 low:Low (letters++cW)
 inj:∀ (p r c:Nat),(letters++cW).cps.toList[p]?=some c->(letters++cW).cps.toList[r]?=some c->p=r
theorem pR {letters:V2} (h1:letters.length=4) (h2:((letters++cW).cps.toList.all fun c=>decide (97<=c/\c<=122))=true) (h3:(letters++cW).cps.toList.Nodup):pw letters:=by
 refine ⟨h1,fun c hc=>of_decide_eq_true (Xs.mp h2 c hc),fun p r c hp hr=>?_⟩;obtain ⟨p1,p2⟩:=Vz.mp hp;obtain ⟨r1,r2⟩:=Vz.mp hr;exact (List.getElem_inj h3).mp (p2.trans r2.symm)
theorem v7:pw (Vx "bdhk"):=pR (by decide +kernel) (by decide +kernel) (by decide +kernel)
theorem vW:pw (Vx "npwz"):=pR (by decide +kernel) (by decide +kernel) (by decide +kernel)
end BB
namespace BB
open PySem L2
def Step (ins:List (V2×Int)) (rows:List (List Th)) (s k:Int) (ks:List Th) (p h:Th):Prop :=
 0<=s/\0<=k/\ks[k.toNat]?=some h/\∃ (m:V2) (hs:List Th) (c:Int) (j:Nat) (row:List Th),h=.knot m hs/\ins[j]?=some (m,c)/\rows[s.toNat]?=some row/\row[j]?=some p
inductive Res (ins:List (V2×Int)) (rows:List (List Th)):Th->Th->Th->Th->Prop
 | stop (n:V2) (ts:List Th) (k:Th):Res ins rows (.knot n ts) k (.knot n ts) k
 | step {s c:Int} {n:V2} {ks:List Th} {p h p' k':Th}:Step ins rows s c ks p h->Res ins rows p h p' k'->Res ins rows (.call s c) (.knot n ks) p' k'
theorem hV {ks:List (V2×Int)}:∀ {ts:List Th},Fits ks ts->∀ t∈ts,t.Fit ks
 | [],_,t,ht=>by cases ht
 | a::ts,h,t,ht=>by
   rw [Fits] at h;rcases VP.mp ht with rfl | ht
   · exact h.1
   · exact hV h.2 t ht
def Bk (H:Hp) (ins outs:List (V2×Int)) (head:Th) (rows:List (List Th)) (r:Vy):Prop:=∃ ia oa ha ra Ac Ap AD,BookAt H ins outs head rows r ia oa ha ra Ac Ap AD
theorem Bk.mono {H H':Hp} (k:KT H H') {ins outs:List (V2×Int)} {head:Th} {rows:List (List Th)} {r:Vy} (b:Bk H ins outs head rows r):Bk H' ins outs head rows r:=by
 obtain ⟨ia,oa,ha,ra,Ac,Ap,AD,b⟩:=b;exact ⟨ia,oa,ha,ra,Ac,Ap,AD,b.mono k⟩
end BB
namespace L2
open PySem PySem.Spec PySem.Calls PyProof.Rows PySem.SeqAt
end L2
namespace BB
open PySem L2
mutual
inductive Out (ins:List (V2×Int)) (rows:List (List Th)):Th->Th->Th->Prop
 | mk {p k:Th} {n:V2} {ts:List Th} {k':Th} {os:List Th}:Res ins rows p k (.knot n ts) k'->Outs ins rows ts k' os->Out ins rows p k (.knot n os)
inductive Outs (ins:List (V2×Int)) (rows:List (List Th)):List Th->Th->List Th->Prop
 | nil (k:Th):Outs ins rows [] k []
 | cons {t k o:Th} {ts os:List Th}:Out ins rows t k o->Outs ins rows ts k os->Outs ins rows (t::ts) k (o::os)
end
theorem Out.step {ins:List (V2×Int)} {rows:List (List Th)} {s c:Int} {n:V2} {ks:List Th} {p h o:Th} (st:Step ins rows s c ks p h) (g:Out ins rows p h o):Out ins rows (.call s c) (.knot n ks) o:=by
 cases g with
 | mk r os=>exact .mk (.step st r) os
theorem Out.unstep {ins:List (V2×Int)} {rows:List (List Th)} {s c:Int} {n:V2} {ks:List Th} {o:Th} (g:Out ins rows (.call s c) (.knot n ks) o):∃ p h,Step ins rows s c ks p h/\Out ins rows p h o:=by
 cases g with
 | mk r os =>
   cases r with
   | step st r=>exact ⟨_,_,st,.mk r os⟩
theorem Out.unknot {ins:List (V2×Int)} {rows:List (List Th)} {n:V2} {ts:List Th} {k o:Th} (g:Out ins rows (.knot n ts) k o):∃ os,o=.knot n os/\Outs ins rows ts k os:=by
 cases g with
 | mk r os =>
   cases r with
   | stop=>exact ⟨_,rfl,os⟩
theorem Outs.length {ins:List (V2×Int)} {rows:List (List Th)}:∀ {ts:List Th} {k:Th} {os:List Th},Outs ins rows ts k os->os.length=ts.length
 | _,_,_,.nil _=>rfl
 | _,_,_,.cons _ h=>by rw [VY,VY,Outs.length h]
theorem Outs.get {ins:List (V2×Int)} {rows:List (List Th)}:∀ {ts:List Th} {k:Th} {os:List Th} (i:Nat) {t o:Th},Outs ins rows ts k os->ts[i]?=some t->os[i]?=some o->Out ins rows t k o
 | _,_,_,i,t,o,.nil _,h1,h2=>by simp at h1
 | _,_,_,0,t,o,.cons g _,h1,h2=>by
   simp at h1 h2;subst h1;subst h2;exact g
 | _,_,_,i+1,t,o,.cons _ g,h1,h2=>Outs.get i g (by simpa using h1) (by simpa using h2)
structure Job where
 p:Th
 k:Th
 r:Nat
 o:Th
def JAt (H:Hp) (ins:List (V2×Int)) (rows:List (List Th)) (j:Job) (a:Vy):Prop:=∃ pa ka,H a=some (.tup [.ref pa,.ref ka,.int (j.r:Nat)])/\At H j.p pa/\At H j.k ka/\Out ins rows j.p j.k j.o
theorem JAt.mono {H H':Hp} (kt:KT H H') {ins:List (V2×Int)} {rows:List (List Th)} {j:Job} {a:Vy} (h:JAt H ins rows j a):JAt H' ins rows j a:=by
 obtain ⟨pa,ka,h1,h2,h3,h4⟩:=h;exact ⟨pa,ka,kt _ _ h1,h2.mono kt,h3.mono kt,h4⟩
def jos (js:List Job):List Th:=js.map (·.o)
structure JInv (outs:List (V2×Int)) (o:Th) (done:List Th) (js:List Job):Prop where
 wk:done++walks (jos js).reverse=o.walk
 fit:∀ j∈js,j.o.Fit outs
 low:∀ j∈js,1<=j.r/\j.r - 1+j.o.tall<=o.tall
 top:o.tall<=150∨∃ j∈js,o.tall=j.r - 1+j.o.tall
 dn:done.length<=2000
 len:js.length<=1+3 * done.length
theorem lP (l:List Th):au l.reverse=au l:=by
 induction l with
 | nil=>rfl
 | cons t l ih=>rw [WJ,aF,ih,au,au,au];omega
theorem JInv.size {outs:List (V2×Int)} {o:Th} {done:List Th} {js:List Job} (h:JInv outs o done js):done.length+au (jos js)=o.size:=by
 have:=congrArg Y5 h.wk;rw [VO,f6,lP,Th.walk_len] at this;exact this
theorem JInv.start {outs:List (V2×Int)} {p k o:Th} (h:o.Fit outs):JInv outs o [] [⟨p,k,1,o⟩]:=by
 have ht:=o.tall_eq;refine ⟨by simp [jos,walks],fun j hj=>?_,fun j hj=>?_,.inr ⟨_,List.mem_singleton_self _,by show o.tall=1 - 1+o.tall;omega⟩,by simp,by simp⟩
 · rw [VJ.mp hj];exact h
 · rw [VJ.mp hj];exact ⟨VG _,by show 1 - 1+o.tall<=o.tall;omega⟩
def ce (k:Th) (r:Nat) (ts os:List Th):List Job:=(ts.zip os).map fun z=>⟨z.1,k,r,z.2⟩
theorem jD (k:Th) (r:Nat):∀ (ts os:List Th),ts.length=os.length->jos (ce k r ts os)=os
 | [],[],_=>rfl
 | t::ts,o::os,h=>by
   show o::jos (ce k r ts os)=o::os;rw [jD k r ts os (by simpa using h)]
theorem jH {k:Th} {r:Nat} {ts os:List Th} {j:Job} (h:j∈ce k r ts os):j.r=r/\j.o∈os:=by
 obtain ⟨z,hz,rfl⟩:=V4.mp h;exact ⟨rfl,(List.of_mem_zip hz).2⟩
theorem lg {k:Th} {r:Nat}:∀ {ts os:List Th},ts.length=os.length->∀ {u:Th},u∈os->∃ j∈ce k r ts os,j.r=r/\j.o=u
 | [],[],_,u,h=>by cases h
 | t::ts,o::os,hl,u,h=>by
   rcases VP.mp h with rfl | h
   · exact ⟨_,VI ..,rfl,rfl⟩
   · obtain ⟨j,h1,h2⟩:=lg (k:=k) (r:=r) (ts:=ts) (os:=os) (by simpa using hl) h;exact ⟨j,Vv _ h1,h2⟩
theorem cw {k:Th} {r:Nat} {ts os:List Th} (h:ts.length=os.length):(ce k r ts os).length=os.length:=by
 unfold ce;rw [Vt,List.length_zip];omega
theorem mN {outs:List (V2×Int)} (g:bu outs) {n:V2} {os:List Th} (h:(Th.knot n os).Fit outs):os.length<=3:=by
 rw [Th.Fit] at h;have:=(g.num _ h.1).2;have h2:((os.length:Nat):Int)<=3:=this;omega
theorem JInv.turn {outs:List (V2×Int)} (g:bu outs) {o:Th} {done:List Th} {js:List Job} {p k k':Th} {r:Nat} {n:V2} {ts os:List Th} (h:JInv outs o done (js++[⟨p,k,r,.knot n os⟩])) (hr:r<=150) (hd:done.length<2000) (hl:ts.length=os.length) :
 JInv outs o (done++[.knot n os]) (js++(ce k' (r+1) ts os).reverse):=by
 have Aa:=h.fit ⟨p,k,r,.knot n os⟩ (by simp);have D8:=h.low ⟨p,k,r,.knot n os⟩ (by simp);dsimp only at Aa D8;have hw:=mN g Aa;have Ae:=cw (k:=k') (r:=r+1) hl;refine ⟨?_,fun j hj=>?_,fun j hj=>?_,?_,?_,?_⟩
 · have:=h.wk;rw [<- this]
   have e1:(jos (js++[⟨p,k,r,.knot n os⟩])).reverse=.knot n os::(jos js).reverse:=by
    unfold jos;rw [VN,Xm];rfl
   have e2:(jos (js++(ce k' (r+1) ts os).reverse)).reverse=os++(jos js).reverse:=by
    have:=jD k' (r+1) ts os hl;unfold jos at this ⊢;rw [VN,Z2,this,Xm,Xz]
   rw [e1,e2,eg,Xk];show done++([Th.knot n os]++_)=done++walks (Th.knot n os::(jos js).reverse);rw [walks,Th.walk_eq];rfl
 · rcases VV.mp hj with hj | hj
   · exact h.fit j (V9 _ hj)
   · rw [Th.Fit] at Aa;exact Aa.2.mem _ (jH (Z1.mp hj)).2
 · rcases VV.mp hj with hj | hj
   · exact h.low j (V9 _ hj)
   · obtain ⟨h1,h2⟩:=jH (Z1.mp hj);have:=cL h2;rw [Th.tall] at D8;rw [h1];omega
 · rcases h.top with ht | ⟨j,hj,ht⟩
   · exact .inl ht
   · rcases VV.mp hj with hj | hj
     · exact .inr ⟨j,V9 _ hj,ht⟩
     · rw [VJ.mp hj] at ht;dsimp only at ht;rw [Th.tall] at ht;by_cases hz:os=[]
       · subst hz;rw [aC] at ht;left;omega
       · obtain ⟨u,hu,UQ⟩:=jy hz;obtain ⟨j',h1,h2,h3⟩:=lg (k:=k') (r:=r+1) hl hu;right;refine ⟨j',V5 _ (Z1.mpr h1),?_⟩;rw [h2,h3];omega
 · rw [VO];show done.length+1<=2000;omega
 · have:=h.len;rw [VO] at this;rw [VO,VO,Wy,Ae];have h1:([⟨p,k,r,.knot n os⟩]:List Job).length=1:=rfl;have h2:([Th.knot n os]:List Th).length=1:=rfl;omega
theorem JInv.great {outs:List (V2×Int)} {o:Th} {done:List Th} {js:List Job} {j:Job} (h:JInv outs o done (js++[j])) (hb:done.length=2000∨150<j.r):¬ (o.size<=2000/\o.tall<=150):=by
 rintro ⟨h1,h2⟩;rcases hb with hb | hb
 · have:=h.size;unfold jos at this;rw [VN,aF] at this;have h3:=j.o.size_pos
   have:au ([j].map (·.o))=j.o.size:=by
    show au [j.o]=_;rw [au,au];rfl
   omega
 · have:=(h.low j (by simp)).2;have h3:=j.o.tall_eq;omega
theorem JInv.done {outs:List (V2×Int)} {o:Th} {done:List Th} (h:JInv outs o done []):(o.size<=2000/\o.tall<=150)/\done=o.walk:=by
 have h1:=h.size;have h2:=h.dn;have h3:=h.wk;refine ⟨⟨?_,?_⟩,?_⟩
 · have:au (jos [])=0:=rfl;omega
 · rcases h.top with h | ⟨j,hj,_⟩
   · exact h
   · cases hj
 · simpa [jos,walks] using h3
end BB
namespace L2
open PySem PySem.Spec PyProof.Rows
section
variable {X:Cx} {e:WC} {te:TE} {p p2 pos AH:Zm}
def yM (K:VB) (a:Vy) (n:Nat):It:=⟨fun i H=>i<n/\∃ xs,SqT K H a xs/\xs.length=n,fun i H x H'=>H'=H/\∀ xs,SqT K H a xs->xs[n - 1 - i]?=some x,fun i _=>i=n⟩
theorem tU {P:V3} {w:Wg} {K:VB} {tg:WC} (a it:Vy) (n:Nat):Turn P w K tg (yM K a n) [it] it (fun i h=>IsRevT h it a ((n:Int) - 1 - (i:Nat))) where
 mem:=by simp
 obj:=fun i h st b hb=>by
  have e:b=it:=by simpa using hb
  subst e;obtain ⟨o,e,c,d⟩:=st;exact ⟨o,e,fun v z=>by rw [d] at z;cases z⟩
 keep:=fun i h h' st k=>st.at fun o e=>k it (by simp) o e
 item:=by
  intro X hP hw hK hc i pins s σ H E I hf st hg;subst hP hw hK;obtain ⟨hi,xs,hq,hx⟩:=hg;obtain ⟨its,rv,p,hz⟩:=I.tuple hq;have hl:=rv.length;have hn:=eT;obtain ⟨x,C7⟩:∃ x,xs[n - 1 - i]?=some x:=⟨_,Vw (by omega)⟩;obtain ⟨u,hu,ru⟩:=rv.get C7;obtain ⟨f0,f1,f2,f3,f4,f5⟩:=hf it (by simp);have e1:(n:Int) - 1 - (i:Nat)=((n - 1 - i:Nat):Int):=by omega
  rw [e1] at st;refine bb_rev_next st p (x:=u) (by simpa using hu) (by rw [VL];omega) fun h' tk AG sb=>?_;have I1:Inv X pins σ H { s with heap:=h',toks:=tk }:=I.turned (t':=tk) (fun b o hb e=>(sb.2 b hb).trans e) f0 f1 f3 f4 f5;have e2:((n - 1 - i:Nat):Int) - 1=(n:Int) - 1 - ((i+1:Nat):Int):=by omega
  rw [e2] at AG;obtain ⟨o,e,c,d⟩:=id AG;exact ⟨u,rfl,iN (s:={ s with heap:=h',toks:=tk }) e c d (by decide) ⟨x,H,I1,ru,⟨rfl,fun ys hy=>by rw [I.tuple_inj hy hq];exact C7⟩,AG,fun b hb=>(hf b hb).1⟩⟩
 done:=by
  intro X hP hw hK hc i pins s σ H E I hf st hg;subst hP hw hK;have KJ:i=n:=hg;subst KJ;obtain ⟨f0,f1,f2,f3,f4,f5⟩:=hf it (by simp);rw [show (i:Int) - 1 - (i:Nat)=-1 by omega] at st;exact bb_rev_end (I.ok.hd hc) st fun h' tk eb=>⟨rfl,I.turned (t':=tk) (fun b o hb e=>eb b o hb e) f0 f1 f3 f4 f5⟩
 self:=fun _ _ _ _ _ st h=>bb_rev_iter st h
def yK (K:VB) (tl:TE):TI:=fun σ H R=>tl σ H fun x H1=>∃ a xs,x=.ref a/\SqT K H1 a xs/\R (yM K a xs.length) H1
theorem wf {tg:WC} (g2:Gl X "reversed") (m2:X.mg "reversed"=none) (he:PE X e te) (h2:Wr [e] X.env=[(false,Xx e X.env)]:=by rfl):PI X tg (.Call (.Name "reversed" p2) [e] [] AH) (yK X.K te):=by
 intro pins s σ H R I h;refine W9 (eE I g2 m2 boot_reversed (W6 ?_ h2 rfl));rw [h2];show VT _ _ (spliced ((false,Xx e X.env)::[])) _ _ s;refine YB (thn (he pins s σ H _ I h) fun u s1 ⟨x,H1,I1,r1,a,ys,ex,hq,q⟩=>Zt ?_);subst ex;cases r1;obtain ⟨its,rv,p,hz⟩:=I1.tuple hq;have hl:=rv.length;have hn:=eT;refine bb_call_rev_tuple p (by rw [VL];omega) fun tk=>?_
 have hit:IsRevT (s1.heap.push (revTup a ((its.toArray.size:Int) - 1))) s1.heap.objs.size a ((ys.length:Int) - 1 - ((0:Nat):Int)):=by
  rw [hl,show (its.length:Int) - 1 - ((0:Nat):Int)=(its.toArray.size:Int) - 1 by rw [VL];omega];exact ⟨_,VH _ rfl,rfl,rfl⟩
 refine bb_rev_iter (s:={ s1 with heap:=s1.heap.push (revTup a ((its.toArray.size:Int) - 1)),toks:=tk }) hit ?_;refine ⟨s1.heap.objs.size,[s1.heap.objs.size],_,_,H1,rfl,I1.kept (t':=tk) fun b o e=>VA _ e,tU a _ ys.length,hit,fun b hb=>?_,q⟩;have e:b=s1.heap.objs.size:=by simpa using hb
 subst e;exact I1.fpOk (VG _) (I1.hok.fresh (VG _))
end
end L2
namespace BB
open PySem L2
theorem eV {α:Type} {F:Hp->α->Vy->Prop} {js:List (Option Nat)} {g:TG} {tt:TT} {te:TE} {σ:St} {J:It} {H:Hp} {xs:List V} {fin:Vy->Hp->Prop} (zs:List α) (hF:∀ H1 H2 z p,KT H1 H2->F H1 z p->F H2 z p) (hz:zs.length=xs.length) (hn:xs.length<=1000000)
 (Ff:∀ i H2,L2.Same H H2->i<xs.length->J.go i H2) (A':∀ H2,L2.Same H H2->J.stop xs.length H2) (Di:∀ (i:Nat) H2 x H3,L2.Same H H2->i<xs.length->J.yld i H2 x H3->H3=H2/\xs[i]?=some x)
 (hb:∀ (i:Nat) x z H2 (R:VK) (W':Hp->Prop),xs[i]?=some x->zs[i]?=some z->L2.Same H H2->(∀ H3 p,L2.Same H2 H3->F H3 z p->R (.ref p) H3)->g x (cσ js σ) H2 fun zU H3=>tt zU H3 fun b H4=>if b=true then te zU H4 R else W' H4)
 (AV:∀ D H' as,H D=none->L2.Same H H'->H' D=some (.lst (as.map V.ref))->WD (F H') zs as->fin D H') :
 ∀ D,H D=none->∃ (n:Nat) (W:Nat->Hp->Prop),W 0 (upd H D (.lst []))/\dN js g tt te σ J D n W fun H'=>fin D H':=by
 intro D hD;refine ⟨xs.length,fun i H'=>i<=xs.length/\L2.Same H H'/\∃ as:List Vy,H' D=some (.lst (as.map V.ref))/\WD (F H') (zs.take i) as,⟨Wc _,ag hD _,[],by rw [ad];rfl,.nil⟩,?_⟩;rintro i H' ⟨hi,s1,as,e1,hp⟩;by_cases zV:i<xs.length
 · refine .inr ⟨zV,Ff i H' s1 zV,fun v H1 hy=>?_⟩;obtain ⟨e,hx⟩:=Di i H' v H1 s1 zV hy;subst e;obtain ⟨z,Bs⟩:∃ z,zs[i]?=some z:=⟨_,Vw (by omega)⟩;have hl:(zs.take i).length=as.length:=VU hp;rw [Wi] at hl;refine hb i v z _ _ _ hx Bs s1 fun H3 p s3 Rk=>⟨_,s3 _ _ e1,?_,zV,aG (s1.trans s3) hD,as++[p],?_,?_⟩
   · rw [Vt];have:V1=16777216:=Yy;omega
   · rw [ad,VN];rfl
   · have kt:KT H3 (upd H3 D (.lst (as.map V.ref++[.ref p]))):=bx (s3 _ _ e1);rw [take_snoc Bs];exact P2.append (P2.mp (fun x y e=>hF _ _ _ _ ((Same.kt s3).trans kt) e) hp) (.cons (hF _ _ _ _ kt Rk) .nil)
 · have Bg:i=xs.length:=by omega
   subst Bg;refine .inl ⟨A' _ s1,AV D H' as hD s1 e1 ?_⟩;rw [W0 (by omega)] at hp;exact hp
end BB
namespace L2
open PySem PySem.Spec PyProof.Rows
end L2
namespace L2
open PySem
theorem us1 {α:Type}:∀ {us:List α},us.length=1->∃ a,us=[a]
 | [a],_=>⟨a,rfl⟩
theorem us2 {α:Type}:∀ {us:List α},us.length=2->∃ a b,us=[a,b]
 | [a,b],_=>⟨a,b,rfl⟩
theorem us3 {α:Type}:∀ {us:List α},us.length=3->∃ a b c,us=[a,b,c]
 | [a,b,c],_=>⟨a,b,c,rfl⟩
theorem us4 {α:Type}:∀ {us:List α},us.length=4->∃ a b c d,us=[a,b,c,d]
 | [a,b,c,d],_=>⟨a,b,c,d,rfl⟩
theorem us5 {α:Type}:∀ {us:List α},us.length=5->∃ a b c d e,us=[a,b,c,d,e]
 | [a,b,c,d,e],_=>⟨a,b,c,d,e,rfl⟩
end L2
namespace PySem
open Sem (wp)
section
variable {prog:V3} {w:Wg} {K:Type} [DecidableEq K] {knd:HeapKind prog w K} {A:Wn} {E:VC->VF->Prop} {s:VF}
end
end PySem
namespace L2
open PySem PySem.Spec PyProof.Rows BB
end L2
namespace BB
open PySem L2
end BB
namespace PySem
open Sem (wp)
section
variable {prog:V3} {w:Wg} {A:Wn} {E:VC->VF->Prop} {s:VF} {I:Vy} {fp wr:List Vy} {G:Array GenState->Array GenState->Prop} {n:Nat} {P:Nat->VC->Prop} {St:Nat->VF->Prop}
end
end PySem
namespace L2
open PySem PySem.Spec PyProof.Rows
section
variable {X:Cx} {o e:WC} {to te:TE} {p2 AH apos Ad:Zm}
end
end L2
namespace PySem
open Sem (wp)
namespace F
theorem bb_list_nokeys:typeLookup (.type "list") "keys"=pure none:=by rw [ZK,YI];kernel_rfl
end F
section
variable {prog:V3} {w:Wg} {A:Wn} {E:VC->VF->Prop} {s:VF} {a:Vy} {xs:Array VC} {k:Nat}
theorem bb_nokeysL {Q:Option VC->VF->Prop} (hA:A.handled=none) (hx:s.heap.get? a=some { cls:=.type "list",data:=.seq xs k })
 (q:∀ h' tk,(∀ b o,s.heap.get? b=some o->h'.get? b=some o)->Q none { s with heap:=h',toks:=tk }):VT (Wb prog w) A (getAttr? (.ref a) "keys") Q E s:=by
 obtain ⟨hp,g,d,tk,os⟩:=s;have gT:∀ z,(⟨hp,g,d,z,os⟩:VF).TypeIs (.ref a) "list":=fun _=>⟨_,hx,rfl⟩;have g1:=sub_AttributeError;have g3:=F.slot_list_getattribute.lookup;have g4:=F.slot_list_getattribute.bind (.ref a);have g5:=am_list_getattr_none;unfold getAttr? getAttrBy? getAttrBy
 repeat (any_goals (first | assumption | exact gT _ | ((with_reducible show VT _ _ (call (Value.builtin "list.__getattribute__") _ _) _ _ _);refine Zc F.slot_list_getattribute (gT _) am_entry_list_getattribute (F.args_list_getattribute_2 _ _) (meets_getattribute_miss_list a xs k #[] "keys" _ F.bb_list_nokeys (by decide +kernel) (by decide)) ⟨hx,hA,fun h' Rl e C7=>?_⟩) | wp_step))
 obtain ⟨t',u',he⟩:=C7.there;show VT _ _ (getattributeRaised _ _ _ _ _ _ _) _ _ _;unfold getattributeRaised
 repeat (any_goals (first | assumption | wp_step))
 exact q h' Rl C7.keeps
end
end PySem
namespace L2
open PySem PySem.Spec PyProof.Rows
section
variable {X:Cx} {pins:List (Vy×Xn)} {σ:St}
end
end L2
namespace BB
open PySem L2
theorem vY {k:Nat} {A:Wn} (hr:L2.Room k A):A.units+12<Ys:=by
 have:=hr.units;omega
end BB
namespace PySem
section
variable {prog:V3} {w:Wg} {A:Wn} {E:VC->VF->Prop} {s:VF}
theorem bb_zip_next0 {z TI TO i1 i2 l1 l2:Vy} {k:Nat} {xs ys:Array VC} {x y a b:VC} {Q:Option VC->VF->Prop} (D:ZipApart z TI TO i1 i2 l1 l2)
 (hz:IsZip s.heap z TI TO .none) (hTI:Yg s.heap TI (.ref i1) (.ref i2)) (hTO:Yg s.heap TO a b)
 (h1:s.heap.IsTupleIter i1 l1 k) (h2:s.heap.IsTupleIter i2 l2 k) (BM:s.heap.IsTuple l1 xs) (AR:s.heap.IsTuple l2 ys) (hx:xs[k]?=some x) (hy:ys[k]?=some y)
 (hQ:∀ h',IsZip h' z TI TO (XF s.heap.objs.size)->Yg h' TO x y->h'.IsTupleIter i1 l1 (k+1)->h'.IsTupleIter i2 l2 (k+1)->Yg h' s.heap.objs.size x y->h'.objs.size=s.heap.objs.size+1 →
  (∀ c o,c≠z->c≠TO->c≠i1->c≠i2->s.heap.get? c=some o->h'.get? c=some o)->Q (some (.ref s.heap.objs.size)) { s with heap:=h' }) :
 VT (Wb prog w) A (Ym (.ref z)) Q E s:=by
 have hT:s.TypeIs (.ref z) "zip":=⟨_,hz,rfl⟩;unfold Ym;refine Vu (Yl (Ww (name:=Vx "__next__") hT F.slot_zip_next (Wu F.slot_zip_next hT F.entry_zip_next ?_ (F.args_zip_next_1 _))));exact bb_zip_itemA D hz hTI hTO h1 h2 BM AR hx hy fun h' a1 a2 a3 a4 a5 a6 a7=>VE (hQ h' a1 a2 a3 a4 a5 a6 a7)
end
end PySem
namespace L2
open PySem PySem.Spec PyProof.Rows
def Itz (K:VB) (a b:Vy):It:=⟨fun i H=>∃ xs ys x y,SqT K H a xs/\SqT K H b ys/\xs[i]?=some x/\ys[i]?=some y,fun i H v H'=>∃ p x y,H p=none/\v=.ref p/\H'=upd H p (.tup [x,y])/\(∀ xs,SqT K H a xs->xs[i]?=some x)/\(∀ ys,SqT K H b ys->ys[i]?=some y),fun i H=>∃ xs ys,SqT K H a xs/\SqT K H b ys/\(xs.length<=i∨ys.length<=i)⟩
structure ZTn (z TI TO i1 i2 a b:Vy) (i:Nat) (h:WR):Prop where
 ap:ZipApart z TI TO i1 i2 a b
 zip:IsZip h z TI TO .none
 hTI:Yg h TI (.ref i1) (.ref i2)
 hTO:∃ u v,Yg h TO u v
 h1:h.IsTupleIter i1 a i
 h2:h.IsTupleIter i2 b i
theorem uK {P:V3} {w:Wg} {K:VB} {elts:List WC} {k1} {pos:Zm} (a b z TI TO i1 i2:Vy):Turn P w K (.Tuple elts k1 pos) (Itz K a b) [z,TI,TO,i1,i2] z (ZTn z TI TO i1 i2 a b) where
 mem:=by simp
 obj:=fun i h st c hc=>by
  obtain ⟨D,hz,hTI,⟨u,v,hTO⟩,⟨o1,a1,a2,a3⟩,⟨o2,b1,b2,b3⟩⟩:=st;simp only [VP,Yk,or_false] at hc;rcases hc with rfl | rfl | rfl | rfl | rfl
  · exact ⟨_,hz,fun v z=>by cases z⟩
  · exact ⟨_,hTI,fun v z=>by cases z⟩
  · exact ⟨_,hTO,fun v z=>by cases z⟩
  · exact ⟨o1,a1,fun v z=>by rw [a3] at z;cases z⟩
  · exact ⟨o2,b1,fun v z=>by rw [b3] at z;cases z⟩
 keep:=fun i h h' st k=>by
  obtain ⟨D,hz,hTI,⟨u,v,hTO⟩,⟨o1,a1,a2⟩,⟨o2,b1,b2⟩⟩:=st;exact ⟨D,k _ (by simp) _ hz,k _ (by simp) _ hTI,⟨u,v,k _ (by simp) _ hTO⟩,⟨o1,k _ (by simp) _ a1,a2⟩,⟨o2,k _ (by simp) _ b1,b2⟩⟩
 item:=by
  intro X hP hw hK hc i pins s σ H E I hf st hg;subst hP hw hK;obtain ⟨xs,ys,x,y,CP,CQ,hx,hy⟩:=hg;obtain ⟨ia,D9,pa,Ds⟩:=I.tuple CP;obtain ⟨ib,D',pb,Hm⟩:=I.tuple CQ;obtain ⟨u,hu,ru⟩:=D9.get hx;obtain ⟨v,hv,rv⟩:=D'.get hy;obtain ⟨D,hz,hTI,⟨ta,tb,hTO⟩,h1,h2⟩:=st
  have lt:∀ c∈[z,TI,TO,i1,i2],c<s.heap.objs.size:=fun c hc=>by
   simp only [VP,Yk,or_false] at hc;rcases hc with rfl | rfl | rfl | rfl | rfl
   · exact VX hz
   · exact VX hTI
   · exact VX hTO
   · obtain ⟨o,e,_⟩:=h1;exact VX e
   · obtain ⟨o,e,_⟩:=h2;exact VX e
  refine bb_zip_next0 D hz hTI hTO h1 h2 (show s.heap.IsTuple a ia.toArray from pa) (show s.heap.IsTuple b ib.toArray from pb) (by simpa using hu) (by simpa using hv) fun BS a1 a2 a3 a4 a5 a6 a7=>?_;refine ⟨_,rfl,wpAny_letOwnedTupleGo_zip a1 fun Ca g1 sb=>?_⟩;replace sb:WN z BS Ca:=sb;have D6:H s.heap.objs.size=none:=I.hok.fresh (VG _)
  have IA:Inv X pins σ (upd H s.heap.objs.size (.tup [x,y])) { s with heap:=s.heap.push { cls:=.type "tuple",data:=.seq #[u,v] },toks:=s.toks } :=
   I.laid (o:=.tup [x,y]) (fun b ob q=>VA _ q) (VG _) ⟨by show 2<=V1;decide,[u,v],0,.cons ru (.cons rv .nil),VH _ rfl⟩
  have Rm:s.heap.objs.size≠z:=YM (lt z (by simp));refine ⟨.ref s.heap.objs.size,upd H s.heap.objs.size (.tup [x,y]),?_,rfl,⟨_,x,y,D6,rfl,rfl,fun zs Fm=>by rw [I.tuple_inj Fm CP];exact hx,fun zs Fm=>by rw [I.tuple_inj Fm CQ];exact hy⟩,?_,fun c hc=>?_⟩
  · have IB:Inv X pins σ (upd H s.heap.objs.size (.tup [x,y])) { s with heap:=Ca,toks:=s.toks }:=by
     refine Inv.turnedL (s:={ s with heap:=s.heap.push { cls:=.type "tuple",data:=.seq #[u,v] },toks:=s.toks }) (h':=Ca) (fp:=[z,TI,TO,i1,i2]) (t':=s.toks) IA (fun c o hc q=>?_) fun c hc=>?_
     · have n1:c≠z:=fun e=>hc (by simp [e]);have n2:c≠TO:=fun e=>hc (by simp [e]);have n3:c≠i1:=fun e=>hc (by simp [e]);have n4:c≠i2:=fun e=>hc (by simp [e]);rw [sb.2 c n1];by_cases Az:c=s.heap.objs.size
       · subst Az;have q':(s.heap.push { cls:=.type "tuple",data:=.seq #[u,v] }).get? s.heap.objs.size=some o:=q;rw [VH _ rfl] at q';rw [<- q'];exact a5
       · have q':(s.heap.push { cls:=.type "tuple",data:=.seq #[u,v] }).get? c=some o:=q;rw [Zs _ _ _ Az] at q';exact a7 c o n1 n2 n3 n4 q'
     · obtain ⟨f0,f1⟩:=hf c hc;exact ⟨by rw [af (Wm (lt c hc))];exact f0,f1⟩
    exact IB
  · have sT:∀ c o,c≠z->BS.get? c=some o->Ca.get? c=some o:=fun c o hc e=>(sb.2 c hc).trans e;refine ⟨D,g1,sT _ _ D.TIz (a7 _ _ D.TIz D.TITO D.TIi1 D.TIi2 hTI),⟨_,_,sT _ _ D.TOz a2⟩,?_,?_⟩
    · obtain ⟨o,e,r⟩:=a3;exact ⟨o,sT _ _ D.i1z e,r⟩
    · obtain ⟨o,e,r⟩:=a4;exact ⟨o,sT _ _ D.i2z e,r⟩
  · rw [af (Wm (lt c hc))];exact (hf c hc).1
 done:=by
  intro X hP hw hK hc i pins s σ H E I hf st hg;subst hP hw hK;obtain ⟨xs,ys,CP,CQ,BN⟩:=hg;obtain ⟨ia,D9,pa,Ds⟩:=I.tuple CP;obtain ⟨ib,D',pb,Hm⟩:=I.tuple CQ;have Hn:=D9.length;have Rn:=D'.length;obtain ⟨D,hz,hTI,hTO,h1,h2⟩:=st;refine bb_zip_done (show X.A.handled=none from I.ok.hd hc) ⟨D,.inl hz,hTI,hTO,h1,h2,pa,pb⟩ ?_ fun h' kp=>⟨rfl,?_⟩
  · rcases BN with h | h
    · exact .inl (by simp;omega)
    · exact .inr (by simp;omega)
  exact I.turnedL (fp:=[z,TI,TO,i1,i2]) (t':=s.toks) (fun c o hc q=>kp c o (fun hm=>hc (by simp only [VP,Yk,or_false] at hm ⊢;rcases hm with h | h | h | h <;> simp [h])) q) hf
 self:=fun _ _ _ _ _ st h=>wpAny_pyIter_zip st.zip h
section
variable {X:Cx} {e1 e2:WC} {t:TA} {p2 AH:Zm}
def zr (K:VB) (t:TA):TI:=fun σ H R=>t σ H fun vs H1=>∃ a b,vs=[.ref a,.ref b]/\(∃ xs,SqT K H1 a xs)/\(∃ ys,SqT K H1 b ys)/\R (Itz K a b) H1
theorem uP {elts:List WC} {k1} {pos:Zm} (g2:Gl X "zip") (m2:X.mg "zip"=none) (ha:PA X [e1,e2] t)
 (h2:Wr [e1,e2] X.env=(false,Xx e1 X.env)::Wr [e2] X.env:=by rfl) (h3:(YJ AH (Wr [e2] X.env)).any (·.1)=false:=by rfl):PI X (.Tuple elts k1 pos) (.Call (.Name "zip" p2) [e1,e2] [] AH) (zr X.K t):=by
 intro pins s σ H R I h;refine W9 (eE I g2 m2 boot_zip ?_);refine W6 (thn (ha AH pins s σ H _ I h) fun us s2 ⟨vs,H2,I2,r,a,b,ev,⟨xs,CP⟩,⟨ys,CQ⟩,q⟩=>?_) h2 h3;subst ev;obtain ⟨u1,u2,rfl,r1,r2⟩:=vals2 r;cases r1;cases r2;obtain ⟨ia,D9,pa,Ds⟩:=I2.tuple CP;obtain ⟨ib,D',pb,Hm⟩:=I2.tuple CQ;have Ay:a<s2.heap.objs.size:=by obtain ⟨o,e,_⟩:=pa;exact VX e
 have Cs:b<s2.heap.objs.size:=by obtain ⟨o,e,_⟩:=pb;exact VX e
 refine bb_call_zip (show s2.heap.IsTuple a ia.toArray from pa) (show s2.heap.IsTuple b ib.toArray from pb) fun h' z1 z2 z3 z4 z5 z6 z7=>?_;have D:ZipApart (s2.heap.objs.size+4) (s2.heap.objs.size+2) (s2.heap.objs.size+3) s2.heap.objs.size (s2.heap.objs.size+1) a b:=zipApart_new Ay Cs;refine wpAny_pyIter_zip (s:={ s2 with heap:=h' }) z1 ?_;refine ⟨s2.heap.objs.size+4,[s2.heap.objs.size+4,s2.heap.objs.size+2,s2.heap.objs.size+3,s2.heap.objs.size,s2.heap.objs.size+1],_,_,H2,rfl,I2.kept (t':=s2.toks) z7,uK a b _ _ _ _ _,⟨D,z1,z2,⟨_,_,z3⟩,z4,z5⟩,fun c hc=>?_,q⟩
 have AX:s2.heap.objs.size<=c:=by
  simp only [VP,Yk,or_false] at hc;rcases hc with h | h | h | h | h <;> rw [h]
  · exact Xq _ _
  · exact Xq _ _
  · exact Xq _ _
  · exact VG _
  · exact Xq _ _
 exact I2.fpOk AX (I2.hok.fresh AX)
end
end L2
namespace BB
open PySem L2
theorem xG {J:It} {g:TG} {tb:TS} {D:Ends} {σ:St} {H:Hp} (n:Nat) (Pv:Nat->St->Hp->Prop) (h0:Pv 0 σ H) (Ff:∀ i σ H,i<n->Pv i σ H->J.go i H) (A':∀ σ H,Pv n σ H->J.stop n H)
 (hs:∀ i x σ H H',i<n->Pv i σ H->J.yld i H x H'->g x σ H' fun zU H2=>tb { D with nx:=Pv (i+1),ct:=Pv (i+1),bk:=D.nx } zU H2) (hd:∀ σ H,Pv n σ H->D.nx σ H) :
 ∃ W:Nat->Nat->St->Hp->Prop,(∃ m,W 0 m σ H)/\∀ i m σ H,W i m σ H →
   (J.stop i H/\D.nx σ H)∨(J.go i H/\∃ N:St->Hp->Prop,(∀ zJ H',N zJ H'->∃ m',m'<m/\W (i+1) m' zJ H')/\∀ x H',J.yld i H x H'->g x σ H' fun zU H2=>tb { D with nx:=N,ct:=N,bk:=D.nx } zU H2):=by
 refine ⟨fun i m σ H=>i<=n/\m=n - i/\Pv i σ H,⟨n,Wc _,rfl,h0⟩,?_⟩;rintro i m σ H ⟨hi,rfl,p⟩;by_cases h:i=n
 · left;subst h;exact ⟨A' σ H p,hd σ H p⟩
 · right;have Bg:i<n:=by omega
   exact ⟨Ff i σ H Bg p,Pv (i+1),fun zJ H' q=>⟨n - (i+1),by omega,by omega,rfl,q⟩,fun x H' y=>hs i x σ H H' Bg p y⟩
end BB
namespace BB
open PySem L2
noncomputable section
local instance:DecidableEq Th:=fun _ _=>Classical.propDecidable _
end
end BB
namespace PySem
open Sem (wp)
section
variable {prog:V3} {w:Wg} {K:Type} [DecidableEq K] {knd:HeapKind prog w K} {A:Wn} {E:VC->VF->Prop} {s:VF}
end
end PySem
namespace L2
open PySem PySem.Spec PyProof.Rows
end L2
namespace PySem
open Sem (wp)
section
variable {prog:V3} {w:Wg} {A:Wn} {R:Result->VF->Prop}
end
section
variable {prog:V3} {w:Wg} {A:Wn} {E:VC->VF->Prop} {s:VF}
end
end PySem
namespace L2
open PySem PySem.Spec PyProof.Rows
end L2
namespace L2
open PySem PySem.Spec PyProof.Rows BB
theorem xq {H:Hp} {es:List Dv} {ws:List V} {its:List VC} (r1:Vals ws its) (Au:DAts H es ws) (j:Nat) (z:VC) (hz:its[j]?=some z):∃ e y',es[j]?=some e/\DAt H e y'/\RelV y' z:=by
 have hj:j<its.length:=(Vz.mp hz).1;have l1:=r1.length;have l2:=Au.length;have JC:j<es.length:=by omega
 obtain ⟨y',B5,dy⟩:=Au.at (Vw JC);obtain ⟨v',By,Dr⟩:=r1.get B5;rw [hz] at By;cases By;exact ⟨_,y',Vw JC,dy,Dr⟩
theorem uY {H:Hp} {z:VC} {e e':Dv} {y' Ho:V} (h1:DAt H e y') (h2:RelV y' z) (h3:DAt H e' Ho) (h4:RelV Ho z):e=e':=by
 have:=h2.inj h4;subst this;exact h1.inj h3
def vg (K:VB) (B:Nat):R2:=fun x y H Q=>∃ b ws d es,y=.ref b/\SqL K H b ws/\DAt H d x/\DAts H es ws/\bh es<=B/\∀ r:Bool,(r=true↔d∉es)->Q (.bl r) H
open Classical in
theorem sO {X:Cx} {B:Nat} (hu:X.A.units+B+2<Ys):OpR X (Xp .NotIn) (vg X.K B):=by
 intro pins s σ H x y v u Q I rx ry h;obtain ⟨b,ws,d,es,rfl,hb,hd,Au,hB,q⟩:=h;cases ry;obtain ⟨its,r1,p1,_⟩:=I.list hb;have l1:=r1.length;have l2:=Au.length;refine SeqAt.notIn_listAt (fun z=>decide (∃ y',DAt H d y'/\RelV y' z)) p1.isList (fun z hz=>?_) ⟨.bl _,H,I,rfl,q _ ?_⟩
 · obtain ⟨j,hj⟩:=V8.mp (show z∈its by simpa using hz);obtain ⟨e,y',he,dy,ry⟩:=xq r1 Au j z hj;have hq:=d6 he
   have e3:decide (∃ y',DAt H d y'/\RelV y' z)=decide (e=d):=by
    by_cases h:e=d
    · rw [decide_eq_true h,decide_eq_true ⟨y',h ▸ dy,ry⟩]
    · rw [decide_eq_false h,decide_eq_false];rintro ⟨Ho,h1,h2⟩;exact h (uY dy ry h1 h2)
   rw [e3];refine iJ I _ e d (VG _) y' x z v X.A.in1 dy hd ry rx ?_;show X.A.units+1+_<Ys;omega
 · rw [Bool.not_eq_true',<- Bool.not_eq_true];refine not_congr ?_;constructor
   · intro z;obtain ⟨v',h1,h2⟩:=Array.any_eq_true'.mp z;obtain ⟨j,hj⟩:=V8.mp (show v'∈its by simpa using h1);obtain ⟨e,y',he,dy,ry⟩:=xq r1 Au j v' hj;obtain ⟨Ho,h3,h4⟩:=of_decide_eq_true h2;rw [<- uY dy ry h3 h4];exact VD he
   · intro z;obtain ⟨j,hj⟩:=V8.mp z;obtain ⟨y',B5,dy⟩:=Au.at hj;obtain ⟨v',By,Dr⟩:=r1.get B5;refine Array.any_eq_true'.mpr ⟨v',?_,decide_eq_true ⟨y',dy,Dr⟩⟩;have:=VD By;simpa using this
def vK (K:VB) (B:Nat):V->List V->Hp->VK->Prop:=fun x vs H Q=>∃ (l:Vy) (y:V) (ws:List V) (d:Dv) (es:List Dv) (j:Nat),x=.ref l/\vs=[y]/\SqL K H l ws/\DAt H d y/\DAts H es ws/\bh es<=B/\es[j]?=some d/\(∀ i,i<j->es[i]?≠some d)/\es.length<=100000/\Q (.int (j:Nat)) H
open Classical in
theorem tq {X:Cx} {B:Nat} (hu:X.A.units+B+4<Ys):MtM X "list.index" (vK X.K B):=by
 intro pins s σ H x vs v us Q I rx rv h;obtain ⟨l,y,ws,d,es,j,rfl,rfl,hS,hd,Au,hB,hj,AY,hz,q⟩:=h;cases rx;obtain ⟨u,rfl,ru⟩:=rv.one;obtain ⟨its,r,pl,_⟩:=I.list hS;have hlen:=r.length;have AR:=Au.length;obtain ⟨⟨cls,dd,data,sl⟩,ho,hc,n,hdt⟩:=pl.isList;simp only at hc hdt;subst hc hdt;have CO:j<es.length:=(Vz.mp hj).1
 have K6:∀ (m:Nat) (z:VC),its[m]?=some z->∃ e y',es[m]?=some e/\DAt H e y'/\RelV y' z/\decide (∃ y',DAt H d y'/\RelV y' z)=decide (e=d):=fun m z hz=>by
  obtain ⟨e,y',he,dy,ry⟩:=xq r Au m z hz;refine ⟨e,y',he,dy,ry,?_⟩;by_cases h:e=d
  · rw [decide_eq_true h,decide_eq_true ⟨y',h ▸ dy,ry⟩]
  · rw [decide_eq_false h,decide_eq_false];rintro ⟨Ho,h1,h2⟩;exact h (uY dy ry h1 h2)
 refine Zc Y4 ⟨_,ho,rfl⟩ PySem.F.entry_list_index (PySem.F.args_list_index_2 _ _)
  (SeqAt.list_indexAt l its.toArray n dd sl u (fun z=>decide (∃ y',DAt H d y'/\RelV y' z)) j (by rw [VL];omega) (by omega) ?_ ?_) ⟨ho,fun y hy=>?_,⟨.int (j:Nat),H,I.tok _,⟨_,rfl⟩,q⟩⟩
 · obtain ⟨e,y',he,dy,ry,e3⟩:=K6 j (its.toArray[j]'(by rw [VL];omega)) (by simp);rw [hj] at he;cases he;rw [e3];exact decide_eq_true rfl
 · intro m hm zV;obtain ⟨e,y',he,dy,ry,e3⟩:=K6 m (its.toArray[m]'hm) (by simp);rw [e3];exact decide_eq_false fun z=>AY m zV (by rw [he,z])
 · have B5:y∈its:=by simpa using hy
   obtain ⟨m,hm⟩:=V8.mp B5;obtain ⟨e,y',he,dy,ry,e3⟩:=K6 m y hm;rw [e3];have hq:=d6 he;refine iJ I _ e d (VG _) y' _ y u _ dy hd ry ru ?_;show X.A.units+1+_<Ys;omega
end L2
namespace PySem
open Sem (wp)
section
variable {prog:V3} {w:Wg} {K:Type} [DecidableEq K] (knd:HeapKind prog w K) (d:Vy)
end
section
variable {prog:V3} {w:Wg} {K:Type} [DecidableEq K] {knd:HeapKind prog w K} {A:Wn} {E:VC->VF->Prop} {s:VF}
end
end PySem
namespace L2
open PySem PySem.Spec PyProof.Rows
end L2
namespace BB
open PySem L2
end BB
namespace BB
open PySem L2
end BB
namespace BB
open PySem L2
theorem size_pos (t:Th):0<t.size:=by cases t <;> (rw [Th.size];omega)
end BB
namespace BB
open PySem L2
end BB
namespace BB
open PySem L2 PySem.Builtin PySem.Builtin.Str
end BB
namespace L2
open PySem PySem.Spec PySem.Calls PyProof.Rows BB
section
variable {X:Cx} {pins:List (Vy×Xn)} {σ:List (Option V)} {H:Hp} {s:VF}
end
end L2
namespace L2
open PySem PySem.Spec PySem.Calls PyProof.Rows PySem.Builtin PySem.Builtin.Str BB
variable {X:Cx}
end L2
namespace BB
open PySem L2
end BB
namespace BB
open PySem L2
section
variable {H H':Hp} {t:Th} {a:Vy} {ts:List Th} {es:List Vy}
end
end BB
namespace L2
open PySem PySem.Spec PyProof.Rows BB
variable {X:Cx}
end L2
namespace L2
open PySem PySem.Spec PyProof.Rows PySem.W
end L2
namespace L2
open PySem PySem.Spec PyProof.Rows BB
variable {X:Cx}
end L2
namespace L2
open PySem PySem.Spec PySem.Calls PyProof.Rows PySem.W
end L2
namespace BB
open PySem L2 PySem.Builtin PySem.Builtin.Str
end BB
namespace L2
open PySem PySem.Spec PySem.Calls PyProof.Rows PySem.Builtin PySem.Builtin.Str BB
variable {X:Cx}
end L2
namespace L2
open PySem PySem.Spec PyProof.Rows
end L2
namespace BB
open PySem L2
theorem fw {ks:List (V2×Int)} (g:bu ks):(ks.map (·.1)).Nodup:=by
 refine List.pairwise_iff_getElem.mpr fun i j hi hj UR e=>?_;rw [Vt] at hi hj;rw [List.getElem_map,List.getElem_map] at e;have:=g.nd i j _ _ (Vw hi) (Vw hj) e;omega
mutual
theorem lj {ks:List (V2×Int)} {S C:Int} (hn:(ks.map (·.1)).Nodup):∀ {t:Th},t.FitS ks S C->fpb ks S C t=true
 | .knot n ts,h=>by
   rw [Th.FitS] at h;rw [uZ,okP,decide_eq_true ((lq hn).mpr h.1),Bool.true_and];exact l9 hn h.2
 | .call s k,h=>by
   rw [Th.FitS] at h;rw [uZ,okP,decide_eq_true ⟨h.1,h.2.1⟩,decide_eq_true ⟨h.2.2.1,h.2.2.2⟩];rfl
theorem l9 {ks:List (V2×Int)} {S C:Int} (hn:(ks.map (·.1)).Nodup):∀ {ts:List Th},cT ks S C ts->uh ks S C ts=true
 | [],_=>rfl
 | t::ts,h=>by
   rw [cT] at h;rw [lD,Wf,ZT,lj hn h.1,<- lD,l9 hn h.2];rfl
end
def kR (rows:List (List Th)):List Dv:=rows.map fun row=>.tup (dvs row)
def nL (ins outs:List (V2×Int)) (head:Th) (rows:List (List Th)):List Dv:=[.tup (ins.map kDv),.tup (outs.map kDv),head.dv,.tup (kR rows)]
theorem ss {H:Hp}:∀ {rows:List (List Th)} {AD:List Vy},WD (RowAt H) rows AD->DAts H (kR rows) (AD.map V.ref)
 | _,_,.nil=>.nil
 | _,_,.cons (a:=row) (b:=a) r h=>by
   obtain ⟨as,e,h1⟩:=r;show DAts H (Dv.tup (dvs row)::kR _) (V.ref a::_);refine .cons ?_ (ss h);rw [DAt];exact ⟨a,_,rfl,e,h1.dvs⟩
theorem kx {H:Hp} {ins outs:List (V2×Int)} {head:Th} {rows:List (List Th)} {r ia oa ha ra:Vy} {Ac Ap AD:List Vy} (b:BookAt H ins outs head rows r ia oa ha ra Ac Ap AD):DAts H (nL ins outs head rows) [.ref ia,.ref oa,.ref ha,.ref ra]:=by
 refine .cons ?_ (.cons ?_ (.cons b.hd.dv (.cons ?_ .nil)))
 · rw [DAt];exact ⟨ia,_,rfl,b.inE,uu b.inK⟩
 · rw [DAt];exact ⟨oa,_,rfl,b.outE,uu b.outK⟩
 · rw [DAt];exact ⟨ra,_,rfl,b.rl,ss b.rw⟩
theorem j3 {m:Nat}:∀ {rows:List (List Th)},(∀ row∈rows,∀ t∈row,t.tall<=m)->bh (kR rows)<=m+1
 | [],_=>by show bh []<=_;rw [bh];exact Wc _
 | row::rows,h=>by
   have h1:=j3 (rows:=rows) fun r hr=>h r (Vv _ hr);have h2:=fW row
   have h3:aC row<=m:=by
    have:=h row (VI ..);clear h h1 h2;induction row with
    | nil=>rw [aC];exact Wc _
    | cons t ts ih =>
      rw [aC];have a:=this t (VI ..);have b:=ih fun u hu=>this u (Vv _ hu);omega
   show bh (Dv.tup (dvs row)::kR rows)<=_;rw [bh,Dv.deep];omega
theorem pE {ins outs:List (V2×Int)} {head:Th} {rows:List (List Th)} {m:Nat} (hm:1<=m) (h1:head.tall<=m) (h2:∀ row∈rows,∀ t∈row,t.tall<=m):bh (nL ins outs head rows)<=m+2:=by
 have a1:=lX ins;have a2:=lX outs;have a3:=head.dv_deep;have a4:=j3 h2;unfold nL;simp only [bh,Dv.deep];omega
end BB
namespace L2
open PySem PySem.Spec PyProof.Rows
end L2
namespace L2
open PySem PySem.Spec PySem.Calls PyProof.Rows
structure FvOk (P:V3) (w:Wg) (K:VB) (mg:V2->Option VC) (base:WR) (CX:CXT) (k:Nat) (f:Vy) (sp:Sp):Prop where
 fn:∀ (A:Wn) (outer:List Env) (s:VF) (H:Hp) (vs:List V) (Q:VK) (E:XK),Env0 P w K mg base A outer s H->sp vs H Q E->PySem.W.FnAt f s.heap
 run:∀ (A:Wn) (outer:List Env) (s:VF) (H:Hp) (us:List VC) (vs:List V) (Q:VK) (E:XK),Room k A->Env0 P w K mg base A outer s H->Vals vs us->sp vs H Q E →
  ZG (Wb P w) A (.call (.ref f) ⟨us,[]⟩) (CR CX outer P w H s Q E) s
theorem FvOk.of {P:V3} {w:Wg} {K:VB} {mg:V2->Option VC} {base:WR} {CX:CXT} {k:Nat} {f:Vy} {fd:XQ} {ps:List V2} {sp:Sp} {x qual:V2} {st:WZ} (F:aP P w K mg base CX k f fd ps sp) (G:Fun K x qual st f fd) (hb:Binds K fd ps []):FvOk P w K mg base CX k f sp where
 fn:=fun A outer s H vs Q E e0 h=>by
  obtain ⟨oc,od,kV,doc,pm,an,zQ,ct,DW,rfl,lk,_⟩:=G.ex;exact ⟨_,_,_,_,(e0.bs _ _ (e0.mod.kin _ _ lk)).1⟩
 run:=fun A outer s H us vs Q E hr e0 r h=>by
  have KX:K.In s.heap:=e0.mod.kin.keeps fun b o e=>(e0.bs b o e).1;have hl:us.length=ps.length:=by rw [<- r.length];exact F.len _ _ _ _ h
  have:=hb s us KX (by rw [Xf];exact hl);rw [Xf] at this;exact F.run A outer s H ⟨us,[]⟩ us vs Q E hr e0 this r h
section
variable {X:Cx} {CX:CXT} {k i:Nat} {E:XK} {x:V2} {p pos:Zm} {e:WC} {es:List WC} {t:TA}
def tW (P:V3) (w:Wg) (K:VB) (mg:V2->Option VC) (base:WR) (CX:CXT) (k i:Nat) (E:XK) (t:TA):TE:=fun σ H Q=>∃ f sp,σ[i]?=some (some (.ref f))/\FvOk P w K mg base CX k f sp/\t σ H fun vs H1=>sp vs H1 Q E
theorem qO {M:Model} {A:Wn} {E:VC->VF->Prop} {s:VF} {env:Env} {pos:Zm} {Q:VC->VF->Prop} {q:Vy} {e:WC} {rest:List WC} (h:VT M A (spliced (YJ pos (Wr (e::rest) env))) (fun vs zK=>PySem.W.FnAt q zK.heap/\VT M A (call (.ref q) ([]++vs)) Q E zK) E s)
 (he:Wr (e::rest) env=(false,Xx e env)::Wr rest env) (B4:(YJ pos (Wr rest env)).any (·.1)=false) :
 VT M A (callWith pos (.ref q) [] (YJ pos (Wr (e::rest) env)) []) Q E s:=by
 rw [he] at h ⊢;exact PySem.W.callWith_of (by show ((false || (YJ pos (Wr rest env)).any (·.1)) || false)=false;rw [B4];rfl) PySem.W.keeps_F (evalArgs_plain h)
theorem lb (hN:X.N[i]?=some x) (hv:Vis X.env.scope x) (hr:Room k X.A) (hx:Passes CX X E) (ha:PA X (e::es) t) (De:(x == ("__debug__":V2))=false:=by decide) (CI:(x == ("__classdict__":V2))=false:=by decide)
 (he:Wr (e::es) X.env=(false,Xx e X.env)::Wr es X.env:=by rfl) (Bj:(YJ pos (Wr es X.env)).any (·.1)=false:=by rfl) :
 PE X (.Call (.Name x p) (e::es) [] pos) (tW X.prog X.w X.K X.mg X.base CX k i E t):=by
 intro pins s σ H Q I h;obtain ⟨f,sp,Ro,F,q⟩:=h;refine W9 (thn (uF (X:=X) hN hv De CI pins s σ H (fun v H1=>v=.ref f/\t σ H1 fun vs H2=>sp vs H2 Q E) I ⟨_,Ro,rfl,q⟩) fun u s1 ⟨v,H1,I1,r,e1,q1⟩=>?_);subst e1;obtain rfl:u=Wj f:=r;refine qO (thn (ha pos pins s1 σ H1 _ I1 q1) fun us s2 ⟨vs,H2,I2,r2,q2⟩=>⟨F.fn X.A X.stack s2 H2 vs Q E I2.env0 q2,?_⟩) he Bj;refine wpAny_call (Zr (F.run X.A X.stack s2 H2 ([]++us) vs Q E hr I2.env0 r2 q2) fun r s' hq=>?_);cases r with
 | error e=>exact hx pins σ H2 s2 e s' I2 hq
 | ok fl =>
   cases fl with
   | ret u=>exact I2.after hq
   | next=>exact Xl hq
   | brk=>exact Xl hq
   | cont=>exact Xl hq
end
section
variable {X:Cx} {k:Nat} {f:Vy} {fd:XQ} {ps:List V2} {sp:Sp} {x:V2} {p pos:Zm} {e:WC} {es:List WC} {t:TA}
end
end L2
namespace L2
open PySem PySem.Spec PyProof.Rows
end L2
namespace L2
open PySem PySem.Spec PyProof.Rows
end L2
namespace BB
open PySem L2
section
variable {head:Th} {rows:List (List Th)}
end
end BB
namespace L2
open PySem PySem.Spec PySem.SeqAt PyProof.Rows
section
variable {X:Cx} {pins:List (Vy×Xn)} {σ:St} {H:Hp} {s:VF} {o i value:WC} {pos pos':Zm} {td ty tv:TE}
end
end L2
namespace BB
open PySem L2
end BB
namespace BB
open PySem L2
structure zj (ins outs:List (V2×Int)) (S:Int) (rows:List (List Th)):Prop where
 len:(rows.length:Int)=S
 row:∀ row∈rows,row.length=ins.length/\∀ (j:Nat) (p:Th) (k:V2×Int),row[j]?=some p->ins[j]?=some k->p.FitS outs S k.2
end BB
namespace BB
open PySem L2
mutual
/-- how many calls -/
def cnT:Th->Nat
 | .knot _ ks=>cI ks
 | .call _ _=>1
def cI:List Th->Nat
 | []=>0
 | t::ts=>cnT t+cI ts
end
structure Small (t:Th):Prop where
 tall:t.tall<=20
 kn:t.kn<=400
 cn:cnT t<=200
theorem yE (t:Th):t.kn=(if t.isCall=true then 0 else 1)+kns t.kids:=by
 cases t with
 | knot n ks=>rw [Th.kn,Th.isCall,Th.kids,if_neg VS];omega
 | call s k=>rw [Th.kn,Th.isCall,Th.kids,if_pos rfl,kns]
theorem yr (t:Th):cnT t=(if t.isCall=true then 1 else 0)+cI t.kids:=by
 cases t with
 | knot n ks=>rw [cnT,Th.isCall,Th.kids,if_neg VS];omega
 | call s k=>rw [cnT,Th.isCall,Th.kids,if_pos rfl,cI]
theorem lE (a b:List Th):kns (a++b)=kns a+kns b:=by
 induction a with
 | nil=>rw [Y0,kns];omega
 | cons x a ih=>rw [Xr,kns,kns,ih];omega
theorem jM (a b:List Th):cI (a++b)=cI a+cI b:=by
 induction a with
 | nil=>rw [Y0,cI];omega
 | cons x a ih=>rw [Xr,cI,cI,ih];omega
mutual
theorem kj:∀ t:Th,t.size=t.kn+cnT t
 | .knot n ks=>by rw [Th.size,Th.kn,cnT,pf ks];omega
 | .call s k=>by rw [Th.size,Th.kn,cnT]
theorem pf:∀ ts:List Th,au ts=kns ts+cI ts
 | []=>by rw [au,kns,cI]
 | t::ts=>by rw [au,kns,cI,kj t,pf ts];omega
end
end BB
namespace BB
open PySem L2
section
variable {ins mid outs:List (V2×Int)} {S1 S2:Int} {EM EN:Th} {EO ER:List (List Th)}
theorem oW {outs:List (V2×Int)} {S st:Int} (h0:0<=st) (h1:st<S):(Th.call st 0).FitS outs S 1:=by
 rw [Th.FitS];exact ⟨h0,h1,Int.le_refl _,by decide⟩
end
end BB
namespace L2
open PySem PySem.Spec PySem.Calls PyProof.Rows
end L2
namespace BB
open PySem L2
mutual
/-- Bw row of Bw K7 call,0 where there is none -/
def lc:Th->Nat
 | .call _ _=>1
 | .knot _ ks=>if lcs ks=0 then 0 else lcs ks+1
def lcs:List Th->Nat
 | []=>0
 | t::ts=>max (lc t) (lcs ts)
end
mutual
theorem r8:∀ t:Th,lc t<=t.tall
 | .call _ _=>by rw [lc,Th.tall];exact VG _
 | .knot _ ks=>by
   have:=mD ks;rw [lc,Th.tall];split <;> omega
theorem mD:∀ ts:List Th,lcs ts<=aC ts
 | []=>by rw [lcs];exact Wc _
 | t::ts=>by
   have:=r8 t;have:=mD ts;rw [lcs,aC];omega
end
mutual
theorem gf {ks:List (V2×Int)} {S C:Int} (g:bu ks):∀ t:Th,t.FitS ks S C->2 * t.size+1<=3 ^ t.tall/\3 * cnT t<=3 ^ lc t
 | .call _ _,_=>by
   rw [Th.size,Th.tall,cnT,lc];exact ⟨by decide,by decide⟩
 | .knot n ts,h=>by
   rw [Th.FitS] at h;obtain ⟨h1,h2⟩:=kW g ts h.2
   have hw:ts.length<=3:=by
    have:=(g.num _ h.1).2;have h2:((ts.length:Nat):Int)<=3:=this;omega
   rw [Th.size,Th.tall,cnT,lc];refine ⟨?_,?_⟩
   · rw [Nat.pow_succ];have hp:1<=3 ^ aC ts:=Nat.pow_pos (by decide);have:ts.length * (3 ^ aC ts - 1)<=3 * (3 ^ aC ts - 1):=Nat.mul_le_mul_right _ hw;omega
   · have:ts.length * 3 ^ lcs ts<=3 * 3 ^ lcs ts:=Nat.mul_le_mul_right _ hw;split
     · rename_i hz
       rw [hz] at h2 this;have h3:=m9 g ts h.2 hz;omega
     · rw [Nat.pow_succ];omega
theorem kW {ks:List (V2×Int)} {S C:Int} (g:bu ks):∀ ts:List Th,cT ks S C ts->2 * au ts<=ts.length * (3 ^ aC ts - 1)/\3 * cI ts<=ts.length * 3 ^ lcs ts
 | [],_=>by
   rw [au,cI];exact ⟨Wc _,Wc _⟩
 | t::ts,h=>by
   rw [cT] at h;obtain ⟨h1,h2⟩:=gf g t h.1;obtain ⟨h3,h4⟩:=kW g ts h.2;rw [au,cI,aC,lcs,VY];have a1:3 ^ t.tall<=3 ^ max t.tall (aC ts):=Xy (by decide) (Nat.le_max_left ..);have a2:3 ^ aC ts<=3 ^ max t.tall (aC ts):=Xy (by decide) (Nat.le_max_right ..);have b1:3 ^ lc t<=3 ^ max (lc t) (lcs ts):=Xy (by decide) (Nat.le_max_left ..);have b2:3 ^ lcs ts<=3 ^ max (lc t) (lcs ts):=Xy (by decide) (Nat.le_max_right ..);have a3:ts.length * (3 ^ aC ts - 1)<=ts.length * (3 ^ max t.tall (aC ts) - 1):=Nat.mul_le_mul_left _ (by omega);have b3:ts.length * 3 ^ lcs ts<=ts.length * 3 ^ max (lc t) (lcs ts):=Nat.mul_le_mul_left _ b2;rw [Nat.add_mul,Nat.add_mul];omega
theorem m9 {ks:List (V2×Int)} {S C:Int} (g:bu ks):∀ ts:List Th,cT ks S C ts->lcs ts=0->cI ts=0
 | [],_,_=>by rw [cI]
 | t::ts,h,hz=>by
   rw [cT] at h;rw [lcs] at hz;have h1:=(gf g t h.1).2;rw [show lc t=0 by omega] at h1;rw [cI,m9 g ts h.2 (by omega)];omega
end
theorem w9 {ts:List Th} {t:Th} (h:t∈ts):t.size<=au ts:=by
 induction ts with
 | nil=>cases h
 | cons u ts ih =>
   rw [au];rcases VP.mp h with rfl | h
   · omega
   · have:=ih h;omega
end BB
namespace BB
open PySem L2
theorem ph {ks:List (V2×Int)} {S C:Int} (g:bu ks) {t:Th} (h:t.FitS ks S C) (h1:t.tall<=6) (h2:lc t<=5):Small t:=by
 obtain ⟨a,b⟩:=gf g t h;have a2:3 ^ t.tall<=3 ^ 6:=Xy (by decide) h1;have b2:3 ^ lc t<=3 ^ 5:=Xy (by decide) h2;have c:=kj t;have a3:(3:Nat) ^ 6=729:=by decide
 have b3:(3:Nat) ^ 5=243:=by decide
 exact ⟨by omega,by omega,by omega⟩
section
variable {ins mid outs:List (V2×Int)} {S1 S2:Int} {EM EN:Th} {EO ER:List (List Th)} {Rp Rq Rr Rt Ru Rv Rw:Nat}
end
end BB
namespace BB
open PySem L2
theorem eQ {H:Hp}:∀ {ts:List Th} {as:List Vy},WD (At H) ts as->Ats H ts as
 | _,_,.nil=>.nil
 | _,_,.cons h g=>.cons h (eQ g)
end BB
namespace BB
open PySem L2
end BB
namespace L2
open PySem PySem.Spec PySem.Calls PyProof.Rows
end L2
namespace L2
open PySem PySem.Spec PySem.Calls PyProof.Rows
end L2
namespace BB
open PySem L2
end BB
namespace BB
open PySem L2
section
variable {k0 k1 k2 k3:List (V2×Int)} {SA SB SC:Int} {a0 b0 c0:Th} {OK OL OM:List (List Th)}
end
end BB
namespace BB
open PySem L2
section
variable {ins mid outs:List (V2×Int)} {S1 S2:Int} {EM EN:Th} {EO ER:List (List Th)} {Rp Rq Rr Rt Ru Rv Rw:Nat}
end
end BB
namespace BB
theorem hid {G:Prop} (k:∀ F:Prop,(G->F)->F):G:=k G id
inductive Ex1 {A0:Type} (p:A0->Prop):Prop
 | mk (x0:A0) (h:p x0):Ex1 p
inductive Ex2 {A0 A1:Type} (p:A0->A1->Prop):Prop
 | mk (x0:A0) (x1:A1) (h:p x0 x1):Ex2 p
inductive Ex3 {A0 A1 A2:Type} (p:A0->A1->A2->Prop):Prop
 | mk (x0:A0) (x1:A1) (x2:A2) (h:p x0 x1 x2):Ex3 p
inductive Ex4 {A0 A1 A2 A3:Type} (p:A0->A1->A2->A3->Prop):Prop
 | mk (x0:A0) (x1:A1) (x2:A2) (x3:A3) (h:p x0 x1 x2 x3):Ex4 p
inductive Ex5 {A0 A1 A2 A3 A4:Type} (p:A0->A1->A2->A3->A4->Prop):Prop
 | mk (x0:A0) (x1:A1) (x2:A2) (x3:A3) (x4:A4) (h:p x0 x1 x2 x3 x4):Ex5 p
inductive Ex6 {A0 A1 A2 A3 A4 A5:Type} (p:A0->A1->A2->A3->A4->A5->Prop):Prop
 | mk (x0:A0) (x1:A1) (x2:A2) (x3:A3) (x4:A4) (x5:A5) (h:p x0 x1 x2 x3 x4 x5):Ex6 p
inductive Ex7 {A0 A1 A2 A3 A4 A5 A6:Type} (p:A0->A1->A2->A3->A4->A5->A6->Prop):Prop
 | mk (x0:A0) (x1:A1) (x2:A2) (x3:A3) (x4:A4) (x5:A5) (x6:A6) (h:p x0 x1 x2 x3 x4 x5 x6):Ex7 p
inductive Ex8 {A0 A1 A2 A3 A4 A5 A6 A7:Type} (p:A0->A1->A2->A3->A4->A5->A6->A7->Prop):Prop
 | mk (x0:A0) (x1:A1) (x2:A2) (x3:A3) (x4:A4) (x5:A5) (x6:A6) (x7:A7) (h:p x0 x1 x2 x3 x4 x5 x6 x7):Ex8 p
inductive An2 (a0 a1:Prop):Prop
 | mk (h0:a0) (h1:a1):An2 a0 a1
inductive An3 (a0 a1 a2:Prop):Prop
 | mk (h0:a0) (h1:a1) (h2:a2):An3 a0 a1 a2
inductive An4 (a0 a1 a2 a3:Prop):Prop
 | mk (h0:a0) (h1:a1) (h2:a2) (h3:a3):An4 a0 a1 a2 a3
inductive An5 (a0 a1 a2 a3 a4:Prop):Prop
 | mk (h0:a0) (h1:a1) (h2:a2) (h3:a3) (h4:a4):An5 a0 a1 a2 a3 a4
inductive An6 (a0 a1 a2 a3 a4 a5:Prop):Prop
 | mk (h0:a0) (h1:a1) (h2:a2) (h3:a3) (h4:a4) (h5:a5):An6 a0 a1 a2 a3 a4 a5
inductive An7 (a0 a1 a2 a3 a4 a5 a6:Prop):Prop
 | mk (h0:a0) (h1:a1) (h2:a2) (h3:a3) (h4:a4) (h5:a5) (h6:a6):An7 a0 a1 a2 a3 a4 a5 a6
inductive An8 (a0 a1 a2 a3 a4 a5 a6 a7:Prop):Prop
 | mk (h0:a0) (h1:a1) (h2:a2) (h3:a3) (h4:a4) (h5:a5) (h6:a6) (h7:a7):An8 a0 a1 a2 a3 a4 a5 a6 a7
inductive An9 (a0 a1 a2 a3 a4 a5 a6 a7 a8:Prop):Prop
 | mk (h0:a0) (h1:a1) (h2:a2) (h3:a3) (h4:a4) (h5:a5) (h6:a6) (h7:a7) (h8:a8):An9 a0 a1 a2 a3 a4 a5 a6 a7 a8
inductive xw (a0 a1 a2 a3 a4 a5 a6 a7 a8 a9:Prop):Prop
 | mk (h0:a0) (h1:a1) (h2:a2) (h3:a3) (h4:a4) (h5:a5) (h6:a6) (h7:a7) (h8:a8) (h9:a9):xw a0 a1 a2 a3 a4 a5 a6 a7 a8 a9
inductive yH (a0 a1 a2 a3 a4 a5 a6 a7 a8 a9 Hq:Prop):Prop
 | mk (h0:a0) (h1:a1) (h2:a2) (h3:a3) (h4:a4) (h5:a5) (h6:a6) (h7:a7) (h8:a8) (h9:a9) (Rx:Hq):yH a0 a1 a2 a3 a4 a5 a6 a7 a8 a9 Hq
inductive w8 (a0 a1 a2 a3 a4 a5 a6 a7 a8 a9 Hq ON OO:Prop):Prop
 | mk (h0:a0) (h1:a1) (h2:a2) (h3:a3) (h4:a4) (h5:a5) (h6:a6) (h7:a7) (h8:a8) (h9:a9) (Rx:Hq) (US:ON) (UT:OO):w8 a0 a1 a2 a3 a4 a5 a6 a7 a8 a9 Hq ON OO
end BB
namespace L2
open PySem PySem.Spec PyProof.Rows
end L2
namespace BB
open PySem L2
def bV (m:Int):List Th:=(WT m.toNat).map fun i=>.call 0 (i:Nat)
def bS (ks:List (V2×Int)):List Th:=ks.map fun k=>.knot k.1 (bV k.2)
theorem gW {m c:Int} (h0:0<=c) (h1:c<m):(bV m)[c.toNat]?=some (.call 0 c):=by
 unfold bV;rw [VM,YU (by omega)];show some (Th.call 0 ((c.toNat:Nat):Int))=_;rw [WW h0]
theorem b7 (m:Int):(bV m).length=m.toNat:=by unfold bV;rw [Vt,WK]
theorem cJ {ks:List (V2×Int)} {j:Nat} {k:V2×Int} (h:ks[j]?=some k):(bS ks)[j]?=some (.knot k.1 (bV k.2)):=by
 unfold bS;rw [VM,h];rfl
theorem pG {ks:List (V2×Int)} {S C:Int}:∀ {ts:List Th},(∀ t∈ts,t.FitS ks S C)->cT ks S C ts
 | [],_=>by rw [cT];trivial
 | t::ts,h=>by
   rw [cT];exact ⟨h t (VI ..),pG fun u hu=>h u (Vv _ hu)⟩
theorem qR {ks:List (V2×Int)} {m:Int}:cT ks 1 m (bV m):=pG fun t ht=>by
 unfold bV at ht;obtain ⟨i,hi,rfl⟩:=V4.mp ht;rw [YG] at hi;rw [Th.FitS];omega
theorem rT {ks:List (V2×Int)} (g:bu ks):zj ks ks 1 [bS ks]:=by
 refine ⟨rfl,fun row hr=>?_⟩;rw [VJ.mp hr];refine ⟨by unfold bS;rw [Vt],fun j p k hp hk=>?_⟩;rw [cJ hk] at hp;cases hp;have h2:=(g.num k (VD hk)).1;rw [Th.FitS,b7,WW h2];exact ⟨VD hk,qR⟩
section
variable {ins outs:List (V2×Int)} {S:Int} {d:Nat} {head:Th} {rows:List (List Th)}
end
end BB
namespace L2
open PySem PySem.Spec PyProof.Rows
end L2
namespace L2
open PySem PySem.Spec PyProof.Rows
def tY (H H1 H2:Hp):Prop:=∀ b,H2 b=H1 b∨∃ o u,H1 b=some (.frz o u)/\H b=some u/\H2 b=some u
theorem w6 {o:Xn} {u:HO} (h:u=.frz o u):False:=by
 have:=congrArg sizeOf h;simp at this
theorem Inv.thaw {X:Cx} {pins:List (Vy×Xn)} {σ AN:St} {H H1 H2:Hp} {s s1:VF} (I:Inv X pins σ H s) (I1:Inv X pins AN H1 s1) (h:tY H H1 H2):Inv X pins AN H2 s1:=by
 have keep:∀ b u,H1 b=some u->(∀ o v,u≠.frz o v)->H2 b=some u:=fun b u e n=>by
  rcases h b with z | ⟨o,v,z,_⟩
  · rw [z];exact e
  · rw [e] at z;cases z;exact absurd rfl (n o v)
 have non:∀ b,H1 b=none->H2 b=none:=fun b e=>by
  rcases h b with z | ⟨o,v,z,_⟩
  · rw [z];exact e
  · rw [e] at z;cases z
 have ht:∀ b xs,H1 b=some (.tup xs)->H2 b=some (.tup xs):=fun b xs e=>keep b _ e (fun _ _ z=>nomatch z);have hw:∀ c b,H1 b=some (.own c)->H2 b=some (.own c):=fun c b e=>keep b _ e (fun _ _ z=>nomatch z);refine ⟨I1.ok,I1.os,I1.bare,⟨I1.base.keep,I1.base.slot,fun b o e n x=>non b (I1.base.free b o e n x),I1.base.there,fun b xs e=>ht b xs (I1.base.tups b xs e),fun b o u e=>?_,fun b ps e=>?_⟩,I1.loc,I1.cell,non _ I1.free,fun x c e=>non _ (I1.freeC x c e),fun p hp=>?_,fun b u e=>?_,I1.len⟩
 · have e1:=I1.base.frzs b o u e;have e2:=I.base.frzs b o u e;rcases h b with z | ⟨o',v,z,z2,_⟩
   · rw [z];exact e1
   · rw [e1] at z;cases z;rw [e2] at z2;exact (w6 (VZ z2).symm).elim
 · obtain ⟨more,e1⟩:=I1.base.tbls b ps e;exact ⟨more,keep b _ e1 (fun _ _ z=>nomatch z)⟩
 · obtain ⟨a1,a2,a3⟩:=I1.pin p hp;exact ⟨a1,non _ a2,a3⟩
 · rcases h b with z | ⟨o,v,z,_,z3⟩
   · rw [z] at e;exact (I1.hok b u e).stay (fun _ _ _ q=>q) (hw b) ht
   · rw [z3] at e;cases e;obtain ⟨_,k⟩:=(show ObjOk X.prog X.w H1 s1.heap b (.frz o u) from I1.hok b _ z);exact k.stay (fun _ _ _ q=>q) (hw b) ht
def ym (t:TS):TS:=fun D σ H=>t { D with nx:=fun AN H1=>∃ H2,tY H H1 H2/\D.nx AN H2 } σ H
theorem kA {X:Cx} {st:WZ} {t:TS} (h:PS X st t):PS X st (ym t):=fun pins s σ H D I q=>thn (h pins s σ H _ I q) fun f s' r=>by
 cases f with
 | next =>
   obtain ⟨AN,H1,I1,H2,th,q2⟩:=r;exact ⟨AN,H2,I.thaw I1 th,q2⟩
 | brk=>exact r
 | cont=>exact r
 | ret u=>exact r
def kS (t:TE):TE:=fun σ H Q=>t σ H fun v H1=>∃ H2,tY H H1 H2/\Q v H2
theorem nG {X:Cx} {e:WC} {t:TE} (h:PE X e t):PE X e (kS t):=fun pins s σ H Q I q=>thn (h pins s σ H _ I q) fun v s' r=>by
 obtain ⟨x,H1,I1,rv,H2,th,q2⟩:=r;exact ⟨x,H2,I.thaw I1 th,rv,q2⟩
end L2
namespace L2
open PySem PySem.Spec PyProof.Rows
theorem dH:entryFor table "dict_itemiterator.__iter__"=some Yb.«dict_keyiterator.__iter__»:=entryFor_alias (id':="dict_keyiterator.__iter__") (by kernel_rfl) rfl (by decide +kernel) (by kernel_rfl)
theorem Inv.freezeK {X:Cx} {pins:List (Vy×Xn)} {σ:St} {H:Hp} {s:VF} {a:Vy} {kvs:List (Key×V)} {o:Xn} (I:Inv X pins σ H s) (ha:H a=some (.dK kvs)) (ho:s.heap.get? a=some o):Inv X pins σ (upd H a (.frz o (.dK kvs))) s:=by
 have ne:∀ b u,H b=some u->u≠.dK kvs->b≠a:=fun b u e d z=>by rw [z,ha] at e;exact d (VZ e).symm
 have ht:∀ b xs,H b=some (.tup xs)->upd H a (.frz o (.dK kvs)) b=some (.tup xs):=fun b xs e=>by rw [af (ne b _ e (by intro z;cases z))];exact e
 have hw:∀ c b,H b=some (.own c)->upd H a (.frz o (.dK kvs)) b=some (.own c):=fun c b e=>by rw [af (ne b _ e (by intro z;cases z))];exact e
 have st:∀ b u,H b=some u->ObjOk X.prog X.w (upd H a (.frz o (.dK kvs))) s.heap b u:=fun b u e=>(I.hok b u e).stay (fun _ _ _ q=>q) (hw b) ht;refine I.step (g':=s.gens) (d':=s.drawn) (t':=s.toks) (ch:=[]) (fun _ z=>nomatch z) (fun b ob _ _ _ e _=>e) (fun b ob _ _ _ e _=>⟨ob.slots,e⟩) (fun b ob _ e n=>?_) (fun b ob _ e=>⟨ob,e⟩) ht (fun b ob u e=>?_) (fun b ps e=>⟨#[],?_⟩) (fun m hm=>hm) (fun b u e=>?_) I.bare
 · rw [af (fun z=>by rw [z,ha] at n;cases n)];exact n
 · rw [af (ne b _ e (by intro z;cases z))];exact e
 · rw [af (ne b _ e (by intro z;cases z)),e];simp
 · by_cases hb:b=a
   · subst hb;rw [ad] at e;cases e;exact ⟨ho,st _ _ ha⟩
   · rw [af hb] at e;exact st b u e
theorem kh {P:V3} {w:Wg} {H:Hp} {h:WR} {a:Vy} {o:Xn} {es:Array Zi} {ep:Nat} {kvs:List (Key×V)} (hd:o.data=.dict es ep) (k:ObjOk P w H h a (.frz o (.dK kvs))) :
 ∃ vs,KV kvs vs/\h.DictAt (aV P w) a vs ep/\vs.length=kvs.length:=by
 obtain ⟨e0,z,y,vs,rel,o',Ez,EA,h1,h2,h3,h4⟩:=k;rw [e0] at h1;cases h1;rw [hd] at h3;cases h3;exact ⟨vs,rel,⟨o,es,e0,h2,hd,h4⟩,(VU rel).symm⟩
theorem vE {P:V3} {w:Wg} {k:Key} {v:VC} (h:(aV P w).is k v=true):RelV (kV k) v:=by
 rcases bB h with ⟨i,tk,e1,e2⟩ | ⟨x,tk,e1,e2⟩
 · rw [e1];exact ⟨tk,e2⟩
 · rw [e1];exact ⟨tk,e2⟩
def ItI (a:Vy) (o:Xn) (kvs:List (Key×V)):It :=
 ⟨fun i H=>H a=some (.frz o (.dK kvs))/\i<kvs.length,
  fun i H v H'=>∃ p kv,H p=none/\v=.ref p/\H'=upd H p (.tup [kV kv.1,kv.2])/\kvs[i]?=some kv,
  fun i H=>H a=some (.frz o (.dK kvs))/\kvs.length<=i⟩
theorem qC {P:V3} {w:Wg} {K:VB} {elts:List WC} {k1} {pos:Zm} (a it:Vy) (o:Xn) (es:Array Zi) (ep:Nat) (kvs:List (Key×V)) (hd:o.data=.dict es ep) :
 Turn P w K (.Tuple elts k1 pos) (ItI a o kvs) [it] it (fun i h=>∃ ok ov,Z6 h it a i kvs.length ep ok ov) where
 mem:=by simp
 obj:=fun i h st b hb=>by
  obtain ⟨ok,ov,e⟩:=st;have eb:b=it:=by simpa using hb
  subst eb;exact ⟨_,e,fun v z=>by cases z⟩
 keep:=fun i h h' st k=>by
  obtain ⟨ok,ov,e⟩:=st;exact ⟨ok,ov,k it (by simp) _ e⟩
 item:=by
  intro X hP hw hK hc i pins s σ H E I hf st hg;subst hP hw hK;obtain ⟨hq,zV⟩:=hg;obtain ⟨ok,ov,hit⟩:=st;obtain ⟨vs,rel,dat,hlen⟩:=kh hd (I.hok a _ hq);obtain ⟨kv,zR⟩:∃ kv,kvs[i]?=some kv:=⟨_,Vw zV⟩;obtain ⟨xv,K8,r1,r2⟩:=BB.P2.get rel zR;rw [<- hlen] at hit;have BH:it<s.heap.objs.size:=VX hit;obtain ⟨f0,f1,f2,f3,f4,f5⟩:=hf it (by simp);refine wpAny_pyNext_items_item hit dat (k:=xv.1) (v:=xv.2) K8 fun key h1 Fc Bc Fn hsz Dt=>?_;refine ⟨_,rfl,wpAny_letOwnedTupleGo_items Bc fun h2 g1 sb=>?_⟩;replace sb:WN it h1 h2:=sb;have D6:H s.heap.objs.size=none:=I.hok.fresh (VG _)
  have IA:Inv X pins σ (upd H s.heap.objs.size (.tup [kV kv.1,kv.2])) { s with heap:=s.heap.push { cls:=.type "tuple",data:=.seq #[key,xv.2] },toks:=s.toks } :=
   I.laid (o:=.tup [kV kv.1,kv.2]) (fun b ob q=>VA _ q) (VG _) ⟨by show 2<=V1;decide,[key,xv.2],0,.cons (by rw [r1];exact vE Fc) (.cons r2 .nil),VH _ rfl⟩
  refine ⟨.ref s.heap.objs.size,upd H s.heap.objs.size (.tup [kV kv.1,kv.2]),?_,rfl,⟨_,kv,D6,rfl,rfl,zR⟩,⟨_,_,by rw [<- hlen];exact g1⟩,fun c hc=>?_⟩
  · refine Inv.turnedL (s:={ s with heap:=s.heap.push { cls:=.type "tuple",data:=.seq #[key,xv.2] },toks:=s.toks }) (h':=h2) (fp:=[it]) (t':=s.toks) IA (fun c oc hc q=>?_) fun c hc=>?_
    · have n1:c≠it:=fun e=>hc (by simp [e]);rw [sb.2 c n1];by_cases Az:c=s.heap.objs.size
      · subst Az;have q':(s.heap.push { cls:=.type "tuple",data:=.seq #[key,xv.2] }).get? s.heap.objs.size=some oc:=q;rw [VH _ rfl] at q';rw [<- q'];exact Fn
      · have q':(s.heap.push { cls:=.type "tuple",data:=.seq #[key,xv.2] }).get? c=some oc:=q;rw [Zs _ _ _ Az] at q';exact Dt c oc n1 q'
    · have e:c=it:=by simpa using hc
      subst e;exact ⟨by rw [af (Wm BH)];exact f0,f1,f2,f3,f4,f5⟩
  · have e:c=it:=by simpa using hc
    subst e;rw [af (Wm BH)];exact f0
 done:=by
  intro X hP hw hK hc i pins s σ H E I hf st hg;subst hP hw hK;obtain ⟨hq,OP⟩:=hg;obtain ⟨ok,ov,hit⟩:=st;obtain ⟨vs,rel,dat,hlen⟩:=kh hd (I.hok a _ hq);rw [<- hlen] at hit;obtain ⟨f0,f1,f2,f3,f4,f5⟩:=hf it (by simp);exact wpAny_pyNext_items_end (I.ok.hd hc) hit dat (W5 (by omega)) fun h' eb=>⟨rfl,I.turned (t':=s.toks) (fun b ob hb e=>eb b ob hb e) f0 f1 f3 f4 f5⟩
 self:=by
  intro A i s Q E st h;obtain ⟨ok,ov,e⟩:=st;have hT:s.TypeIs (.ref it) "dict_itemiterator":=⟨_,e,rfl⟩;refine Zo hT YA (Wu YA hT dH ?_ (F.args_dict_itemiterator_iter_1 _));exact VE ⟨_,rfl,"dict_itemiterator",_,hT,W3.lookup,h⟩
section
variable {X:Cx} {e:WC} {te:TE} {apos Ad:Zm}
def uW (tl:TE):TI:=fun σ H R=>tl σ H fun x H1=>∃ a kvs,x=.ref a/\H1 a=some (.dK kvs)/\∀ o,R (ItI a o kvs) (upd H1 a (.frz o (.dK kvs)))
theorem l3 {elts:List WC} {k1} {pos:Zm} (he:PE X e te) (AK:YH e "items" X.env (Xx e X.env)=Xx e X.env:=by rfl) (AL:(apos.endLine == Ad.line)=true:=by rfl) :
 PI X (.Tuple elts k1 pos) (.Call (.Attribute e "items" apos) [] [] Ad) (uW te):=by
 intro pins s σ H R I h;refine Zd AK AL (thn (he pins s σ H _ I h) fun v s1 ⟨x,H1,I1,r1,a,kvs,ex,ha,q⟩=>?_);subst ex;cases r1;obtain ⟨z,y,vs,rel,dd⟩:=(show ObjOk X.prog X.w H1 s1.heap a (.dK kvs) from I1.hok a _ ha);obtain ⟨o,es,ep,h1,h2,h3,h4⟩:=id dd;have hlen:kvs.length=vs.length:=VU rel;have dat:s1.heap.DictAt (aV X.prog X.w) a vs ep:=⟨o,es,h1,h2,h3,h4⟩;refine ⟨"dict","dict.items",F.plainAttrs_dict,F.slot_dict_items,F.type_dict_items,dd.typeIs,dd.mapOf.noDict,?_⟩;refine method_meetsIn F.slot_dict_items F.entry_dict_items rfl (Zy ⟨rfl,dd.typeIs,F.args_dict_items_1 _,_,meets_dict_items (aV X.prog X.w) a y,⟨vs,dd⟩,?_⟩);have I2:=I1.freezeK ha h1;refine wpAny_pyIter_items (kvs:=vs) (ep:=ep) ⟨_,VH _ rfl,rfl,rfl⟩ (dat.push _) ?_;generalize hN:((s1.heap.push { cls:=.type "dict_items",data:=.fields #[.ref a] }).objs.size)=n;have hn:n=s1.heap.objs.size+1:=by rw [<- hN,WU]
 have kept:∀ b ob,s1.heap.get? b=some ob->((s1.heap.push { cls:=.type "dict_items",data:=.fields #[.ref a] }).push { cls:=.type "dict_itemiterator",data:=.fields #[.none,.bool false,.ref a,.int 0 0,.int vs.length 0,.int ep 0,.none,.none] }).get? b=some ob:=fun b ob e=>VA _ (VA _ e);have hz:s1.heap.objs.size<=n:=by omega
 refine ⟨n,[n],_,_,upd H1 a (.frz o (.dK kvs)),rfl,I2.kept (t':=s1.toks) kept,qC a n o es ep kvs h3,⟨.none,.none,?_⟩,fun b hb=>?_,q o⟩
 · rw [<- hN,hlen];exact VH _ rfl
 · have e:b=n:=by simpa using hb
   subst e;exact I2.fpOk hz (I2.hok.fresh hz)
theorem ng {a:Vy} {o:Xn} {kvs:List (Key×V)} {g:TG} {tb:TS} {D:Ends} {σ:St} {H:Hp} (Pv:Nat->St->Hp->Prop) (h0:Pv 0 σ H) (hl:∀ i σ H,i<=kvs.length->Pv i σ H->H a=some (.frz o (.dK kvs)))
 (hs:∀ i kv p σ H,kvs[i]?=some kv->H p=none->Pv i σ H->g (.ref p) σ (upd H p (.tup [kV kv.1,kv.2])) fun zU H2=>tb { D with nx:=Pv (i+1),ct:=Pv (i+1),bk:=D.nx } zU H2) (hd:∀ σ H,Pv kvs.length σ H->D.nx σ H) :
 ∃ W:Nat->Nat->St->Hp->Prop,(∃ m,W 0 m σ H)/\∀ i m σ H,W i m σ H →
   ((ItI a o kvs).stop i H/\D.nx σ H)∨((ItI a o kvs).go i H/\∃ N:St->Hp->Prop,(∀ zJ H',N zJ H'->∃ m',m'<m/\W (i+1) m' zJ H')/\∀ x H',(ItI a o kvs).yld i H x H'->g x σ H' fun zU H2=>tb { D with nx:=N,ct:=N,bk:=D.nx } zU H2):=by
 refine ⟨fun i m σ H=>m=kvs.length - i/\i<=kvs.length/\Pv i σ H,⟨kvs.length,by simp,Wc _,h0⟩,?_⟩;rintro i m σ H ⟨rfl,hi,p⟩;have q:=hl i σ H hi p;by_cases zV:i<kvs.length
 · refine .inr ⟨⟨q,zV⟩,Pv (i+1),fun zJ H' p'=>⟨kvs.length - (i+1),by omega,rfl,zV,p'⟩,fun x H' y=>?_⟩;obtain ⟨pa,kv,hp,rfl,rfl,zR⟩:=y;exact hs i kv pa σ H zR hp p
 · have e:i=kvs.length:=by omega
   subst e;exact .inl ⟨⟨q,VG _⟩,hd σ H p⟩
end
def ItW (a:Vy) (o:Xn) (kvs:List (Key×V)):It :=
 ⟨fun i H=>H a=some (.frz o (.dK kvs))/\i<kvs.length,fun i H v H'=>H'=H/\∃ k,kvs[i]?=some (k,v),fun i H=>H a=some (.frz o (.dK kvs))/\kvs.length<=i⟩
theorem p7 {P:V3} {w:Wg} {K:VB} {tg:WC} (a it:Vy) (o:Xn) (es:Array Zi) (ep:Nat) (kvs:List (Key×V)) (hd:o.data=.dict es ep) :
 Turn P w K tg (ItW a o kvs) [it] it (fun i h=>h.IsValIter it a i kvs.length ep) where
 mem:=by simp
 obj:=fun i h st b hb=>by
  have e:b=it:=by simpa using hb
  subst e;obtain ⟨ob,e,c,d⟩:=st;exact ⟨ob,e,fun v z=>by rw [d] at z;cases z⟩
 keep:=fun i h h' st k=>st.at fun ob e=>k it (by simp) ob e
 item:=by
  intro X hP hw hK hc i pins s σ H E I hf st hg;subst hP hw hK;obtain ⟨hq,zV⟩:=hg;obtain ⟨vs,rel,dat,hlen⟩:=kh hd (I.hok a _ hq);obtain ⟨kv,zR⟩:∃ kv,kvs[i]?=some kv:=⟨_,Vw zV⟩;obtain ⟨xv,K8,r1,r2⟩:=BB.P2.get rel zR;rw [<- hlen] at st;obtain ⟨f0,f1,f2,f3,f4,f5⟩:=hf it (by simp);refine wpAny_pyNext_values_item st dat (k:=xv.1) (v:=xv.2) K8 fun h' AG sb=>?_;have I1:Inv X pins σ H { s with heap:=h' }:=I.turned (t':=s.toks) (fun b ob hb e=>(sb.2 b hb).trans e) f0 f1 f3 f4 f5;rw [hlen] at AG;obtain ⟨ob,e,c,d⟩:=id AG;exact ⟨_,rfl,iN (s:={ s with heap:=h' }) e c d (by decide) ⟨kv.2,H,I1,r2,⟨rfl,kv.1,zR⟩,AG,fun b hb=>(hf b hb).1⟩⟩
 done:=by
  intro X hP hw hK hc i pins s σ H E I hf st hg;subst hP hw hK;obtain ⟨hq,OP⟩:=hg;obtain ⟨vs,rel,dat,hlen⟩:=kh hd (I.hok a _ hq);rw [<- hlen] at st;obtain ⟨f0,f1,f2,f3,f4,f5⟩:=hf it (by simp);exact wpAny_pyNext_values_end (I.ok.hd hc) st dat (W5 (by omega)) fun h' eb=>⟨rfl,I.turned (t':=s.toks) (fun b ob hb e=>eb b ob hb e) f0 f1 f3 f4 f5⟩
 self:=fun _ _ _ _ _ st h=>wpAny_pyIter_valiter st h
section
variable {X:Cx} {e:WC} {te:TE} {apos Ad:Zm}
def vn (tl:TE):TI:=fun σ H R=>tl σ H fun x H1=>∃ a kvs,x=.ref a/\H1 a=some (.dK kvs)/\∀ o,R (ItW a o kvs) (upd H1 a (.frz o (.dK kvs)))
theorem tQ {tg:WC} (he:PE X e te) (AK:YH e "values" X.env (Xx e X.env)=Xx e X.env:=by rfl) (AL:(apos.endLine == Ad.line)=true:=by rfl) :
 PI X tg (.Call (.Attribute e "values" apos) [] [] Ad) (vn te):=by
 intro pins s σ H R I h;refine Zd AK AL (thn (he pins s σ H _ I h) fun v s1 ⟨x,H1,I1,r1,a,kvs,ex,ha,q⟩=>?_);subst ex;cases r1;obtain ⟨z,y,vs,rel,dd⟩:=(show ObjOk X.prog X.w H1 s1.heap a (.dK kvs) from I1.hok a _ ha);obtain ⟨o,es,ep,h1,h2,h3,h4⟩:=id dd;have hlen:kvs.length=vs.length:=VU rel;have dat:s1.heap.DictAt (aV X.prog X.w) a vs ep:=⟨o,es,h1,h2,h3,h4⟩;refine ⟨"dict","dict.values",F.plainAttrs_dict,F.slot_dict_values,F.type_dict_values,dd.typeIs,dd.mapOf.noDict,?_⟩;refine method_meetsIn F.slot_dict_values F.entry_dict_values rfl (Zy ⟨rfl,dd.typeIs,F.args_dict_values_1 _,_,meets_dict_values (aV X.prog X.w) a y,⟨vs,dd⟩,?_⟩);have I2:=I1.freezeK ha h1;refine wpAny_pyIter_values (kvs:=vs) (ep:=ep) ⟨_,VH _ rfl,rfl,rfl⟩ (dat.push _) ?_;generalize hN:((s1.heap.push { cls:=.type "dict_values",data:=.fields #[.ref a] }).objs.size)=n;have hn:n=s1.heap.objs.size+1:=by rw [<- hN,WU]
 have hz:s1.heap.objs.size<=n:=by omega
 refine ⟨n,[n],_,_,upd H1 a (.frz o (.dK kvs)),rfl,I2.kept (t':=s1.toks) (fun b ob e=>VA _ (VA _ e)),p7 a n o es ep kvs h3,?_,fun b hb=>?_,q o⟩
 · rw [<- hN,hlen];exact ⟨_,VH _ rfl,rfl,rfl⟩
 · have e:b=n:=by simpa using hb
   subst e;exact I2.fpOk hz (I2.hok.fresh hz)
theorem qu {a:Vy} {o:Xn} {kvs:List (Key×V)} {g:TG} {tb:TS} {D:Ends} {σ:St} {H:Hp} (Pv:Nat->St->Hp->Prop) (h0:Pv 0 σ H) (hl:∀ i σ H,i<=kvs.length->Pv i σ H->H a=some (.frz o (.dK kvs)))
 (hs:∀ i kv σ H,kvs[i]?=some kv->Pv i σ H->g kv.2 σ H fun zU H2=>tb { D with nx:=Pv (i+1),ct:=Pv (i+1),bk:=D.nx } zU H2) (hd:∀ σ H,Pv kvs.length σ H->D.nx σ H) :
 ∃ W:Nat->Nat->St->Hp->Prop,(∃ m,W 0 m σ H)/\∀ i m σ H,W i m σ H →
   ((ItW a o kvs).stop i H/\D.nx σ H)∨((ItW a o kvs).go i H/\∃ N:St->Hp->Prop,(∀ zJ H',N zJ H'->∃ m',m'<m/\W (i+1) m' zJ H')/\∀ x H',(ItW a o kvs).yld i H x H'->g x σ H' fun zU H2=>tb { D with nx:=N,ct:=N,bk:=D.nx } zU H2):=by
 refine ⟨fun i m σ H=>m=kvs.length - i/\i<=kvs.length/\Pv i σ H,⟨kvs.length,by simp,Wc _,h0⟩,?_⟩;rintro i m σ H ⟨rfl,hi,p⟩;have q:=hl i σ H hi p;by_cases zV:i<kvs.length
 · refine .inr ⟨⟨q,zV⟩,Pv (i+1),fun zJ H' p'=>⟨kvs.length - (i+1),by omega,rfl,zV,p'⟩,fun x H' y=>?_⟩;obtain ⟨rfl,k,zR⟩:=y;exact hs i (k,x) σ _ zR p
 · have e:i=kvs.length:=by omega
   subst e;exact .inl ⟨⟨q,VG _⟩,hd σ H p⟩
end
end L2
namespace PySem
open Sem (wp)
section
variable {prog:V3} {w:Wg} {A:Wn} {E:VC->VF->Prop} {s:VF} {it d:Vy} {i ep:Nat} {od:Xn} {es:Array Zi} {ok ov:VC}
theorem bb_put {vs:Array VC} {j:Nat} {x:VC} {Q:Unit->VF->Prop} (e:s.heap.get? it=some { cls:=.type "dict_itemiterator",dict:=none,data:=.fields vs,slots:=#[] }) (hj:j<vs.size)
 (k:∀ h',h'.get? it=some { cls:=.type "dict_itemiterator",dict:=none,data:=.fields (vs.setIfInBounds j x),slots:=#[] }->WN it s.heap h'->Q () { s with heap:=h' }):VT (Wb prog w) A (setField (.ref it) j x) Q E s :=
 XD e hj fun h' e' sb=>k h' e' sb
theorem bb_itemNextT {en:Zi} {Q:Option VC->VF->Prop} (g:Z6 s.heap it d i es.size ep ok ov) (g1:s.heap.get? d=some od) (g2:od.data=.dict es ep) (hx:es[i]?=some en)
 (fin:∀ h',IsItemIterOut h' it d (i+1) es.size ep en.key en.val s.heap.objs.size->h'.get? s.heap.objs.size=some { cls:=.type "tuple",data:=.seq #[en.key,en.val] }->(∀ b o,b≠it->s.heap.get? b=some o->h'.get? b=some o)->Q (some (.ref s.heap.objs.size)) { s with heap:=h' }) :
 VT (Wb prog w) A (Ym (.ref it)) Q E s:=by
 obtain ⟨h0,gn,dr,tk,os⟩:=s;have gT:Shared.TypeIs ⟨h0,gn,dr,tk,os⟩ (.ref it) "dict_itemiterator":=⟨_,g,rfl⟩;have own:XX "dict_itemiterator"=true:=by decide
 have lt:i<es.size:=(X0.mp hx).1;have ee:es[i]=en:=(X0.mp hx).2;have BH:it<h0.objs.size:=VX g;unfold Ym;refine Vu (Yl (Ww (name:=Vx "__next__") gT W3 (Wu W3 gT F.entry_dict_itemiterator_next ?_ (F.args_dict_itemiterator_next_1 _))));refine Vu (VE (Vu (Vu ?_)));first | refine Vu (Yp gT (VE ?_)) | refine Vu (Y3 gT (VE ?_))
 refine Vu (wpAny_fieldsOf g rfl ?_);simp only [own,if_true];show VT _ _ (if (Wj d == WV)=true then _ else _) _ _ _;rw [if_neg (show ¬ ((Wj d == WV)=true) from VS)];refine Vu (VE (Vu (YO g1 g2 ?_)));rw [if_neg (by simp)];refine Vu (VE (Vu (Zb g1 g2 ?_)));rw [if_neg (by simp)];refine VE ?_;simp only [show ¬ ((i:Int)<0) from by omega,if_false,WL,Array.getElem?_eq_getElem lt];rw [ee];refine Vu ?_;first | refine Vu (Yp gT (VE ?_)) | refine Vu (Y3 gT (VE ?_))
 refine Vu (wpAny_isOneOf_itemiter gT ?_);show VT _ _ (setField (.ref it) 3 (XF ((i:Int)+1)) >>= _) _ _ _;refine Vu (bb_put g (by simp) fun h1 e1 Gj=>?_);replace Gj:WN it h0 h1:=Gj
 replace e1:Z6 h1 it d (i+1) es.size ep ok ov:=by
  have e:((i+1:Nat):Int)=(i:Int)+1:=by omega
  unfold Z6;rw [e];simpa [XF] using e1
 have OQ:Shared.TypeIs ⟨h1,gn,dr,tk,os⟩ (.ref it) "dict_itemiterator":=⟨_,e1,rfl⟩;refine Vu (XH (Vu (wpAny_isOneOf_itemiter OQ (Vu (wpAny_isOneOf_itemiter OQ ?_)))));show VT _ _ (Builtin.Dict_items.pairFromOwner (.ref it) 6 en.key en.val) _ _ ⟨h1,gn,dr,tk,os⟩;unfold Builtin.Dict_items.pairFromOwner;refine Vu (wpAny_newTuple ?_);have z1:h1.objs.size=h0.objs.size:=Gj.1;have e2:Z6 (h1.push { cls:=.type "tuple",data:=.seq #[en.key,en.val] }) it d (i+1) es.size ep ok ov:=VA _ e1;have t2:(h1.push { cls:=.type "tuple",data:=.seq #[en.key,en.val] }).get? h0.objs.size=some { cls:=.type "tuple",data:=.seq #[en.key,en.val] }:=by rw [<- z1];exact VH _ rfl
 have k2:∀ b o,b≠it->h0.get? b=some o->(h1.push { cls:=.type "tuple",data:=.seq #[en.key,en.val] }).get? b=some o:=fun b o hb q=>VA _ (Gj.extBut b o hb q);rw [z1];generalize h1.push { cls:=.type "tuple",data:=.seq #[en.key,en.val] }=h2 at e2 t2 k2 ⊢;show VT _ _ (Builtin.Dict_items.ownedTupleIsFree (.ref it) >>= _) _ _ ⟨h2,gn,dr,tk,os⟩;refine Vu ?_;unfold Builtin.Dict_items.ownedTupleIsFree;refine Vu (Wq e2 rfl (x:=.none) rfl (VE ?_));simp only [if_true];refine Vu (Wq e2 rfl (x:=ok) rfl (Vu (Wq e2 rfl (x:=ov) rfl ?_)));refine Vu (bb_put e2 (by simp) fun h3 e3 K9=>?_);replace K9:WN it h2 h3:=K9;refine Vu (bb_put e3 (by simp) fun h4 e4 K'=>?_);replace K':WN it h3 h4:=K';refine Vu (bb_put e4 (by simp) fun h5 e5 La=>?_);replace La:WN it h4 h5:=La;refine Vu (bb_put e5 (by simp) fun h6 e6 Lb=>?_);replace Lb:WN it h5 h6:=Lb;have up:∀ b o,b≠it->h2.get? b=some o->h6.get? b=some o:=fun b o hb q=>Lb.extBut b o hb (La.extBut b o hb (K'.extBut b o hb (K9.extBut b o hb q)));exact Vu (wpAny_letGo (VE (VE ⟨_,rfl,VE (fin h6 (by unfold IsItemIterOut;simpa [XF] using e6) (up _ _ (YM BH) t2) fun b o hb q=>up b o hb (k2 b o hb q))⟩)))
theorem bb_itemEndT {Q:Option VC->VF->Prop} (calm:A.handled=none) (g:Z6 s.heap it d i es.size ep ok ov) (g1:s.heap.get? d=some od) (g2:od.data=.dict es ep) (hx:es.size<=i)
 (fin:∀ h',Heap.ExtBut it s.heap h'->Q none { s with heap:=h' }):VT (Wb prog w) A (Ym (.ref it)) Q E s:=by
 have gT:s.TypeIs (.ref it) "dict_itemiterator":=⟨_,g,rfl⟩;have own:XX "dict_itemiterator"=true:=by decide
 unfold Ym;refine Vu (Yl (Ww (name:=Vx "__next__") gT W3 (Wu W3 gT F.entry_dict_itemiterator_next ?_ (F.args_dict_itemiterator_next_1 _))));refine Vu (VE (Vu (Vu ?_)));first | refine Vu (Yp gT (VE ?_)) | refine Vu (Y3 gT (VE ?_))
 refine Vu (wpAny_fieldsOf g rfl ?_);simp only [own,if_true];show VT _ _ (if (Wj d == WV)=true then _ else _) _ _ s;rw [if_neg (show ¬ ((Wj d == WV)=true) from VS)];refine Vu (VE (Vu (YO g1 g2 ?_)));rw [if_neg (by simp)];refine Vu (VE (Vu (Zb g1 g2 ?_)));rw [if_neg (by simp)];refine VE ?_;simp only [show ¬ ((i:Int)<0) from by omega,if_false,WL,Array.getElem?_eq_none hx];refine Vu ?_;first | refine Vu (Yp gT (VE ?_)) | refine Vu (Y3 gT (VE ?_))
 show VT _ _ (setField (.ref it) 2 .none >>= _) _ _ s;refine Vu (Yq g rfl (by simp) ?_);show VT _ _ (newExc (.type "StopIteration") [] >>= _) _ _ _;refine Vu ?_;simp only [newExc,newTuple];refine Vu (Wo ?_ (by size_fits));refine Vu (m:=Yr _ _) (YW (a:=WV) (by first | rfl | (simp only [Yr];rfl)) ?_);refine Wo ?_ (by size_fits);simp only [raiseNew];refine Vu (wpAny_handled ?_);rw [show A.in1.handled=none from calm];refine Vu (VE (wpAny_throw ?_));refine Vu (wpAny_isInstance (T:="StopIteration") (b:=true) ⟨_,VH _ rfl,rfl⟩ isSubtype_stop ?_);exact VE (fin _ (((Yo ..).extBut.push _).push _))
theorem bb_itemsT {Q:VC->VF->Prop} (ns:(d == XT)=false) (gT:s.TypeIs (.ref d) "dict") (fin:Q (.ref s.heap.objs.size) { s with heap:=s.heap.push { cls:=.type "dict_items",data:=.fields #[.ref d] } }):VT (Wb prog w) A (call (.builtin "dict.items") [.ref d]) Q E s:=by
 refine Wu F.slot_dict_items gT F.entry_dict_items ?_ (F.args_dict_items_1 _);unfold Yb.«dict.items»;refine Vu ?_;unfold Builtin.Dict.noArgs;refine Vu (wpAny_notOrdered_dict gT ?_);show VT _ _ (pure d) _ _ s;refine VE ?_;show VT _ _ (ZC d >>= _) _ _ s;unfold ZC;rw [if_neg (by rw [ns];exact VS)];exact Vu (VE (Vu (Wo (VE ⟨_,rfl,fin⟩))))
theorem bb_itemsIterT {v:Vy} {Q:VC->VF->Prop} (hv:s.heap.IsItemsView v d) (g1:s.heap.get? d=some od) (g2:od.data=.dict es ep)
 (fin:Q (.ref s.heap.objs.size) { s with heap:=s.heap.push { cls:=.type "dict_itemiterator",data:=.fields #[.none,.bool false,.ref d,.int 0 0,.int es.size 0,.int ep 0,.none,.none] } }):VT (Wb prog w) A (pyIter (.ref v)) Q E s:=by
 obtain ⟨o,e1,e2,e3⟩:=id hv;have own:XX "dict_itemiterator"=true:=by decide
 refine Zo hv.typeIs F.slot_dict_items_iter (Wu F.slot_dict_items_iter hv.typeIs F.entry_dict_items_iter ?_ (F.args_dict_items_iter_1 _));unfold Yb.«dict_items.__iter__»;refine Vu (VE (Vu ?_));unfold Builtin.Dict_items.dictOf;refine Vu (Wq e1 e3 (x:=.ref d) rfl (VE ?_));refine Vu ?_;unfold Builtin.Dict_items.newIterator;refine Vu (YO g1 g2 (Vu (Zb g1 g2 ?_)));simp only [own,if_true];refine Wo (VE ⟨_,rfl,"dict_itemiterator",_,⟨_,VH _ rfl,rfl⟩,W3.lookup,?_⟩) (by simp only [sizeOk,Builtin.Dict_items.ownedTupleFields,VL,VO,VY,List.length_nil,Yy];omega);simpa [XF,Builtin.Dict_items.ownedTupleFields] using fin
end
end PySem
namespace L2
open PySem PySem.Spec PyProof.Rows
def yx (a:Vy) (o:Xn) (kvs:List (List Key×V)):It :=
 ⟨fun i H=>H a=some (.frz o (.dT kvs))/\i<kvs.length,
  fun i H v H'=>∃ p b kv,H p=none/\v=.ref p/\H'=upd H p (.tup [.ref b,kv.2])/\kvs[i]?=some kv/\H b=some (.tup (kv.1.map kV)),
  fun i H=>H a=some (.frz o (.dT kvs))/\kvs.length<=i⟩
theorem p9 {P:V3} {w:Wg} {K:VB} {elts:List WC} {k1} {pos:Zm} (a it:Vy) (o:Xn) (es:Array Zi) (ep:Nat) (kvs:List (List Key×V)) (hd:o.data=.dict es ep) :
 Turn P w K (.Tuple elts k1 pos) (yx a o kvs) [it] it (fun i h=>∃ ok ov,Z6 h it a i es.size ep ok ov) where
 mem:=by simp
 obj:=fun i h st b hb=>by
  obtain ⟨ok,ov,e⟩:=st;have eb:b=it:=by simpa using hb
  subst eb;exact ⟨_,e,fun v z=>by cases z⟩
 keep:=fun i h h' st k=>by
  obtain ⟨ok,ov,e⟩:=st;exact ⟨ok,ov,k it (by simp) _ e⟩
 item:=by
  intro X hP hw hK hc i pins s σ H E I hf st hg;subst hP hw hK;obtain ⟨hq,zV⟩:=hg;obtain ⟨ok,ov,hit⟩:=st;obtain ⟨e0,z,y,xs,r,o',Ez,EA,h1,h2,h3,h4,h5⟩:=(show ObjOk X.prog X.w H s.heap a (.frz o (.dT kvs)) from I.hok a _ hq);rw [e0] at h1;cases h1;rw [hd] at h3;cases h3;obtain ⟨kv,zR⟩:∃ kv,kvs[i]?=some kv:=⟨_,Vw zV⟩;obtain ⟨q',DV,hr⟩:=BB.P2.get r zR;have KW:es[i]?=some (entryOfKey (ZV (aV X.prog X.w)) q'):=by rw [<- X2,h4,VM,DV];rfl
  have BH:it<s.heap.objs.size:=VX hit;obtain ⟨f0,f1,f2,f3,f4,f5⟩:=hf it (by simp);refine bb_itemNextT hit e0 hd KW fun h1 Bc Fn Dt=>?_;refine ⟨_,rfl,wpAny_letOwnedTupleGo_items Bc fun h2 g1 sb=>?_⟩;replace sb:WN it h1 h2:=sb;have D6:H s.heap.objs.size=none:=I.hok.fresh (VG _)
  have IA:Inv X pins σ (upd H s.heap.objs.size (.tup [.ref q'.2.1,kv.2])) { s with heap:=s.heap.push { cls:=.type "tuple",data:=.seq #[.ref q'.2.1,q'.2.2] },toks:=s.toks } :=
   I.laid (o:=.tup [.ref q'.2.1,kv.2]) (fun b ob q=>VA _ q) (VG _) ⟨by show 2<=V1;decide,[.ref q'.2.1,q'.2.2],0,.cons rfl (.cons hr.2.2 .nil),VH _ rfl⟩
  refine ⟨.ref s.heap.objs.size,upd H s.heap.objs.size (.tup [.ref q'.2.1,kv.2]),?_,rfl,⟨_,q'.2.1,kv,D6,rfl,rfl,zR,hr.2.1⟩,⟨_,_,g1⟩,fun c hc=>?_⟩
  · refine Inv.turnedL (s:={ s with heap:=s.heap.push { cls:=.type "tuple",data:=.seq #[.ref q'.2.1,q'.2.2] },toks:=s.toks }) (h':=h2) (fp:=[it]) (t':=s.toks) IA (fun c oc hc q=>?_) fun c hc=>?_
    · have n1:c≠it:=fun e=>hc (by simp [e]);rw [sb.2 c n1];by_cases Az:c=s.heap.objs.size
      · subst Az;have q2:(s.heap.push { cls:=.type "tuple",data:=.seq #[.ref q'.2.1,q'.2.2] }).get? s.heap.objs.size=some oc:=q;rw [VH _ rfl] at q2;rw [<- q2];exact Fn
      · have q2:(s.heap.push { cls:=.type "tuple",data:=.seq #[.ref q'.2.1,q'.2.2] }).get? c=some oc:=q;rw [Zs _ _ _ Az] at q2;exact Dt c oc n1 q2
    · have e:c=it:=by simpa using hc
      subst e;exact ⟨by rw [af (Wm BH)];exact f0,f1,f2,f3,f4,f5⟩
  · have e:c=it:=by simpa using hc
    subst e;rw [af (Wm BH)];exact f0
 done:=by
  intro X hP hw hK hc i pins s σ H E I hf st hg;subst hP hw hK;obtain ⟨hq,OP⟩:=hg;obtain ⟨ok,ov,hit⟩:=st;obtain ⟨e0,z,y,xs,r,o',Ez,EA,h1,h2,h3,h4,h5⟩:=(show ObjOk X.prog X.w H s.heap a (.frz o (.dT kvs)) from I.hok a _ hq);rw [e0] at h1;cases h1;rw [hd] at h3;cases h3;have hl:=VU r
  have AR:es.size=xs.length:=by
   have:=congrArg Y5 h4;rw [Vt,V7] at this;exact this
  obtain ⟨f0,f1,f2,f3,f4,f5⟩:=hf it (by simp);exact bb_itemEndT (I.ok.hd hc) hit e0 hd (by omega) fun h' eb=>⟨rfl,I.turned (t':=s.toks) (fun b ob hb e=>eb b ob hb e) f0 f1 f3 f4 f5⟩
 self:=by
  intro A i s Q E st h;obtain ⟨ok,ov,e⟩:=st;have hT:s.TypeIs (.ref it) "dict_itemiterator":=⟨_,e,rfl⟩;refine Zo hT YA (Wu YA hT dH ?_ (F.args_dict_itemiterator_iter_1 _));exact VE ⟨_,rfl,"dict_itemiterator",_,hT,W3.lookup,h⟩
section
variable {X:Cx} {e:WC} {te:TE} {apos Ad:Zm}
def rX (tl:TE):TI:=fun σ H R=>tl σ H fun x H1=>∃ a kvs,x=.ref a/\H1 a=some (.dT kvs)/\∀ o,R (yx a o kvs) (upd H1 a (.frz o (.dT kvs)))
theorem nE {elts:List WC} {k1} {pos:Zm} (he:PE X e te) (AK:YH e "items" X.env (Xx e X.env)=Xx e X.env:=by rfl) (AL:(apos.endLine == Ad.line)=true:=by rfl) :
 PI X (.Tuple elts k1 pos) (.Call (.Attribute e "items" apos) [] [] Ad) (rX te):=by
 intro pins s σ H R I h;refine Zd AK AL (thn (he pins s σ H _ I h) fun v s1 ⟨x,H1,I1,r1,a,kvs,ex,ha,q⟩=>?_);subst ex;cases r1;obtain ⟨z,y,xs,r,dd⟩:=(show ObjOk X.prog X.w H1 s1.heap a (.dT kvs) from I1.hok a _ ha);obtain ⟨o,es,ep,h1,h2,h3,h4,h5⟩:=id dd;have gT:s1.TypeIs (.ref a) "dict":=⟨_,h1,h2.1⟩;refine ⟨"dict","dict.items",F.plainAttrs_dict,F.slot_dict_items,F.type_dict_items,gT,fun c e=>by cases e;exact ⟨_,h1,h2.2.1⟩,?_⟩;refine Zu rfl (Zy (bb_itemsT y gT ?_));have I2:=I1.freeze ha h1;refine bb_itemsIterT (d:=a) (od:=o) (es:=es) (ep:=ep) ⟨_,VH _ rfl,rfl,rfl⟩ (VA _ h1) h3 ?_;generalize hN:((s1.heap.push { cls:=.type "dict_items",data:=.fields #[.ref a] }).objs.size)=n;have hn:n=s1.heap.objs.size+1:=by rw [<- hN,WU]
 have hz:s1.heap.objs.size<=n:=by omega
 refine ⟨n,[n],_,_,upd H1 a (.frz o (.dT kvs)),rfl,I2.kept (t':=s1.toks) (fun b ob e=>VA _ (VA _ e)),p9 a n o es ep kvs h3,⟨.none,.none,?_⟩,fun b hb=>?_,q o⟩
 · rw [<- hN];exact VH _ rfl
 · have e:b=n:=by simpa using hb
   subst e;exact I2.fpOk hz (I2.hok.fresh hz)
end
end L2
namespace L2
open PySem PySem.Spec PyProof.Rows
def vb (K:VB) (a b:Vy):It:=⟨fun i H=>∃ xs ys x y,SqL K H a xs/\SqL K H b ys/\xs[i]?=some x/\ys[i]?=some y,fun i H v H'=>∃ p x y,H p=none/\v=.ref p/\H'=upd H p (.tup [x,y])/\(∀ xs,SqL K H a xs->xs[i]?=some x)/\(∀ ys,SqL K H b ys->ys[i]?=some y),fun i H=>∃ xs ys,SqL K H a xs/\SqL K H b ys/\(xs.length<=i∨ys.length<=i)⟩
structure zC (z TI TO i1 i2 a b:Vy) (i:Nat) (h:WR):Prop where
 ap:ZipApart z TI TO i1 i2 a b
 zip:IsZip h z TI TO .none
 hTI:Yg h TI (.ref i1) (.ref i2)
 hTO:∃ u v,Yg h TO u v
 h1:h.IsListIter i1 a i
 h2:h.IsListIter i2 b i
theorem sQ {P:V3} {w:Wg} {K:VB} {elts:List WC} {k1} {pos:Zm} (a b z TI TO i1 i2:Vy):Turn P w K (.Tuple elts k1 pos) (vb K a b) [z,TI,TO,i1,i2] z (zC z TI TO i1 i2 a b) where
 mem:=by simp
 obj:=fun i h st c hc=>by
  obtain ⟨D,hz,hTI,⟨u,v,hTO⟩,⟨o1,a1,a2,a3⟩,⟨o2,b1,b2,b3⟩⟩:=st;simp only [VP,Yk,or_false] at hc;rcases hc with rfl | rfl | rfl | rfl | rfl
  · exact ⟨_,hz,fun v z=>by cases z⟩
  · exact ⟨_,hTI,fun v z=>by cases z⟩
  · exact ⟨_,hTO,fun v z=>by cases z⟩
  · exact ⟨o1,a1,fun v z=>by rw [a3] at z;cases z⟩
  · exact ⟨o2,b1,fun v z=>by rw [b3] at z;cases z⟩
 keep:=fun i h h' st k=>by
  obtain ⟨D,hz,hTI,⟨u,v,hTO⟩,⟨o1,a1,a2⟩,⟨o2,b1,b2⟩⟩:=st;exact ⟨D,k _ (by simp) _ hz,k _ (by simp) _ hTI,⟨u,v,k _ (by simp) _ hTO⟩,⟨o1,k _ (by simp) _ a1,a2⟩,⟨o2,k _ (by simp) _ b1,b2⟩⟩
 item:=by
  intro X hP hw hK hc i pins s σ H E I hf st hg;subst hP hw hK;obtain ⟨xs,ys,x,y,CP,CQ,hx,hy⟩:=hg;obtain ⟨ia,D9,pa,Ds⟩:=I.list CP;obtain ⟨ib,D',pb,Hm⟩:=I.list CQ;obtain ⟨u,hu,ru⟩:=D9.get hx;obtain ⟨v,hv,rv⟩:=D'.get hy;obtain ⟨D,hz,hTI,⟨ta,tb,hTO⟩,h1,h2⟩:=st
  have lt:∀ c∈[z,TI,TO,i1,i2],c<s.heap.objs.size:=fun c hc=>by
   simp only [VP,Yk,or_false] at hc;rcases hc with rfl | rfl | rfl | rfl | rfl
   · exact VX hz
   · exact VX hTI
   · exact VX hTO
   · obtain ⟨o,e,_⟩:=h1;exact VX e
   · obtain ⟨o,e,_⟩:=h2;exact VX e
  refine wpAny_pyNext_zip_item D hz hTI hTO h1 h2 pa.isList pb.isList (by simpa using hu) (by simpa using hv) fun BS a1 a2 a3 a4 a5 a6 a7=>?_;refine ⟨_,rfl,wpAny_letOwnedTupleGo_zip a1 fun Ca g1 sb=>?_⟩;replace sb:WN z BS Ca:=sb;have D6:H s.heap.objs.size=none:=I.hok.fresh (VG _)
  have IA:Inv X pins σ (upd H s.heap.objs.size (.tup [x,y])) { s with heap:=s.heap.push { cls:=.type "tuple",data:=.seq #[u,v] },toks:=s.toks } :=
   I.laid (o:=.tup [x,y]) (fun b ob q=>VA _ q) (VG _) ⟨by show 2<=V1;decide,[u,v],0,.cons ru (.cons rv .nil),VH _ rfl⟩
  have Rm:s.heap.objs.size≠z:=YM (lt z (by simp));refine ⟨.ref s.heap.objs.size,upd H s.heap.objs.size (.tup [x,y]),?_,rfl,⟨_,x,y,D6,rfl,rfl,fun zs Fm=>by rw [I.list_inj Fm CP];exact hx,fun zs Fm=>by rw [I.list_inj Fm CQ];exact hy⟩,?_,fun c hc=>?_⟩
  · have IB:Inv X pins σ (upd H s.heap.objs.size (.tup [x,y])) { s with heap:=Ca,toks:=s.toks }:=by
     refine Inv.turnedL (s:={ s with heap:=s.heap.push { cls:=.type "tuple",data:=.seq #[u,v] },toks:=s.toks }) (h':=Ca) (fp:=[z,TI,TO,i1,i2]) (t':=s.toks) IA (fun c o hc q=>?_) fun c hc=>?_
     · have n1:c≠z:=fun e=>hc (by simp [e]);have n2:c≠TO:=fun e=>hc (by simp [e]);have n3:c≠i1:=fun e=>hc (by simp [e]);have n4:c≠i2:=fun e=>hc (by simp [e]);rw [sb.2 c n1];by_cases Az:c=s.heap.objs.size
       · subst Az;have q':(s.heap.push { cls:=.type "tuple",data:=.seq #[u,v] }).get? s.heap.objs.size=some o:=q;rw [VH _ rfl] at q';rw [<- q'];exact a5
       · have q':(s.heap.push { cls:=.type "tuple",data:=.seq #[u,v] }).get? c=some o:=q;rw [Zs _ _ _ Az] at q';exact a7 c o n1 n2 n3 n4 q'
     · obtain ⟨f0,f1⟩:=hf c hc;exact ⟨by rw [af (Wm (lt c hc))];exact f0,f1⟩
    exact IB
  · have sT:∀ c o,c≠z->BS.get? c=some o->Ca.get? c=some o:=fun c o hc e=>(sb.2 c hc).trans e;refine ⟨D,g1,sT _ _ D.TIz (a7 _ _ D.TIz D.TITO D.TIi1 D.TIi2 hTI),⟨_,_,sT _ _ D.TOz a2⟩,?_,?_⟩
    · obtain ⟨o,e,r⟩:=a3;exact ⟨o,sT _ _ D.i1z e,r⟩
    · obtain ⟨o,e,r⟩:=a4;exact ⟨o,sT _ _ D.i2z e,r⟩
  · rw [af (Wm (lt c hc))];exact (hf c hc).1
 done:=by
  intro X hP hw hK hc i pins s σ H E I hf st hg;subst hP hw hK;obtain ⟨xs,ys,CP,CQ,BN⟩:=hg;obtain ⟨ia,D9,pa,Ds⟩:=I.list CP;obtain ⟨ib,D',pb,Hm⟩:=I.list CQ;have Hn:=D9.length;have Rn:=D'.length;obtain ⟨D,hz,hTI,hTO,h1,h2⟩:=st;obtain ⟨ta,tb,hTO⟩:=hTO;refine wpAny_pyNext_zip_end (I.ok.hd hc) D hz hTI hTO h1 h2 pa.isList pb.isList ?_ fun h' kp=>⟨rfl,?_⟩
  · rcases BN with h | h
    · exact .inl (by simp;omega)
    · exact .inr (by simp;omega)
  exact I.turnedL (fp:=[z,TI,TO,i1,i2]) (t':=s.toks) (fun c o hc q=>kp c o (fun e=>hc (by simp [e])) (fun e=>hc (by simp [e])) (fun e=>hc (by simp [e])) (fun e=>hc (by simp [e])) q) hf
 self:=fun _ _ _ _ _ st h=>wpAny_pyIter_zip st.zip h
section
variable {X:Cx} {e1 e2:WC} {t:TA} {p2 AH:Zm}
def yA (K:VB) (t:TA):TI:=fun σ H R=>t σ H fun vs H1=>∃ a b,vs=[.ref a,.ref b]/\(∃ xs,SqL K H1 a xs)/\(∃ ys,SqL K H1 b ys)/\R (vb K a b) H1
theorem vq {elts:List WC} {k1} {pos:Zm} (g2:Gl X "zip") (m2:X.mg "zip"=none) (ha:PA X [e1,e2] t)
 (h2:Wr [e1,e2] X.env=(false,Xx e1 X.env)::Wr [e2] X.env:=by rfl) (h3:(YJ AH (Wr [e2] X.env)).any (·.1)=false:=by rfl):PI X (.Tuple elts k1 pos) (.Call (.Name "zip" p2) [e1,e2] [] AH) (yA X.K t):=by
 intro pins s σ H R I h;refine W9 (eE I g2 m2 boot_zip ?_);refine W6 (thn (ha AH pins s σ H _ I h) fun us s2 ⟨vs,H2,I2,r,a,b,ev,⟨xs,CP⟩,⟨ys,CQ⟩,q⟩=>?_) h2 h3;subst ev;obtain ⟨u1,u2,rfl,r1,r2⟩:=vals2 r;cases r1;cases r2;obtain ⟨ia,D9,pa,Ds⟩:=I2.list CP;obtain ⟨ib,D',pb,Hm⟩:=I2.list CQ;have Ay:a<s2.heap.objs.size:=by obtain ⟨o,e,_⟩:=pa.isList;exact VX e
 have Cs:b<s2.heap.objs.size:=by obtain ⟨o,e,_⟩:=pb.isList;exact VX e
 refine call_zip_2 pa.isList pb.isList fun h' z1 z2 z3 z4 z5 z6 z7=>?_;have D:ZipApart (s2.heap.objs.size+4) (s2.heap.objs.size+2) (s2.heap.objs.size+3) s2.heap.objs.size (s2.heap.objs.size+1) a b:=zipApart_new Ay Cs;refine wpAny_pyIter_zip (s:={ s2 with heap:=h' }) z1 ?_;refine ⟨s2.heap.objs.size+4,[s2.heap.objs.size+4,s2.heap.objs.size+2,s2.heap.objs.size+3,s2.heap.objs.size,s2.heap.objs.size+1],_,_,H2,rfl,I2.kept (t':=s2.toks) z7,sQ a b _ _ _ _ _,⟨D,z1,z2,⟨_,_,z3⟩,z4,z5⟩,fun c hc=>?_,q⟩
 have AX:s2.heap.objs.size<=c:=by
  simp only [VP,Yk,or_false] at hc;rcases hc with h | h | h | h | h <;> rw [h]
  · exact Xq _ _
  · exact Xq _ _
  · exact Xq _ _
  · exact VG _
  · exact Xq _ _
 exact I2.fpOk AX (I2.hok.fresh AX)
end
end L2
namespace L2
open PySem PySem.Spec PyProof.Rows
def dY:List (Key×V)->List (Key×V)->List (Key×V)
 | kvs,[]=>kvs
 | kvs,p::ps=>dY (putK kvs p.1 p.2) ps
def PrK (H:Hp) (pr:Key×V) (pa:Vy):Prop:=H pa=some (.tup [kV pr.1,pr.2])
section
variable {X:Cx} {pins:List (Vy×Xn)} {σ:St}
theorem qL {H:Hp} {s:VF} {a:Vy} {v:V} {r key:VC} {k:Key} {kvs:List (Key×V)} {A:Wn} {E:VC->VF->Prop} {Q:Unit->VF->Prop} (I:Inv X pins σ H s) (e:H a=some (.dK kvs)) (rk:RelV (kV k) key) (l:kvs.length<V1) (rv:RelV v r) (h:∀ h' tk,WN a s.heap h'->Inv X pins σ (upd H a (.dK (putK kvs k v))) { s with heap:=h',toks:=tk }->Q () { s with heap:=h',toks:=tk }) :
 VT (Wb X.prog X.w) A (dictSet a key r) Q E s:=by
 obtain ⟨z,hd,xs,rel,dd⟩:=wP I.hok e;have hz:xs.length<=V1:=by rw [<- rel.length];exact z
 have hl:(putK kvs k v).length<=V1:=by have:=cA kvs k v;omega
 refine wpAny_dictSet_pairs (mZ rk) dd (fun h' Fi hs=>h _ _ hs ?_) hz;obtain ⟨q,es,ep,hq,rest⟩:=id Fi;exact nW I (by rw [e];exact Yc) hs ⟨q,hq⟩ ⟨hl,hd,_,rel.put k rv,Fi⟩
theorem qx {A:Wn} {d it l:Vy} {prs:List (Key×V)} {ps:List Vy} {R:Result->VF->Prop} (hh:A.handled=none) (hu:A.units+8<Ys) (hn:prs.length<=10000) :
 ∀ (m i:Nat) (s:VF) (tk:Tok) (H:Hp) (kvs:List (Key×V)),prs.length - i=m->i<=prs.length->Inv X pins σ H s->H d=some (.dK kvs)->kvs.length<=i->iR X pins H it->s.heap.IsListIter it l i->H l=some (.lst (ps.map V.ref))->WD (PrK H) prs ps →
   (∀ s',Inv X pins σ (upd H d (.dK (dY kvs (prs.drop i)))) s'->R (.ok (.ret .none)) s') →
   ZG (Wb X.prog X.w) A (.builtin "dict.update.loop" ⟨[.ref d,.ref it,.int i tk,.none],[]⟩) R s:=by
 intro m;induction m with
 | zero =>
   intro i s tk H kvs hk hi I ed Ae hf hit el CS hR;have C6:i=prs.length:=by omega
   subst C6;obtain ⟨its,rv,p,hz⟩:=I.list (SqL.of (K:=X.K) el);have Bj:prs.length=ps.length:=VU CS;have hl:=rv.length;rw [Vt] at hl;obtain ⟨f0,f1,f2,f3,f4,f5⟩:=hf;refine ZL PySem.F.bb_entry_upd ?_;rw [ZJ PySem.F.bb_plain_upd _];show VT _ A.in1 (Ym (.ref it) >>= _) _ _ s;refine Vu (wpAny_pyNext_list_end hh hit p.isList (by simp;omega) fun h' eb=>?_);refine Vu (VE (VE ?_));refine hR _ ?_;rw [Z5]
   have e0:upd H d (.dK (dY kvs []))=H:=by
    funext b;by_cases hb:b=d
    · rw [hb,ad,ed];rfl
    · rw [af hb]
   rw [e0];exact I.turned (t':=s.toks) (fun b o hb e=>eb b o hb e) f0 f1 f3 f4 f5
 | succ m ih =>
   intro i s tk H kvs hk hi I ed Ae hf hit el CS hR;have zV:i<prs.length:=by omega
   have Bj:prs.length=ps.length:=VU CS;obtain ⟨its,rv,p,hz⟩:=I.list (SqL.of (K:=X.K) el);have hl:=rv.length;rw [Vt] at hl;obtain ⟨pa,Cc,Du⟩:=BB.P2.get CS (Vw zV);have hx:(ps.map V.ref)[i]?=some (.ref pa):=by rw [VM,Cc];rfl
   obtain ⟨u,Ry,ru⟩:=rv.get hx;cases ru;obtain ⟨f0,f1,f2,f3,f4,f5⟩:=id hf;refine ZL PySem.F.bb_entry_upd ?_;rw [ZJ PySem.F.bb_plain_upd _];show VT _ A.in1 (Ym (.ref it) >>= _) _ _ s;refine Vu (wpAny_pyNext_list_item hit p.isList (x:=.ref pa) (by simpa using Ry) fun h1 Lc Gj=>?_);have I1:Inv X pins σ H { s with heap:=h1 }:=I.turned (t':=s.toks) (fun b o hb e=>(Gj.2 b hb).trans e) f0 f1 f3 f4 f5;obtain ⟨_,zW,n2,Rz,e2⟩:=(show ObjOk X.prog X.w H h1 pa (.tup [kV (prs[i]).1,(prs[i]).2]) from I1.hok pa _ Du)
   obtain ⟨kk,vv,rfl,RA,RB⟩:∃ kk vv,zW=[kk,vv]/\RelV (kV (prs[i]).1) kk/\RelV (prs[i]).2 vv:=by
    cases Rz with
    | cons a b =>
      cases b with
      | cons c d =>
        cases d;exact ⟨_,_,rfl,a,c⟩
   have RC:(⟨h1,s.gens,s.drawn,s.toks,s.os⟩:VF).TypeIs (.ref pa) "tuple":=⟨_,e2,rfl⟩;refine Vu (XH ?_);refine Vu (wpAny_tryCatch ?_);unfold Builtin.Dict.pairItems;refine Vu (Zn RC ?_);rw [if_pos (by decide)];refine Vu (XN e2 rfl (VE ?_));show VT _ _ (holding [kk,vv] (dictSet d kk vv)) _ _ _;refine XH (qL (k:=(prs[i]).1) I1 ed RA (by have:=eT;rw [Yy];omega) RB fun h2 Ld Gf I2=>?_);refine VE ⟨plainId_quiet PySem.F.bb_plain_upd _,?_⟩
   have Hr:XF ((i:Int)+1)=.int ((i+1:Nat):Int) 0:=by
    show ZW ((i:Int)+1) 0=_;rw [show ((i+1:Nat):Int)=(i:Int)+1 by omega]
   rw [Hr];have OR:it≠d:=fun z=>by rw [z,ed] at f0;cases f0
   refine ih (i+1) _ 0 _ (putK kvs (prs[i]).1 (prs[i]).2) (by omega) zV I2 ad (by have:=cA kvs (prs[i]).1 (prs[i]).2;omega) ⟨by rw [af OR];exact f0,f1,f2,f3,f4,f5⟩ ?_ ?_ ?_ fun s' I'=>hR s' ?_
   · obtain ⟨o,g1,r⟩:=Lc;exact ⟨o,(Gf.2 it OR).trans g1,r⟩
   · rw [af (aJ el ed (fun z=>nomatch z))];exact el
   · refine BB.P2.mp (fun x y e=>?_) CS;show upd H d _ y=_;rw [af (aJ (show H y=some (.tup [kV x.1,x.2]) from e) ed (fun z=>nomatch z))];exact e
   · rw [nK] at I';rw [YQ zV];exact I'
def vN:List V->Hp->VK->Prop:=fun xs H Q=>∃ (l:Vy) (ps:List Vy) (prs:List (Key×V)),xs=[.ref l]/\H l=some (.lst (ps.map V.ref))/\WD (PrK H) prs ps/\prs.length<=10000/\∀ d,H d=none->Q (.ref d) (upd H d (.dK (dY [] prs)))
theorem kb (hu:X.A.units+12<Ys) (hc:X.calm=true):dw X (.type "dict") vN:=by
 intro pins s σ H xs us Q I r h;obtain ⟨l,ps,prs,rfl,el,CS,hn,q⟩:=h;obtain ⟨u,rfl,rx⟩:=vals1 r;cases rx;obtain ⟨z,its,n,rv,e⟩:=(show ObjOk X.prog X.w H s.heap l (.lst (ps.map V.ref)) from I.hok l _ el);refine callType_codes (Q₁:=fun obj zK=>obj=.ref s.heap.objs.size/\zK={ s with heap:=s.heap.push { cls:=.type "dict",data:=.dict #[] } }) PySem.F.kt_called_dict (PySem.F.kt_typeCall_dict_1 _) PySem.F.entry_dict_init (kt_code_dict_new _ ⟨rfl,rfl⟩) ?_;rintro obj zK ⟨rfl,rfl⟩;have gn:(s.heap.push { cls:=.type "dict",data:=.dict #[] }).DictOf (aV X.prog X.w) s.heap.objs.size []:=Heap.DictOf.new s.heap;have gt:(s.heap.push { cls:=.type "dict",data:=.dict #[] }).get? l=some { cls:=.type "list",data:=.seq its.toArray n }:=VA _ e;refine ⟨gn.typeIs,PySem.F.args_dict_init_2 _ _,?_⟩;have Gg:=I.hok.fresh (VG s.heap.objs.size);have I1:Inv X pins σ (upd H s.heap.objs.size (.dK [])) { s with heap:=s.heap.push { cls:=.type "dict",data:=.dict #[] } }:=I.laid (a:=s.heap.objs.size) (o:=.dK []) (t':=s.toks) (fun _ _ q=>VA _ q) (VG _) (qm s.heap I.big);unfold Yb.«dict.__init__»;refine Vu ?_;unfold Builtin.Dict.selfAndRest;refine Vu (wpAny_notOrdered_dict gn.typeIs ?_);show VT _ _ (pure (s.heap.objs.size,[Wj l])) _ _ _;refine VE ?_;show VT _ _ (Builtin.Dict.updateFrom "dict.__init__" s.heap.objs.size (.ref l) [] .none) _ _ _;unfold Builtin.Dict.updateFrom;refine Vu (Zn (T:="list") ⟨_,gt,rfl⟩ ?_);rw [if_pos (by decide)];refine Vu (bb_nokeysL (A:=X.A.in1.in1) (I.ok.hd hc) gt fun h1 Gk k1=>?_);have I2:Inv X pins σ (upd H s.heap.objs.size (.dK [])) { s with heap:=h1,toks:=Gk }:=I1.kept (t':=Gk) fun b o e=>k1 b o e;simp only [Option.isNone_none,if_true];refine Vu (wpAny_rule ?_);obtain ⟨od,es,ep,RD,UU⟩:=id gn;have zV:s.heap.objs.size<h1.objs.size:=VX (k1 _ _ RD);refine Vu (Zp (l:=l) (items:=its.toArray) ⟨_,k1 _ _ gt,rfl,n,rfl⟩ ?_);refine VE ⟨plainId_quiet PySem.F.bb_plain_upd _,?_⟩;have Dw:l≠s.heap.objs.size:=av el Gg
 have Le:WD (PrK (upd H s.heap.objs.size (.dK []))) prs ps:=BB.P2.mp (fun x y e=>by
  show upd H s.heap.objs.size _ y=_;rw [af (av (show H y=some (.tup [kV x.1,x.2]) from e) Gg)];exact e) CS
 have RE:(upd H s.heap.objs.size (.dK [])) h1.objs.size=none:=I2.hok.fresh (VG _);refine qx (A:=X.A.in1) (d:=s.heap.objs.size) (it:=h1.objs.size) (l:=l) (prs:=prs) (ps:=ps) (I.ok.hd hc) (by show X.A.units+1+8<Ys;omega) hn prs.length 0 _ 0 (upd H s.heap.objs.size (.dK [])) [] (Z9 _) (Wc _) (I2.kept (t':=Gk) fun b o e=>VA _ e) ad (VG _) (I2.fpOk (VG _) RE) ⟨_,VH _ rfl,rfl,rfl⟩ (by rw [af Dw];exact el) Le fun s' I'=>?_;rw [nK,XC] at I';exact ⟨rfl,.ref s.heap.objs.size,_,I',rfl,q _ Gg⟩
end
end L2
namespace BB
open PySem L2
def smC (f:Int->Int->Int) (cs:List (List Int×Int×Int)):Int:=(cs.map fun c=>f c.2.1 c.2.2).sum
theorem lO (f:Int->Int->Int) (a b:List (List Int×Int×Int)):smC f (a++b)=smC f a+smC f b:=by
 unfold smC;rw [VN,List.sum_append]
theorem eO (pre:List Int) (n:V2) (ts:List Th):callsOf (Th.pl pre (.knot n ts))=callsOf (pls pre 0 ts):=by
 rw [Th.pl];rfl
theorem ef (pre:List Int) (s k:Int):callsOf (Th.pl pre (.call s k))=[(pre,s,k)]:=by
 rw [Th.pl];rfl
theorem eJ (pre:List Int) (i:Int) (t:Th) (ts:List Th):callsOf (pls pre i (t::ts))=callsOf (t.pl (pre++[i]))++callsOf (pls pre (i+1) ts):=by
 rw [pls,du]
mutual
theorem qh {ins:List (V2×Int)} {rows:List (List Th)} {f:Int->Int->Int} (k:Th):∀ (p:Th) (pre:List Int) (o:Th),Out ins rows p k o->(∀ c∈callsOf (p.pl pre),∀ oc,Out ins rows (.call c.2.1 c.2.2) k oc->f c.2.1 c.2.2=(oc.size:Nat))->((o.size:Nat):Int)=(p.kn:Nat)+smC f (callsOf (p.pl pre))
 | .call s c,pre,o,ho,hf=>by
   rw [ef] at hf ⊢;have:=hf _ (VJ.mpr rfl) o ho;show _=((0:Nat):Int)+(f s c+0);rw [this];simp
 | .knot n ts,pre,o,ho,hf=>by
   obtain ⟨os,rfl,Bq⟩:=ho.unknot;rw [eO] at hf ⊢;have:=ny k ts pre 0 os Bq hf;rw [Th.size,Th.kn];omega
theorem ny {ins:List (V2×Int)} {rows:List (List Th)} {f:Int->Int->Int} (k:Th):∀ (ts:List Th) (pre:List Int) (i:Int) (os:List Th),Outs ins rows ts k os->(∀ c∈callsOf (pls pre i ts),∀ oc,Out ins rows (.call c.2.1 c.2.2) k oc->f c.2.1 c.2.2=(oc.size:Nat))->((au os:Nat):Int)=(kns ts:Nat)+smC f (callsOf (pls pre i ts))
 | [],pre,i,os,ho,hf=>by
   cases ho;rw [au,kns,pls];rfl
 | t::ts,pre,i,os,ho,hf=>by
   cases ho with
   | cons h1 h2 =>
   rw [eJ] at hf ⊢;have e1:=qh k t (pre++[i]) _ h1 fun c hc=>hf c (V9 _ hc);have e2:=ny k ts pre (i+1) _ h2 fun c hc=>hf c (V5 _ hc);rw [au,kns,lO];omega
end
structure MxC (f:Int->Int->Int) (d:Int) (cs:List (List Int×Int×Int)) (own m:Int):Prop where
 lo:own<=m
 all:∀ c∈cs,(c.1.length:Int) - d+f c.2.1 c.2.2<=m
 some:m=own∨∃ c∈cs,m=(c.1.length:Int) - d+f c.2.1 c.2.2
mutual
theorem o9 {ins:List (V2×Int)} {rows:List (List Th)} {f:Int->Int->Int} (k:Th):∀ (p:Th) (pre:List Int) (o:Th),Out ins rows p k o->(∀ c∈callsOf (p.pl pre),∀ oc,Out ins rows (.call c.2.1 c.2.2) k oc->f c.2.1 c.2.2=(oc.tall:Nat))->MxC f pre.length (callsOf (p.pl pre)) (p.tall:Nat) (o.tall:Nat)
 | .call s c,pre,o,ho,hf=>by
   rw [ef] at hf ⊢;have e:=hf _ (VJ.mpr rfl) o ho;have h1:=Th.tall_eq o;have h2:(Th.call s c).tall=1:=by rw [Th.tall]
   simp only at e;refine ⟨by rw [h2];omega,fun c hc=>?_,.inr ⟨_,VJ.mpr rfl,?_⟩⟩
   · rw [VJ.mp hc];simp only;omega
   · simp only;omega
 | .knot n ts,pre,o,ho,hf=>by
   obtain ⟨os,rfl,Bq⟩:=ho.unknot;rw [eO] at hf ⊢;obtain ⟨a,b,c⟩:=mM k ts pre 0 os Bq hf;have h1:(Th.knot n ts).tall=aC ts+1:=by rw [Th.tall]
   have h2:(Th.knot n os).tall=aC os+1:=by rw [Th.tall]
   refine ⟨by omega,fun c hc=>?_,?_⟩
   · have:=b c hc;omega
   · rcases c with c | ⟨x,hx,c⟩
     · exact .inl (by omega)
     · exact .inr ⟨x,hx,by omega⟩
theorem mM {ins:List (V2×Int)} {rows:List (List Th)} {f:Int->Int->Int} (k:Th):∀ (ts:List Th) (pre:List Int) (i:Int) (os:List Th),Outs ins rows ts k os->(∀ c∈callsOf (pls pre i ts),∀ oc,Out ins rows (.call c.2.1 c.2.2) k oc->f c.2.1 c.2.2=(oc.tall:Nat))->MxC f (pre.length+1) (callsOf (pls pre i ts)) (aC ts:Nat) (aC os:Nat)
 | [],pre,i,os,ho,hf=>by
   cases ho;rw [pls];exact ⟨Int.le_refl _,fun c hc=>(by cases hc),.inl rfl⟩
 | t::ts,pre,i,os,ho,hf=>by
   cases ho with
   | @cons _ _ o' _ GW h1 h2 =>
   rw [eJ] at hf ⊢;obtain ⟨a1,b1,c1⟩:=o9 k t (pre++[i]) _ h1 fun c hc=>hf c (V9 _ hc);obtain ⟨a2,b2,c2⟩:=mM k ts pre (i+1) _ h2 fun c hc=>hf c (V5 _ hc);have hl:((pre++[i]).length:Int)=pre.length+1:=by rw [VO];rfl
   rw [hl] at b1 c1;have e1:aC (t::ts)=max t.tall (aC ts):=by rw [aC]
   have e2:aC (o'::GW)=max o'.tall (aC GW):=by rw [aC]
   refine ⟨by omega,fun c hc=>?_,?_⟩
   · rcases VV.mp hc with hc | hc
     · have:=b1 c hc;omega
     · have:=b2 c hc;omega
   · by_cases h:aC GW<=o'.tall
     · rcases c1 with c1 | ⟨x,hx,c1⟩
       · exact .inl (by omega)
       · exact .inr ⟨x,V9 _ hx,by omega⟩
     · rcases c2 with c2 | ⟨x,hx,c2⟩
       · exact .inl (by omega)
       · exact .inr ⟨x,V5 _ hx,by omega⟩
end
def ky (c:Int×Int):List Key:=[Wa c.1,Wa c.2]
theorem jA {a b:Int×Int} (h:ky a=ky b):a=b:=by
 obtain ⟨a1,a2⟩:=a;obtain ⟨b1,b2⟩:=b;simp only [ky,List.cons.injEq,Sum.inl.injEq,and_true] at h;rw [h.1,h.2]
abbrev CE:=List ((Int×Int)×Int)
def dE (es:CE):List (List Key×V):=es.map fun e=>(ky e.1,V.int e.2)
def dS (es:CE) (k:Int×Int) (v:Int):CE:=if k∈es.map (·.1) then es.map (fun e=>if e.1=k then (e.1,v) else e) else es++[(k,v)]
def ck:CE->Int×Int->Option Int
 | [],_=>none
 | e::es,k=>if e.1=k then some e.2 else ck es k
theorem oM (k:Int×Int):∀ es:CE,aS (dE es) (ky k)=(ck es k).map V.int
 | []=>rfl
 | e::es=>by
   show aS ((ky e.1,V.int e.2)::dE es) (ky k)=_;rw [ck];by_cases h:e.1=k
   · rw [if_pos h,bD (by rw [h])];rfl
   · rw [if_neg h,bI (fun z=>h (jA z)),oM k es]
theorem xm (k:Int×Int) (es:CE):((dE es).any fun kv=>decide (kv.1=ky k))=decide (k∈es.map (·.1)):=by
 rw [Yu,Zk,decide_eq_true_iff];constructor
 · rintro ⟨x,hx,hk⟩;obtain ⟨e,he,rfl⟩:=V4.mp hx;exact V4.mpr ⟨e,he,jA (of_decide_eq_true hk)⟩
 · intro h;obtain ⟨e,he,rfl⟩:=V4.mp h;exact ⟨_,V4.mpr ⟨e,he,rfl⟩,decide_eq_true rfl⟩
theorem sj (es:CE) (k:Int×Int) (v:Int):putK (dE es) (ky k) (.int v)=dE (dS es k v):=by
 unfold putK dS;rw [xm];by_cases h:k∈es.map (·.1)
 · rw [if_pos (decide_eq_true h),if_pos h];unfold dE;rw [XR,XR];refine YT fun e he=>?_;simp only [Function.comp];by_cases g:e.1=k
   · rw [if_pos (by rw [g]),if_pos g]
   · rw [if_neg (fun z=>g (jA z)),if_neg g]
 · rw [if_neg (fun z=>h (of_decide_eq_true z)),if_neg h];unfold dE;rw [VN];rfl
theorem kJ {es:CE} {k:Int×Int} {v:Int} (h:ck es k=some v):(k,v)∈es:=by
 induction es with
 | nil=>cases h
 | cons e es ih =>
   rw [ck] at h;by_cases g:e.1=k
   · rw [if_pos g] at h;cases h;rw [<- g];exact VI ..
   · rw [if_neg g] at h;exact Vv _ (ih h)
theorem sZ {es:CE} {k:Int×Int} (h:ck es k=none):k∉es.map (·.1):=by
 induction es with
 | nil=>intro z;cases z
 | cons e es ih =>
   rw [ck] at h;by_cases g:e.1=k
   · rw [if_pos g] at h;cases h
   · rw [if_neg g] at h;intro z;rcases VP.mp z with z | z
     · exact g z.symm
     · exact ih h z
theorem vk {es:CE} (nd:(es.map (·.1)).Nodup) {e:(Int×Int)×Int} (h:e∈es):ck es e.1=some e.2:=by
 induction es with
 | nil=>cases h
 | cons x es ih =>
   rw [Wf,WG] at nd;rw [ck];rcases VP.mp h with rfl | h
   · rw [if_pos rfl]
   · rw [if_neg (fun z=>nd.1 (by rw [z];exact V4.mpr ⟨e,h,rfl⟩))];exact ih nd.2 h
theorem sL (es:CE) (k:Int×Int) (v:Int):(dS es k v).map (·.1)=if k∈es.map (·.1) then es.map (·.1) else es.map (·.1)++[k]:=by
 unfold dS;by_cases h:k∈es.map (·.1)
 · rw [if_pos h,if_pos h,XR];refine YT fun e he=>?_;simp only [Function.comp];by_cases g:e.1=k
   · rw [if_pos g]
   · rw [if_neg g]
 · rw [if_neg h,if_neg h,VN];rfl
theorem qZ {es:CE} (nd:(es.map (·.1)).Nodup) (k:Int×Int) (v:Int):((dS es k v).map (·.1)).Nodup:=by
 rw [sL];by_cases h:k∈es.map (·.1)
 · rw [if_pos h];exact nd
 · rw [if_neg h,Yz];refine ⟨nd,by simp,fun a ha b hb=>?_⟩;rw [VJ.mp hb];exact fun z=>h (z ▸ ha)
theorem iF {es:CE} {k:Int×Int} {v:Int} {e:(Int×Int)×Int} (h:e∈dS es k v):e=(k,v)∨(e∈es/\e.1≠k):=by
 unfold dS at h;by_cases g:k∈es.map (·.1)
 · rw [if_pos g] at h;obtain ⟨x,hx,rfl⟩:=V4.mp h;by_cases e:x.1=k
   · rw [if_pos e,e];exact .inl rfl
   · rw [if_neg e];exact .inr ⟨hx,e⟩
 · rw [if_neg g] at h;rcases VV.mp h with h | h
   · exact .inr ⟨h,fun z=>g (z ▸ V4.mpr ⟨e,h,rfl⟩)⟩
   · exact .inl (VJ.mp h)
theorem uJ (es:CE) (k:Int×Int) (v:Int):(k,v)∈dS es k v:=by
 unfold dS;by_cases g:k∈es.map (·.1)
 · rw [if_pos g];obtain ⟨x,hx,hk⟩:=V4.mp g;exact V4.mpr ⟨x,hx,by rw [if_pos hk,hk]⟩
 · rw [if_neg g];exact V5 _ (VJ.mpr rfl)
theorem sy {es:CE} {k:Int×Int} {v:Int} {e:(Int×Int)×Int} (h:e∈es) (hk:e.1≠k):e∈dS es k v:=by
 unfold dS;by_cases g:k∈es.map (·.1)
 · rw [if_pos g];exact V4.mpr ⟨e,h,if_neg hk⟩
 · rw [if_neg g];exact V9 _ h
theorem qi (es:CE) (k:Int×Int) (v:Int):(dS es k v).length<=es.length+1:=by
 unfold dS;split
 · rw [Vt];omega
 · rw [VO];exact VG _
def smE (f:Int->Int->Int) (es:CE):Int:=(es.map fun e=>e.2 * f e.1.1 e.1.2).sum
theorem vm (f:Int->Int->Int) (k:Int×Int) (d:Int):∀ {es:CE},(es.map (·.1)).Nodup->smE f (dS es k ((ck es k).getD 0+d))=smE f es+d * f k.1 k.2:=by
 have upd:∀ (es:CE),(es.map (·.1)).Nodup->k∈es.map (·.1)->∀ v,smE f (es.map fun e=>if e.1=k then (e.1,v) else e)=smE f es+(v - (ck es k).getD 0) * f k.1 k.2:=by
  intro es;induction es with
  | nil=>intro _ h;cases h
  | cons e es ih =>
    intro nd hk v;rw [Wf,WG] at nd;show (if e.1=k then (e.1,v) else e).2 * f (if e.1=k then (e.1,v) else e).1.1 (if e.1=k then (e.1,v) else e).1.2+smE f (es.map fun e=>if e.1=k then (e.1,v) else e)=e.2 * f e.1.1 e.1.2+smE f es+_;rw [ck];by_cases g:e.1=k
    · have hn:∀ x∈es,(if x.1=k then (x.1,v) else x)=x:=fun x hx=>if_neg fun z=>nd.1 (by rw [g,<- z];exact V4.mpr ⟨x,hx,rfl⟩);rw [YT hn,List.map_id',if_pos g,if_pos g];simp only [YL,<- g];rw [Int.sub_mul];omega
    · rw [if_neg g,if_neg g];rcases VP.mp hk with z | z
      · exact absurd z.symm g
      · have:=ih nd.2 z v;omega
 intro es nd;cases h:ck es k with
 | some v =>
   have hm:k∈es.map (·.1):=V4.mpr ⟨_,kJ h,rfl⟩;unfold dS;rw [if_pos hm,upd es nd hm,h];simp only [YL];rw [show v+d - v=d by omega]
 | none =>
   have hm:=sZ h;unfold dS;rw [if_neg hm];simp only [Zj];unfold smE;rw [VN,List.sum_append,Wf,Xj,List.sum_cons,List.sum_nil];rw [show (0:Int)+d=d by omega];show _+(d * f k.1 k.2+0)=_;omega
structure CallsE (cs:List (List Int×Int×Int)) (es:CE):Prop where
 nd:(es.map (·.1)).Nodup
 «of»:∀ e∈es,∃ c∈cs,c.2=e.1
 to:∀ c∈cs,∃ e∈es,e.1=c.2
theorem CallsE.nil:CallsE [] []:=⟨YF,fun e h=>(by cases h),fun e h=>(by cases h)⟩
theorem CallsE.put {cs:List (List Int×Int×Int)} {es:CE} (h:CallsE cs es) (c:List Int×Int×Int) (v:Int):CallsE (cs++[c]) (dS es c.2 v):=by
 refine ⟨qZ h.nd _ _,fun e he=>?_,fun x hx=>?_⟩
 · rcases iF he with rfl | ⟨he,_⟩
   · exact ⟨c,V5 _ (VJ.mpr rfl),rfl⟩
   · obtain ⟨y,hy,e⟩:=h.of e he;exact ⟨y,V9 _ hy,e⟩
 · by_cases g:x.2=c.2
   · exact ⟨_,uJ es c.2 v,g.symm⟩
   · rcases VV.mp hx with hx | hx
     · obtain ⟨e,he,e2⟩:=h.to x hx;exact ⟨e,sy he (fun z=>g (e2.symm.trans z)),e2⟩
     · exact absurd (by rw [VJ.mp hx]) g
structure TimesE (cs:List (List Int×Int×Int)) (es:CE):Prop extends CallsE cs es where
 sum:∀ f,smE f es=smC f cs
 pos:∀ e∈es,0<=e.2/\e.2<=cs.length
theorem TimesE.nil:TimesE [] []:=⟨CallsE.nil,fun _=>rfl,fun e h=>by cases h⟩
theorem TimesE.put {cs:List (List Int×Int×Int)} {es:CE} (h:TimesE cs es) (c:List Int×Int×Int):TimesE (cs++[c]) (dS es c.2 ((ck es c.2).getD 0+1)):=by
 refine ⟨h.toCallsE.put c _,fun f=>?_,fun e he=>?_⟩
 · rw [vm f c.2 1 h.nd,lO,h.sum f,Int.one_mul];show _=smC f cs+(f c.2.1 c.2.2+0);omega
 · rw [VO];rcases iF he with rfl | ⟨he,_⟩
   · show 0<=(ck es c.2).getD 0+1/\(ck es c.2).getD 0+1<=_;cases g:ck es c.2 with
     | none =>
       simp only [Zj,Xb];omega
     | some v =>
       have:=h.pos _ (kJ g);simp only [YL,Xb];simp only at this;omega
   · have:=h.pos _ he;simp only [Xb];omega
structure DepthE (cs:List (List Int×Int×Int)) (es:CE):Prop extends CallsE cs es where
 «at»:∀ e∈es,∃ c∈cs,c.2=e.1/\e.2=(c.1.length:Nat)
 big:∀ c∈cs,∀ e∈es,e.1=c.2->((c.1.length:Nat):Int)<=e.2
theorem DepthE.nil:DepthE [] []:=⟨CallsE.nil,fun e h=>(by cases h),fun e h=>by cases h⟩
theorem DepthE.put {cs:List (List Int×Int×Int)} {es:CE} (h:DepthE cs es) (c:List Int×Int×Int):DepthE (cs++[c]) (dS es c.2 (if (ck es c.2).getD 0 > ((c.1.length:Nat):Int) then (ck es c.2).getD 0 else ((c.1.length:Nat):Int))):=by
 have hl:=V5 cs (VJ.mpr (rfl:c=c));refine ⟨h.toCallsE.put c _,fun e he=>?_,fun x hx e he hk=>?_⟩
 · rcases iF he with rfl | ⟨he,_⟩
   · cases g:ck es c.2 with
     | none =>
       refine ⟨c,hl,rfl,?_⟩;simp only [Zj];rw [if_neg (by omega)]
     | some v =>
       simp only [YL];by_cases hv:v > ((c.1.length:Nat):Int)
       · rw [if_pos hv];obtain ⟨y,hy,e1,e2⟩:=h.at _ (kJ g);exact ⟨y,V9 _ hy,e1,e2⟩
       · rw [if_neg hv];exact ⟨c,hl,rfl,rfl⟩
   · obtain ⟨y,hy,e1,e2⟩:=h.at e he;exact ⟨y,V9 _ hy,e1,e2⟩
 · rcases iF he with rfl | ⟨he,Al⟩
   · simp only at hk ⊢
     have hc:((c.1.length:Nat):Int)<=(if (ck es c.2).getD 0 > ((c.1.length:Nat):Int) then (ck es c.2).getD 0 else ((c.1.length:Nat):Int)):=by
      split <;> omega
     rcases VV.mp hx with hx | hx
     · obtain ⟨e,he,e2⟩:=h.to x hx;have h1:=h.big x hx e he e2;have h2:=vk h.nd he;rw [e2,<- hk] at h2;rw [h2];simp only [YL];split <;> omega
     · rw [VJ.mp hx];exact hc
   · rcases VV.mp hx with hx | hx
     · exact h.big x hx e he hk
     · exact absurd (by rw [hk,VJ.mp hx]) Al
end BB
namespace BB
open PySem L2
theorem jL {js:List (Option Nat)} {g:TG} {te:TE} {tl:TE} {σ:St} {H:Hp} {d:Vy} {es:CE} {val:(Int×Int)×Int->Int} {Q:VK}
 (An:∀ R:VK,R (.ref d) H->tl σ H R) (hd:H d=some (.dT (dE es))) (hlen:es.length<=10000)
 (hs:∀ (i:Nat) (e:(Int×Int)×Int) (p b:Vy) (H2:Hp) (R:VK),es[i]?=some e->SameB d H H2->H2 p=some (.tup [.ref b,.int e.2])->H2 b=some (.tup ((ky e.1).map kV))->R (.int (val e)) H2->g (.ref p) (cσ js σ) H2 fun zU H3=>te zU H3 R)
 (hq:∀ (D:Vy) (H2:Hp),L2.Same H H2->H2 D=some (.lst ((es.map val).map V.int))->Q (.ref D) H2) :
 kS (rJ js (rX tl) g aQ te) σ H Q:=by
 refine An _ ⟨d,dE es,rfl,hd,fun o D hD=>?_⟩;have CT:D≠d:=fun z=>by rw [z,ad] at hD;cases hD
 have Hs:H D=none:=by rw [af CT] at hD;exact hD
 have hl:(dE es).length=es.length:=by unfold dE;rw [Vt]
 refine ⟨es.length,fun j H2=>j<=es.length/\SameB d H H2/\H2 d=some (.frz o (.dT (dE es)))/\H2 D=some (.lst (((es.take j).map val).map V.int)),⟨Wc _,fun b u hb e=>by rw [af (av e Hs),af hb];exact e,by rw [af CT.symm,ad],ad⟩,?_⟩;rintro j H2 ⟨hj,sb,ed,eD⟩;by_cases Ea:j=es.length
 · left;refine ⟨⟨ed,by omega⟩,upd H2 d (.dT (dE es)),fun b=>?_,?_⟩
   · by_cases hb:b=d
     · rw [hb];exact .inr ⟨o,_,ed,hd,ad⟩
     · exact .inl (af hb)
   · rw [Ea,W8] at eD;refine hq D _ (fun b u e=>?_) (by rw [af CT];exact eD);by_cases hb:b=d
     · rw [hb,hd] at e;rw [hb,ad];exact e
     · rw [af hb];exact sb b u hb e
 · right;refine ⟨by omega,⟨ed,by omega⟩,?_⟩;rintro x H3 ⟨p,b,kv,hp,rfl,rfl,zR,eb⟩
   obtain ⟨e,he,rfl⟩:∃ e,es[j]?=some e/\(ky e.1,V.int e.2)=kv:=by
    unfold dE at zR;rw [VM] at zR;cases h:es[j]? with
    | none=>rw [h] at zR;cases zR
    | some e=>rw [h] at zR;exact ⟨e,rfl,VZ zR⟩
   have OS:d≠p:=fun z=>by rw [<- z,ed] at hp;cases hp
   have Bh:D≠p:=fun z=>by rw [<- z,eD] at hp;cases hp
   refine hs j e p b _ _ he (fun c u hc ec=>by rw [af (av (sb c u hc ec) hp)];exact sb c u hc ec) ad (by rw [af (av eb hp)];exact eb) ?_;refine ⟨_,by rw [af Bh];exact eD,aI (by rw [Vt,Vt,Wi];omega),by omega,fun c u hc ec=>?_,?_,?_⟩
   · rw [af (av ec Hs),af (av (sb c u hc ec) hp)];exact sb c u hc ec
   · rw [af CT.symm,af OS];exact ed
   · rw [ad,WY,he,VN,VN];rfl
end BB
namespace BB
open PySem L2
mutual
theorem Th.dv_inj:∀ {t u:Th},t.dv=u.dv->t=u
 | .knot n ks,.knot m js,h=>by
   rw [Th.dv,Th.dv] at h;injection h with h;injection h with h1 h2;injection h1 with h1;rw [h1,rA h2]
 | .call s k,.call s' k',h=>by
   rw [Th.dv,Th.dv] at h;injection h with h;injection h with _ h;injection h with h1 h;injection h with h2 _;injection h1 with h1;injection h2 with h2;rw [h1,h2]
 | .knot n ks,.call s k,h=>by
   rw [Th.dv,Th.dv] at h;injection h with h;injection h with _ h;cases ks with
   | nil=>rw [dvs] at h;cases h
   | cons a as =>
     rw [dvs] at h;injection h with h _;cases a <;> rw [Th.dv] at h <;> cases h
 | .call s k,.knot n ks,h=>by
   rw [Th.dv,Th.dv] at h;injection h with h;injection h with _ h;cases ks with
   | nil=>rw [dvs] at h;cases h
   | cons a as =>
     rw [dvs] at h;injection h with h _;cases a <;> rw [Th.dv] at h <;> cases h
theorem rA:∀ {ts us:List Th},dvs ts=dvs us->ts=us
 | [],[],_=>rfl
 | [],u::us,h=>by rw [dvs,dvs] at h;cases h
 | t::ts,[],h=>by rw [dvs,dvs] at h;cases h
 | t::ts,u::us,h=>by
   rw [dvs,dvs] at h;injection h with h1 h2;rw [Th.dv_inj h1,rA h2]
end
structure Nd where
 t:Th
 ta:Vy
 aa:Vy
 ka:Vy
 ask:List (Key×V)
 sp:List (Key×V)
structure Lv where
 x:Vy
 dx:Vy
 tl:Vy
 al:Vy
 kl:Vy
 ns:List Nd
def lvF (tl al kl:Vy):List (V2×V):=[(Vx "trees",.ref tl),(Vx "asked",.ref al),(Vx "kid_spots",.ref kl)]
theorem wz:¬ (Vx "trees"=Vx "asked"):=by decide +kernel
theorem wq:¬ (Vx "trees"=Vx "kid_spots"):=by decide +kernel
theorem wK:¬ (Vx "asked"=Vx "kid_spots"):=by decide +kernel
theorem nD (tl al kl:Vy):(lvF tl al kl).lookup (Vx "trees")=some (V.ref tl):=by
 unfold lvF;simp only [Xg,beq_self_eq_true]
theorem qj (tl al kl:Vy):(lvF tl al kl).lookup (Vx "asked")=some (V.ref al):=by
 unfold lvF;have h:(Vx "asked" == Vx "trees")=false:=beq_eq_false_iff_ne.mpr fun z=>wz z.symm;simp only [Xg,h,beq_self_eq_true]
theorem uC (tl al kl:Vy):(lvF tl al kl).lookup (Vx "kid_spots")=some (V.ref kl):=by
 unfold lvF;have h:(Vx "kid_spots" == Vx "trees")=false:=beq_eq_false_iff_ne.mpr fun z=>wq z.symm;have h2:(Vx "kid_spots" == Vx "asked")=false:=beq_eq_false_iff_ne.mpr fun z=>wK z.symm;simp only [Xg,h,h2,beq_self_eq_true]
theorem u9 {m:V2} (tl al kl:Vy) (h1:(m == Vx "trees")=false) (h2:(m == Vx "asked")=false) (h3:(m == Vx "kid_spots")=false):(lvF tl al kl).lookup m=none:=by
 unfold lvF;simp only [Xg,h1,h2,h3]
theorem vT (tl al kl:Vy):cg (Vx "kid_spots") (.ref kl) (cg (Vx "asked") (.ref al) (cg (Vx "trees") (.ref tl) []))=lvF tl al kl:=by
 unfold lvF;simp only [cg];rw [if_neg wz,cg,if_neg wq,cg,if_neg wK,cg]
def dcts (ns:List Nd):List Vy:=ns.flatMap fun n=>[n.aa,n.ka]
theorem jY (a b:List Nd):dcts (a++b)=dcts a++dcts b:=List.flatMap_append
theorem cK {ns:List Nd} {n:Nd} (h:n∈ns):n.aa∈dcts ns:=List.mem_flatMap.mpr ⟨n,h,VI ..⟩
theorem cF {ns:List Nd} {n:Nd} (h:n∈ns):n.ka∈dcts ns:=List.mem_flatMap.mpr ⟨n,h,Vv _ (VI ..)⟩
theorem lm {ns:List Nd} {b:Vy} (h:b∈dcts ns):∃ n∈ns,b=n.aa∨b=n.ka:=by
 obtain ⟨n,hn,hb⟩:=List.mem_flatMap.mp h;refine ⟨n,hn,?_⟩;rcases VP.mp hb with h | h
 · exact .inl h
 · exact .inr (VJ.mp h)
structure LvSh (C:Vy) (H:Hp) (L:Lv):Prop where
 ins:H L.x=some (.ins C L.dx (lvF L.tl L.al L.kl))
 tl:H L.tl=some (.lst (L.ns.map fun n=>V.ref n.ta))
 al:H L.al=some (.lst (L.ns.map fun n=>V.ref n.aa))
 kl:H L.kl=some (.lst (L.ns.map fun n=>V.ref n.ka))
 tr:∀ n∈L.ns,At H n.t n.ta
 ak:∀ n∈L.ns,H n.aa=some (.dK n.ask)
 sp:∀ n∈L.ns,H n.ka=some (.dK n.sp)
 n1:L.tl≠L.al
 n2:L.tl≠L.kl
 n3:L.al≠L.kl
 nd:(dcts L.ns).Nodup
 un:(L.ns.map (·.t)).Nodup
def Lv.own (L:Lv):List Vy:=L.x::L.tl::L.al::L.kl::dcts L.ns
theorem LvSh.keep {C:Vy} {H H':Hp} {L:Lv} (h:LvSh C H L) (k:KT H H') (f:∀ b∈L.own,∀ o,H b=some o->H' b=some o):LvSh C H' L:=by
 have d:∀ b∈dcts L.ns,∀ o,H b=some o->H' b=some o:=fun b hb=>f b (Vv _ (Vv _ (Vv _ (Vv _ hb))))
 exact ⟨f _ (VI ..) _ h.ins,f _ (Vv _ (VI ..)) _ h.tl,f _ (Vv _ (Vv _ (VI ..))) _ h.al,f _ (Vv _ (Vv _ (Vv _ (VI ..)))) _ h.kl,
  fun n hn=>(h.tr n hn).mono k,fun n hn=>d _ (cK hn) _ (h.ak n hn),fun n hn=>d _ (cF hn) _ (h.sp n hn),h.n1,h.n2,h.n3,h.nd,h.un⟩
def FrB (S:List Vy) (H H':Hp):Prop:=∀ b o,b∉S->H b=some o->H' b=some o
theorem FrB.refl {S:List Vy} {H:Hp}:FrB S H H:=fun _ _ _ e=>e
theorem FrB.of {S:List Vy} {H H':Hp} (h:L2.Same H H'):FrB S H H':=fun b o _ e=>h b o e
theorem FrB.trans {S:List Vy} {A B C:Hp} (h:FrB S A B) (k:FrB S B C):FrB S A C:=fun b o hb e=>k b o hb (h b o hb e)
theorem FrB.set {S:List Vy} {H:Hp} {a:Vy} {o:HO} (h:a∈S):FrB S H (upd H a o):=fun b u hb e=>by rw [af (show b≠a from fun z=>hb (by rw [z];exact h))];exact e
theorem kF {α:Type} {l:List α} (h:l.Nodup) {i j:Nat} {x:α} (hi:l[i]?=some x) (hj:l[j]?=some x):i=j:=by
 induction l generalizing i j with
 | nil=>simp at hi
 | cons a l ih =>
   rw [WG] at h;cases i with
   | zero =>
     cases j with
     | zero=>rfl
     | succ j =>
       simp at hi hj;exact absurd (by rw [hi];exact VD hj) h.1
   | succ i =>
     cases j with
     | zero =>
       simp at hi hj;exact absurd (by rw [hj];exact VD hi) h.1
     | succ j =>
       simp at hi hj;rw [ih h.2 hi hj]
theorem mF {α β:Type} {f:α->β} (hf:∀ a b,f a=f b->a=b):∀ {l:List α},l.Nodup->(l.map f).Nodup
 | [],_=>by simp
 | a::l,h=>by
   rw [WG] at h;rw [Wf,WG];refine ⟨fun z=>?_,mF hf h.2⟩;obtain ⟨b,hb,e⟩:=V4.mp z;exact h.1 (hf _ _ e ▸ hb)
theorem cX {α:Type}:∀ {l m:List α},l.Nodup->(∀ a∈l,a∈m)->l.length<=m.length
 | [],m,_,_=>Wc _
 | a::l,m,h,hs=>by
   rw [WG] at h;obtain ⟨m1,m2,rfl⟩:=List.append_of_mem (hs a (VI ..))
   have:l.length<=(m1++m2).length:=cX h.2 fun b hb=>by
    rcases VV.mp (hs b (Vv _ hb)) with z | z
    · exact V9 _ z
    · rcases VP.mp z with z | z
      · exact absurd (z ▸ hb) h.1
      · exact V5 _ z
   rw [VO,VY] at *;rw [VY];omega
theorem eN {B:Nat}:∀ {ts:List Th},(∀ t∈ts,t.tall<=B)->bh (ts.map Th.dv)<=B
 | [],_=>by rw [Xj,bh];exact Wc _
 | t::ts,h=>by
   have h1:=t.dv_deep;have h2:=h t (VI ..);have h3:=eN (ts:=ts) fun u hu=>h u (Vv _ hu);rw [Wf,bh];omega
theorem LvSh.dats {C:Vy} {H:Hp} {L:Lv} (h:LvSh C H L):DAts H ((L.ns.map (·.t)).map Th.dv) (L.ns.map fun n=>V.ref n.ta):=by
 have:∀ ns:List Nd,(∀ n∈ns,At H n.t n.ta)->DAts H ((ns.map (·.t)).map Th.dv) (ns.map fun n=>V.ref n.ta):=by
  intro ns;induction ns with
  | nil=>exact fun _=>.nil
  | cons n ns ih=>exact fun h=>.cons (At.dv (h n (VI ..))) (ih fun m hm=>h m (Vv _ hm))
 exact this L.ns h.tr
def Lv.add (L:Lv) (t:Th) (ta aa ka:Vy):Lv:={ L with ns:=L.ns++[⟨t,ta,aa,ka,[],[]⟩] }
theorem LvSh.add {C:Vy} {H H':Hp} {L:Lv} {t:Th} {ta aa ka:Vy} (h:LvSh C H L) (f:FrB [L.tl,L.al,L.kl] H H') (h0:H aa=none) (h1:H ka=none) (Al:aa≠ka) (hA:At H t ta) (hn:t∉L.ns.map (·.t))
 (e1:H' L.tl=some (.lst ((L.ns.map fun n=>V.ref n.ta)++[.ref ta]))) (e2:H' L.al=some (.lst ((L.ns.map fun n=>V.ref n.aa)++[.ref aa]))) (e3:H' L.kl=some (.lst ((L.ns.map fun n=>V.ref n.ka)++[.ref ka]))) (e4:H' aa=some (.dK [])) (e5:H' ka=some (.dK [])) :
 LvSh C H' (L.add t ta aa ka):=by
 have no:∀ b u,H b=some u->(∀ xs,u≠.lst xs)->b∉[L.tl,L.al,L.kl]:=fun b u e n z=>by
  rcases VP.mp z with rfl | z
  · rw [h.tl] at e;exact n _ (VZ e).symm
  · rcases VP.mp z with rfl | z
    · rw [h.al] at e;exact n _ (VZ e).symm
    · rw [VJ.mp z,h.kl] at e;exact n _ (VZ e).symm
 have k:KT H H':=fun b xs e=>f b _ (no b _ e (fun _ z=>nomatch z)) e
 refine ⟨f _ _ (no _ _ h.ins (fun _ z=>nomatch z)) h.ins,e1.trans (by show _=some (HO.lst ((L.ns++[_]).map _));rw [VN];rfl),e2.trans (by show _=some (HO.lst ((L.ns++[_]).map _));rw [VN];rfl),e3.trans (by show _=some (HO.lst ((L.ns++[_]).map _));rw [VN];rfl),
  fun n hn=>?_,fun n hn=>?_,fun n hn=>?_,h.n1,h.n2,h.n3,?_,?_⟩
 · rcases VV.mp hn with hn | hn
   · exact (h.tr n hn).mono k
   · rw [VJ.mp hn];exact hA.mono k
 · rcases VV.mp hn with hn | hn
   · exact f _ _ (no _ _ (h.ak n hn) (fun _ z=>nomatch z)) (h.ak n hn)
   · rw [VJ.mp hn];exact e4
 · rcases VV.mp hn with hn | hn
   · exact f _ _ (no _ _ (h.sp n hn) (fun _ z=>nomatch z)) (h.sp n hn)
   · rw [VJ.mp hn];exact e5
 · show (dcts (L.ns++[_])).Nodup;rw [jY,Yz];refine ⟨h.nd,by simp [dcts,Al],fun a ha b hb z=>?_⟩
   have hs:∃ o,H a=some o:=by
    obtain ⟨n,hn,rfl | rfl⟩:=lm ha
    · exact ⟨_,h.ak n hn⟩
    · exact ⟨_,h.sp n hn⟩
   obtain ⟨o,ho⟩:=hs;have AU:b=aa∨b=ka:=by simpa [dcts] using hb
   rcases AU with rfl | rfl
   · rw [z,h0] at ho;cases ho
   · rw [z,h1] at ho;cases ho
 · show ((L.ns++[_]).map _).Nodup;rw [VN,Yz];refine ⟨h.un,by simp,fun a ha b hb z=>hn ?_⟩;have:b=t:=by simpa using hb
   rw [<- this,<- z];exact ha
end BB
namespace L2
open PySem
theorem ug {K:VB} {a:Vy} {xs:List V} {g:TG} {tb:TS} {D:Ends} {σ:St} {H:Hp} (Pv:Nat->St->Hp->Prop) (h0:Pv 0 σ H) (hl:∀ i σ H,i<=xs.length->Pv i σ H->SqT K H a xs)
 (hs:∀ i x p σ H,xs[i]?=some x->H p=none->Pv i σ H->g (.ref p) σ (upd H p (.tup [.int (i:Nat),x])) fun zU H2=>tb { D with nx:=Pv (i+1),ct:=Pv (i+1),bk:=D.nx } zU H2) (hd:∀ σ H,Pv xs.length σ H->D.nx σ H) :
 ∃ W:Nat->Nat->St->Hp->Prop,(∃ m,W 0 m σ H)/\∀ i m σ H,W i m σ H →
   ((Ite K a).stop i H/\D.nx σ H)∨((Ite K a).go i H/\∃ N:St->Hp->Prop,(∀ zJ H',N zJ H'->∃ m',m'<m/\W (i+1) m' zJ H')/\∀ x H',(Ite K a).yld i H x H'->g x σ H' fun zU H2=>tb { D with nx:=N,ct:=N,bk:=D.nx } zU H2):=by
 refine ⟨fun i m σ H=>m=xs.length - i/\i<=xs.length/\Pv i σ H,⟨xs.length,by simp,Wc _,h0⟩,?_⟩;rintro i m σ H ⟨rfl,hi,p⟩;have q:=hl i σ H hi p;by_cases zV:i<xs.length
 · refine .inr ⟨⟨xs,xs[i],q,by simp [zV]⟩,Pv (i+1),fun zJ H' p'=>⟨xs.length - (i+1),by omega,rfl,zV,p'⟩,fun x H' y=>?_⟩;obtain ⟨pa,y,hp,rfl,rfl,hy⟩:=y;exact hs i y pa σ H (hy xs q) hp p
 · have e:i=xs.length:=by omega
   subst e;exact .inl ⟨⟨xs,q,rfl⟩,hd σ H p⟩
theorem vt {K:VB} {a b:Vy} {xs ys:List V} {g:TG} {tb:TS} {D:Ends} {σ:St} {H:Hp} (RF:xs.length=ys.length) (Pv:Nat->St->Hp->Prop) (h0:Pv 0 σ H) (hl:∀ i σ H,i<=xs.length->Pv i σ H->SqT K H a xs/\SqT K H b ys)
 (hs:∀ i x y p σ H,xs[i]?=some x->ys[i]?=some y->H p=none->Pv i σ H->g (.ref p) σ (upd H p (.tup [x,y])) fun zU H2=>tb { D with nx:=Pv (i+1),ct:=Pv (i+1),bk:=D.nx } zU H2) (hd:∀ σ H,Pv xs.length σ H->D.nx σ H) :
 ∃ W:Nat->Nat->St->Hp->Prop,(∃ m,W 0 m σ H)/\∀ i m σ H,W i m σ H →
   ((Itz K a b).stop i H/\D.nx σ H)∨((Itz K a b).go i H/\∃ N:St->Hp->Prop,(∀ zJ H',N zJ H'->∃ m',m'<m/\W (i+1) m' zJ H')/\∀ x H',(Itz K a b).yld i H x H'->g x σ H' fun zU H2=>tb { D with nx:=N,ct:=N,bk:=D.nx } zU H2):=by
 refine ⟨fun i m σ H=>m=xs.length - i/\i<=xs.length/\Pv i σ H,⟨xs.length,by simp,Wc _,h0⟩,?_⟩;rintro i m σ H ⟨rfl,hi,p⟩;obtain ⟨q1,q2⟩:=hl i σ H hi p;by_cases zV:i<xs.length
 · have Fo:i<ys.length:=by omega
   refine .inr ⟨⟨xs,ys,xs[i],ys[i],q1,q2,by simp [zV],by simp [Fo]⟩,Pv (i+1),fun zJ H' p'=>⟨xs.length - (i+1),by omega,rfl,zV,p'⟩,fun x H' y=>?_⟩;obtain ⟨pa,x,y,hp,rfl,rfl,hx,hy⟩:=y;exact hs i x y pa σ H (hx xs q1) (hy ys q2) hp p
 · have e:i=xs.length:=by omega
   subst e;exact .inl ⟨⟨xs,ys,q1,q2,.inl (VG _)⟩,hd σ H p⟩
theorem va {K:VB} {a b:Vy} {xs ys:List V} {g:TG} {tb:TS} {D:Ends} {σ:St} {H:Hp} (RF:xs.length=ys.length) (Pv:Nat->St->Hp->Prop) (h0:Pv 0 σ H) (hl:∀ i σ H,i<=xs.length->Pv i σ H->SqL K H a xs/\SqL K H b ys)
 (hs:∀ i x y p σ H,xs[i]?=some x->ys[i]?=some y->H p=none->Pv i σ H->g (.ref p) σ (upd H p (.tup [x,y])) fun zU H2=>tb { D with nx:=Pv (i+1),ct:=Pv (i+1),bk:=D.nx } zU H2) (hd:∀ σ H,Pv xs.length σ H->D.nx σ H) :
 ∃ W:Nat->Nat->St->Hp->Prop,(∃ m,W 0 m σ H)/\∀ i m σ H,W i m σ H →
   ((vb K a b).stop i H/\D.nx σ H)∨((vb K a b).go i H/\∃ N:St->Hp->Prop,(∀ zJ H',N zJ H'->∃ m',m'<m/\W (i+1) m' zJ H')/\∀ x H',(vb K a b).yld i H x H'->g x σ H' fun zU H2=>tb { D with nx:=N,ct:=N,bk:=D.nx } zU H2):=by
 refine ⟨fun i m σ H=>m=xs.length - i/\i<=xs.length/\Pv i σ H,⟨xs.length,by simp,Wc _,h0⟩,?_⟩;rintro i m σ H ⟨rfl,hi,p⟩;obtain ⟨q1,q2⟩:=hl i σ H hi p;by_cases zV:i<xs.length
 · have Fo:i<ys.length:=by omega
   refine .inr ⟨⟨xs,ys,xs[i],ys[i],q1,q2,by simp [zV],by simp [Fo]⟩,Pv (i+1),fun zJ H' p'=>⟨xs.length - (i+1),by omega,rfl,zV,p'⟩,fun x H' y=>?_⟩;obtain ⟨pa,x,y,hp,rfl,rfl,hx,hy⟩:=y;exact hs i x y pa σ H (hx xs q1) (hy ys q2) hp p
 · have e:i=xs.length:=by omega
   subst e;exact .inl ⟨⟨xs,ys,q1,q2,.inl (VG _)⟩,hd σ H p⟩
end L2
namespace BB
open PySem L2
abbrev DP:=Th->V->List (List Key×V)->Prop
def DgAt (Dp:DP) (H:Hp) (p:Th) (a:Vy):Prop:=∃ d own kvs,H a=some (.tup [own,.ref d])/\H d=some (.dT kvs)/\Dp p own kvs
def DgN (Dp:DP) (td:Vy) (H:Hp) (p:Th) (a:Vy):Prop:=∃ d own kvs,d≠td/\H a=some (.tup [own,.ref d])/\H d=some (.dT kvs)/\Dp p own kvs
structure KTD (H H':Hp):Prop where
 tup:∀ b xs,H b=some (.tup xs)->H' b=some (.tup xs)
 dct:∀ b (kvs:List (List Key×V)),H b=some (.dT kvs)->H' b=some (.dT kvs)
theorem KTD.trans {A B C:Hp} (h:KTD A B) (k:KTD B C):KTD A C:=⟨fun b xs e=>k.tup b xs (h.tup b xs e),fun b xs e=>k.dct b xs (h.dct b xs e)⟩
theorem KTD.refl {A:Hp}:KTD A A:=⟨fun _ _ e=>e,fun _ _ e=>e⟩
theorem KTD.of {A B:Hp} (h:L2.Same A B):KTD A B:=⟨fun b xs e=>h b _ e,fun b xs e=>h b _ e⟩
theorem DgAt.mono {Dp:DP} {H H':Hp} {p:Th} {a:Vy} (h:DgAt Dp H p a) (k:KTD H H'):DgAt Dp H' p a:=by
 obtain ⟨d,own,kvs,h1,h2,h3⟩:=h;exact ⟨d,own,kvs,k.tup _ _ h1,k.dct _ _ h2,h3⟩
theorem DgN.at {Dp:DP} {td:Vy} {H:Hp} {p:Th} {a:Vy} (h:DgN Dp td H p a):DgAt Dp H p a:=by
 obtain ⟨d,own,kvs,_,h1,h2,h3⟩:=h;exact ⟨d,own,kvs,h1,h2,h3⟩
theorem DgN.same {Dp:DP} {td:Vy} {H H':Hp} {p:Th} {a:Vy} (h:DgN Dp td H p a) (k:L2.Same H H'):DgN Dp td H' p a:=by
 obtain ⟨d,own,kvs,h0,h1,h2,h3⟩:=h;exact ⟨d,own,kvs,h0,k _ _ h1,k _ _ h2,h3⟩
theorem DgN.upd {Dp:DP} {td:Vy} {H:Hp} {p:Th} {a:Vy} {u:HO} {tk:List (List Key×V)} (h:DgN Dp td H p a) (e:H td=some (.dT tk)):DgN Dp td (upd H td u) p a:=by
 obtain ⟨d,own,kvs,h0,h1,h2,h3⟩:=h;exact ⟨d,own,kvs,h0,by rw [af (aJ h1 e (fun z=>nomatch z))];exact h1,by rw [af h0];exact h2,h3⟩
def kn2 (s:Nat) (n:V2):List Key:=[Wa ((s:Nat):Int),Sum.inr n]
theorem we {s s':Nat} {n n':V2} (h:kn2 s n=kn2 s' n'):s=s'/\n=n':=by
 simp only [kn2,List.cons.injEq,Sum.inl.injEq,Sum.inr.injEq,and_true] at h;exact ⟨by omega,h.2⟩
def yk (Dp:DP) (td:Vy) (H:Hp) (ins:List (V2×Int)) (rows:List (List Th)) (tk:List (List Key×V)) (i j:Nat):Prop :=
 ∀ (s c:Nat) (row:List Th) (p:Th) (k:V2×Int),(s<i∨(s=i/\c<j))->rows[s]?=some row->row[c]?=some p->ins[c]?=some k->∃ da,aS tk (kn2 s k.1)=some (.ref da)/\DgN Dp td H p da
def DgTab (Dp:DP) (H:Hp) (ins:List (V2×Int)) (rows:List (List Th)) (td:Vy):Prop:=∃ tk,H td=some (.dT tk) ∧
 ∀ (s c:Nat) (row:List Th) (p:Th) (k:V2×Int),rows[s]?=some row->row[c]?=some p->ins[c]?=some k->∃ da,aS tk (kn2 s k.1)=some (.ref da)/\DgAt Dp H p da
theorem DgTab.mono {Dp:DP} {H H':Hp} {ins:List (V2×Int)} {rows:List (List Th)} {td:Vy} (h:DgTab Dp H ins rows td) (k:KTD H H'):DgTab Dp H' ins rows td:=by
 obtain ⟨tk,e,g⟩:=h;refine ⟨tk,k.dct _ _ e,fun s c row p kd h1 h2 h3=>?_⟩;obtain ⟨da,a1,a2⟩:=g s c row p kd h1 h2 h3;exact ⟨da,a1,a2.mono k⟩
def vx (Dp:DP) (Cw:Sp) (ok:Th->Prop):Prop:=∀ (H1:Hp) (p:Th) (pa:Vy) (R:VK),At H1 p pa->ok p->(∀ (r d:Vy) (own:V) (kvs:List (List Key×V)) (H2:Hp),L2.Same H1 H2->H1 d=none->H2 r=some (.tup [own,.ref d])->H2 d=some (.dT kvs)->Dp p own kvs->R (.ref r) H2)->Cw [.ref pa] H1 R E0
end BB
namespace BB
open PySem L2
theorem sV {κ:Type} [DecidableEq κ] (kvs:List (κ×V)) (k:κ) (v:V):(putK kvs k v).map (·.1)=if k∈kvs.map (·.1) then kvs.map (·.1) else kvs.map (·.1)++[k]:=by
 have e:(kvs.any fun kv=>decide (kv.1=k))=decide (k∈kvs.map (·.1)):=by
  rw [Yu,Zk,decide_eq_true_iff];constructor
  · rintro ⟨x,hx,hk⟩;exact V4.mpr ⟨x,hx,of_decide_eq_true hk⟩
  · intro h;obtain ⟨x,hx,hk⟩:=V4.mp h;exact ⟨x,hx,decide_eq_true hk⟩
 unfold putK;rw [e];by_cases h:k∈kvs.map (·.1)
 · rw [if_pos (decide_eq_true h),if_pos h,XR];refine YT fun x hx=>?_;simp only [Function.comp];by_cases g:x.1=k
   · rw [if_pos g]
   · rw [if_neg g]
 · rw [if_neg (fun z=>h (of_decide_eq_true z)),if_neg h,VN];rfl
theorem lh {κ:Type} [DecidableEq κ] {kvs:List (κ×V)} (nd:(kvs.map (·.1)).Nodup) (k:κ) (v:V):((putK kvs k v).map (·.1)).Nodup:=by
 rw [sV];by_cases h:k∈kvs.map (·.1)
 · rw [if_pos h];exact nd
 · rw [if_neg h,Yz];refine ⟨nd,by simp,fun a ha b hb=>?_⟩;rw [VJ.mp hb];exact fun z=>h (z ▸ ha)
theorem kC {κ:Type} [DecidableEq κ] {kvs:List (κ×V)} {k:κ} {v:V} {e:κ×V} (h:e∈putK kvs k v):e=(k,v)∨(e∈kvs/\e.1≠k):=by
 unfold putK at h;by_cases g:(kvs.any fun kv=>decide (kv.1=k))=true
 · rw [if_pos g] at h;obtain ⟨x,hx,rfl⟩:=V4.mp h;by_cases e:x.1=k
   · rw [if_pos e,e];exact .inl rfl
   · rw [if_neg e];exact .inr ⟨hx,e⟩
 · rw [if_neg g] at h;rcases VV.mp h with h | h
   · exact .inr ⟨h,fun z=>g (Zk.mpr ⟨e,h,decide_eq_true z⟩)⟩
   · exact .inl (VJ.mp h)
theorem iq {κ:Type} [DecidableEq κ] {kvs:List (κ×V)} {k:κ} {v:V} (h:aS kvs k=some v):(k,v)∈kvs:=by
 induction kvs with
 | nil=>cases h
 | cons p r ih =>
   by_cases e:p.1=k
   · rw [bD e] at h;cases h;rw [<- e];exact VI ..
   · rw [bI e] at h;exact Vv _ (ih h)
theorem vo {κ:Type} [DecidableEq κ] {kvs:List (κ×V)} (nd:(kvs.map (·.1)).Nodup) {e:κ×V} (h:e∈kvs):aS kvs e.1=some e.2:=by
 induction kvs with
 | nil=>cases h
 | cons p r ih =>
   rw [Wf,WG] at nd;rcases VP.mp h with rfl | h
   · exact bD rfl
   · rw [bI (fun z=>nd.1 (by rw [z];exact V4.mpr ⟨e,h,rfl⟩))];exact ih nd.2 h
def jd (ins:List (V2×Int)) (rows:List (List Th)) (head:Th) (s:Int) (t p:Th):Prop :=
 (s=-1/\p=head/\∃ u,t=.knot XS [u])∨(0<=s/\∃ (m:V2) (hs:List Th) (c:Int) (j:Nat) (row:List Th),t=.knot m hs/\ins[j]?=some (m,c)/\rows[s.toNat]?=some row/\row[j]?=some p)
theorem Step.pat {ins:List (V2×Int)} {rows:List (List Th)} {head:Th} {s k:Int} {ks:List Th} {p h:Th} (st:Step ins rows s k ks p h):jd ins rows head s h p:=.inr ⟨st.1,st.2.2.2⟩
structure AskE (Dp:DP) (ins:List (V2×Int)) (rows:List (List Th)) (head:Th) (H:Hp) (t:Th) (kv:Key×V) (s:Int) (p:Th) (da:Vy):Prop where
 k:kv.1=Wa s
 v:kv.2=.ref da
 pat:jd ins rows head s t p
 dg:DgAt Dp H p da
def AskOk (Dp:DP) (ins:List (V2×Int)) (rows:List (List Th)) (head:Th) (H:Hp) (t:Th) (ask:List (Key×V)):Prop:=∀ kv∈ask,∃ s p da,AskE Dp ins rows head H t kv s p da
theorem AskE.mono {Dp:DP} {ins:List (V2×Int)} {rows:List (List Th)} {head:Th} {H H':Hp} {t:Th} {kv:Key×V} {s:Int} {p:Th} {da:Vy} (h:AskE Dp ins rows head H t kv s p da) (k:KTD H H'):AskE Dp ins rows head H' t kv s p da:=⟨h.k,h.v,h.pat,h.dg.mono k⟩
theorem AskOk.mono {Dp:DP} {ins:List (V2×Int)} {rows:List (List Th)} {head:Th} {H H':Hp} {t:Th} {ask:List (Key×V)} (h:AskOk Dp ins rows head H t ask) (k:KTD H H'):AskOk Dp ins rows head H' t ask:=fun kv zR=>by
 obtain ⟨s,p,da,g⟩:=h kv zR;exact ⟨s,p,da,g.mono k⟩
structure GoodNd (Dp:DP) (ins:List (V2×Int)) (rows:List (List Th)) (head:Th) (ok:Th->Prop) (H:Hp) (m:Nd):Prop where
 ask:AskOk Dp ins rows head H m.t m.ask
 nd:(m.ask.map (·.1)).Nodup
 sp:m.sp=[]
 ok:ok m.t
 pos:∀ kv∈m.ask,∃ s:Int,kv.1=Wa s/\0<=s
theorem GoodNd.mono {Dp:DP} {ins:List (V2×Int)} {rows:List (List Th)} {head:Th} {ok:Th->Prop} {H H':Hp} {m:Nd} (h:GoodNd Dp ins rows head ok H m) (k:KTD H H'):GoodNd Dp ins rows head ok H' m:=⟨h.ask.mono k,h.nd,h.sp,h.ok,h.pos⟩
theorem AskOk.len {Dp:DP} {ins:List (V2×Int)} {rows:List (List Th)} {head:Th} {H:Hp} {t:Th} {ask:List (Key×V)} (h:AskOk Dp ins rows head H t ask) (nd:(ask.map (·.1)).Nodup):ask.length<=rows.length+1:=by
 have:=cX (m:=(Wa (-1):Key)::(WT rows.length).map fun i=>(Wa ((i:Nat):Int):Key)) nd fun k hk=>by
  obtain ⟨kv,zR,rfl⟩:=V4.mp hk;obtain ⟨s,p,da,g⟩:=h kv zR;rw [g.k];rcases g.pat with ⟨rfl,_⟩ | ⟨s0,m,hs,c,j,row,_,_,hr,_⟩
  · exact VI ..
  · refine Vv _ (V4.mpr ⟨s.toNat,YG.mpr (Vz.mp hr).1,?_⟩);rw [WW s0]
 rw [Vt,VY,Vt,WK] at this;exact this
def Lv.setSp (L:Lv) (i:Nat) (n:Nd) (sp:List (Key×V)):Lv:={ L with ns:=L.ns.set i { n with sp:=sp } }
def Lv.setAsk (L:Lv) (i:Nat) (n:Nd) (ask:List (Key×V)):Lv:={ L with ns:=L.ns.set i { n with ask:=ask } }
theorem map_set {α β:Type} (f:α->β) {l:List α} {i:Nat} {a b:α} (h:l[i]?=some a) (e:f b=f a):(l.set i b).map f=l.map f:=by
 rw [List.map_set];refine ZN fun j=>?_;rw [List.getElem?_set];split
 · rename_i z
   subst z;rw [Vt,if_pos (Vz.mp h).1,VM,h,e];rfl
 · rfl
theorem iD {l:List Nd} {i:Nat} {a b:Nd} (h:l[i]?=some a) (e1:b.aa=a.aa) (e2:b.ka=a.ka):dcts (l.set i b)=dcts l:=by
 unfold dcts;rw [Z4,Z4,map_set (fun n:Nd=>[n.aa,n.ka]) h (by simp only [e1,e2])]
theorem mem_set {α:Type} {l:List α} {i:Nat} {b x:α} (h:x∈l.set i b):x=b∨∃ j,j≠i/\l[j]?=some x:=by
 obtain ⟨j,hj⟩:=V8.mp h;rw [List.getElem?_set] at hj;split at hj
 · split at hj
   · exact .inl (VZ hj).symm
   · cases hj
 · rename_i z
   exact .inr ⟨j,fun e=>z e.symm,hj⟩
theorem km {l:List Nd} (h:(dcts l).Nodup) {i j:Nat} {a b:Nd} (hi:l[i]?=some a) (hj:l[j]?=some b) (Al:j≠i):b.aa≠a.aa/\b.aa≠a.ka/\b.ka≠a.aa/\b.ka≠a.ka:=by
 induction l generalizing i j with
 | nil=>simp at hi
 | cons x l ih =>
   have hc:dcts (x::l)=x.aa::x.ka::dcts l:=rfl;rw [hc,WG,WG] at h;obtain ⟨h1,h2,h3⟩:=h;have BS:x.aa∉dcts l:=fun z=>h1 (Vv _ z);cases i with
   | zero =>
     cases j with
     | zero=>exact absurd rfl Al
     | succ j =>
       simp at hi hj;subst hi;have m:=VD hj;exact ⟨fun z=>BS (z ▸ cK m),fun z=>h2 (z ▸ cK m),fun z=>BS (z ▸ cF m),fun z=>h2 (z ▸ cF m)⟩
   | succ i =>
     cases j with
     | zero =>
       simp at hi hj;subst hj;have m:=VD hi;exact ⟨fun z=>BS (z ▸ cK m),fun z=>BS (z ▸ cF m),fun z=>h2 (z ▸ cK m),fun z=>h2 (z ▸ cF m)⟩
     | succ j =>
       simp at hi hj;exact ih h3 hi hj (by omega)
theorem iO {l:List Nd} (h:(dcts l).Nodup) {i:Nat} {a:Nd} (hi:l[i]?=some a):a.aa≠a.ka:=by
 induction l generalizing i with
 | nil=>simp at hi
 | cons x l ih =>
   have hc:dcts (x::l)=x.aa::x.ka::dcts l:=rfl;rw [hc,WG,WG] at h;cases i with
   | zero =>
     simp at hi;subst hi;exact fun z=>h.1 (by rw [z];exact VI ..)
   | succ i =>
     simp at hi;exact ih h.2.2 hi
theorem cj {C:Vy} {H:Hp} {L:Lv} (h:LvSh C H L) {b:Vy} (hb:b∈L.own):∃ o,H b=some o/\(∀ xs,o≠.tup xs)/\(∀ k,o≠.dT k)/\∀ x y,o≠.frz x y:=by
 rcases VP.mp hb with rfl | hb
 · exact ⟨_,h.ins,fun _ z=>(nomatch z),fun _ z=>(nomatch z),fun _ _ z=>nomatch z⟩
 rcases VP.mp hb with rfl | hb
 · exact ⟨_,h.tl,fun _ z=>(nomatch z),fun _ z=>(nomatch z),fun _ _ z=>nomatch z⟩
 rcases VP.mp hb with rfl | hb
 · exact ⟨_,h.al,fun _ z=>(nomatch z),fun _ z=>(nomatch z),fun _ _ z=>nomatch z⟩
 rcases VP.mp hb with rfl | hb
 · exact ⟨_,h.kl,fun _ z=>(nomatch z),fun _ z=>(nomatch z),fun _ _ z=>nomatch z⟩
 obtain ⟨n,hn,rfl | rfl⟩:=lm hb
 · exact ⟨_,h.ak n hn,fun _ z=>(nomatch z),fun _ z=>(nomatch z),fun _ _ z=>nomatch z⟩
 · exact ⟨_,h.sp n hn,fun _ z=>(nomatch z),fun _ z=>(nomatch z),fun _ _ z=>nomatch z⟩
theorem LvSh.setSp {C:Vy} {H H':Hp} {L:Lv} {i:Nat} {n:Nd} {sp:List (Key×V)} (h:LvSh C H L) (hi:L.ns[i]?=some n) (k:KT H H') (f:∀ b∈L.own,b≠n.ka->∀ o,H b=some o->H' b=some o) (e:H' n.ka=some (.dK sp)):LvSh C H' (L.setSp i n sp):=by
 have ni:=VD hi;have Ag:=h.sp n ni;have m1:L.x∈L.own:=VI ..;have m2:L.tl∈L.own:=Vv _ (VI ..);have m3:L.al∈L.own:=Vv _ (Vv _ (VI ..));have m4:L.kl∈L.own:=Vv _ (Vv _ (Vv _ (VI ..)));have m5:∀ b∈dcts L.ns,b∈L.own:=fun b hb=>Vv _ (Vv _ (Vv _ (Vv _ hb)));refine ⟨f _ m1 (aJ h.ins Ag (fun z=>nomatch z)) _ h.ins,(f _ m2 (aJ h.tl Ag (fun z=>nomatch z)) _ h.tl).trans ?_,(f _ m3 (aJ h.al Ag (fun z=>nomatch z)) _ h.al).trans ?_,(f _ m4 (aJ h.kl Ag (fun z=>nomatch z)) _ h.kl).trans ?_,fun m hm=>?_,fun m hm=>?_,fun m hm=>?_,h.n1,h.n2,h.n3,?_,?_⟩
 · exact congrArg (fun l=>some (HO.lst l)) (map_set (fun n:Nd=>V.ref n.ta) (b:={ n with sp:=sp }) hi rfl).symm
 · exact congrArg (fun l=>some (HO.lst l)) (map_set (fun n:Nd=>V.ref n.aa) (b:={ n with sp:=sp }) hi rfl).symm
 · exact congrArg (fun l=>some (HO.lst l)) (map_set (fun n:Nd=>V.ref n.ka) (b:={ n with sp:=sp }) hi rfl).symm
 · rcases mem_set hm with rfl | ⟨j,hj,hm⟩
   · exact (h.tr n ni).mono k
   · exact (h.tr m (VD hm)).mono k
 · rcases mem_set hm with rfl | ⟨j,hj,hm⟩
   · exact f _ (m5 _ (cK ni)) (iO h.nd hi) _ (h.ak n ni)
   · have mm:=VD hm;exact f _ (m5 _ (cK mm)) (km h.nd hi hm hj).2.1 _ (h.ak m mm)
 · rcases mem_set hm with rfl | ⟨j,hj,hm⟩
   · exact e
   · have mm:=VD hm;exact f _ (m5 _ (cF mm)) (km h.nd hi hm hj).2.2.2 _ (h.sp m mm)
 · show (dcts (L.ns.set i _)).Nodup;rw [iD (b:={ n with sp:=sp }) hi rfl rfl];exact h.nd
 · show ((L.ns.set i _).map _).Nodup;rw [map_set (fun n:Nd=>n.t) (b:={ n with sp:=sp }) hi rfl];exact h.un
theorem LvSh.setAsk {C:Vy} {H H':Hp} {L:Lv} {i:Nat} {n:Nd} {ask:List (Key×V)} (h:LvSh C H L) (hi:L.ns[i]?=some n) (k:KT H H') (f:∀ b∈L.own,b≠n.aa->∀ o,H b=some o->H' b=some o) (e:H' n.aa=some (.dK ask)):LvSh C H' (L.setAsk i n ask):=by
 have ni:=VD hi;have Ag:=h.ak n ni;have m1:L.x∈L.own:=VI ..;have m2:L.tl∈L.own:=Vv _ (VI ..);have m3:L.al∈L.own:=Vv _ (Vv _ (VI ..));have m4:L.kl∈L.own:=Vv _ (Vv _ (Vv _ (VI ..)));have m5:∀ b∈dcts L.ns,b∈L.own:=fun b hb=>Vv _ (Vv _ (Vv _ (Vv _ hb)));refine ⟨f _ m1 (aJ h.ins Ag (fun z=>nomatch z)) _ h.ins,(f _ m2 (aJ h.tl Ag (fun z=>nomatch z)) _ h.tl).trans ?_,(f _ m3 (aJ h.al Ag (fun z=>nomatch z)) _ h.al).trans ?_,(f _ m4 (aJ h.kl Ag (fun z=>nomatch z)) _ h.kl).trans ?_,fun m hm=>?_,fun m hm=>?_,fun m hm=>?_,h.n1,h.n2,h.n3,?_,?_⟩
 · exact congrArg (fun l=>some (HO.lst l)) (map_set (fun n:Nd=>V.ref n.ta) (b:={ n with ask:=ask }) hi rfl).symm
 · exact congrArg (fun l=>some (HO.lst l)) (map_set (fun n:Nd=>V.ref n.aa) (b:={ n with ask:=ask }) hi rfl).symm
 · exact congrArg (fun l=>some (HO.lst l)) (map_set (fun n:Nd=>V.ref n.ka) (b:={ n with ask:=ask }) hi rfl).symm
 · rcases mem_set hm with rfl | ⟨j,hj,hm⟩
   · exact (h.tr n ni).mono k
   · exact (h.tr m (VD hm)).mono k
 · rcases mem_set hm with rfl | ⟨j,hj,hm⟩
   · exact e
   · have mm:=VD hm;exact f _ (m5 _ (cK mm)) (km h.nd hi hm hj).1 _ (h.ak m mm)
 · rcases mem_set hm with rfl | ⟨j,hj,hm⟩
   · exact f _ (m5 _ (cF ni)) (iO h.nd hi).symm _ (h.sp n ni)
   · have mm:=VD hm;exact f _ (m5 _ (cF mm)) (km h.nd hi hm hj).2.2.1 _ (h.sp m mm)
 · show (dcts (L.ns.set i _)).Nodup;rw [iD (b:={ n with ask:=ask }) hi rfl rfl];exact h.nd
 · show ((L.ns.set i _).map _).Nodup;rw [map_set (fun n:Nd=>n.t) (b:={ n with ask:=ask }) hi rfl];exact h.un
end BB
namespace BB
open PySem L2
structure Grow (B B':Lv):Prop where
 x:B'.x=B.x
 dx:B'.dx=B.dx
 tl:B'.tl=B.tl
 al:B'.al=B.al
 kl:B'.kl=B.kl
 ns:∀ (j:Nat) (m:Nd),B.ns[j]?=some m->∃ m',B'.ns[j]?=some m'/\m'.t=m.t/\m'.aa=m.aa/\m'.ka=m.ka/\∀ k,(aS m.ask k).isSome=true->(aS m'.ask k).isSome=true
theorem Grow.refl {B:Lv}:Grow B B:=⟨rfl,rfl,rfl,rfl,rfl,fun j m h=>⟨m,h,rfl,rfl,rfl,fun _ z=>z⟩⟩
theorem Grow.trans {A B C:Lv} (h:Grow A B) (k:Grow B C):Grow A C:=by
 refine ⟨k.x.trans h.x,k.dx.trans h.dx,k.tl.trans h.tl,k.al.trans h.al,k.kl.trans h.kl,fun j m e=>?_⟩;obtain ⟨m1,a1,a2,a3,a4,a5⟩:=h.ns j m e;obtain ⟨m2,b1,b2,b3,b4,b5⟩:=k.ns j m1 a1;exact ⟨m2,b1,b2.trans a2,b3.trans a3,b4.trans a4,fun k z=>b5 k (a5 k z)⟩
theorem Grow.add {B:Lv} {t:Th} {ta aa ka:Vy}:Grow B (B.add t ta aa ka):=⟨rfl,rfl,rfl,rfl,rfl,fun j m h=>⟨m,by
 show (B.ns++[_])[j]?=_;rw [Xa (Vz.mp h).1];exact h,rfl,rfl,rfl,fun _ z=>z⟩⟩
theorem Grow.setAsk {B:Lv} {i:Nat} {n:Nd} {k:Key} {v:V} (hi:B.ns[i]?=some n):Grow B (B.setAsk i n (putK n.ask k v)):=by
 refine ⟨rfl,rfl,rfl,rfl,rfl,fun j m h=>?_⟩;by_cases e:i=j
 · subst e;rw [hi] at h;cases h;refine ⟨{ n with ask:=putK n.ask k v },?_,rfl,rfl,rfl,fun k' z=>?_⟩
   · show (B.ns.set i _)[i]?=_;rw [W2 (Vz.mp hi).1]
   · show (aS (putK n.ask k v) k').isSome=true;rw [db];split
     · rfl
     · exact z
 · refine ⟨m,?_,rfl,rfl,rfl,fun _ z=>z⟩;show (B.ns.set i _)[j]?=_;rw [XB e];exact h
theorem Grow.dcts {B B':Lv} (h:Grow B B'):∀ b∈BB.dcts B.ns,b∈BB.dcts B'.ns:=fun b hb=>by
 obtain ⟨m,hm,hb⟩:=lm hb;obtain ⟨j,hj⟩:=V8.mp hm;obtain ⟨m',h1,h2,h3,h4,_⟩:=h.ns j m hj;have mm:=VD h1;rcases hb with rfl | rfl
 · rw [<- h3];exact cK mm
 · rw [<- h4];exact cF mm
def SpOk (sp:List (Key×V)) (t:Th) (ns:List Nd):Prop:=∀ kv∈sp,∃ (kid:Int) (j:Nat) (m:Nd),kv=(Wa kid,.int (j:Nat))/\ns[j]?=some m/\0<=kid/\t.kids[kid.toNat]?=some m.t
theorem SpOk.mono {sp:List (Key×V)} {t:Th} {B B':Lv} (h:SpOk sp t B.ns) (g:Grow B B'):SpOk sp t B'.ns:=fun kv zR=>by
 obtain ⟨kid,j,m,h1,h2,h3,h4⟩:=h kv zR;obtain ⟨m',a1,a2,_⟩:=g.ns j m h2;exact ⟨kid,j,m',h1,a1,h3,by rw [a2];exact h4⟩
theorem SpOk.len {sp:List (Key×V)} {t:Th} {ns:List Nd} (h:SpOk sp t ns) (nd:(sp.map (·.1)).Nodup):sp.length<=t.kids.length:=by
 have:=cX (m:=(WT t.kids.length).map fun i=>(Wa ((i:Nat):Int):Key)) nd fun k hk=>by
  obtain ⟨kv,zR,rfl⟩:=V4.mp hk;obtain ⟨kid,j,m,rfl,h2,h3,h4⟩:=h kv zR;refine V4.mpr ⟨kid.toNat,YG.mpr (Vz.mp h4).1,?_⟩;rw [WW h3]
 rw [Vt,Vt,WK] at this;exact this
def CDone (sp:List (Key×V)) (t:Th) (ns:List Nd) (c:Int×Int):Prop:=∃ (j:Nat) (m:Nd),aS sp (Wa c.2)=some (.int (j:Nat))/\ns[j]?=some m/\t.kids[c.2.toNat]?=some m.t/\(aS m.ask (Wa c.1)).isSome=true
theorem CDone.mono {sp Dx:List (Key×V)} {t:Th} {B B':Lv} {c:Int×Int} (h:CDone sp t B.ns c) (g:Grow B B') (hs:∀ k v,aS sp k=some v->aS Dx k=some v):CDone Dx t B'.ns c:=by
 obtain ⟨j,m,h1,h2,h3,h4⟩:=h;obtain ⟨m',a1,a2,_,_,a5⟩:=g.ns j m h2;exact ⟨j,m',hs _ _ h1,a1,by rw [a2];exact h3,a5 _ h4⟩
def mU (p:Th) (kvs:List (List Key×V)):Prop:=(∀ kv∈kvs,∃ c∈callsOf (p.pl []),kv.1=ky c.2)/\∀ c∈callsOf (p.pl []),∃ kv∈kvs,kv.1=ky c.2
structure HandC (C:Vy) (H:Hp) (L:Lv) (i:Nat) (n:Nd) (B:Lv):Prop where
 lv:LvSh C H L
 hi:L.ns[i]?=some n
 bn:LvSh C H B
 dis:∀ b∈L.own,b∉B.own
def hS (n:Nd) (B:Lv):List Vy:=n.ka::B.tl::B.al::B.kl::dcts B.ns
structure HandI (C:Vy) (Dp:DP) (ins:List (V2×Int)) (rows:List (List Th)) (head:Th) (ok:Th->Prop) (H:Hp) (L:Lv) (i:Nat) (n:Nd) (B:Lv) (Hg:Hp) (B':Lv) (sp:List (Key×V)):Prop where
 ktd:KTD H Hg
 fr:FrB (hS n B) H Hg
 lv:LvSh C Hg (L.setSp i n sp)
 bn:LvSh C Hg B'
 gr:Grow B B'
 fresh:∀ b∈B'.own,b∈B.own∨H b=none
 good:∀ m∈B'.ns,GoodNd Dp ins rows head ok Hg m
 spk:SpOk sp n.t B'.ns
 spn:(sp.map (·.1)).Nodup
structure Fz2 (aa d:Vy) (o1 o2:Xn) (ask:List (Key×V)) (kvs:List (List Key×V)) (Hg H:Hp):Prop where
 eq:∀ b,b≠aa->b≠d->H b=Hg b
 fa:H aa=some (.frz o1 (.dK ask))
 fd:H d=some (.frz o2 (.dT kvs))
 ga:Hg aa=some (.dK ask)
 gd:Hg d=some (.dT kvs)
def thw (aa d:Vy) (Hg H:Hp):Hp:=fun b=>if b=aa∨b=d then Hg b else H b
theorem fL {aa d b:Vy} {Hg H:Hp} (h1:b≠aa) (h2:b≠d):thw aa d Hg H b=H b:=if_neg fun z=>z.elim h1 h2
theorem iW {aa d b:Vy} {Hg H:Hp} (h:b=aa∨b=d):thw aa d Hg H b=Hg b:=if_pos h
section
variable {C:Vy} {Dp:DP} {ins:List (V2×Int)} {rows:List (List Th)} {head:Th} {ok:Th->Prop} {H:Hp} {L:Lv} {i:Nat} {n:Nd} {B:Lv} {Hg:Hp} {B':Lv} {sp:List (Key×V)}
theorem HandC.start (c:HandC C H L i n B) (h0:n.sp=[]) (hg:∀ m∈B.ns,GoodNd Dp ins rows head ok H m):HandI C Dp ins rows head ok H L i n B H B []:=by
 refine ⟨KTD.refl,FrB.refl,?_,c.bn,Grow.refl,fun b hb=>.inl hb,hg,fun kv h=>(by cases h),YF⟩;refine c.lv.setSp c.hi (fun _ _ e=>e) (fun b _ _ o e=>e) ?_;rw [c.lv.sp n (VD c.hi),h0]
theorem i5 (hi:L.ns[i]?=some n) (sp:List (Key×V)):(L.setSp i n sp).own=L.own:=by
 unfold Lv.own;show L.x::L.tl::L.al::L.kl::dcts (L.ns.set i _)=_;rw [iD (b:={ n with sp:=sp }) hi rfl rfl]
theorem HandI.ka (c:HandC C H L i n B) (I:HandI C Dp ins rows head ok H L i n B Hg B' sp):Hg n.ka=some (.dK sp):=I.lv.sp { n with sp:=sp } (VD (W2 (Vz.mp c.hi).1))
theorem HandI.aa (c:HandC C H L i n B) (I:HandI C Dp ins rows head ok H L i n B Hg B' sp):Hg n.aa=some (.dK n.ask):=I.lv.ak { n with sp:=sp } (VD (W2 (Vz.mp c.hi).1))
theorem HandI.dis (c:HandC C H L i n B) (I:HandI C Dp ins rows head ok H L i n B Hg B' sp):∀ b∈L.own,b∉B'.own:=fun b hb z=>by
 rcases I.fresh b z with h | h
 · exact c.dis b hb h
 · obtain ⟨o,e,_⟩:=cj c.lv hb;rw [h] at e;cases e
theorem eK {L:Lv} {n:Nd} (h:n∈L.ns):n.aa∈L.own:=Vv _ (Vv _ (Vv _ (Vv _ (cK h))))
theorem l8 {L:Lv} {n:Nd} (h:n∈L.ns):n.ka∈L.own:=Vv _ (Vv _ (Vv _ (Vv _ (cF h))))
theorem cx {L:Lv}:∀ b∈[L.tl,L.al,L.kl],b∈L.own:=fun b hb=>by
 rcases VP.mp hb with rfl | hb
 · exact Vv _ (VI ..)
 rcases VP.mp hb with rfl | hb
 · exact Vv _ (Vv _ (VI ..))
 · rw [VJ.mp hb];exact Vv _ (Vv _ (Vv _ (VI ..)))
theorem HandI.new (c:HandC C H L i n B) (I:HandI C Dp ins rows head ok H L i n B Hg B' sp) {a:Vy} (h:Hg a=none):H a=none:=by
 cases e:H a with
 | none=>rfl
 | some o =>
   by_cases hs:a∈hS n B
   · rcases VP.mp hs with rfl | hs
     · rw [I.ka c] at h;cases h
     · have ho:a∈B'.own:=by
        have e1:=I.gr.tl;have e2:=I.gr.al;have e3:=I.gr.kl;rcases VP.mp hs with rfl | hs
        · exact cx _ (by rw [<- e1];exact VI ..)
        rcases VP.mp hs with rfl | hs
        · exact cx _ (by rw [<- e2];exact Vv _ (VI ..))
        rcases VP.mp hs with rfl | hs
        · exact cx _ (by rw [<- e3];exact Vv _ (Vv _ (VI ..)))
        · exact Vv _ (Vv _ (Vv _ (Vv _ (I.gr.dcts _ hs))))
       obtain ⟨o',e',_⟩:=cj I.bn ho;rw [h] at e';cases e'
   · rw [I.fr a o hs e] at h;cases h
theorem HandI.spot (c:HandC C H L i n B) (I:HandI C Dp ins rows head ok H L i n B Hg B' sp) {d:Vy} {o1 o2:Xn} {kvs:List (List Key×V)} {H4 H5:Hp} (z:Fz2 n.aa d o1 o2 n.ask kvs Hg H4) {B2:Lv} {h:Th} {pa:Vy} {j:Nat} {m:Nd} {kid:Int}
 (hB:LvSh C H5 B2) (Cd:B2=B'∨∃ a k,H4 a=none/\H4 k=none/\B2=B'.add h pa a k) (hj:B2.ns[j]?=some m) (hm:m.t=h) (fr:FrB [B'.tl,B'.al,B'.kl] H4 H5) (hk:n.t.kids[kid.toNat]?=some h) (k0:0<=kid) (AY:aS sp (Wa kid)=none) (hok:ok h) :
 H5 n.ka=some (.dK sp)/\Fz2 n.aa d o1 o2 n.ask kvs (thw n.aa d Hg (upd H5 n.ka (.dK (putK sp (Wa kid) (.int (j:Nat)))))) (upd H5 n.ka (.dK (putK sp (Wa kid) (.int (j:Nat))))) ∧
  HandI C Dp ins rows head ok H L i n B (thw n.aa d Hg (upd H5 n.ka (.dK (putK sp (Wa kid) (.int (j:Nat)))))) B2 (putK sp (Wa kid) (.int (j:Nat))):=by
 have ni:=VD c.hi;have JD:=eK ni;have JE:=l8 ni;have AW:=I.ka c;have Lf:n.aa≠n.ka:=iO c.lv.nd c.hi;have Cy:n.ka≠d:=aJ AW z.gd (fun z=>nomatch z);have UW:n.aa≠d:=aJ z.ga z.gd (fun z=>nomatch z);have RG:H4 n.ka=some (.dK sp):=(z.eq _ Lf.symm Cy).trans AW;have nl:∀ b,b∈L.own->b∉[B'.tl,B'.al,B'.kl]:=fun b hb hz=>I.dis c b hb (cx b hz)
 have nd:d∉[B'.tl,B'.al,B'.kl]:=fun hz=>by
  obtain ⟨o,e,_,h2,_⟩:=cj I.bn (cx d hz);rw [z.gd] at e;exact h2 _ (VZ e).symm
 have JF:H5 n.ka=some (.dK sp):=fr _ _ (nl _ JE) RG;have OT:=fr _ _ (nl _ JD) z.fa;have Lg:=fr _ _ nd z.fd
 have g2:Grow B' B2:=by
  rcases Cd with rfl | ⟨_,_,_,_,rfl⟩
  · exact Grow.refl
  · exact Grow.add
 have Eb:∀ b∈B2.own,b∈B'.own∨Hg b=none:=fun b hb=>by
  rcases Cd with rfl | ⟨a,k,ha,Br,rfl⟩
  · exact .inl hb
  · have non:∀ x,H4 x=none->Hg x=none:=fun x hx=>by
     rw [<- z.eq x (fun e=>by rw [e,z.fa] at hx;cases hx) (fun e=>by rw [e,z.fd] at hx;cases hx)];exact hx
    have AU:b∈B'.x::B'.tl::B'.al::B'.kl::dcts (B'.ns++[⟨h,pa,a,k,[],[]⟩]):=hb;rw [jY] at AU;have Az:b∈B'.own++[a,k]:=by simpa [Lv.own,dcts] using AU
    rcases VV.mp Az with h1 | h1
    · exact .inl h1
    · rcases VP.mp h1 with rfl | h1
      · exact .inr (non _ ha)
      · rw [VJ.mp h1];exact .inr (non _ Br)
 have Ht:∀ b∈L.own,b∉B2.own:=fun b hb hz=>by
  rcases Eb b hz with h1 | h1
  · exact I.dis c b hb h1
  · obtain ⟨o,e,_⟩:=cj I.lv (by rw [i5 c.hi];exact hb);rw [h1] at e;cases e
 generalize Hu:putK sp (Wa kid) (.int (j:Nat))=Dx;generalize OU:upd H5 n.ka (.dK Dx)=H6;have RH:H6 n.ka=some (.dK Dx):=by rw [<- OU,ad]
 have e6:∀ b,b≠n.ka->H6 b=H5 b:=fun b hb=>by rw [<- OU,af hb]
 have RI:=(e6 _ Lf).trans OT;have RJ:=(e6 _ Cy.symm).trans Lg
 have pass:∀ b o,Hg b=some o->b∉[B'.tl,B'.al,B'.kl]->b≠n.ka->thw n.aa d Hg H6 b=some o:=fun b o e hb RK=>by
  by_cases hz:b=n.aa∨b=d
  · rw [iW hz];exact e
  · have h1:b≠n.aa:=fun y=>hz (.inl y);have h2:b≠d:=fun y=>hz (.inr y);rw [fL h1 h2,e6 b RK];exact fr b o hb ((z.eq b h1 h2).trans e)
 have Hv:∀ b o,Hg b=some o->((∃ xs,o=.tup xs)∨∃ k,o=.dT k)->b∉[B'.tl,B'.al,B'.kl]/\b≠n.ka:=fun b o e ho=>by
  refine ⟨fun hz=>?_,fun hz=>?_⟩
  · obtain ⟨o',e',h1,h2,_⟩:=cj I.bn (cx b hz);rw [e] at e';cases e';rcases ho with ⟨xs,rfl⟩ | ⟨k,rfl⟩
    · exact h1 _ rfl
    · exact h2 _ rfl
  · rw [hz,AW] at e;cases e;rcases ho with ⟨xs,z⟩ | ⟨k,z⟩ <;> cases z
 have ktd:KTD Hg (thw n.aa d Hg H6):=⟨fun b xs e=>by obtain ⟨h1,h2⟩:=Hv b _ e (.inl ⟨xs,rfl⟩);exact pass b _ e h1 h2,fun b k e=>by obtain ⟨h1,h2⟩:=Hv b _ e (.inr ⟨k,rfl⟩);exact pass b _ e h1 h2⟩;refine ⟨JF,⟨fun b h1 h2=>(fL h1 h2).symm,RI,RJ,(iW (.inl rfl)).trans z.ga,(iW (.inr rfl)).trans z.gd⟩,I.ktd.trans ktd,fun b o hb e=>?_,?_,?_,I.gr.trans g2,fun b hb=>?_,fun m' Cv=>?_,?_,?_⟩
 · refine pass b o (I.fr b o hb e) (fun hz=>hb ?_) (fun hz=>hb (by rw [hz];exact VI ..));rw [I.gr.tl,I.gr.al,I.gr.kl] at hz;refine Vv _ ?_;have:b∈[B.tl,B.al,B.kl]++dcts B.ns:=V9 _ hz;exact this
 · have Bg:(L.setSp i n sp).ns[i]?=some { n with sp:=sp }:=W2 (Vz.mp c.hi).1;have:=LvSh.setSp (sp:=Dx) (H':=thw n.aa d Hg H6) I.lv Bg ktd.tup (fun b hb Al o e=>pass b o e (nl b (by rw [i5 c.hi] at hb;exact hb)) Al) ((fL Lf.symm Cy).trans RH)
   have e:(L.setSp i n sp).setSp i { n with sp:=sp } Dx=L.setSp i n Dx:=by
    unfold Lv.setSp;simp only [List.set_set]
   rw [e] at this;exact this
 · refine hB.keep (fun b xs e=>?_) (fun b hb o e=>?_)
   · have h1:b≠n.aa:=aJ e OT (fun z=>nomatch z);have h2:b≠d:=aJ e Lg (fun z=>nomatch z);rw [fL h1 h2,e6 b (aJ e JF (fun z=>nomatch z))];exact e
   · have h1:b≠n.aa:=fun y=>Ht _ JD (y ▸ hb);have h2:b≠n.ka:=fun y=>Ht _ JE (y ▸ hb)
     have h3:b≠d:=fun y=>by
      obtain ⟨o',e',_,_,h3⟩:=cj hB hb;rw [y,Lg] at e';exact h3 _ _ (VZ e').symm
     rw [fL h1 h3,e6 b h2];exact e
 · rcases Eb b hb with h1 | h1
   · exact I.fresh b h1
   · exact .inr (I.new c h1)
 · rcases Cd with rfl | ⟨a,k,_,_,rfl⟩
   · exact (I.good m' Cv).mono ktd
   · rcases VV.mp Cv with h1 | h1
     · exact (I.good m' h1).mono ktd
     · rw [VJ.mp h1];exact ⟨fun kv zR=>(by cases zR),YF,rfl,hok,fun kv zR=>(by cases zR)⟩
 · intro kv zR;rw [<- Hu] at zR;rcases kC zR with rfl | ⟨h1,_⟩
   · exact ⟨kid,j,m,rfl,hj,k0,by rw [hm];exact hk⟩
   · exact (I.spk.mono g2) kv h1
 · rw [<- Hu];exact lh I.spn _ _
theorem HandI.ask (c:HandC C H L i n B) (I:HandI C Dp ins rows head ok H L i n B Hg B' sp) {d:Vy} {o1 o2:Xn} {kvs:List (List Key×V)} {H4 H7:Hp} (z:Fz2 n.aa d o1 o2 n.ask kvs Hg H4) (s7:L2.Same H4 H7) {j:Nat} {m:Nd} {s':Int} {p':Th} {da:Vy}
 (hj:B'.ns[j]?=some m) (RL:0<=s') (pat:jd ins rows head s' m.t p') (dg:DgAt Dp Hg p' da) :
 H7 m.aa=some (.dK m.ask)/\Fz2 n.aa d o1 o2 n.ask kvs (thw n.aa d Hg (upd H7 m.aa (.dK (putK m.ask (Wa s') (.ref da))))) (upd H7 m.aa (.dK (putK m.ask (Wa s') (.ref da)))) ∧
  HandI C Dp ins rows head ok H L i n B (thw n.aa d Hg (upd H7 m.aa (.dK (putK m.ask (Wa s') (.ref da))))) (B'.setAsk j m (putK m.ask (Wa s') (.ref da))) sp:=by
 have ni:=VD c.hi;have mj:=VD hj;have JD:=eK ni;have JE:=l8 ni;have JG:=eK mj;have Hw:=I.bn.ak m mj;have Fp:m.aa≠n.aa:=fun y=>I.dis c _ JD (y ▸ JG);have UX:m.aa≠n.ka:=fun y=>I.dis c _ JE (y ▸ JG);have ES:m.aa≠d:=aJ Hw z.gd (fun z=>nomatch z);have Lh:H7 m.aa=some (.dK m.ask):=s7 _ _ ((z.eq _ Fp ES).trans Hw);have RM:=s7 _ _ z.fa;have RN:=s7 _ _ z.fd;have g2:Grow B' (B'.setAsk j m (putK m.ask (Wa s') (.ref da))):=Grow.setAsk hj;generalize Br:putK m.ask (Wa s') (.ref da)=ask' at g2 ⊢;generalize OV:upd H7 m.aa (.dK ask')=H8;have RO:H8 m.aa=some (.dK ask'):=by rw [<- OV,ad]
 have e8:∀ b,b≠m.aa->H8 b=H7 b:=fun b hb=>by rw [<- OV,af hb]
 have RP:=(e8 _ Fp.symm).trans RM;have RQ:=(e8 _ ES.symm).trans RN
 have pass:∀ b o,Hg b=some o->b≠m.aa->thw n.aa d Hg H8 b=some o:=fun b o e hb=>by
  by_cases hz:b=n.aa∨b=d
  · rw [iW hz];exact e
  · have h1:b≠n.aa:=fun y=>hz (.inl y);have h2:b≠d:=fun y=>hz (.inr y);rw [fL h1 h2,e8 b hb];exact s7 b o ((z.eq b h1 h2).trans e)
 have ktd:KTD Hg (thw n.aa d Hg H8):=⟨fun b xs e=>pass b _ e (aJ e Hw (fun z=>nomatch z)),fun b k e=>pass b _ e (aJ e Hw (fun z=>nomatch z))⟩
 have Eb:(B'.setAsk j m ask').own=B'.own:=by
  unfold Lv.own;show B'.x::B'.tl::B'.al::B'.kl::dcts (B'.ns.set j _)=_;rw [iD (b:={ m with ask:=ask' }) hj rfl rfl]
 refine ⟨Lh,⟨fun b h1 h2=>(fL h1 h2).symm,RP,RQ,(iW (.inl rfl)).trans z.ga,(iW (.inr rfl)).trans z.gd⟩,I.ktd.trans ktd,fun b o hb e=>?_,?_,?_,I.gr.trans g2,fun b hb=>I.fresh b (by rw [Eb] at hb;exact hb),fun m' Cv=>?_,I.spk.mono g2,I.spn⟩
 · by_cases JH:b=m.aa
   · rcases I.fresh b (by rw [JH];exact JG) with h1 | h1
     · exfalso;apply hb;rcases VP.mp h1 with h2 | h2
       · obtain ⟨o',e',_⟩:=cj c.bn h1;rw [h2] at JH;have e1:=I.bn.ins;rw [I.gr.x,JH,Hw] at e1;cases e1
       · exact Vv _ h2
     · rw [h1] at e;cases e
   · exact pass b o (I.fr b o hb e) JH
 · refine I.lv.keep ktd.tup (fun b hb o e=>pass b o e (fun y=>?_));rw [i5 c.hi] at hb;exact I.dis c b hb (y ▸ JG)
 · exact I.bn.setAsk hj ktd.tup (fun b hb Al o e=>pass b o e Al) ((fL Fp ES).trans RO)
 · rcases mem_set Cv with rfl | ⟨j',Bt,Gm⟩
   · have g:=I.good m mj;refine ⟨fun kv zR=>?_,?_,g.sp,g.ok,fun kv zR=>?_⟩
     · have Ce:kv∈ask':=zR;rw [<- Br] at Ce;rcases kC Ce with rfl | ⟨h1,_⟩
       · exact ⟨s',p',da,rfl,rfl,pat,dg.mono ktd⟩
       · exact (g.ask.mono ktd) kv h1
     · show (ask'.map _).Nodup;rw [<- Br];exact lh g.nd _ _
     · have Ce:kv∈ask':=zR;rw [<- Br] at Ce;rcases kC Ce with rfl | ⟨h1,_⟩
       · exact ⟨s',rfl,RL⟩
       · exact g.pos kv h1
   · exact (I.good m' (VD Gm)).mono ktd
end
end BB
namespace BB
open PySem L2
theorem Ats.get' {H:Hp} {ts:List Th} {as:List Vy} (h:Ats H ts as) {i:Nat} {t:Th} (hi:ts[i]?=some t):∃ a,as[i]?=some a/\At H t a:=by
 have hl:=h.length;have zV:=(Vz.mp hi).1;obtain ⟨a,ha⟩:∃ a,as[i]?=some a:=⟨_,Vw (by omega)⟩;obtain ⟨t',ht,hA⟩:=h.get ha;rw [hi] at ht;cases ht;exact ⟨a,ha,hA⟩
end BB
namespace BB
open PySem L2
def EDone (Dp:DP) (ins:List (V2×Int)) (rows:List (List Th)) (head:Th) (H:Hp) (t:Th) (sp:List (Key×V)) (ns:List Nd) (kv:Key×V):Prop:=∃ s p da,AskE Dp ins rows head H t kv s p da/\∀ c∈callsOf (p.pl []),CDone sp t ns c.2
theorem EDone.grow {Dp:DP} {ins:List (V2×Int)} {rows:List (List Th)} {head:Th} {H:Hp} {t:Th} {sp Dx:List (Key×V)} {B B':Lv} {kv:Key×V} (h:EDone Dp ins rows head H t sp B.ns kv) (g:Grow B B') (hs:∀ k v,aS sp k=some v->aS Dx k=some v):EDone Dp ins rows head H t Dx B'.ns kv:=by
 obtain ⟨s,p,da,h1,h2⟩:=h;exact ⟨s,p,da,h1,fun c hc=>(h2 c hc).mono g hs⟩
end BB
namespace BB
open PySem L2
theorem EDone.mono {Dp:DP} {ins:List (V2×Int)} {rows:List (List Th)} {head:Th} {H H':Hp} {t:Th} {sp:List (Key×V)} {ns:List Nd} {kv:Key×V} (h:EDone Dp ins rows head H t sp ns kv) (k:KTD H H'):EDone Dp ins rows head H' t sp ns kv:=by
 obtain ⟨s,p,da,h1,h2⟩:=h;exact ⟨s,p,da,h1.mono k,h2⟩
structure LvCl (Dp:DP) (ins:List (V2×Int)) (rows:List (List Th)) (head:Th) (H:Hp) (L:Lv) (Hz:List Nd):Prop where
 ed:∀ n∈L.ns,∀ kv∈n.ask,EDone Dp ins rows head H n.t n.sp Hz kv
 sp:∀ n∈L.ns,SpOk n.sp n.t Hz
 an:∀ n∈L.ns,(n.ask.map (·.1)).Nodup
 sn:∀ n∈L.ns,(n.sp.map (·.1)).Nodup
 kd:∀ n∈L.ns,n.t.kids.length<=100
 ln:L.ns.length<=50000
theorem LvCl.mono {Dp:DP} {ins:List (V2×Int)} {rows:List (List Th)} {head:Th} {H H':Hp} {L:Lv} {Hz:List Nd} (h:LvCl Dp ins rows head H L Hz) (k:KTD H H'):LvCl Dp ins rows head H' L Hz:=⟨fun n hn kv zR=>(h.ed n hn kv zR).mono k,h.sp,h.an,h.sn,h.kd,h.ln⟩
theorem LvCl.grow {Dp:DP} {ins:List (V2×Int)} {rows:List (List Th)} {head:Th} {H:Hp} {L B B':Lv} (h:LvCl Dp ins rows head H L B.ns) (g:Grow B B'):LvCl Dp ins rows head H L B'.ns:=⟨fun n hn kv zR=>(h.ed n hn kv zR).grow g (fun _ _ z=>z),fun n hn=>(h.sp n hn).mono g,h.an,h.sn,h.kd,h.ln⟩
def nxt (Ls:List Lv) (k:Nat) (e:List Nd):List Nd:=match Ls[k]? with
 | some L=>L.ns
 | none=>e
structure Okd (W:List Th) (ins:List (V2×Int)) (d:Nat) (h:Th):Prop where
 tall:h.tall<=d
 mem:h∈W
 fit:h.Fit ins
structure NdReady (Dp:DP) (ins:List (V2×Int)) (rows:List (List Th)) (head:Th) (W:List Th) (H:Hp) (d:Nat) (n:Nd):Prop where
 sp:n.sp=[]
 nd:(n.ask.map (·.1)).Nodup
 ask:∀ kv∈n.ask,∃ s p da,AskE Dp ins rows head H n.t kv s p da/\∀ c∈callsOf (p.pl []),∃ p' h,Step ins rows c.2.1 c.2.2 n.t.kids p' h/\Okd W ins (d - 1) h
 knot:∃ nm ks,n.t=.knot nm ks
 kids:n.t.kids.length<=100
 tall:n.t.tall<=d
theorem NdReady.mono {Dp:DP} {ins:List (V2×Int)} {rows:List (List Th)} {head:Th} {W:List Th} {H H':Hp} {d:Nat} {n:Nd} (h:NdReady Dp ins rows head W H d n) (k:KTD H H'):NdReady Dp ins rows head W H' d n:=⟨h.sp,h.nd,fun kv zR=>by
 obtain ⟨s,p,da,h1,h2⟩:=h.ask kv zR;exact ⟨s,p,da,h1.mono k,h2⟩,h.knot,h.kids,h.tall⟩
structure SpUp (L L':Lv):Prop where
 x:L'.x=L.x
 dx:L'.dx=L.dx
 tl:L'.tl=L.tl
 al:L'.al=L.al
 kl:L'.kl=L.kl
 ns:∀ j:Nat,(L'.ns[j]?=none/\L.ns[j]?=none)∨∃ n sp,L.ns[j]?=some n/\L'.ns[j]?=some { n with sp:=sp }
theorem SpUp.refl {L:Lv}:SpUp L L:=⟨rfl,rfl,rfl,rfl,rfl,fun j=>by
 cases h:L.ns[j]? with
 | none=>exact .inl ⟨rfl,rfl⟩
 | some n=>exact .inr ⟨n,n.sp,rfl,rfl⟩⟩
theorem SpUp.set {L L':Lv} (h:SpUp L L') {i:Nat} {n:Nd} (hi:L'.ns[i]?=some n) (sp:List (Key×V)):SpUp L (L'.setSp i n sp):=by
 refine ⟨h.x,h.dx,h.tl,h.al,h.kl,fun j=>?_⟩;by_cases e:i=j
 · subst e;rcases h.ns i with ⟨h1,_⟩ | ⟨m,UY,h1,h2⟩
   · rw [hi] at h1;cases h1
   · rw [hi] at h2;cases h2;exact .inr ⟨m,sp,h1,W2 (Vz.mp hi).1⟩
 · have e2:(L'.setSp i n sp).ns[j]?=L'.ns[j]?:=XB e;rw [e2];exact h.ns j
theorem SpUp.grow {L L':Lv} (h:SpUp L L'):Grow L L':=by
 refine ⟨h.x,h.dx,h.tl,h.al,h.kl,fun j m hj=>?_⟩;rcases h.ns j with ⟨_,h1⟩ | ⟨n,sp,h1,h2⟩
 · rw [hj] at h1;cases h1
 · rw [hj] at h1;cases h1;exact ⟨_,h2,rfl,rfl,rfl,fun _ z=>z⟩
theorem SpUp.len {L L':Lv} (h:SpUp L L'):L'.ns.length=L.ns.length:=by
 apply Nat.le_antisymm
 · rcases h.ns L.ns.length with ⟨h1,_⟩ | ⟨n,sp,h1,_⟩
   · exact List.getElem?_eq_none_iff.mp h1
   · have:=(Vz.mp h1).1;omega
 · rcases h.ns L'.ns.length with ⟨_,h1⟩ | ⟨n,sp,_,h1⟩
   · exact List.getElem?_eq_none_iff.mp h1
   · have:=(Vz.mp h1).1;omega
theorem SpUp.dcts {L L':Lv} (h:SpUp L L'):BB.dcts L'.ns=BB.dcts L.ns:=by
 unfold BB.dcts;rw [Z4,Z4];congr 1;refine ZN fun j=>?_;rw [VM,VM];rcases h.ns j with ⟨h1,h2⟩ | ⟨n,sp,h1,h2⟩
 · rw [h1,h2]
 · rw [h1,h2];rfl
theorem SpUp.own {L L':Lv} (h:SpUp L L'):L'.own=L.own:=by
 unfold Lv.own;rw [h.x,h.tl,h.al,h.kl,h.dcts]
structure RunI (C:Vy) (Dp:DP) (ins:List (V2×Int)) (rows:List (List Th)) (head:Th) (ok:Th->Prop) (H0:Hp) (L B:Lv) (i:Nat) (H:Hp) (L' B':Lv):Prop where
 ktd:KTD H0 H
 fr:FrB (dcts L.ns++B.own) H0 H
 lv:LvSh C H L'
 up:SpUp L L'
 bn:LvSh C H B'
 gr:Grow B B'
 fresh:∀ b∈B'.own,b∈B.own∨H0 b=none
 good:∀ m∈B'.ns,GoodNd Dp ins rows head ok H m
 done:∀ (j:Nat) (n:Nd),j<i->L'.ns[j]?=some n->(∀ kv∈n.ask,EDone Dp ins rows head H n.t n.sp B'.ns kv)/\SpOk n.sp n.t B'.ns/\(n.sp.map (·.1)).Nodup
 todo:∀ j,i<=j->L'.ns[j]?=L.ns[j]?
section
variable {C:Vy} {Dp:DP} {ins:List (V2×Int)} {rows:List (List Th)} {head:Th} {ok:Th->Prop} {H0:Hp} {L B:Lv} {i:Nat} {H:Hp} {L' B':Lv}
theorem RunI.start (hL:LvSh C H0 L) (hB:LvSh C H0 B) (h0:B.ns=[]):RunI C Dp ins rows head ok H0 L B 0 H0 L B :=
 ⟨KTD.refl,FrB.refl,hL,SpUp.refl,hB,Grow.refl,fun b hb=>.inl hb,fun m hm=>(by rw [h0] at hm;cases hm),fun j n h=>(by cases h),fun j _=>rfl⟩
theorem RunI.handC (R:RunI C Dp ins rows head ok H0 L B i H L' B') (hL:LvSh C H0 L) (dis:∀ b∈L.own,b∉B.own) {n:Nd} (hi:L'.ns[i]?=some n):HandC C H L' i n B':=by
 refine ⟨R.lv,hi,R.bn,fun b hb hz=>?_⟩;rw [R.up.own] at hb;rcases R.fresh b hz with h | h
 · exact dis b hb h
 · obtain ⟨o,e,_⟩:=cj hL hb;rw [h] at e;cases e
theorem RunI.step (R:RunI C Dp ins rows head ok H0 L B i H L' B') {n:Nd} (hi:L'.ns[i]?=some n) {H2:Hp} {B2:Lv} {sp:List (Key×V)} (I:HandI C Dp ins rows head ok H L' i n B' H2 B2 sp) (hd:∀ kv∈n.ask,EDone Dp ins rows head H n.t sp B2.ns kv):RunI C Dp ins rows head ok H0 L B (i+1) H2 (L'.setSp i n sp) B2:=by
 refine ⟨R.ktd.trans I.ktd,fun b o hb e=>I.fr b o (fun hz=>hb ?_) (R.fr b o hb e),I.lv,R.up.set hi sp,I.bn,R.gr.trans I.gr,fun b hb=>?_,I.good,fun j m hj hm=>?_,fun j hj=>?_⟩
 · rcases VP.mp hz with rfl | hz
   · refine V9 _ ?_;rw [<- R.up.dcts];exact cF (VD hi)
   · have RR:b∈B'.own:=Vv _ hz;rcases R.fresh b RR with h | h
     · exact V5 _ h
     · rw [h] at e;cases e
 · rcases I.fresh b hb with h | h
   · exact R.fresh b h
   · refine .inr ?_;cases e:H0 b with
     | none=>rfl
     | some o =>
       by_cases hs:b∈dcts L.ns++B.own
       · rcases VV.mp hs with hs | hs
         · rw [<- R.up.dcts] at hs;obtain ⟨o',e',_⟩:=cj R.lv (Vv _ (Vv _ (Vv _ (Vv _ hs))));rw [h] at e';cases e'
         · have:b∈B'.own:=by
            rcases VP.mp hs with rfl | hs
            · rw [<- R.gr.x];exact VI ..
            · rw [show B.tl::B.al::B.kl::dcts B.ns=[B.tl,B.al,B.kl]++dcts B.ns from rfl] at hs;rcases VV.mp hs with hs | hs
              · rw [<- R.gr.tl,<- R.gr.al,<- R.gr.kl] at hs;exact cx b hs
              · exact Vv _ (Vv _ (Vv _ (Vv _ (R.gr.dcts _ hs))))
           obtain ⟨o',e',_⟩:=cj R.bn this;rw [h] at e';cases e'
       · rw [R.fr b o hs e] at h;cases h
 · by_cases e:i=j
   · subst e;have Cv:(L'.setSp i n sp).ns[i]?=some { n with sp:=sp }:=W2 (Vz.mp hi).1;rw [Cv] at hm;cases hm;exact ⟨fun kv zR=>(hd kv zR).mono I.ktd,I.spk,I.spn⟩
   · have e2:(L'.setSp i n sp).ns[j]?=L'.ns[j]?:=XB e;rw [e2] at hm;obtain ⟨h1,h2,h3⟩:=R.done j m (by omega) hm;exact ⟨fun kv zR=>((h1 kv zR).grow I.gr (fun _ _ z=>z)).mono I.ktd,h2.mono I.gr,h3⟩
 · have e2:(L'.setSp i n sp).ns[j]?=L'.ns[j]?:=XB (by omega);rw [e2];exact R.todo j (by omega)
theorem RunI.closed (R:RunI C Dp ins rows head ok H0 L B L.ns.length H L' B') (hr:∀ n∈L.ns,(n.ask.map (·.1)).Nodup) (hk:∀ n∈L.ns,n.t.kids.length<=100) (hl:L.ns.length<=50000):LvCl Dp ins rows head H L' B'.ns:=by
 have at':∀ n∈L'.ns,∃ j,j<L.ns.length/\L'.ns[j]?=some n:=fun n hn=>by
  obtain ⟨j,hj⟩:=V8.mp hn;have:=(Vz.mp hj).1;rw [R.up.len] at this;exact ⟨j,this,hj⟩
 refine ⟨fun n hn=>?_,fun n hn=>?_,fun n hn=>?_,fun n hn=>?_,fun n hn=>?_,by rw [R.up.len];exact hl⟩
 · obtain ⟨j,h1,h2⟩:=at' n hn;exact (R.done j n h1 h2).1
 · obtain ⟨j,h1,h2⟩:=at' n hn;exact (R.done j n h1 h2).2.1
 · obtain ⟨j,h1,h2⟩:=at' n hn;rcases R.up.ns j with ⟨h3,_⟩ | ⟨m,sp,h3,h4⟩
   · rw [h2] at h3;cases h3
   · rw [h2] at h4;cases h4;exact hr m (VD h3)
 · obtain ⟨j,h1,h2⟩:=at' n hn;exact (R.done j n h1 h2).2.2
 · obtain ⟨j,h1,h2⟩:=at' n hn;rcases R.up.ns j with ⟨h3,_⟩ | ⟨m,sp,h3,h4⟩
   · rw [h2] at h3;cases h3
   · rw [h2] at h4;cases h4;exact hk m (VD h3)
end
structure Chain (C:Vy) (Dp:DP) (ins:List (V2×Int)) (rows:List (List Th)) (head:Th) (H:Hp) (Ls:List Lv) (e:List Nd):Prop where
 sh:∀ L∈Ls,LvSh C H L
 cl:∀ (k:Nat) (L:Lv),Ls[k]?=some L->LvCl Dp ins rows head H L (nxt Ls (k+1) e)
end BB
namespace BB
open PySem L2
theorem sq {C x dx tl al kl:Vy} {H H1:Hp} (hx:H x=none) (ET:H dx=none) (Al:dx≠x) (sb:SameB x (upd (upd H dx (.own x)) x (.ins C dx [])) H1) (An:(upd (upd H dx (.own x)) x (.ins C dx [])) tl=none) (Ay:(upd (upd H dx (.own x)) x (.ins C dx [])) al=none) (Ae:(upd (upd H dx (.own x)) x (.ins C dx [])) kl=none) (n1:tl≠al) (n2:tl≠kl) (n3:al≠kl)
 (ex:H1 x=some (.ins C dx (lvF tl al kl))) (e1:H1 tl=some (.lst [])) (e2:H1 al=some (.lst [])) (e3:H1 kl=some (.lst [])):L2.Same H H1/\LvSh C H1 ⟨x,dx,tl,al,kl,[]⟩/\∀ b∈(Lv.mk x dx tl al kl []).own,H b=none:=by
 have no:∀ b,(upd (upd H dx (.own x)) x (.ins C dx [])) b=none->H b=none:=fun b h=>by
  by_cases z:b=x
  · rw [z];exact hx
  · rw [af z] at h;by_cases z2:b=dx
    · rw [z2];exact ET
    · rw [af z2] at h;exact h
 refine ⟨fun b o e=>sb b o (av e hx) (by rw [af (av e hx),af (av e ET)];exact e),⟨ex,e1,e2,e3,fun n hn=>(by cases hn),fun n hn=>(by cases hn),fun n hn=>(by cases hn),n1,n2,n3,YF,YF⟩,fun b hb=>?_⟩;have AU:b=x∨b=tl∨b=al∨b=kl:=by simpa [Lv.own,dcts] using hb
 rcases AU with rfl | rfl | rfl | rfl
 · exact hx
 · exact no _ An
 · exact no _ Ay
 · exact no _ Ae
def tX (t:Th) (Ls:List Lv):Prop:=∃ L0 n0,Ls[0]?=some L0/\L0.ns=[n0]/\n0.t=.knot XS [t]/\(aS n0.ask (Wa (-1))).isSome=true
structure ix (ins:List (V2×Int)) (rows:List (List Th)) (head:Th) (W:List Th):Prop where
 wk:∀ u∈W,∀ k∈u.kids,k∈W
 wl:W.length<=40000
 rl:rows.length<=100
 kids:∀ u:Th,u.Fit ins->u.kids.length<=100
 knot:∀ u:Th,u.Fit ins->∃ nm ks,u=.knot nm ks
 fit:∀ u:Th,u.Fit ins->∀ k∈u.kids,k.Fit ins
 step:∀ (u:Th) (s:Int) (p:Th),u.Fit ins->0<=s->jd ins rows head s u p->∀ c∈callsOf (p.pl []),∃ p' h,Step ins rows c.2.1 c.2.2 u.kids p' h
structure LoopI (C:Vy) (Dp:DP) (ins:List (V2×Int)) (rows:List (List Th)) (head:Th) (W:List Th) (t:Th) (H:Hp) (lv:Vy) (mz:Nat) (H4:Hp) (Ls:List Lv) (L:Lv):Prop where
 same:L2.Same H H4
 ls:H4 lv=some (.lst (Ls.map fun L=>V.ref L.x))
 ch:Chain C Dp ins rows head H4 Ls L.ns
 cur:LvSh C H4 L
 rd:∀ n∈L.ns,NdReady Dp ins rows head W H4 mz n
 dis:∀ M∈Ls,∀ b∈M.own,b∉L.own
 lvn:lv∉L.own/\∀ M∈Ls,lv∉M.own
 new:H lv=none/\(∀ b∈L.own,H b=none)/\∀ M∈Ls,∀ b∈M.own,H b=none
 top:tX t (Ls++[L])
 len:Ls.length+mz<=140
 cnt:L.ns.length<=50000
theorem GoodNd.ready {Dp:DP} {ins:List (V2×Int)} {rows:List (List Th)} {head:Th} {W:List Th} {H:Hp} {d:Nat} {m:Nd} (T:ix ins rows head W) (g:GoodNd Dp ins rows head (Okd W ins d) H m):NdReady Dp ins rows head W H d m:=by
 obtain ⟨nm,ks,hk⟩:=T.knot _ g.ok.fit;refine ⟨g.sp,g.nd,fun kv zR=>?_,⟨nm,ks,hk⟩,T.kids _ g.ok.fit,g.ok.tall⟩;obtain ⟨s,p,da,hE⟩:=g.ask kv zR
 have s0:0<=s:=by
  obtain ⟨s',h1,h2⟩:=g.pos kv zR;have:s=s':=Sum.inl.inj (hE.k.symm.trans h1);omega
 refine ⟨s,p,da,hE,fun c hc=>?_⟩;obtain ⟨p',h,st⟩:=T.step _ s p g.ok.fit s0 hE.pat c hc;have hm:h∈m.t.kids:=VD st.2.2.1;refine ⟨p',h,st,?_,T.wk _ g.ok.mem _ hm,T.fit _ g.ok.fit _ hm⟩;have h1:=cL hm;have h2:=Th.tall_eq m.t;have h3:=g.ok.tall;omega
theorem LoopI.step {C:Vy} {Dp:DP} {ins:List (V2×Int)} {rows:List (List Th)} {head:Th} {W:List Th} {t:Th} {H:Hp} {lv:Vy} {mz:Nat} {H4:Hp} {Ls:List Lv} {L:Lv} (I:LoopI C Dp ins rows head W t H lv mz H4 Ls L) (T:ix ins rows head W) (Al:L.ns≠[]) {H6 H7:Hp} {B L' B':Lv}
 (s6:L2.Same (upd H4 lv (.lst ((Ls.map fun L=>V.ref L.x)++[.ref L.x]))) H6) (Fq:∀ b∈B.own,(upd H4 lv (.lst ((Ls.map fun L=>V.ref L.x)++[.ref L.x]))) b=none)
 (R:RunI C Dp ins rows head (Okd W ins (mz - 1)) H6 L B L.ns.length H7 L' B'):mz - 1<mz/\LoopI C Dp ins rows head W t H lv (mz - 1) H7 (Ls++[L']) B':=by
 have UZ:1<=mz:=by
  cases hL:L.ns with
  | nil=>exact absurd hL Al
  | cons n ns =>
    have h1:=(I.rd n (by rw [hL];exact VI ..)).tall;have h2:=Th.tall_eq n.t;omega
 obtain ⟨l1,l2⟩:=I.lvn;obtain ⟨w1,w2,w3⟩:=I.new;generalize OW:upd H4 lv (.lst ((Ls.map fun L=>V.ref L.x)++[.ref L.x]))=H5 at s6 Fq;have e5:∀ b,b≠lv->H5 b=H4 b:=fun b hb=>by rw [<- OW,af hb]
 have Gn:H5 lv=some (.lst ((Ls.map fun L=>V.ref L.x)++[.ref L.x])):=by rw [<- OW,ad]
 have dL:∀ b∈dcts L.ns,b∈L.own:=fun b hb=>Vv _ (Vv _ (Vv _ (Vv _ hb)))
 -- GK is not of Bw level,and not Bw list,stays
 have keep:∀ b o,H4 b=some o->b≠lv->b∉L.own->H7 b=some o:=fun b o e hb hL=>by
  have Li:=(e5 b hb).trans e;refine R.fr b o (fun z=>?_) (s6 _ _ Li);rcases VV.mp z with z | z
  · exact hL (dL b z)
  · rw [Fq b z] at Li;cases Li
 have ktd:KTD H4 H7:=by
  have a:KTD H4 H5:=⟨fun b xs e=>(e5 b (aJ e I.ls (fun z=>nomatch z))).trans e,fun b xs e=>(e5 b (aJ e I.ls (fun z=>nomatch z))).trans e⟩;exact (a.trans (KTD.of s6)).trans R.ktd
 have HA:∀ b∈L.own,∃ o,H6 b=some o:=fun b hb=>by
  obtain ⟨o,e,_⟩:=cj I.cur hb;exact ⟨o,s6 _ _ ((e5 b (fun z=>l1 (z ▸ hb))).trans e)⟩
 have HB:∀ M∈Ls,∀ b∈M.own,∃ o,H6 b=some o/\H5 b=some o:=fun M hM b hb=>by
  obtain ⟨o,e,_⟩:=cj (I.ch.sh M hM) hb;have:=(e5 b (fun z=>l2 M hM (z ▸ hb))).trans e;exact ⟨o,s6 _ _ this,this⟩
 have hlen:(Ls++[L']).length=Ls.length+1:=by rw [VO];rfl
 refine ⟨by omega,fun b o e=>keep b o (I.same b o e) (av e w1) (fun z=>by rw [w2 b z] at e;cases e),?_,⟨fun M hM=>?_,fun k M hk=>?_⟩,R.bn,fun m hm=>(R.good m hm).ready T,fun M hM b hb hz=>?_,⟨fun hz=>?_,fun M hM=>?_⟩,⟨w1,fun b hb=>?_,fun M hM b hb=>?_⟩,?_,by rw [hlen];have:=I.len;omega,?_⟩
 · refine (R.fr _ _ (fun z=>?_) (s6 _ _ Gn)).trans ?_
   · rcases VV.mp z with z | z
     · exact l1 (dL _ z)
     · rw [Fq _ z] at Gn;cases Gn
   · rw [VN,Wf,Xj,R.up.x]
 · rcases VV.mp hM with hM | hM
   · exact (I.ch.sh M hM).keep ktd.tup fun b hb o e=>keep b o e (fun z=>l2 M hM (z ▸ hb)) (I.dis M hM b hb)
   · rw [VJ.mp hM];exact R.lv
 · by_cases Ae:k<Ls.length
   · rw [Xa Ae] at hk;have h0:=(I.ch.cl k M hk).mono ktd;unfold nxt at h0 ⊢;by_cases Ec:k+1<Ls.length
     · rw [Xa Ec];rw [Vw Ec] at h0 ⊢;exact h0
     · have e1:Ls[k+1]?=none:=W5 (by omega);rw [e1] at h0;rw [XZ (by omega),show k+1 - Ls.length=0 by omega];exact h0.grow R.up.grow
   · have Bl:=(Vz.mp hk).1;have e1:k=Ls.length:=by omega
     subst e1;rw [XZ (VG _),Nat.sub_self] at hk;have Gp:L'=M:=VZ hk;rw [<- Gp];unfold nxt;rw [W5 (by omega)];exact R.closed (fun n hn=>(I.rd n hn).nd) (fun n hn=>(I.rd n hn).kids) I.cnt
 · rcases VV.mp hM with hM | hM
   · obtain ⟨o,h6,h5⟩:=HB M hM b hb;rcases R.fresh b hz with z | z
     · rw [Fq b z] at h5;cases h5
     · rw [z] at h6;cases h6
   · rw [VJ.mp hM,R.up.own] at hb;obtain ⟨o,h6⟩:=HA b hb;rcases R.fresh b hz with z | z
     · have:=Fq b z;obtain ⟨o',e',_⟩:=cj I.cur hb;rw [e5 b (fun z=>l1 (z ▸ hb)),e'] at this;cases this
     · rw [z] at h6;cases h6
 · rcases R.fresh _ hz with z | z
   · rw [Fq _ z] at Gn;cases Gn
   · rw [s6 _ _ Gn] at z;cases z
 · rcases VV.mp hM with hM | hM
   · exact l2 M hM
   · rw [VJ.mp hM,R.up.own];exact l1
 · cases e:H b with
   | none=>rfl
   | some o =>
     have h5:=(e5 b (av e w1)).trans (I.same b o e);rcases R.fresh b hb with z | z
     · rw [Fq b z] at h5;cases h5
     · rw [s6 _ _ h5] at z;cases z
 · rcases VV.mp hM with hM | hM
   · exact w3 M hM b hb
   · rw [VJ.mp hM,R.up.own] at hb;exact w2 b hb
 · obtain ⟨L0,n0,h1,h2,h3,h4⟩:=I.top;cases Ls with
   | cons M Ms=>exact ⟨L0,n0,h1,h2,h3,h4⟩
   | nil =>
     have Gq:L=L0:=VZ h1;subst Gq;have hl:=R.up.len;rw [h2] at hl;rcases R.up.ns 0 with ⟨_,z⟩ | ⟨n,sp,z1,z2⟩
     · rw [h2] at z;cases z
     · rw [h2] at z1;have hn:n0=n:=VZ z1;subst hn;refine ⟨L',{ n0 with sp:=sp },rfl,?_,h3,h4⟩;cases CK:L'.ns with
       | nil=>rw [CK] at hl;cases hl
       | cons a as =>
         rw [CK] at z2 hl;have ha:a={ n0 with sp:=sp }:=VZ z2;cases as with
         | nil=>rw [ha]
         | cons b bs=>simp at hl
 · have h1:=cX (m:=W) R.bn.un fun u hu=>by
    obtain ⟨m',Cv,rfl⟩:=V4.mp hu;exact (R.good m' Cv).ok.mem
   have h2:=T.wl;rw [Vt] at h1;omega
end BB
namespace BB
open PySem L2
theorem qe {js:List (Option Nat)} {g:TG} {te:TE} {tl:TE} {σ:St} {H:Hp} {aa:Vy} {ask:List (Key×V)} {VW:Key×V->Int->Prop} {Q:VK}
 (An:∀ R:VK,R (.ref aa) H->tl σ H R) (ha:H aa=some (.dK ask)) (hlen:ask.length<=10000)
 (hs:∀ (i:Nat) (kv:Key×V) (p:Vy) (H2:Hp) (R:VK),ask[i]?=some kv->SameB aa H H2->H2 p=some (.tup [kV kv.1,kv.2])->(∀ (v:Int) (pr:Vy) (H3:Hp),L2.Same H2 H3->H3 pr=some (.tup [kV kv.1,.int v])->VW kv v->R (.ref pr) H3)->g (.ref p) (cσ js σ) H2 fun zU H3=>te zU H3 R)
 (hq:∀ (D:Vy) (ps:List Vy) (prs:List (Key×V)) (H2:Hp),L2.Same H H2->H2 D=some (.lst (ps.map V.ref))->WD (PrK H2) prs ps->prs.map (·.1)=ask.map (·.1)->(∀ pr∈prs,∃ v,pr.2=.int v/\∃ kv∈ask,kv.1=pr.1/\VW kv v)->Q (.ref D) H2) :
 kS (rJ js (uW tl) g aQ te) σ H Q:=by
 refine An _ ⟨aa,ask,rfl,ha,fun o D hD=>?_⟩;have CT:D≠aa:=fun z=>by rw [z,ad] at hD;cases hD
 have Hs:H D=none:=by rw [af CT] at hD;exact hD
 refine ⟨ask.length,fun j H2=>j<=ask.length/\SameB aa H H2/\H2 aa=some (.frz o (.dK ask))/\∃ (ps:List Vy) (prs:List (Key×V)),H2 D=some (.lst (ps.map V.ref))/\WD (PrK H2) prs ps/\prs.map (·.1)=(ask.take j).map (·.1)/\∀ pr∈prs,∃ v,pr.2=.int v/\∃ kv∈ask,kv.1=pr.1/\VW kv v,⟨Wc _,fun b u hb e=>by rw [af (av e Hs),af hb];exact e,by rw [af CT.symm,ad],[],[],ad,.nil,rfl,fun pr h=>by cases h⟩,?_⟩;rintro j H2 ⟨hj,sb,ed,ps,prs,eD,hp,hk,hv⟩;by_cases Ea:j=ask.length
 · left;refine ⟨⟨ed,by omega⟩,upd H2 aa (.dK ask),fun b=>?_,?_⟩
   · by_cases hb:b=aa
     · rw [hb];exact .inr ⟨o,_,ed,ha,ad⟩
     · exact .inl (af hb)
   · rw [Ea,W8] at hk;refine hq D ps prs _ (fun b u e=>?_) (by rw [af CT];exact eD) (P2.mp (fun pr pa e=>?_) hp) hk hv
     · by_cases hb:b=aa
       · rw [hb,ha] at e;rw [hb,ad];exact e
       · rw [af hb];exact sb b u hb e
     · have e':H2 pa=some (.tup [kV pr.1,pr.2]):=e;show upd H2 aa _ pa=_;rw [af (aJ e' ed (fun z=>nomatch z))];exact e'
 · right;refine ⟨by omega,⟨ed,by omega⟩,?_⟩;rintro x H3 ⟨p,kv,Lj,rfl,rfl,zR⟩;have OS:aa≠p:=fun z=>by rw [<- z,ed] at Lj;cases Lj
   have s3:L2.Same H2 (upd H2 p (.tup [kV kv.1,kv.2])):=ag Lj _;have Bj:=VU hp;have Ae:=congrArg Y5 hk;rw [Vt,Vt,Wi] at Ae;refine hs j kv p _ _ zR (fun c u hc ec=>s3 _ _ (sb c u hc ec)) ad fun v pr H4 s4 Fs RS=>?_;have C8:=s3.trans s4;have HC:=C8 _ _ eD;refine ⟨_,HC,aI (by rw [Vt];omega),by omega,fun c u hc ec=>?_,?_,ps++[pr],prs++[(kv.1,.int v)],?_,?_,?_,?_⟩
   · rw [af (av ec Hs)];exact C8 _ _ (sb c u hc ec)
   · rw [af CT.symm];exact C8 _ _ ed
   · rw [ad,VN];rfl
   · refine P2.append (P2.mp (fun JI pa e=>?_) hp) (.cons ?_ .nil)
     · have e':H2 pa=some (.tup [kV JI.1,JI.2]):=e;show upd H4 D _ pa=_;rw [af (aJ e' eD (fun z=>nomatch z))];exact C8 _ _ e'
     · show upd H4 D _ pr=_;rw [af (aJ Fs HC (fun z=>nomatch z))];exact Fs
   · rw [WY,zR,VN,VN,hk];rfl
   · intro JI Lk;rcases VV.mp Lk with h | h
     · exact hv JI h
     · rw [VJ.mp h];exact ⟨v,rfl,kv,VD zR,rfl,RS⟩
end BB
namespace BB
open PySem L2
theorem o3 {ins:List (V2×Int)} {rows:List (List Th)} {head:Th} (g:bu ins) {s:Int} {u p p':Th} (h:jd ins rows head s u p) (h':jd ins rows head s u p'):p=p':=by
 rcases h with ⟨h1,h2,_⟩ | ⟨h0,m,hs,c,j,row,h1,h2,h3,h4⟩
 · rcases h' with ⟨_,k2,_⟩ | ⟨k0,_⟩
   · rw [h2,k2]
   · omega
 · rcases h' with ⟨k1,_⟩ | ⟨_,m',Ll,c',j',Dy,k1,k2,k3,k4⟩
   · omega
   · rw [h1] at k1;cases k1;have:=g.nd _ _ _ _ h2 k2 rfl;subst this;rw [h3] at k3;cases k3;rw [h4] at k4;cases k4;rfl
def VRs (ins:List (V2×Int)) (rows:List (List Th)) (head:Th) (s:Int) (u:Th) (v:Int):Prop:=∀ p o,jd ins rows head s u p->Out ins rows p u o->v=(o.size:Nat)
def VRt (ins:List (V2×Int)) (rows:List (List Th)) (head:Th) (s:Int) (u:Th) (v:Int):Prop:=∀ p o,jd ins rows head s u p->Out ins rows p u o->v=(o.tall:Nat)
def Wvs (p:Th) (f:Int->Int->Int) (v:Int):Prop:=v=(p.kn:Nat)+smC f (callsOf (p.pl []))
def Wvt (p:Th) (f:Int->Int->Int) (v:Int):Prop:=MxC f 0 (callsOf (p.pl [])) (p.tall:Nat) v
theorem MxC.det {f:Int->Int->Int} {d:Int} {cs:List (List Int×Int×Int)} {own a b:Int} (h:MxC f d cs own a) (k:MxC f d cs own b):a=b:=by
 have one:∀ {a b:Int},MxC f d cs own a->MxC f d cs own b->a<=b:=fun h k=>by
  rcases h.some with e | ⟨c,hc,e⟩
  · rw [e];exact k.lo
  · rw [e];exact k.all c hc
 exact Int.le_antisymm (one h k) (one k h)
theorem qg {ins:List (V2×Int)} {rows:List (List Th)} {head:Th} {u:Th} {s c:Int} {oc:Th} (hu:∃ n ks,u=.knot n ks) (ho:Out ins rows (.call s c) u oc):∃ p' h,jd ins rows head s h p'/\u.kids[c.toNat]?=some h/\Out ins rows p' h oc:=by
 obtain ⟨n,ks,rfl⟩:=hu;obtain ⟨p',h,st,CH⟩:=ho.unstep;exact ⟨p',h,st.pat,st.2.2.1,CH⟩
theorem nz {ins:List (V2×Int)} {rows:List (List Th)} {head:Th} {s:Int} {u p:Th} (h:jd ins rows head s u p):∃ n ks,u=.knot n ks:=by
 rcases h with ⟨_,_,t,h⟩ | ⟨_,m,hs,_,_,_,h,_⟩
 · exact ⟨_,_,h⟩
 · exact ⟨_,_,h⟩
theorem xb {ins:List (V2×Int)} {rows:List (List Th)} {head:Th} (g:bu ins) (s:Int) (u p:Th) (f:Int->Int->Int) (v:Int) (hp:jd ins rows head s u p) (hc:∀ c∈callsOf (p.pl []),∀ h,u.kids[c.2.2.toNat]?=some h->VRs ins rows head c.2.1 h (f c.2.1 c.2.2)) (hw:Wvs p f v):VRs ins rows head s u v:=fun p' o B6 ho=>by
 rw [<- o3 g hp B6] at ho;rw [qh u p [] o ho fun c Ft oc F8=>?_]
 · exact hw
 · obtain ⟨p2,h,h1,h2,h3⟩:=qg (head:=head) (nz hp) F8;exact hc c Ft h h2 p2 oc h1 h3
theorem wY {ins:List (V2×Int)} {rows:List (List Th)} {head:Th} (g:bu ins) (s:Int) (u p:Th) (f:Int->Int->Int) (v:Int) (hp:jd ins rows head s u p) (hc:∀ c∈callsOf (p.pl []),∀ h,u.kids[c.2.2.toNat]?=some h->VRt ins rows head c.2.1 h (f c.2.1 c.2.2)) (hw:Wvt p f v):VRt ins rows head s u v:=fun p' o B6 ho=>by
 rw [<- o3 g hp B6] at ho;refine MxC.det hw (o9 u p [] o ho fun c Ft oc F8=>?_);obtain ⟨p2,h,h1,h2,h3⟩:=qg (head:=head) (nz hp) F8;exact hc c Ft h h2 p2 oc h1 h3
theorem pK {p:Th} {es:CE} (h:CallsE (callsOf (p.pl [])) es):mU p (dE es):=by
 refine ⟨fun kv zR=>?_,fun c hc=>?_⟩
 · obtain ⟨e,he,rfl⟩:=V4.mp zR;obtain ⟨c,hc,e2⟩:=h.of e he;exact ⟨c,hc,by rw [e2]⟩
 · obtain ⟨e,he,e2⟩:=h.to c hc;exact ⟨_,V4.mpr ⟨e,he,rfl⟩,by rw [e2]⟩
theorem CallsE.len {cs:List (List Int×Int×Int)} {es:CE} (h:CallsE cs es):es.length<=cs.length:=by
 have:=cX (m:=cs.map (·.2)) h.nd fun k hk=>by
  obtain ⟨e,he,rfl⟩:=V4.mp hk;obtain ⟨c,hc,e2⟩:=h.of e he;exact V4.mpr ⟨c,hc,e2⟩
 rw [Vt,Vt] at this;exact this
theorem tG {p:Th} {es:CE} {f:Int->Int->Int} {M:Int} (h:DepthE (callsOf (p.pl [])) es) (hm:M∈((p.tall:Nat):Int)::es.map (fun e=>e.2+f e.1.1 e.1.2)) (ha:∀ a∈((p.tall:Nat):Int)::es.map (fun e=>e.2+f e.1.1 e.1.2),a<=M):Wvt p f M:=by
 refine ⟨ha _ (VI ..),fun c hc=>?_,?_⟩
 · obtain ⟨e,he,e2⟩:=h.to c hc;have h1:=h.big c hc e he e2;have h2:=ha _ (Vv _ (V4.mpr ⟨e,he,rfl⟩));rw [e2] at h2;omega
 · rcases VP.mp hm with e | hm
   · exact .inl e
   · obtain ⟨e,he,rfl⟩:=V4.mp hm;obtain ⟨c,hc,e1,e2⟩:=h.at e he;refine .inr ⟨c,hc,?_⟩;rw [e1];omega
mutual
theorem nw:∀ (t u k:Th),u∈t.walk->k∈u.kids->k∈t.walk
 | .knot n ks,u,k,hu,hk=>by
   rw [Th.walk] at hu ⊢;rcases VP.mp hu with rfl | hu
   · exact Vv _ (mH ks k hk)
   · exact Vv _ (lS ks u k hu hk)
 | .call s c,u,k,hu,hk=>by
   rw [Th.walk] at hu;rw [VJ.mp hu] at hk;cases hk
theorem lS:∀ (ts:List Th) (u k:Th),u∈walks ts->k∈u.kids->k∈walks ts
 | [],u,k,hu,hk=>by rw [walks] at hu;cases hu
 | t::ts,u,k,hu,hk=>by
   rw [walks] at hu ⊢;rcases VV.mp hu with hu | hu
   · exact V9 _ (nw t u k hu hk)
   · exact V5 _ (lS ts u k hu hk)
theorem mH:∀ (ts:List Th) (k:Th),k∈ts->k∈walks ts
 | [],k,hk=>by cases hk
 | t::ts,k,hk=>by
   rw [walks];rcases VP.mp hk with rfl | hk
   · exact V9 _ (by rw [Th.walk_eq];exact VI ..)
   · exact V5 _ (mH ts k hk)
end
mutual
theorem jf {ks:List (V2×Int)} {S C:Int}:∀ (t:Th) (pre:List Int),t.FitS ks S C->∀ c∈callsOf (t.pl pre),0<=c.2.1/\c.2.1<S/\0<=c.2.2/\c.2.2<C
 | .call s k,pre,h,c,hc=>by
   rw [ef] at hc;rw [VJ.mp hc];rw [Th.FitS] at h;exact h
 | .knot n ts,pre,h,c,hc=>by
   rw [eO] at hc;rw [Th.FitS] at h;exact kG ts pre 0 h.2 c hc
theorem kG {ks:List (V2×Int)} {S C:Int}:∀ (ts:List Th) (pre:List Int) (i:Int),cT ks S C ts->∀ c∈callsOf (pls pre i ts),0<=c.2.1/\c.2.1<S/\0<=c.2.2/\c.2.2<C
 | [],pre,i,_,c,hc=>by rw [pls] at hc;cases hc
 | t::ts,pre,i,h,c,hc=>by
   rw [eJ] at hc;rw [cT] at h;rcases VV.mp hc with hc | hc
   · exact jf t _ h.1 c hc
   · exact kG ts _ _ h.2 c hc
end
theorem mG {ins outs:List (V2×Int)} {S:Int} {d:Nat} {head:Th} {rows:List (List Th)} (ok:oy ins outs S d head rows) {s k:Int} {ks:List Th} (s0:0<=s) (s1:s<S) (k0:0<=k) (k1:k<(ks.length:Int)) (hf:∀ h∈ks,h.Fit ins):∃ p' h,Step ins rows s k ks p' h:=by
 have hk:k.toNat<ks.length:=by omega
 obtain ⟨h,hh⟩:∃ h,ks[k.toNat]?=some h:=⟨_,Vw hk⟩;have hl:=ok.len;obtain ⟨row,Aq⟩:∃ row,rows[s.toNat]?=some row:=⟨_,Vw (by omega)⟩;have JJ:=hf h (VD hh);cases h with
 | call a b=>rw [Th.Fit] at JJ;exact JJ.elim
 | knot m hs =>
   rw [Th.Fit] at JJ;obtain ⟨j,hj⟩:=V8.mp JJ.1;have Gr:=(ok.row row (VD Aq)).len;have CO:=(Vz.mp hj).1;obtain ⟨p',B6⟩:∃ p',row[j]?=some p':=⟨_,Vw (by omega)⟩;exact ⟨p',_,s0,k0,hh,m,hs,_,j,row,rfl,hj,Aq,B6⟩
theorem rE {ins outs:List (V2×Int)} {S:Int} {d:Nat} {Bd head:Th} {rows:List (List Th)} (gi:bu ins) (ok:oy ins outs S d Bd rows) (hS:S<=100) {t:Th} (hz:t.size<=40000):ix ins rows head t.walk:=by
 have JK:∀ u:Th,u.Fit ins->∀ k∈u.kids,k.Fit ins:=fun u hu k hk=>by
  cases u with
  | call a b=>rw [Th.Fit] at hu;exact hu.elim
  | knot m hs=>rw [Th.Fit] at hu;exact hV hu.2 k hk
 refine ⟨fun u hu k hk=>nw t u k hu hk,by rw [Th.walk_len];exact hz,by have:=ok.len;omega,fun u hu=>?_,fun u hu=>?_,JK,fun u s p hu s0 hp c hc=>?_⟩
 · cases u with
   | call a b=>rw [Th.Fit] at hu;exact hu.elim
   | knot m hs =>
     rw [Th.Fit] at hu;have:=(gi.num _ hu.1).2;simp only at this;show hs.length<=100;omega
 · cases u with
   | call a b=>rw [Th.Fit] at hu;exact hu.elim
   | knot m hs=>exact ⟨m,hs,rfl⟩
 · rcases hp with ⟨h1,_⟩ | ⟨_,m,hs,cc,j,row,rfl,hj,Aq,RT⟩
   · omega
   · have Cb:=hu;rw [Th.Fit] at Cb;obtain ⟨j',Bt⟩:=V8.mp Cb.1;have RU:=gi.nd _ _ _ _ hj Bt rfl;subst RU;rw [hj] at Bt;have ED:cc=(hs.length:Int):=congrArg Prod.snd (VZ Bt);obtain ⟨RV,_⟩:=(ok.row row (VD Aq)).fit j p _ RT hj;obtain ⟨a1,a2,a3,a4⟩:=jf p [] RV c hc;simp only at a4;exact mG ok a1 a2 a3 (by show c.2.2<((hs.length:Nat):Int);rw [<- ED];exact a4) (JK _ hu)
end BB
namespace BB
open PySem L2
theorem rs {ins:List (V2×Int)} {rows:List (List Th)} {k:Th}:∀ {ps os:List Th},ps.length=os.length->(∀ (i:Nat) (p o:Th),ps[i]?=some p->os[i]?=some o->Out ins rows p k o)->Outs ins rows ps k os
 | [],[],_,_=>.nil k
 | [],o::os,h,_=>by simp at h
 | p::ps,[],h,_=>by simp at h
 | p::ps,o::os,h,g=>.cons (g 0 p o rfl rfl) (rs (by simpa using h) fun i a b ha hb=>g (i+1) a b (by simpa using ha) (by simpa using hb))
theorem uR {ks:List (V2×Int)}:∀ (n:Nat) (t:Th),t.size<=n->t.Fit ks->∀ (nm:V2) (hs:List Th) (i:Nat),hs[i]?=some t->Out ks [bS ks] (.call 0 (i:Int)) (.knot nm hs) t
 | 0,t,hn,_,_,_,_,_=>by have:=t.size_pos;omega
 | n+1,.call s c,_,hf,_,_,_,_=>by rw [Th.Fit] at hf;exact hf.elim
 | n+1,.knot m ts,hn,hf,nm,hs,i,hi=>by
   rw [Th.Fit] at hf;rw [Th.size] at hn;obtain ⟨j,hj⟩:=V8.mp hf.1;refine Out.step (p:=.knot m (bV (ts.length:Int))) (h:=.knot m ts) ⟨Int.le_refl _,by omega,by rw [WL];exact hi,m,ts,_,j,bS ks,rfl,hj,rfl,cJ hj⟩ (.mk (.stop _ _ _) (rs (by rw [b7];omega) fun x p o hp ho=>?_));have hx:x<ts.length:=(Vz.mp ho).1;have h1:=gW (m:=(ts.length:Int)) (c:=(x:Int)) (by omega) (by omega);rw [WL,hp] at h1;cases h1;have OX:=VD ho;have hsz:=w9 OX;exact uR n o (by omega) (hV hf.2 o OX) m ts x ho
theorem sW {ks:List (V2×Int)} (g:bu ks):oy ks ks 1 1 (.call 0 0) [bS ks]:=by
 refine ⟨rfl,fun row hr=>?_,oW (by decide) (by decide),by rw [Th.tall];decide⟩;obtain ⟨h1,h2⟩:=(rT g).row row hr;refine ⟨h1,fun j t k ht hk=>⟨h2 j t k ht hk,?_⟩⟩;rw [VJ.mp hr,cJ hk] at ht;cases ht;rw [Th.tall]
 have:aC (bV k.2)<=1:=mL fun u hu=>by
  unfold bV at hu;obtain ⟨i,_,rfl⟩:=V4.mp hu;rw [Th.tall];exact VG _
 omega
end BB
namespace LAW
open PySem L2 BB
def top (i:Nat):WZ:=PySem.Challenge.pw_boughbook_k37_the_same_book.main.body.getD i (.Pass ⟨0,0,0,0⟩)
theorem scm {N P:List V2} {sc:Zf} (a:sc.kind=.function:=by rfl) (b:sc.isCoroutine=false:=by rfl) (c:sc.isGenerator=false:=by rfl) (d:N.Nodup:=by decide +kernel) (e:N.take P.length=P:=by rfl) (f:∀ x∈P,sc.names.lookup x=some .local∨sc.names.lookup x=some .cell:=by decide +kernel) (g:∀ y∈sc.names,y.2≠.free:=by decide +kernel):ax N P sc:=⟨a,b,c,d,e,f,g⟩
abbrev fB:WZ:=top 10
theorem oK:ax ["thing"] ["thing"] (ao fB):=scm
abbrev gZ:WZ:=top 11
theorem oU:ax ["number","bound"] ["number","bound"] (ao gZ):=scm
abbrev jb:WZ:=top 12
theorem ri:ax ["thing"] ["thing"] (ao jb):=scm
abbrev iX:WZ:=top 13
theorem qE:ax ["pair"] ["pair"] (ao iX):=scm
abbrev fK:WZ:=top 14
theorem ii:ax ["kinds","names"] ["kinds"] (ao fK):=scm
abbrev gJ:WZ:=top 15
theorem jK:ax ["pairs","kinds"] ["pairs"] (ao gJ):=scm
abbrev jt:WZ:=top 16
theorem gL:ax ["kinds","name","kind","many"] ["kinds","name"] (ao jt):=scm
abbrev jn:WZ:=top 17
theorem qw:ax ["thing"] ["thing"] (ao jn):=scm
abbrev lA:WZ:=top 18
theorem f8:ax ["thing","met","ahead","part"] ["thing"] (ao lA):=scm
abbrev lw:WZ:=top 19
theorem cY:ax ["thing","met","ahead","place","part","kids"] ["thing"] (ao lw):=scm
abbrev oR:WZ:=top 20
theorem iA:ax ["tops","done","top","many"] ["tops"] (ao oR):=scm
abbrev qz:WZ:=top 21
theorem eI:ax ["tree","level","rows","beneath","part"] ["tree"] (ao qz):=scm
abbrev jx:WZ:=top 24
theorem qD:ax ["thing"] ["thing"] (ao jx):=scm
abbrev ji:WZ:=top 25
theorem qJ:ax ["thing"] ["thing"] (ao ji):=scm
abbrev iZ:WZ:=top 26
theorem rg:ax ["thing"] ["thing"] (ao iZ):=scm
abbrev fU:WZ:=top 27
theorem oz:ax ["call"] ["call"] (ao fU):=scm
abbrev di:WZ:=top 28
theorem ff:ax ["kinds","pattern","states","kids","part"] ["kinds","pattern","states","kids"] (ao di):=scm
abbrev gU:WZ:=top 29
theorem pO:ax ["pattern"] ["pattern"] (ao gU):=scm
abbrev jh:WZ:=top 30
theorem qV:ax ["pattern"] ["pattern"] (ao jh):=scm
abbrev gR:WZ:=top 31
theorem o0:ax ["pattern"] ["pattern"] (ao gR):=scm
abbrev bL:WZ:=inClass (top 37) 0
theorem j5:ax ["self"] ["self"] (ao bL):=scm
abbrev bH:WZ:=inClass (top 37) 1
theorem i9:ax ["self","part","row"] ["self","part","row"] (ao bH):=scm
abbrev gK:WZ:=top 38
theorem cO:ax ["pattern","measure","ahead","part","row"] ["pattern"] (ao gK):=scm
abbrev cP:WZ:=top 39
theorem jm:ax ["outs","pattern","states","kids"] ["outs","pattern","states","kids"] (ao cP):=scm
abbrev dQ:WZ:=top 40
theorem de:ax ["ins","outs","patterns","states","kind","pattern"] ["ins","outs","patterns","states"] (ao dQ):=scm
abbrev ft:WZ:=top 41
theorem cB:ax ["ins","outs","head","rules","taken","given","rows","patterns"] ["ins","outs","head","rules"] (ao ft):=scm
abbrev lI:WZ:=top 42
theorem sX:ax ["book"] ["book"] (ao lI):=scm
abbrev jg:WZ:=top 43
theorem qK:ax ["book"] ["book"] (ao jg):=scm
abbrev gM:WZ:=top 44
theorem p6:ax ["book"] ["book"] (ao gM):=scm
abbrev eP:WZ:=top 45
theorem gD:ax ["book","state","name","names"] ["book","state","name"] (ao eP):=scm
abbrev ox:WZ:=top 50
theorem uM:ax ["tree"] ["tree"] (ao ox):=scm
abbrev jq:WZ:=top 51
theorem qW:ax ["state"] ["state"] (ao jq):=scm
abbrev kE:WZ:=top 52
theorem f7:ax ["book","call","knot","state","kid","handed"] ["book","call","knot"] (ao kE):=scm
abbrev gI:WZ:=top 53
theorem fO:ax ["book","part","knot"] ["book","part","knot"] (ao gI):=scm
abbrev t9:WZ:=top 54
theorem fM:ax ["book","head","tree","tops","ahead","part","knot","row"] ["book","head","tree"] (ao t9):=scm
abbrev kU:WZ:=top 55
theorem sv:ax ["book","tree"] ["book","tree"] (ao kU):=scm
abbrev fX:WZ:=top 57
theorem nU:ax ["name","many"] ["name","many"] (ao fX):=scm
abbrev fZ:WZ:=top 58
theorem oJ:ax ["kinds"] ["kinds"] (ao fZ):=scm
abbrev b9:WZ:=inClass (top 60) 0
theorem mr:ax ["self"] ["self"] (ao b9):=scm
abbrev bG:WZ:=inClass (top 60) 1
theorem jl:ax ["self","tree"] ["self","tree"] (ao bG):=scm
abbrev eh:WZ:=top 61
theorem bU:ax ["book","digest","told","state","patterns","kind","pattern"] ["book","digest"] (ao eh):=scm
abbrev jz:WZ:=top 62
theorem bZ:ax ["digests","level","number","beneath","tree","spots","own","calls","state","kid","part"] ["digests","level","number","beneath"] (ao jz):=scm
abbrev fm:WZ:=top 63
theorem bR:ax ["digests","head","tree","level","top","levels","beneath","number"] ["digests","head","tree"] (ao fm):=scm
abbrev eG:WZ:=top 64
theorem bT:ax ["spots","beneath","told","kid","spot","state","value"] ["spots","beneath"] (ao eG):=scm
abbrev lY:WZ:=top 65
theorem cz:ax ["book","head","tree","digest","worth","beneath","level","told","asked","spots","kids"] ["book","head","tree","digest","worth"] (ao lY):=scm
abbrev gQ:WZ:=top 67
theorem dJ:ax ["pattern","times","place","call"] ["pattern"] (ao gQ):=scm
abbrev dO:WZ:=top 68
theorem dz:ax ["pair","counts","own","times"] ["pair","counts"] (ao dO):=scm
abbrev fF:WZ:=top 69
theorem cV:ax ["pattern","depths","place","call"] ["pattern"] (ao fF):=scm
abbrev dj:WZ:=top 70
theorem cS:ax ["pair","heights","own","depths"] ["pair","heights"] (ao dj):=scm
abbrev gP:WZ:=top 71
theorem p8:ax ["book","tree"] ["book","tree"] (ao gP):=scm
abbrev fA:WZ:=top 72
theorem n6:ax ["book","tree"] ["book","tree"] (ao fA):=scm
abbrev fH:WZ:=top 74
theorem nY:ax ["script","k"] ["script","k"] (ao fH):=scm
abbrev fV:WZ:=top 75
theorem eZ:ax ["cell","k","near"] ["cell","k"] (ao fV):=scm
abbrev eS:WZ:=top 76
theorem aH:ax ["cell","letters","rest","size","more","stem","at","leaf","turn","begun","kinds","k","many","pick","name"] ["cell","letters"] (ao eS):=scm
abbrev fJ:WZ:=top 77
theorem ir:ax ["kinds","cell","leaves"] ["kinds","cell"] (ao fJ):=scm
abbrev fD:WZ:=top 78
theorem iP:ax ["kind","kids","high"] ["kind","kids"] (ao fD):=scm
abbrev fI:WZ:=top 79
theorem aZ:ax ["cells","ins","leaf","wide","row","cell","rest","kind","made"] ["cells","ins"] (ao fI):=scm
abbrev fq:WZ:=top 80
theorem iB:ax ["tree","sizes"] ["tree"] (ao fq):=scm
abbrev iz:WZ:=top 81
theorem gH:ax ["script","kinds","tree","row","kind","calls","found"] ["script"] (ao iz):=scm
structure FX (K:VB) (mg:V2->Option VC) (n:V2) (s:WZ) (ps:List V2) where
 f:Vy
 d:XQ
 F:Fun K n n s f d
 b:Binds K d ps []
 m:mg n=some (.ref f)
section
open PySem.W
variable {K:Frag} {mg:V2->Option VC} {h:WR} {n:V2} {st:WZ} {f:Vy} {oc kV dc pm cd ct:VC} {od an:Option Vy} {sl:Array (Option VC)} (X:K.In h) (G:h.Ns V6 mg)
noncomputable def fx1 {p0:V2} (a:nsIn K V6 n=some (some (.ref f)):=by k_is) (l:K.lookup f=some ⟨oc,od,.func (fnOf n n (br st) (bj st) (ao st) .none kV dc pm an cd ct),sl⟩:=by k_is) (c:codeIn K cd n=true:=by k_is) (k:keepIn K (.ref f)=true:=by k_is) (hb:∀ (kV dc pm:VC) (an:Option Vy) (cd ct u0:VC),bindArgs (fnOf n n (br st) (bj st) (ao st) .none kV dc pm an cd ct) ⟨[u0],[]⟩=pure [(p0,u0)]:=by intros;rfl):FX K mg n st [p0] :=
 ⟨f,_,cu l c k,(cu l c k).binds fun a b c d e f us hl=>by obtain ⟨u0,rfl⟩:=us1 hl;exact hb a b c d e f u0,mg_of X G a⟩
noncomputable def fx2 {p0 p1:V2} (a:nsIn K V6 n=some (some (.ref f)):=by k_is) (l:K.lookup f=some ⟨oc,od,.func (fnOf n n (br st) (bj st) (ao st) .none kV dc pm an cd ct),sl⟩:=by k_is) (c:codeIn K cd n=true:=by k_is) (k:keepIn K (.ref f)=true:=by k_is) (hb:∀ (kV dc pm:VC) (an:Option Vy) (cd ct u0 u1:VC),bindArgs (fnOf n n (br st) (bj st) (ao st) .none kV dc pm an cd ct) ⟨[u0,u1],[]⟩=pure [(p0,u0),(p1,u1)]:=by intros;rfl):FX K mg n st [p0,p1] :=
 ⟨f,_,cu l c k,(cu l c k).binds fun a b c d e f us hl=>by obtain ⟨u0,u1,rfl⟩:=us2 hl;exact hb a b c d e f u0 u1,mg_of X G a⟩
noncomputable def fx3 {p0 p1 p2:V2} (a:nsIn K V6 n=some (some (.ref f)):=by k_is) (l:K.lookup f=some ⟨oc,od,.func (fnOf n n (br st) (bj st) (ao st) .none kV dc pm an cd ct),sl⟩:=by k_is) (c:codeIn K cd n=true:=by k_is) (k:keepIn K (.ref f)=true:=by k_is) (hb:∀ (kV dc pm:VC) (an:Option Vy) (cd ct u0 u1 u2:VC),bindArgs (fnOf n n (br st) (bj st) (ao st) .none kV dc pm an cd ct) ⟨[u0,u1,u2],[]⟩=pure [(p0,u0),(p1,u1),(p2,u2)]:=by intros;rfl):FX K mg n st [p0,p1,p2] :=
 ⟨f,_,cu l c k,(cu l c k).binds fun a b c d e f us hl=>by obtain ⟨u0,u1,u2,rfl⟩:=us3 hl;exact hb a b c d e f u0 u1 u2,mg_of X G a⟩
noncomputable def fx4 {p0 p1 p2 p3:V2} (a:nsIn K V6 n=some (some (.ref f)):=by k_is) (l:K.lookup f=some ⟨oc,od,.func (fnOf n n (br st) (bj st) (ao st) .none kV dc pm an cd ct),sl⟩:=by k_is) (c:codeIn K cd n=true:=by k_is) (k:keepIn K (.ref f)=true:=by k_is) (hb:∀ (kV dc pm:VC) (an:Option Vy) (cd ct u0 u1 u2 u3:VC),bindArgs (fnOf n n (br st) (bj st) (ao st) .none kV dc pm an cd ct) ⟨[u0,u1,u2,u3],[]⟩=pure [(p0,u0),(p1,u1),(p2,u2),(p3,u3)]:=by intros;rfl):FX K mg n st [p0,p1,p2,p3] :=
 ⟨f,_,cu l c k,(cu l c k).binds fun a b c d e f us hl=>by obtain ⟨u0,u1,u2,u3,rfl⟩:=us4 hl;exact hb a b c d e f u0 u1 u2 u3,mg_of X G a⟩
noncomputable def fx5 {p0 p1 p2 p3 p4:V2} (a:nsIn K V6 n=some (some (.ref f)):=by k_is) (l:K.lookup f=some ⟨oc,od,.func (fnOf n n (br st) (bj st) (ao st) .none kV dc pm an cd ct),sl⟩:=by k_is) (c:codeIn K cd n=true:=by k_is) (k:keepIn K (.ref f)=true:=by k_is) (hb:∀ (kV dc pm:VC) (an:Option Vy) (cd ct u0 u1 u2 u3 u4:VC),bindArgs (fnOf n n (br st) (bj st) (ao st) .none kV dc pm an cd ct) ⟨[u0,u1,u2,u3,u4],[]⟩=pure [(p0,u0),(p1,u1),(p2,u2),(p3,u3),(p4,u4)]:=by intros;rfl):FX K mg n st [p0,p1,p2,p3,p4] :=
 ⟨f,_,cu l c k,(cu l c k).binds fun a b c d e f us hl=>by obtain ⟨u0,u1,u2,u3,u4,rfl⟩:=us5 hl;exact hb a b c d e f u0 u1 u2 u3 u4,mg_of X G a⟩
end
theorem pcF {X:Cx} {kk k:Nat} {sp:Sp} {n:V2} {st:WZ} {ps:List V2} {e:WC} {es:List WC} {t:TA} {p pos:Zm} (g:FX X.K X.mg n st ps) (F:aP X.prog X.w X.K X.mg X.base CX0 k g.f g.d ps sp) (hr:Room kk X.A) (ha:PA X (e::es) t) (hle:k<=kk:=by first | decide | omega) (hg:Gl X n:=by rfl) (De:(n == ("__debug__":V2))=false:=by decide) (he:Wr (e::es) X.env=(false,Xx e X.env)::Wr es X.env:=by rfl) (Bj:(YJ pos (Wr es X.env)).any (·.1)=false:=by rfl):PE X (.Call (.Name n p) (e::es) [] pos) (jU sp [] E0 t) :=
 rR F (hr.mono hle) hg g.m g.F.kp g.b .nil fQ ha De he Bj
structure TX (K:VB) (mg:V2->Option VC) where
 c_CALL_SIGN:∃ tk,mg "CALL_SIGN"=some (.str (Vx "?") tk)
 c_MOST_LETTERS:∃ tk,mg "MOST_LETTERS"=some (.int (8) tk)
 c_MOST_KINDS:∃ tk,mg "MOST_KINDS"=some (.int (8) tk)
 c_MOST_KIDS:∃ tk,mg "MOST_KIDS"=some (.int (3) tk)
 a_HOLE:Vy
 c_HOLE:mg "HOLE"=some (.ref a_HOLE)
 q_HOLE:∀ H:Hp,SqT K H a_HOLE [.str (Vx "*")]
 c_MOST_STATES:∃ tk,mg "MOST_STATES"=some (.int (20) tk)
 c_MOST_ROWS:∃ tk,mg "MOST_ROWS"=some (.int (20) tk)
 c_MOST_KNOTS_books:∃ tk,mg "MOST_KNOTS_books"=some (.int (400) tk)
 c_MOST_CALLS:∃ tk,mg "MOST_CALLS"=some (.int (200) tk)
 c_MOST_KNOTS_running:∃ tk,mg "MOST_KNOTS_running"=some (.int (2000) tk)
 c_TALLEST:∃ tk,mg "TALLEST"=some (.int (150) tk)
 c_HEAD:∃ tk,mg "HEAD"=some (.int (-1) tk)
 g_is_number:FX K mg "is_number" fB ["thing"]
 g_is_below:FX K mg "is_below" gZ ["number","bound"]
 g_is_name:FX K mg "is_name" jb ["thing"]
 g_is_kind:FX K mg "is_kind" iX ["pair"]
 g_are_kinds:FX K mg "are_kinds" fK ["kinds"]
 g_kinds_of:FX K mg "kinds_of" gJ ["pairs"]
 g_many_of:FX K mg "many_of" jt ["kinds","name"]
 g_kids_of:FX K mg "kids_of" jn ["thing"]
 g_walked:FX K mg "walked" lA ["thing"]
 g_placed:FX K mg "placed" lw ["thing"]
 g_built:FX K mg "built" oR ["tops"]
 g_tall:FX K mg "tall" qz ["tree"]
 g_is_call:FX K mg "is_call" jx ["thing"]
 g_is_hole:FX K mg "is_hole" ji ["thing"]
 g_is_knot:FX K mg "is_knot" iZ ["thing"]
 g_called_by:FX K mg "called_by" fU ["call"]
 g_fits_pattern:FX K mg "fits_pattern" di ["kinds","pattern","states","kids"]
 g_knots_of:FX K mg "knots_of" gU ["pattern"]
 g_tall_of:FX K mg "tall_of" jh ["pattern"]
 g_calls_in:FX K mg "calls_in" gR ["pattern"]
 f_Measure_init:Vy
 d_Measure_init:XQ
 F_Measure_init:Fun K "__init__" "Measure.__init__" bL f_Measure_init d_Measure_init
 b_Measure_init:Binds K d_Measure_init ["self"] []
 f_Measure_takes:Vy
 d_Measure_takes:XQ
 F_Measure_takes:Fun K "takes" "Measure.takes" bH f_Measure_takes d_Measure_takes
 b_Measure_takes:Binds K d_Measure_takes ["self","part","row"] []
 g_is_small:FX K mg "is_small" gK ["pattern"]
 g_check_pattern:FX K mg "check_pattern" cP ["outs","pattern","states","kids"]
 g_check_state:FX K mg "check_state" dQ ["ins","outs","patterns","states"]
 g_made_book:FX K mg "made_book" ft ["ins","outs","head","rules"]
 g_ins_of:FX K mg "ins_of" lI ["book"]
 g_head_of:FX K mg "head_of" jg ["book"]
 g_rules_of:FX K mg "rules_of" gM ["book"]
 g_pattern_of:FX K mg "pattern_of" eP ["book","state","name"]
 g_above:FX K mg "above" ox ["tree"]
 g_call_of:FX K mg "call_of" jq ["state"]
 g_led_on:FX K mg "led_on" kE ["book","call","knot"]
 g_resolved:FX K mg "resolved" gI ["book","part","knot"]
 g_run:FX K mg "run" t9 ["book","head","tree"]
 g_turned:FX K mg "turned" kU ["book","tree"]
 g_same_knot:FX K mg "same_knot" fX ["name","many"]
 g_same_book:FX K mg "same_book" fZ ["kinds"]
 f_Level_init:Vy
 d_Level_init:XQ
 F_Level_init:Fun K "__init__" "Level.__init__" b9 f_Level_init d_Level_init
 b_Level_init:Binds K d_Level_init ["self"] []
 f_Level_spot_of:Vy
 d_Level_spot_of:XQ
 F_Level_spot_of:Fun K "spot_of" "Level.spot_of" bG f_Level_spot_of d_Level_spot_of
 b_Level_spot_of:Binds K d_Level_spot_of ["self","tree"] []
 g_digests_of:FX K mg "digests_of" eh ["book","digest"]
 g_hand_on:FX K mg "hand_on" jz ["digests","level","number","beneath"]
 g_levels_of:FX K mg "levels_of" fm ["digests","head","tree"]
 g_kid_worths:FX K mg "kid_worths" eG ["spots","beneath"]
 g_folded:FX K mg "folded" lY ["book","head","tree","digest","worth"]
 g_times_in:FX K mg "times_in" gQ ["pattern"]
 g_count_worth:FX K mg "count_worth" dO ["pair","counts"]
 g_depths_in:FX K mg "depths_in" fF ["pattern"]
 g_height_worth:FX K mg "height_worth" dj ["pair","heights"]
 g_count_of:FX K mg "count_of" gP ["book","tree"]
 g_height_of:FX K mg "height_of" fA ["book","tree"]
 g__law_cell:FX K mg "_law_cell" fH ["script","k"]
 g__law_turn:FX K mg "_law_turn" fV ["cell","k"]
 g__law_kinds:FX K mg "_law_kinds" eS ["cell","letters"]
 g__law_leaf:FX K mg "_law_leaf" fJ ["kinds","cell"]
 g__law_knot:FX K mg "_law_knot" fD ["kind","kids"]
 g__law_tree:FX K mg "_law_tree" fI ["cells","ins"]
 g__law_size:FX K mg "_law_size" fq ["tree"]
 g_law:FX K mg "law" iz ["script"]
 e_Measure:Vy
 x_Measure:mg "Measure"=some (.ref e_Measure)
 cl_Measure:Cls K e_Measure
 mk_Measure:Mk K e_Measure f_Measure_init
 na_Measure_met_knots:NoAttr K e_Measure "met_knots"
 na_Measure_met_calls:NoAttr K e_Measure "met_calls"
 me_Measure_takes:Meth K e_Measure "takes" f_Measure_takes
 e_Level:Vy
 x_Level:mg "Level"=some (.ref e_Level)
 cl_Level:Cls K e_Level
 mk_Level:Mk K e_Level f_Level_init
 na_Level_trees:NoAttr K e_Level "trees"
 na_Level_asked:NoAttr K e_Level "asked"
 na_Level_kid_spots:NoAttr K e_Level "kid_spots"
 me_Level_spot_of:Meth K e_Level "spot_of" f_Level_spot_of
 n_all:mg "all"=none
 n_bool:mg "bool"=none
 n_dict:mg "dict"=none
 n_enumerate:mg "enumerate"=none
 n_int:mg "int"=none
 n_isinstance:mg "isinstance"=none
 n_len:mg "len"=none
 n_max:mg "max"=none
 n_range:mg "range"=none
 n_reversed:mg "reversed"=none
 n_set:mg "set"=none
 n_str:mg "str"=none
 n_sum:mg "sum"=none
 n_tuple:mg "tuple"=none
 n_zip:mg "zip"=none
theorem ye:([Vx "number",Vx "kid",Vx "place"]:List V2).Nodup:=by decide +kernel
theorem yj:([Vx "place",Vx "part"]:List V2).Nodup:=by decide +kernel
theorem zq:([Vx "part"]:List V2).Nodup:=by decide +kernel
theorem yp:([Vx "call",Vx "many",Vx "counts"]:List V2).Nodup:=by decide +kernel
theorem yb:([Vx "call",Vx "depth",Vx "heights"]:List V2).Nodup:=by decide +kernel
theorem yt:([Vx "state",Vx "pair",Vx "worth",Vx "kids"]:List V2).Nodup:=by decide +kernel
theorem yX:([Vx "kid",Vx "row"]:List V2).Nodup:=by decide +kernel
theorem yY:([Vx "sign"]:List V2).Nodup:=by decide +kernel
theorem vO:([Vx "pair"]:List V2).Nodup:=by decide +kernel
theorem zf:([Vx "patterns"]:List V2).Nodup:=by decide +kernel
theorem o4:([Vx "kid"]:List V2).Nodup:=by decide +kernel
theorem wN:([Vx "name",Vx "many"]:List V2).Nodup:=by decide +kernel
theorem uN:([Vx "kind"]:List V2).Nodup:=by decide +kernel
theorem yn:([Vx "number",Vx "done"]:List V2).Nodup:=by decide +kernel
theorem yu:([Vx "kid",Vx "knot",Vx "row"]:List V2).Nodup:=by decide +kernel
theorem ww:([Vx "size"]:List V2).Nodup:=by decide +kernel
section
variable {P:V3} {w:Wg} {K:VB} {mg:V2->Option VC} {base:WR} (T:TX K mg)
inductive jT (vs:List V) (H:Hp) (Q:VK) (_E:XK):Prop
 | mk (a:Vy) (t:Th) (zS:vs=[.ref a]) (zT:At H t a) (zX:∀ (r:Vy) (as:List Vy) (H':Hp),L2.Same H H'->H' r=some (.tup (as.map V.ref))->Ats H' t.kids as->Q (.ref r) H'):jT  vs H Q _E
def rn:Sp:=jT
theorem eX:aP P w K mg base CX0 1 T.g_kids_of.f T.g_kids_of.d ["thing"] rn:=by
 refine T.g_kids_of.F.ok qw (fun vs H Q E h=>?_) (fun zQ A outer s H vs Q E hr h=>?_)
 · obtain ⟨a,t,rfl,_⟩:=h;rfl
 obtain ⟨a,t,rfl,hA,k⟩:=h
 refine ⟨_,(ai (bW (bt hX (aK aL (pv 0) am (fun _ _=>rfl)) (bp (v:=.str (Vx "?")) rfl T.c_CALL_SIGN.choose_spec ⟨_,rfl⟩) (aW _)) (aj (aB (aO ae))) bv)
  (aj (aB (bJ og (pv 0) (bP am) bX)))),?_⟩
 try dsimp only [Ab,zL]
 cases t with
 | knot n ks =>
   rw [At] at hA;refine hid fun ZZ kZ=>?_;obtain ⟨hn,as,h1,h2⟩:=hA;refine kZ ?_;refine ⟨_,rfl,a,_,0,.str n,rfl,rfl,SqT.of h1,at0,rfl,_,rfl,?_⟩;refine cH (fun c=>absurd (of_decide_eq_true c) (fun z=>hn (V.str.inj z))) (fun _=>?_);refine ⟨_,rfl,1,rfl,a,_,rfl,SqT.of h1,?_,fun r hr=>?_⟩
   · intro z;have:=z.1;simp [HT.sIx] at this
   · rw [kP];exact k r as _ (ag hr _) ad (h2.mono (fz hr))
 | call sn kn =>
   rw [At] at hA;refine ⟨_,rfl,a,_,0,.str q,rfl,rfl,SqT.of hA,at0,rfl,_,rfl,?_⟩;refine cH (fun _=>?_) (fun c=>absurd (decide_eq_true rfl) c);refine ⟨by show 0<=V1;decide,fun r hr=>?_⟩;exact k r [] _ (ag hr _) ad .nil
inductive lT (vs:List V) (H:Hp) (Q:VK) (_E:XK):Prop
 | mk (a:Vy) (t:Th) (zS:vs=[.ref a]) (zT:At H t a) (zX:t.size<=100000) (Af:∀ (r:Vy) (as:List Vy) (H':Hp),L2.Same H H'->H r=none->H' r=some (.lst (as.map V.ref))->Ats H' t.walk as->Q (.ref r) H'):lT  vs H Q _E
def tD:Sp:=lT
theorem mT:aP P w K mg base CX0 2 T.g_walked.f T.g_walked.d ["thing"] tD:=by
 refine T.g_walked.F.ok f8 (fun vs H Q E h=>?_) (fun zQ A outer s H vs Q E hr h=>?_)
 · obtain ⟨a,t,rfl,_⟩:=h;rfl
 obtain ⟨a,t,rfl,hA,hsz,k⟩:=h
 refine ⟨_,(ai (aA (i:=1) f8.nd rfl (VQ rfl) (aT ae))
  (ai (aA (i:=2) f8.nd rfl (VQ rfl) (aT (ac (pv 0) ae)))
  (ai (cM We (aU (pv 2) (fun _=>rfl)) (ai (aA (i:=3) f8.nd rfl (VQ rfl) (kI V0 Yw Yv kH (pv 2)))
  (ai (bd (cv V0 Wt Ws bq (pv 1) (ac (pv 3) ae)))
  (aj (bd (cv V0 Ye Yd kB (pv 2) (ac (rM xu (pcF T.g_kids_of (eX T) hr (ac (pv 3) ae))) ae)))))))
  (aj (aB (pv 1)))))),?_⟩
 try dsimp only [Ab,zL]
 refine ⟨by show 0<=V1;decide,fun mt Cz=>?_⟩;refine ⟨_,rfl,by show 1<=V1;decide,fun ah Bu=>?_⟩;have C9:H ah=none:=(ag Cz _).free Bu;have Al:ah≠mt:=fun z=>by rw [z,ad] at Bu;cases Bu
 refine ⟨fun m σ H2=>Ex5 fun (ms as:List Vy) (Ms As:List Th) (p:Option V)=>An8 (σ=[some (.ref a),some (.ref mt),some (.ref ah),p]) (L2.Same H H2) (H2 mt=some (.lst (ms.map V.ref))) (H2 ah=some (.lst (as.map V.ref))) (Ats H2 Ms ms) (Ats H2 As as) (Ms++walks As.reverse=t.walk) (m=au As),⟨_,[],[a],[],[t],none,rfl,?_,?_,?_,.nil,.cons (hA.mono ?_) .nil,?_,rfl⟩,?_⟩
 · exact aG (ag Cz _) C9
 · rw [af Al.symm,ad];rfl
 · rw [ad];rfl
 · exact Same.kt (aG (ag Cz _) C9)
 · simp [walks]
 rintro m σ H2 ⟨ms,as,Ms,As,p,rfl,sm,e1,e2,a1,a2,hw,rfl⟩
 have hlen:ms.length+au As<=100000:=by
  have h1:=congrArg Y5 hw;rw [VO,f6,Th.walk_len,<- a1.length] at h1;have h2:=nb As;omega
 refine ⟨_,rfl,_,.inl ⟨_,SqL.of e2,rfl⟩,?_⟩;refine cH (fun c=>?_) (fun c=>?_)
 · -- a part is taken off
   refine ⟨fun zJ H'=>∃ m',m'<au As/\Ex5 fun (ms as:List Vy) (Ms As:List Th) (p:Option V)=>An8 (zJ=[some (.ref a),some (.ref mt),some (.ref ah),p]) (L2.Same H H') (H' mt=some (.lst (ms.map V.ref))) (H' ah=some (.lst (as.map V.ref))) (Ats H' Ms ms) (Ats H' As as) (Ms++walks As.reverse=t.walk) (m'=au As),fun zJ H' h=>h,?_⟩;have Be:as≠[]:=by intro z;subst z;simp at c
   obtain ⟨Ao,b,rfl⟩:∃ Ao b,as=Ao++[b]:=⟨as.dropLast,as.getLast Be,(XI Be).symm⟩;obtain ⟨Us,x,rfl,a3,a4⟩:=a2.snoc_inv;have hs:au (Us++[x])=au Us+x.size:=by rw [aF,au,au];omega
   have RW:=x.size_eq;rw [hs] at hlen;refine ⟨_,rfl,.inl ⟨rfl,_,SqL.of e2⟩,ah,_,.ref b,rfl,rfl,e2,by simp,?_⟩;have d1:((Ao++[b]).map V.ref).dropLast=Ao.map V.ref:=by simp
   rw [d1];refine ⟨_,rfl,.inl ⟨rfl,_,SqL.of (by rw [af Al.symm];exact e1)⟩,_,rfl,mt,_,.ref b,rfl,rfl,by rw [af Al.symm];exact e1,aI (by rw [Vt];omega),?_⟩;have k1:KT H2 (upd (upd H2 ah (.lst (Ao.map V.ref))) mt (.lst (ms.map V.ref++[.ref b]))):=(bx e2).trans (bx (xs:=ms.map V.ref) (by rw [af Al.symm];exact e1));refine ⟨_,rfl,.inl ⟨rfl,_,SqL.of (by rw [af Al,ad])⟩,_,rfl,b,x,rfl,a4.mono k1,fun r ks H3 s3 e3 a5=>?_⟩;refine ⟨r,_,rfl,SqT.of e3,fun l hl=>?_⟩;have l1:l≠ah:=fun z=>by rw [z,s3 ah _ (by rw [af Al,ad])] at hl;cases hl
   have l2:l≠mt:=fun z=>by rw [z,s3 mt _ ad] at hl;cases hl
   refine ⟨ah,l,_,_,rfl,rfl,by rw [af l1.symm];exact s3 ah _ (by rw [af Al,ad]),SqT.of ad,YN (aI ?_),?_⟩
   · have q1:=a3.length;have q2:=a5.length;have q3:=cy Us;have q4:=cy x.kids;rw [Vt,Wy,Vt];omega
   · have k2:KT H2 (upd (upd H3 l (.tup (ks.map V.ref).reverse)) ah (.lst (Ao.map V.ref++(ks.map V.ref).reverse))) :=
      k1.trans ((Same.kt s3).trans ((fz hl).trans (bx (xs:=Ao.map V.ref) (by rw [af l1.symm];exact s3 ah _ (by rw [af Al,ad])))))
     have k3:KT H3 (upd (upd H3 l (.tup (ks.map V.ref).reverse)) ah (.lst (Ao.map V.ref++(ks.map V.ref).reverse))) :=
      (fz hl).trans (bx (xs:=Ao.map V.ref) (by rw [af l1.symm];exact s3 ah _ (by rw [af Al,ad])))
     refine ⟨au (Us++x.kids.reverse),?_,ms++[b],Ao++ks.reverse,Ms++[x],Us++x.kids.reverse,some (.ref b),rfl,?_,?_,?_,?_,?_,?_,rfl⟩
     · rw [aF,nb,hs];omega
     · have s4:L2.Same H (upd (upd H2 ah (.lst (Ao.map V.ref))) mt (.lst (ms.map V.ref++[.ref b]))):=aG (aG sm C9) Cz;have nl:H l=none:=s4.free (s3.free hl);exact aG (aG (s4.trans s3) nl) C9
     · rw [af Al.symm,af l2.symm,s3 mt _ ad,VN];rfl
     · rw [ad,VN,Z2]
     · exact (a1.mono k2).append (.cons (a4.mono k2) .nil)
     · exact (a3.mono k2).append (a5.mono k3).reverse
     · rw [<- hw,Xk,Xm,Xm,Xz,eg];show Ms++([x]++(walks x.kids++walks Us.reverse))=Ms++walks (x::Us.reverse);rw [walks,x.walk_eq];rfl
 · have hz:as=[]:=by
    cases as with
    | nil=>rfl
    | cons y ys=>simp at c
   subst hz;have Ed:As=[]:=Xh.mp a2.length.symm;subst Ed;refine ⟨_,rfl,k mt ms H2 sm Cz e1 ?_⟩;have Bm:Ms=t.walk:=by simpa [walks] using hw
   rw [<- Bm];exact a1
inductive lx (vs:List V) (H:Hp) (Q:VK) (_E:XK):Prop
 | mk (a:Vy) (t:Th) (zS:vs=[.ref a]) (zT:At H t a) (zX:t.size<=100000) (Af:t.tall<=100000) (Av:∀ (r:Vy) (as:List Vy) (H':Hp),L2.Same H H'->H r=none->H' r=some (.lst (as.map V.ref))->PsAt H' (t.pl []) as->Q (.ref r) H'):lx  vs H Q _E
def sN:Sp:=lx
theorem sK:aP P w K mg base CX0 2 T.g_placed.f T.g_placed.d ["thing"] sN:=by
 refine T.g_placed.F.ok cY (fun vs H Q E h=>?_) (fun zQ A outer s H vs Q E hr h=>?_)
 · obtain ⟨a,t,rfl,_⟩:=h;rfl
 obtain ⟨a,t,rfl,hA,hsz,An,k⟩:=h
 refine ⟨_,(ai (aA (i:=1) cY.nd rfl (VQ rfl) (aT ae))
  (ai (aA (i:=2) cY.nd rfl (VQ rfl) (aT (ac (aO (ac (aO ae) (ac (pv 0) ae))) ae)))
  (ai (cM We (aU (pv 2) (fun _=>rfl)) (ai (fS (kI V0 Yw Yv kH (pv 2)) (bm rfl (aw (ar (i:=3) cY.nd rfl (ZI rfl)) (aw (ar (i:=4) cY.nd rfl (VQ rfl)) aR))))
  (ai (bd (cv V0 Wt Ws bq (pv 1) (ac (aO (ac (pv 3) (ac (pv 4) ae))) ae)))
  (ai (eW (i:=5) (N:=[Vx "number",Vx "kid",Vx "place"]) (js:=[none,none,some 3]) (g:=(qd K 2 (dG (aD 0) (dG (aD 1) pH)))) (tt:=aQ) (te:=(ow (bz (tOp (t6 K) (bC 2) (ow (bz (bC 0) dk))) (bz (bC 1) dk)))) cY.nd rfl (VQ rfl) rfl (bO rfl (by decide +kernel) (by decide +kernel) rfl rfl rfl) (rD rfl T.n_enumerate (pcF T.g_kids_of (eX T) hr (ac (pv 4) ae))) (fun _ _ _ _ _ _=>(bm rfl (aw (ar (i:=0) ye rfl (VQ rfl)) (aw (ar (i:=1) ye rfl (VQ rfl)) aR)))) (i7 (cp bw (aN rfl) (cp bw (aN rfl) jc))) (fun _ _ _ _ _ _=>bc) (fun _ _ _ _ _ _=>(aO (ac (aE iK (pv 2) (aO (ac (pv 0) ae))) (ac (pv 1) ae)))))
  (aj (bd (cv V0 Ye Yd i3 (pv 2) (ac (rM wg (pv 5)) ae))))))))
  (aj (aB (pv 1)))))),?_⟩
 try dsimp only [Ab,zL]
 refine ⟨aq (by show 0<=1000000;decide),fun mt Cz=>?_⟩;have s1:L2.Same H (upd H mt (.lst [])):=ag Cz _;have Lm:(upd H mt (.lst [])) mt=some (.lst []):=ad;generalize upd H mt (.lst [])=H1 at s1 Lm ⊢;refine ⟨aq (by show 0<=1000000;decide),fun p0 Ln=>?_⟩;refine ⟨_,rfl,aq (by show 2<=1000000;decide),fun p1 CU=>?_⟩;refine ⟨aq (by show 1<=1000000;decide),fun ah Bu=>?_⟩;have s2:L2.Same H1 (upd (upd H1 p0 (.tup [])) p1 (.tup [.ref p0,.ref a])):=(ag Ln _).trans (ag CU _);have e1:(upd (upd H1 p0 (.tup [])) p1 (.tup [.ref p0,.ref a])) p1=some (.tup [.ref p0,.ref a]):=ad;have e0:(upd (upd H1 p0 (.tup [])) p1 (.tup [.ref p0,.ref a])) p0=some (.tup []):=ag CU _ _ _ ad;generalize (upd (upd H1 p0 (.tup [])) p1 (.tup [.ref p0,.ref a]))=H2 at s2 e1 e0 Bu ⊢;have Fu:H1 ah=none:=s2.free Bu;have C9:H ah=none:=s1.free Fu;have Al:ah≠mt:=fun z=>by rw [z,Lm] at Fu;cases Fu
 refine ⟨fun m σ H3=>Ex7 fun (ms as:List Vy) (Ms As:List (List Int×Th)) (c3 c4 c5:Option V)=>An9 (σ=[some (.ref a),some (.ref mt),some (.ref ah),c3,c4,c5]) (L2.Same H H3) (H3 mt=some (.lst (ms.map V.ref))) (H3 ah=some (.lst (as.map V.ref))) (PsAt H3 Ms ms) (PsAt H3 As as) (Ms++plP As.reverse=t.pl []) ((∀ p∈As,p.1.length+p.2.tall<=100000)) (m=szP As),⟨_,[],[p1],[],[([],t)],none,none,none,rfl,?_,?_,?_,.nil,.cons ⟨p0,a,?_,?_,?_⟩ .nil,?_,?_,rfl⟩,?_⟩
 · exact aG (s1.trans s2) C9
 · rw [af Al.symm];exact s2 _ _ Lm
 · rw [ad];rfl
 · exact ag Bu _ _ _ e1
 · exact ag Bu _ _ _ e0
 · exact hA.mono (Same.kt (aG (s1.trans s2) C9))
 · simp [plP]
 · intro p hp;rw [VJ] at hp;subst hp;simpa using An
 rintro m σ H3 ⟨ms,as,Ms,As,c3,c4,c5,rfl,sm,em,ea,a1,a2,hw,hb,rfl⟩
 have hlen:ms.length+szP As<=100000:=by
  have h1:=congrArg Y5 hw;rw [VO,rL,Th.pl_len,rO] at h1;have h2:=VU a1;omega
 refine ⟨_,rfl,_,.inl ⟨_,SqL.of ea,rfl⟩,?_⟩;refine cH (fun c=>?_) (fun c=>?_)
 · refine ⟨fun zJ H'=>∃ m',m'<szP As/\Ex7 fun (ms as:List Vy) (Ms As:List (List Int×Th)) (c3 c4 c5:Option V)=>An9 (zJ=[some (.ref a),some (.ref mt),some (.ref ah),c3,c4,c5]) (L2.Same H H') (H' mt=some (.lst (ms.map V.ref))) (H' ah=some (.lst (as.map V.ref))) (PsAt H' Ms ms) (PsAt H' As as) (Ms++plP As.reverse=t.pl []) ((∀ p∈As,p.1.length+p.2.tall<=100000)) (m'=szP As),fun zJ H' h=>h,?_⟩;have Be:as≠[]:=by intro z;subst z;simp at c
   refine hid fun ZZ kZ=>?_;obtain ⟨Ao,b,rfl⟩:∃ Ao b,as=Ao++[b]:=⟨as.dropLast,as.getLast Be,(XI Be).symm⟩;obtain ⟨Us,⟨pre,x⟩,rfl,a3,pa,ta,eb,Du,BU⟩:=P2.snoc_inv a2;refine kZ ?_;have OY:szP (Us++[(pre,x)])=szP Us+x.size:=by rw [eY,szP,szP];rfl
   have RW:=x.size_eq;rw [OY] at hlen;have RX:=hb (pre,x) (by simp);simp only at RX Du BU;refine ⟨_,rfl,.inl ⟨rfl,_,SqL.of ea⟩,ah,_,.ref b,rfl,rfl,ea,by simp,?_⟩;have d1:((Ao++[b]).map V.ref).dropLast=Ao.map V.ref:=by simp
   rw [d1];have k1:KT H3 (upd H3 ah (.lst (Ao.map V.ref))):=bx ea;have Lo:L2.Same H (upd H3 ah (.lst (Ao.map V.ref))):=aG sm C9;have HE:(upd H3 ah (.lst (Ao.map V.ref))) mt=some (.lst (ms.map V.ref)):=by rw [af Al.symm];exact em
   have Lp:(upd H3 ah (.lst (Ao.map V.ref))) ah=some (.lst (Ao.map V.ref)):=ad;generalize (upd H3 ah (.lst (Ao.map V.ref)))=H4 at k1 Lo HE Lp ⊢;refine ⟨b,_,rfl,SqT.of (k1 _ _ eb),rfl,_,_,rfl,_,_,rfl,rfl,?_⟩
   -- met.append((place,part))
   refine ⟨_,rfl,.inl ⟨rfl,_,SqL.of HE⟩,_,rfl,_,rfl,aq (by show 2<=1000000;decide),fun pr Bn=>?_⟩;have Lq:mt≠pr:=av HE Bn;refine ⟨mt,_,_,rfl,rfl,ag Bn _ _ _ HE,aI (by rw [Vt];omega),?_⟩;have Lr:(upd H4 pr (.tup [.ref pa,.ref ta])) mt=some (.lst (ms.map V.ref)):=ag Bn _ _ _ HE;have k2:KT H4 (upd (upd H4 pr (.tup [.ref pa,.ref ta])) mt (.lst (ms.map V.ref++[.ref pr]))):=(fz Bn).trans (bx Lr);have Lu:L2.Same H (upd (upd H4 pr (.tup [.ref pa,.ref ta])) mt (.lst (ms.map V.ref++[.ref pr]))):=aG (aG Lo (Lo.free Bn)) Cz;have OZ:(upd (upd H4 pr (.tup [.ref pa,.ref ta])) mt (.lst (ms.map V.ref++[.ref pr]))) mt=some (.lst ((ms++[pr]).map V.ref)):=by rw [ad,VN];rfl
   have Gs:(upd (upd H4 pr (.tup [.ref pa,.ref ta])) mt (.lst (ms.map V.ref++[.ref pr]))) ah=some (.lst (Ao.map V.ref)):=by rw [af Al,af (av Lp Bn)];exact Lp
   have Fs:(upd (upd H4 pr (.tup [.ref pa,.ref ta])) mt (.lst (ms.map V.ref++[.ref pr]))) pr=some (.tup [.ref pa,.ref ta]):=by rw [af Lq.symm,ad]
   generalize (upd (upd H4 pr (.tup [.ref pa,.ref ta])) mt (.lst (ms.map V.ref++[.ref pr])))=H5 at k2 Lu OZ Gs Fs ⊢;have Lw:KT H3 H5:=k1.trans k2;have Lx:=Lw _ _ Du
   -- kids
   refine ⟨_,rfl,ta,x,rfl,BU.mono Lw,fun r ks H6 s6 er Aj=>⟨r,rfl,⟨_,SqT.of er⟩,?_⟩⟩;have Ae:ks.length=x.kids.length:=Aj.length;have O0:=cy x.kids;intro D hD;have Ly:=s6 _ _ Lx;refine ⟨ks.length,fun j H7=>An3 (j<=ks.length) (L2.Same H6 H7) (Ex1 fun (bs:List Vy)=>An2 (H7 D=some (.lst (bs.map V.ref))) (PsAt H7 ((d3 pre 0 x.kids).take j) bs)),⟨Wc _,ag hD _,[],ad,.nil⟩,?_⟩;rintro j H7 ⟨hj,s7,bs,eD,Bf⟩;by_cases Ea:j=ks.length
   · left;refine ⟨⟨_,SqT.of (s7 _ _ er),by rw [Vt];exact Ea.symm⟩,?_⟩;have zY:(d3 pre 0 x.kids).take j=d3 pre 0 x.kids:=by rw [Ea,Ae,<- kK pre 0 x.kids,W8]
     rw [zY] at Bf;have Lz:=s7 _ _ (s6 _ _ Gs);have O1:=s7 _ _ (s6 _ _ OZ)
     have Cs:bs.length=x.kids.length:=by
      have:=VU Bf;rw [kK] at this;exact this.symm
     refine ⟨_,rfl,.inl ⟨rfl,_,SqL.of Lz⟩,_,rfl,D,_,rfl,SqL.of eD,fun l hl=>?_⟩;have Hn:ah≠l:=av Lz hl;have HF:mt≠l:=av O1 hl;have O2:(upd H7 l (.lst (bs.map V.ref).reverse)) ah=some (.lst (Ao.map V.ref)):=by rw [af Hn];exact Lz
     have q3:Ao.length=Us.length:=(VU a3).symm;have q4:=sr Us;refine ⟨ah,l,_,_,rfl,rfl,O2,ad,aq ?_,?_⟩
     · rw [Vt,Wy,Vt];omega
     have k8:KT H7 (upd (upd H7 l (.lst (bs.map V.ref).reverse)) ah (.lst (Ao.map V.ref++(bs.map V.ref).reverse))):=(fz hl).trans (bx O2);have k38:KT H3 (upd (upd H7 l (.lst (bs.map V.ref).reverse)) ah (.lst (Ao.map V.ref++(bs.map V.ref).reverse))):=Lw.trans ((Same.kt (s6.trans s7)).trans k8);refine ⟨szP (Us++(d3 pre 0 x.kids).reverse),?_,ms++[pr],Ao++bs.reverse,Ms++[(pre,x)],Us++(d3 pre 0 x.kids).reverse,_,_,_,rfl,?_,?_,?_,?_,?_,?_,?_,rfl⟩
     · rw [eY,rO,pL,OY];omega
     · exact aG (aG ((Lu.trans s6).trans s7) ((Lu.trans s6).trans s7 |>.free hl)) C9
     · rw [af Al.symm,af HF];exact O1
     · rw [ad,VN,Z2]
     · exact P2.append (a1.mono k38) (.cons ⟨pa,ta,k8 _ _ (s7 _ _ (s6 _ _ Fs)),k38 _ _ Du,BU.mono k38⟩ .nil)
     · exact P2.append (PsAt.mono k38 a3) (P2.reverse (PsAt.mono k8 Bf))
     · rw [<- hw,Xk,Xm,Xm,Xz,lJ,pS];show Ms++([(pre,x)]++(pls pre 0 x.kids++plP Us.reverse))=Ms++plP ((pre,x)::Us.reverse);rw [plP,x.pl_eq pre];rfl
     · intro p hp;rcases VV.mp hp with hp | hp
       · exact hb p (V9 _ hp)
       · obtain ⟨g1,g2⟩:=ql pre 0 x.kids p (Z1.mp hp);have:=oN g2;omega
   · right;have Bt:j<ks.length:=by omega
     refine ⟨Bt,⟨_,.ref ks[j],SqT.of (s7 _ _ er),by rw [VM,Vw Bt];rfl⟩,?_⟩;rintro y H8 ⟨p,v,hp,rfl,rfl,hv⟩;have By:=hv _ (SqT.of (s7 _ _ er));obtain ⟨kd,rfl,Cy⟩:=aM By;obtain ⟨tk,Cp,RY⟩:=Aj.get Cy;have s8:L2.Same H7 (upd H7 p (.tup [.int (j:Nat),.ref kd])):=ag hp _;refine ⟨p,_,rfl,SqT.of ad,rfl,_,_,rfl,_,_,rfl,rfl,?_⟩;generalize (upd H7 p (.tup [.int (j:Nat),.ref kd]))=H8 at s8 ⊢;refine ⟨_,rfl,_,rfl,aq (by show 1<=1000000;decide),fun n1 RZ=>?_⟩;have s9:L2.Same H8 (upd H8 n1 (.tup [.int (j:Nat)])):=ag RZ _;have e9:(upd H8 n1 (.tup [.int (j:Nat)])) n1=some (.tup [.int (j:Nat)]):=ad;generalize (upd H8 n1 (.tup [.int (j:Nat)]))=H9 at s9 e9 ⊢;refine ud (s9 _ _ (s8 _ _ (s7 _ _ Ly))) e9 (by rw [Vt];show pre.length+1<=1000000;omega) fun n2 BL BG JL=>?_;refine ⟨_,rfl,aq (by show 2<=1000000;decide),fun n3 HG=>?_⟩;have DN:L2.Same H7 (upd BL n3 (.tup [.ref n2,.ref kd])):=(s8.trans (s9.trans BG)).trans (ag HG _);have HH:=DN _ _ eD;refine ⟨_,HH,aI ?_,Bt,?_,bs++[n3],?_,?_⟩
     · have:=VU Bf;rw [Wi] at this;rw [Vt];omega
     · exact aG (s7.trans DN) hD
     · rw [ad,VN];rfl
     · have JM:KT (upd BL n3 (.tup [.ref n2,.ref kd])) (upd (upd BL n3 (.tup [.ref n2,.ref kd])) D (.lst (bs.map V.ref++[.ref n3]))):=bx HH;rw [WY,pQ pre 0 x.kids j tk Cp];refine P2.append (PsAt.mono ((Same.kt DN).trans JM) Bf) (.cons ⟨n2,kd,JM _ _ ad,JM _ _ (ag HG _ _ _ ?_),?_⟩ .nil)
       · rw [JL,VN,ZD];rfl
       · exact RY.mono ((Same.kt (s7.trans DN)).trans JM)
 · have hz:as=[]:=by
    cases as with
    | nil=>rfl
    | cons y ys=>simp at c
   subst hz;have Ed:As=[]:=Xh.mp (VU a2);subst Ed;refine ⟨_,rfl,k mt ms H3 sm Cz em ?_⟩;have Bm:Ms=t.pl []:=by simpa [plP] using hw
   rw [<- Bm];exact a1
inductive jN (vs:List V) (H:Hp) (Q:VK) (_E:XK):Prop
 | mk (a:Vy) (t:Th) (zS:vs=[.ref a]) (zT:At H t a) (zX:Q (.bl t.isCall) H):jN  vs H Q _E
def lz:Sp:=jN
theorem dA:aP P w K mg base CX0 1 T.g_is_call.f T.g_is_call.d ["thing"] lz:=by
 refine T.g_is_call.F.ok qD (fun vs H Q E h=>?_) (fun zQ A outer s H vs Q E hr h=>?_)
 · obtain ⟨a,t,rfl,_⟩:=h;rfl
 obtain ⟨a,t,rfl,hA,k⟩:=h;refine ⟨_,(aj (aB (cb hX (aK aL (pv 0) am (fun _ _=>rfl)) (bp (v:=.str (Vx "?")) rfl T.c_CALL_SIGN.choose_spec ⟨_,rfl⟩) (aW _)))),?_⟩
 try dsimp only [Ab,zL]
 cases t with
 | knot n ks =>
   rw [At] at hA;refine hid fun ZZ kZ=>?_;obtain ⟨hn,as,h1,h2⟩:=hA;refine kZ ?_;refine ⟨_,rfl,a,_,0,.str n,rfl,rfl,SqT.of h1,at0,rfl,?_⟩;have e:decide (V.str n=V.str (Vx "?"))=false:=decide_eq_false (fun z=>hn (V.str.inj z));rw [e];exact k
 | call sn kn =>
   rw [At] at hA;refine ⟨_,rfl,a,_,0,.str q,rfl,rfl,SqT.of hA,at0,rfl,?_⟩;have e:decide (V.str q=V.str (Vx "?"))=true:=decide_eq_true rfl;rw [e];exact k
inductive gE (vs:List V) (H:Hp) (Q:VK) (_E:XK):Prop
 | mk (a:Vy) (sn kn:Int) (zS:vs=[.ref a]) (zT:At H (.call sn kn) a) (zX:∀ p,H p=none->Q (.ref p) (upd H p (.tup [.int sn,.int kn]))):gE  vs H Q _E
def ip:Sp:=gE
theorem iu:aP P w K mg base CX0 1 T.g_called_by.f T.g_called_by.d ["call"] ip:=by
 refine T.g_called_by.F.ok oz (fun vs H Q E h=>?_) (fun zQ A outer s H vs Q E hr h=>?_)
 · obtain ⟨a,sn,kn,rfl,_⟩:=h;rfl
 obtain ⟨a,sn,kn,rfl,hA,k⟩:=h;refine ⟨_,(aj (aB (aO (ac (aK aL (pv 0) am (fun _ _=>rfl)) (ac (aK aL (pv 0) am (fun _ _=>rfl)) ae))))),?_⟩
 try dsimp only [Ab,zL]
 rw [At] at hA;exact ⟨_,rfl,a,_,1,_,rfl,rfl,SqT.of hA,at1,_,rfl,a,_,2,_,rfl,rfl,SqT.of hA,at2,aq (by show 2<=1000000;decide),fun p hp=>k p hp⟩
inductive jW (vs:List V) (H:Hp) (Q:VK) (_E:XK):Prop
 | mk (a:Vy) (t:Th) (zS:vs=[.ref a]) (zT:At H t a) (zX:t.tall<=150) (Af:Q (.bl t.isHole) H):jW  vs H Q _E
def qI:Sp:=jW
theorem qN:aP P w K mg base CX0 1 T.g_is_hole.f T.g_is_hole.d ["thing"] qI:=by
 refine T.g_is_hole.F.ok qJ (fun vs H Q E h=>?_) (fun zQ A outer s H vs Q E hr h=>?_)
 · obtain ⟨a,t,rfl,_⟩:=h;rfl
 obtain ⟨a,t,rfl,hA,An,k⟩:=h;refine ⟨_,(aj (aB (cb (ue (B:=150) (dh hr)) (pv 0) (bp (v:=.ref T.a_HOLE) rfl T.c_HOLE rfl) (aW _)))),?_⟩
 try dsimp only [Ab,zL]
 refine ⟨_,rfl,?_⟩;cases t with
 | knot n ks =>
   rw [At] at hA;refine hid fun ZZ kZ=>?_;obtain ⟨hn,as,h1,h2⟩:=hA;refine kZ ?_;rw [Th.tall] at An;have hd:=fW ks;refine ⟨a,T.a_HOLE,_,_,.str n::dvs ks,[.str star],rfl,rfl,SqT.of h1,T.q_HOLE _,.cons (by rw [DAt]) h2.dvs,.cons (by rw [DAt];rfl) .nil,by rw [bh,Dv.deep];omega,fun b hb=>?_⟩
   have e:b=(Th.knot n ks).isHole:=by
    rw [Yu,hb];show _↔decide (n=star/\ks=[])=true;rw [decide_eq_true_iff];constructor
    · intro z;have z1:=List.cons.inj z;refine ⟨Dv.str.inj z1.1,?_⟩;cases ks with
      | nil=>rfl
      | cons x xs=>rw [dvs] at z1;cases z1.2
    · rintro ⟨z1,z2⟩;rw [z1,z2,dvs]
   rw [e];exact k
 | call sn kn =>
   rw [At] at hA;refine ⟨a,T.a_HOLE,_,_,[.str q,.int sn,.int kn],[.str star],rfl,rfl,SqT.of hA,T.q_HOLE _,.cons (by rw [DAt]) (.cons (by rw [DAt]) (.cons (by rw [DAt]) .nil)),.cons (by rw [DAt];rfl) .nil,by simp [bh,Dv.deep],fun b hb=>?_⟩
   have e:b=(Th.call sn kn).isHole:=by
    show b=false;cases b with
    | false=>rfl
    | true=>exact absurd (hb.mp rfl) (by simp)
   rw [e];exact k
inductive jE (vs:List V) (H:Hp) (Q:VK) (_E:XK):Prop
 | mk (a:Vy) (t:Th) (zS:vs=[.ref a]) (zT:At H t a) (zX:t.tall<=150) (Af:Q (.bl t.isKnot) H):jE  vs H Q _E
def lK:Sp:=jE
theorem qQ:aP P w K mg base CX0 2 T.g_is_knot.f T.g_is_knot.d ["thing"] lK:=by
 refine T.g_is_knot.F.ok rg (fun vs H Q E h=>?_) (fun zQ A outer s H vs Q E hr h=>?_)
 · obtain ⟨a,t,rfl,_⟩:=h;rfl
 obtain ⟨a,t,rfl,hA,An,k⟩:=h;refine ⟨_,(aj (aB (fh (qF (pcF T.g_is_call (dA T) hr (ac (pv 0) ae))) (iY (qF (pcF T.g_is_hole (qN T) hr (ac (pv 0) ae))))))),?_⟩
 try dsimp only [Ab,zL]
 refine ⟨_,rfl,a,t,rfl,hA,_,rfl,_,rfl,?_⟩;refine cH (fun c=>?_) (fun c=>?_)
 · refine ⟨_,rfl,a,t,rfl,hA,An,_,rfl,?_⟩;have e:t.isKnot=!t.isHole:=by unfold Th.isKnot;rw [c];rfl
   rw [e] at k;exact k
 · have e:t.isKnot=false:=by unfold Th.isKnot;rw [X9.mpr c];rfl
   rw [e] at k;exact k
inductive io (vs:List V) (H:Hp) (Q:VK) (_E:XK):Prop
 | mk (a:Vy) (t:Th) (zS:vs=[.ref a]) (zT:At H t a) (zX:t.size<=100000) (Af:t.tall<=100000) (Av:∀ (r:Vy) (as:List Vy) (H':Hp),L2.Same H H'->H' r=some (.lst (as.map V.ref))->CsAt H' (callsOf (t.pl [])) as->Q (.ref r) H'):io  vs H Q _E
def pp:Sp:=io
theorem jR:aP P w K mg base CX0 3 T.g_calls_in.f T.g_calls_in.d ["pattern"] pp:=by
 refine T.g_calls_in.F.ok o0 (fun vs H Q E h=>?_) (fun zQ A outer s H vs Q E hr h=>?_)
 · obtain ⟨a,t,rfl,_⟩:=h;rfl
 obtain ⟨a,t,rfl,hA,hsz,An,k⟩:=h;refine ⟨_,(aj (aB (bA (N:=[Vx "place",Vx "part"]) (js:=[none,none]) (g:=(qd K 2 (dG (aD 0) (dG (aD 1) pH)))) (tt:=(fun σ H Q=>(jU lz [] E0 (bz (bC 1) dk)) σ H fun x H1=>∃ k,vh K x H1 k/\Q k H1)) (te:=(ow (bz (bC 0) (bz (jU ip [] E0 (bz (bC 1) dk)) dk)))) rfl (bO rfl (by decide +kernel) (by decide +kernel) rfl rfl rfl) (cm (pcF T.g_placed (sK T) hr (ac (pv 0) ae))) (fun _ _ _ _ _ _=>(bm rfl (aw (ar (i:=0) yj rfl (VQ rfl)) (aw (ar (i:=1) yj rfl (VQ rfl)) aR)))) (i7 (cp bw (aN rfl) (cp bw (aN rfl) jc))) (fun _ _ _ _ _ _=>ku (aU (pcF T.g_is_call (dA T) hr (ac (pv 1) ae)) (fun _=>rfl))) (fun _ _ _ _ _ _=>(aO (ac (pv 0) (ac (pcF T.g_called_by (iu T) hr (ac (pv 1) ae)) ae))))))),?_⟩
 try dsimp only [Ab,zL]
 refine ⟨_,rfl,a,t,rfl,hA,hsz,An,fun r as H1 s1 nr er CS=>⟨r,rfl,⟨_,SqL.of er⟩,?_⟩⟩;have Ay:(t.pl []).length=as.length:=VU CS;have Bj:=Th.pl_len [] t;intro D hD;refine ⟨as.length,fun j H2=>An3 (j<=as.length) (L2.Same H1 H2) (Ex1 fun (bs:List Vy)=>An2 (H2 D=some (.lst (bs.map V.ref))) (CsAt H2 (callsOf ((t.pl []).take j)) bs)),⟨Wc _,ag hD _,[],ad,.nil⟩,?_⟩;rintro j H2 ⟨hj,s2,bs,eD,Bf⟩;by_cases Ea:j=as.length
 · left;refine ⟨⟨_,SqL.of (s2 _ _ er),by rw [Vt,Ea];exact VG _⟩,?_⟩;have zY:(t.pl []).take j=t.pl []:=by rw [Ea,<- Ay,W8]
   rw [zY] at Bf;exact k D bs H2 (s1.trans s2) eD Bf
 · right;have Bt:j<as.length:=by omega
   refine ⟨Bt,⟨_,.ref as[j],SqL.of (s2 _ _ er),by rw [VM,Vw Bt];rfl⟩,?_⟩;rintro y H3 ⟨rfl,hv⟩;have By:=hv _ (SqL.of (s2 _ _ er));refine hid fun ZZ kZ=>?_;obtain ⟨pr,rfl,Bn⟩:=aM By;obtain ⟨⟨p,u⟩,R0,pa,ta,e1,e2,e3⟩:=P2.get' (CS.mono (Same.kt s2)) Bn;refine kZ ?_;simp only at e2 e3;have Cp:(t.pl []).take (j+1)=(t.pl []).take j++[(p,u)]:=by rw [WY,R0];rfl
   have Cs:bs.length<=j:=by
    have g1:=VU Bf;have g2:=dD ((t.pl []).take j);rw [Wi] at g2;omega
   refine ⟨pr,_,rfl,SqT.of e1,rfl,_,_,rfl,_,_,rfl,rfl,?_⟩;refine ⟨_,rfl,ta,u,rfl,e3,_,rfl,?_⟩;cases u with
   | knot n ks =>
     refine kc ⟨Bt,s2,bs,eD,?_⟩;rw [Cp,du];show CsAt H3 (callsOf ((t.pl []).take j)++[]) bs;rw [Xf];exact Bf
   | call sn kn =>
     refine j7 ?_;refine ⟨_,rfl,_,rfl,ta,sn,kn,rfl,e3,fun ca BV=>⟨aq (by show 2<=1000000;decide),fun n3 HG=>?_⟩⟩;have s4:L2.Same H3 (upd (upd H3 ca (.tup [.int sn,.int kn])) n3 (.tup [.ref pa,.ref ca])):=(ag BV _).trans (ag HG _);have HC:=s4 _ _ eD;refine ⟨_,HC,aI (by rw [Vt];omega),Bt,aG (s2.trans s4) hD,bs++[n3],?_,?_⟩
     · rw [ad,VN];rfl
     · have k5:KT (upd (upd H3 ca (.tup [.int sn,.int kn])) n3 (.tup [.ref pa,.ref ca])) (upd (upd (upd H3 ca (.tup [.int sn,.int kn])) n3 (.tup [.ref pa,.ref ca])) D (.lst (bs.map V.ref++[.ref n3]))):=bx HC;rw [Cp,du];exact P2.append (CsAt.mono ((Same.kt s4).trans k5) Bf) (.cons ⟨pa,ca,k5 _ _ ad,k5 _ _ (s4 _ _ e2),k5 _ _ (ag HG _ _ _ ad)⟩ .nil)
inductive pP (vs:List V) (H:Hp) (Q:VK) (_E:XK):Prop
 | mk (a:Vy) (t:Th) (zS:vs=[.ref a]) (zT:At H t a) (zX:t.size<=100000) (Af:∀ H',L2.Same H H'->Q (.int (t.tall:Nat)) H'):pP  vs H Q _E
def rF:Sp:=pP
theorem vR:aP P w K mg base CX0 2 T.g_tall.f T.g_tall.d ["tree"] rF:=by
 refine T.g_tall.F.ok eI (fun vs H Q E h=>?_) (fun zQ A outer s H vs Q E hr h=>?_)
 · obtain ⟨a,t,rfl,_⟩:=h;rfl
 obtain ⟨a,t,rfl,hA,hsz,k⟩:=h
 refine ⟨_,(ai (aA (i:=1) eI.nd rfl (VQ rfl) (aT (ac (pv 0) ae)))
  (ai (aA (i:=2) eI.nd rfl (VQ rfl) am)
  (ai (cM We (aU (pv 1) (fun _=>rfl)) (ai (xW (i:=2) eI.nd rfl (VQ rfl) am xH)
  (ai (aA (i:=3) eI.nd rfl (VQ rfl) (aT ae))
  (ai (bN We rfl (cm (pv 1)) (ar (i:=4) eI.nd rfl (VQ rfl)) (aj (bd (cv V0 Ye Yd kB (pv 3) (ac (pcF T.g_kids_of (eX T) hr (ac (pv 4) ae)) ae)))))
  (aj (aA (i:=1) eI.nd rfl (VQ rfl) (pv 3)))))))
  (aj (aB (pv 2)))))),?_⟩
 try dsimp only [Ab,zL]
 refine ⟨_,rfl,aq (by show 1<=1000000;decide),fun lv Gu=>?_⟩;refine ⟨fun m σ H2=>Ex6 fun (lv:Vy) (as:List Vy) (Ls:List Th) (r:Int) (c3 c4:Option V)=>An7 (σ=[some (.ref a),some (.ref lv),some (.int r),c3,c4]) (L2.Same H H2) (H2 lv=some (.lst (as.map V.ref))) (Ats H2 Ls as) (au Ls<=100000) (r+(aC Ls:Nat)=(t.tall:Nat)) (m=aC Ls),⟨_,lv,[a],[t],0,none,none,rfl,ag Gu _,ad,.cons (hA.mono (fz Gu)) .nil,by rw [au,au];omega,by rw [aC,aC];omega,rfl⟩,?_⟩;rintro m σ H2 ⟨lv,as,Ls,r,c3,c4,rfl,s2,JN,HI,hz,BW,rfl⟩;refine ⟨_,rfl,_,.inl ⟨_,SqL.of JN,rfl⟩,?_⟩;refine cH (fun c=>?_) (fun c=>?_)
 · have Al:Ls≠[]:=by
    intro z;subst z;rw [Ats] at HI;subst HI;simp at c
   have ht:=il Al;have Aj:=eU Ls;have Dw:as.length=Ls.length:=HI.length;refine ⟨fun zJ H'=>∃ m',m'<aC Ls/\Ex6 fun (lv:Vy) (as:List Vy) (Ls:List Th) (r:Int) (c3 c4:Option V)=>An7 (zJ=[some (.ref a),some (.ref lv),some (.int r),c3,c4]) (L2.Same H H') (H' lv=some (.lst (as.map V.ref))) (Ats H' Ls as) (au Ls<=100000) (r+(aC Ls:Nat)=(t.tall:Nat)) (m'=aC Ls),fun zJ H' h=>h,?_⟩;refine ⟨_,rfl,_,_,rfl,rfl,?_⟩;refine ⟨aq (by show 0<=1000000;decide),fun bn JO=>?_⟩;have Cs:lv≠bn:=av JN JO;refine ⟨_,rfl,lv,rfl,⟨_,SqL.of (ag JO _ _ _ JN)⟩,?_⟩
   refine fN (K:=K) (a:=lv) (xs:=as.map V.ref) (fun i σ H3=>Ex2 fun c4 bs=>An4 (σ=[some (.ref a),some (.ref lv),some (.int (r+1)),some (.ref bn),c4]) (L2.Same H2 H3) (H3 bn=some (.lst (bs.map V.ref))) (Ats H3 (ba (Ls.take i)) bs))
    ⟨c4,[],rfl,ag JO _,ad,.nil⟩ (fun i σ H3 _ ⟨_,_,_,s3,_,_⟩=>SqL.of (s3 _ _ JN)) ?_ ?_
   · rintro i x σ H3 hx ⟨c4,bs,rfl,s3,JP,Bf⟩;obtain ⟨xa,rfl,Ee⟩:=aM hx;obtain ⟨tx,Fv,Fw⟩:=(HI.mono (Same.kt s3)).get Ee;have Cp:Ls.take (i+1)=Ls.take i++[tx]:=by rw [WY,Fv];rfl
     refine ⟨_,rfl,.inl ⟨rfl,_,SqL.of JP⟩,_,rfl,xa,tx,rfl,Fw,fun kr zN H4 s4 R1 Gv=>?_⟩;have HJ:=s4 _ _ JP
     have hle:bs.length+zN.length<=100000:=by
      have g1:=Bf.length;have g2:=Gv.length;have g3:(ba (Ls.take (i+1))).length<=au (ba (Ls.take (i+1))):=cy _;have g4:=eU (Ls.take (i+1));have g5:=kD (i+1) Ls
      have g6:ba (Ls.take (i+1))=ba (Ls.take i)++tx.kids:=by
       rw [Cp,fT,cD];show _++(tx.kids++ba [])=_;unfold ba;simp
      rw [g6,VO] at g3;rw [g6] at g4;omega
     refine ⟨bn,kr,_,_,rfl,rfl,HJ,SqT.of R1,aq (by rw [Vt,Vt];omega),?_⟩;have k5:KT H4 (upd H4 bn (.lst (bs.map V.ref++zN.map V.ref))):=bx HJ;refine ⟨_,bs++zN,rfl,aG (s3.trans s4) JO,by rw [ad,VN],?_⟩;rw [Cp,fT,cD];refine (Bf.mono ((Same.kt s4).trans k5)).append ?_;have:tx.kids++ba []=tx.kids:=by unfold ba;simp
     rw [this];exact Gv.mono k5
   · rintro σ H3 ⟨c4,bs,rfl,s3,JP,Bf⟩;rw [Vt,Dw,W8] at Bf;refine ⟨_,rfl,aC (ba Ls),by omega,bn,bs,ba Ls,r+1,_,_,rfl,s2.trans s3,JP,Bf,by omega,by omega,rfl⟩
 · have Gb:as=[]:=by
    cases as with
    | nil=>rfl
    | cons y ys=>simp at c
   subst Gb;have Ed:Ls=[]:=Xh.mp HI.length.symm;subst Ed;rw [aC] at BW;refine ⟨_,rfl,?_⟩;have:r=((t.tall:Nat):Int):=by omega
   rw [this];exact k H2 s2
def qy:Sp:=rF
theorem qS:aP P w K mg base CX0 3 T.g_tall_of.f T.g_tall_of.d ["pattern"] qy:=by
 refine T.g_tall_of.F.ok qV (fun vs H Q E h=>?_) (fun zQ A outer s H vs Q E hr h=>?_)
 · obtain ⟨a,t,rfl,_⟩:=h;rfl
 obtain ⟨a,t,rfl,hA,hsz,k⟩:=h;refine ⟨_,(aj (aB (pcF T.g_tall (vR T) hr (ac (pv 0) ae)))),?_⟩
 try dsimp only [Ab,zL]
 exact ⟨_,rfl,a,t,rfl,hA,hsz,k⟩
inductive iS (vs:List V) (H:Hp) (Q:VK) (_E:XK):Prop
 | mk (a:Vy) (t:Th) (zS:vs=[.ref a]) (zT:At H t a) (zX:t.size<=100000) (Af:t.tall<=150) (Av:∀ H',L2.Same H H'->Q (.int ((t.walk.filter Th.isKnot).length:Nat)) H'):iS  vs H Q _E
def pB:Sp:=iS
theorem pi:aP P w K mg base CX0 3 T.g_knots_of.f T.g_knots_of.d ["pattern"] pB:=by
 refine T.g_knots_of.F.ok pO (fun vs H Q E h=>?_) (fun zQ A outer s H vs Q E hr h=>?_)
 · obtain ⟨a,t,rfl,_⟩:=h;rfl
 obtain ⟨a,t,rfl,hA,hsz,An,k⟩:=h;refine ⟨_,(aj (aB (az ay rfl T.n_len Wd (ac (bA (N:=[Vx "part"]) (js:=[none]) (g:=(aD 0)) (tt:=(fun σ H Q=>(jU lK [] E0 (bz (bC 0) dk)) σ H fun x H1=>∃ k,vh K x H1 k/\Q k H1)) (te:=(bC 0)) rfl (bO rfl (by decide +kernel) (by decide +kernel) rfl rfl rfl) (cm (pcF T.g_walked (mT T) hr (ac (pv 0) ae))) (fun _ _ _ _ _ _=>(ar (i:=0) zq rfl (VQ rfl))) (aN rfl) (fun _ _ _ _ _ _=>ku (aU (pcF T.g_is_knot (qQ T) hr (ac (pv 0) ae)) (fun _=>rfl))) (fun _ _ _ _ _ _=>(pv 0))) ae)))),?_⟩
 try dsimp only [Ab,zL]
 refine ⟨_,rfl,a,t,rfl,hA,hsz,fun r as H1 s1 nr er hw=>⟨r,rfl,⟨_,SqL.of er⟩,?_⟩⟩;have C4:as.length=t.walk.length:=hw.length;have U0:=Th.walk_len t;have Ef:(t.walk.zip as).length=(as.map V.ref).length:=by rw [List.length_zip,Vt];omega
 have EU:∀ (i:Nat) (x:V) (z:Th×Vy),(as.map V.ref)[i]?=some x->(t.walk.zip as)[i]?=some z->x=.ref z.2/\At H1 z.1 z.2/\z.1.tall<=150:=by
  intro i x z hx hz;obtain ⟨xa,rfl,Ee⟩:=aM hx;obtain ⟨tx,Fv,Fw⟩:=hw.get Ee;rw [X3] at hz;obtain ⟨g1,g2⟩:=hz;rw [Fv] at g1;rw [Ee] at g2;cases g1;cases g2;refine ⟨rfl,Fw,?_⟩;have:=sU t z.1 (VD Fv);omega
 refine nV (t.walk.zip as) (fun z=>z.1.isKnot) (fun z=>.ref z.2) (SqL.of er) Ef (by rw [Vt];omega) (fun i x z H2 R hx hz sm r=>?_) (fun i x z H2 R hx hz _ sm r=>?_) (fun D hD=>?_)
 · obtain ⟨rfl,g2,g3⟩:=EU i x z hx hz;exact ⟨_,rfl,z.2,z.1,rfl,g2.mono (Same.kt sm),g3,_,rfl,r⟩
 · obtain ⟨rfl,g2,g3⟩:=EU i x z hx hz;exact ⟨_,rfl,r⟩
 · refine ⟨D,_,rfl,.inl (SqL.of ad),?_⟩
   have e:(((t.walk.zip as).filter fun z=>z.1.isKnot).map fun z=>V.ref z.2).length=(t.walk.filter Th.isKnot).length:=by
    rw [Vt];have h1:t.walk=(t.walk.zip as).map Prod.fst:=by rw [List.map_fst_zip (by omega)]
    have h2:t.walk.filter Th.isKnot=((t.walk.zip as).filter fun z=>z.1.isKnot).map Prod.fst:=by
     conv=>lhs;rw [h1]
     rw [List.filter_map];rfl
    rw [h2,Vt]
   rw [e];exact k _ (s1.trans (ag hD _))
inductive kL (vs:List V) (H:Hp) (Q:VK) (_E:XK):Prop
 | mk (b:Vy) (v1 v2 v3 v4:V) (zS:vs=[.ref b]) (zT:H b=some (.tup [v1,v2,v3,v4])) (zX:Q v1 H):kL  vs H Q _E
def tT:Sp:=kL
inductive iI (vs:List V) (H:Hp) (Q:VK) (_E:XK):Prop
 | mk (b:Vy) (v1 v2 v3 v4:V) (zS:vs=[.ref b]) (zT:H b=some (.tup [v1,v2,v3,v4])) (zX:Q v4 H):iI  vs H Q _E
def pT:Sp:=iI
theorem nq:aP P w K mg base CX0 1 T.g_ins_of.f T.g_ins_of.d ["book"] tT:=by
 refine T.g_ins_of.F.ok sX (fun vs H Q E h=>?_) (fun zQ A outer s H vs Q E hr h=>?_)
 · obtain ⟨b,v1,v2,v3,v4,rfl,_⟩:=h;rfl
 obtain ⟨b,v1,v2,v3,v4,rfl,e,q⟩:=h;refine ⟨_,(aj (aB (aK aL (pv 0) am (fun _ _=>rfl)))),?_⟩
 try dsimp only [Ab,zL]
 exact ⟨_,rfl,b,_,0,v1,rfl,rfl,SqT.of e,at0,q⟩
theorem jO:aP P w K mg base CX0 1 T.g_rules_of.f T.g_rules_of.d ["book"] pT:=by
 refine T.g_rules_of.F.ok p6 (fun vs H Q E h=>?_) (fun zQ A outer s H vs Q E hr h=>?_)
 · obtain ⟨b,v1,v2,v3,v4,rfl,_⟩:=h;rfl
 obtain ⟨b,v1,v2,v3,v4,rfl,e,q⟩:=h;refine ⟨_,(aj (aB (aK aL (pv 0) am (fun _ _=>rfl)))),?_⟩
 try dsimp only [Ab,zL]
 exact ⟨_,rfl,b,_,3,v4,rfl,rfl,SqT.of e,bK (j:=3) rfl,q⟩
inductive jJ (vs:List V) (H:Hp) (Q:VK) (_E:XK):Prop
 | mk (b:Vy) (v1 v2 v3 v4:V) (zS:vs=[.ref b]) (zT:H b=some (.tup [v1,v2,v3,v4])) (zX:Q v3 H):jJ  vs H Q _E
def qX:Sp:=jJ
def t5:Sp:=fun vs H Q _=>∃ v:V,vs=[v]/\∀ p,H p=none->Q (.ref p) (upd H p (.tup [.str (Vx ""),v]))
def qt:Sp:=fun vs H Q _=>∃ s:Int,vs=[.int s]/\∀ p,H p=none->Q (.ref p) (upd H p (.tup [.str q,.int s,.int 0]))
theorem gN:aP P w K mg base CX0 1 T.g_head_of.f T.g_head_of.d ["book"] qX:=by
 refine T.g_head_of.F.ok qK (fun vs H Q E h=>?_) (fun zQ A outer s H vs Q E hr h=>?_)
 · obtain ⟨b,v1,v2,v3,v4,rfl,_⟩:=h;rfl
 obtain ⟨b,v1,v2,v3,v4,rfl,e,q⟩:=h;refine ⟨_,(aj (aB (aK aL (pv 0) am (fun _ _=>rfl)))),?_⟩
 try dsimp only [Ab,zL]
 exact ⟨_,rfl,b,_,2,v3,rfl,rfl,SqT.of e,bK (j:=2) rfl,q⟩
theorem pq:aP P w K mg base CX0 1 T.g_above.f T.g_above.d ["tree"] t5:=by
 refine T.g_above.F.ok uM (fun vs H Q E h=>?_) (fun zQ A outer s H vs Q E hr h=>?_)
 · obtain ⟨v,rfl,_⟩:=h;rfl
 obtain ⟨v,rfl,q⟩:=h;refine ⟨_,(aj (aB (aO (ac eR (ac (pv 0) ae))))),?_⟩
 try dsimp only [Ab,zL]
 exact ⟨_,rfl,aq (by show 2<=1000000;decide),fun p hp=>q p hp⟩
theorem rm:aP P w K mg base CX0 1 T.g_call_of.f T.g_call_of.d ["state"] qt:=by
 refine T.g_call_of.F.ok qW (fun vs H Q E h=>?_) (fun zQ A outer s H vs Q E hr h=>?_)
 · obtain ⟨v,rfl,_⟩:=h;rfl
 obtain ⟨v,rfl,q⟩:=h;refine ⟨_,(aj (aB (aO (ac (bp (v:=.str (Vx "?")) rfl T.c_CALL_SIGN.choose_spec ⟨_,rfl⟩) (ac (pv 0) (ac am ae)))))),?_⟩
 try dsimp only [Ab,zL]
 exact ⟨_,rfl,aq (by show 3<=1000000;decide),fun p hp=>q p hp⟩
inductive iy (vs:List V) (H:Hp) (Q:VK) (_E:XK):Prop
 | mk (a:Vy) (t:Th) (zS:vs=[.ref a]) (zT:At H t a) (zX:t.size<=10000) (Af:t.tall<=150) (Av:∀ (r d:Vy) (es:CE) (H':Hp),L2.Same H H'->H d=none->H' r=some (.tup [.int ((t.walk.filter Th.isKnot).length:Nat),.ref d])->H' d=some (.dT (dE es))->TimesE (callsOf (t.pl [])) es->Q (.ref r) H'):iy  vs H Q _E
def jX:Sp:=iy
inductive gy (vs:List V) (H:Hp) (Q:VK) (_E:XK):Prop
 | mk (a:Vy) (t:Th) (zS:vs=[.ref a]) (zT:At H t a) (zX:t.size<=10000) (Af:t.tall<=150) (Av:∀ (r d:Vy) (es:CE) (H':Hp),L2.Same H H'->H d=none->H' r=some (.tup [.int (t.tall:Nat),.ref d])->H' d=some (.dT (dE es))->DepthE (callsOf (t.pl [])) es->Q (.ref r) H'):gy  vs H Q _E
def iQ:Sp:=gy
theorem l4 {α:Type} {l:List α} {i:Nat} {x:α} (h:l[i]?=some x):l.take (i+1)=l.take i++[x]:=by rw [WY,h];rfl
theorem pM:aP P w K mg base CX0 4 T.g_times_in.f T.g_times_in.d ["pattern"] jX:=by
 refine T.g_times_in.F.ok dJ (fun vs H Q E h=>?_) (fun zQ A outer s H vs Q E hr h=>?_)
 · obtain ⟨a,t,rfl,_⟩:=h;rfl
 obtain ⟨a,t,rfl,hA,hsz,An,k⟩:=h
 refine ⟨_,(ai (aA (i:=1) dJ.nd rfl (VQ rfl) ij)
  (ai (bN We rfl (cm (pcF T.g_calls_in (jR T) hr (ac (pv 0) ae))) (bm rfl (aw (ar (i:=2) dJ.nd rfl (VQ rfl)) (aw (ar (i:=3) dJ.nd rfl (VQ rfl)) aR))) (aj (eL (dq hr) (pv 1) (pv 3) (aE bE (pV (dq hr) (pv 1) (pv 3) am ⟨rfl,rfl,rfl,rfl⟩) am) rfl)))
  (aj (aB (aO (ac (pcF T.g_knots_of (pi T) hr (ac (pv 0) ae)) (ac (pv 1) ae))))))),?_⟩
 try dsimp only [Ab,zL]
 intro d hd;dsimp only [aD];have s1:L2.Same H (upd H d (.dT [])):=ag hd _;have e1:(upd H d (.dT [])) d=some (.dT (dE [])):=ad;generalize (upd H d (.dT []))=H1 at s1 e1 ⊢;refine ⟨_,rfl,a,t,rfl,hA.mono (Same.kt s1),by omega,by omega,fun r as H2 s2 er B3=>⟨r,rfl,⟨_,SqL.of er⟩,?_⟩⟩;have Aw:=VU B3;have hl:=dD (t.pl []);have Bj:=Th.pl_len [] t;generalize R3:callsOf (t.pl [])=cs at B3 Aw hl k;have Jy:r≠d:=fun z=>by rw [z,s2 _ _ e1] at er;cases er
 refine fN (K:=K) (a:=r) (xs:=as.map V.ref) (fun i σ H3=>Ex3 fun (c3 c4:Option V) (es:CE)=>An7 (σ=[some (.ref a),some (.ref d),c3,c4]) (L2.Same H H3) (H3 r=some (.lst (as.map V.ref))) (CsAt H3 cs as) (H3 d=some (.dT (dE es))) (es.length<=i) (TimesE (cs.take i) es))
  ⟨none,none,[],rfl,s1.trans s2,er,B3,s2 _ _ e1,VG _,by rw [YE];exact TimesE.nil⟩ (fun i σ H3 _ ⟨_,_,_,_,_,e,_,_,_,_⟩=>SqL.of e) ?_ ?_
 · rintro i x σ H3 hx ⟨c3,c4,es,rfl,s3,Eg,Cf,CV,hlen,AI⟩;refine hid fun ZZ kZ=>?_;obtain ⟨ca,rfl,BV⟩:=aM hx;obtain ⟨⟨pl,sn,kn⟩,hc,pa,LA,ec,ep,Fx⟩:=P2.get' Cf BV;refine kZ ?_;have BH:i<10000:=by have:=(Vz.mp hc).1;omega
   refine ⟨ca,_,rfl,SqT.of ec,rfl,_,_,rfl,_,_,rfl,rfl,?_⟩;dsimp only [aD];have HK:H3 LA=some (.tup ((ky (sn,kn)).map kV)):=Fx;refine ⟨_,rfl,d,rfl,.inr ⟨_,.inl CV⟩,_,rfl,_,DGet.t CV HK,?_⟩;rw [oM];have hg:((ck es (sn,kn)).map V.int).getD (.int 0)=.int ((ck es (sn,kn)).getD 0):=by cases ck es (sn,kn) <;> rfl
   rw [hg];refine ⟨_,_,rfl,rfl,_,rfl,_,rfl,d,_,rfl,DPut.t CV HK (aI (by unfold dE;rw [Vt];omega)),?_⟩;rw [sj];have k6:KT H3 (upd H3 d (.dT (dE (dS es (sn,kn) ((ck es (sn,kn)).getD 0+1))))):=fun b xs e=>by rw [af (aJ e CV (fun z=>nomatch z))];exact e
   refine ⟨_,_,_,rfl,aG s3 hd,by rw [af Jy];exact Eg,Cf.mono k6,ad,?_,?_⟩
   · have:=qi es (sn,kn) ((ck es (sn,kn)).getD 0+1);omega
   · rw [l4 hc];exact AI.put (pl,sn,kn)
 · rintro σ H3 ⟨c3,c4,es,rfl,s3,Eg,Cf,CV,hlen,AI⟩;rw [W0 (by rw [Vt];omega)] at AI;refine ⟨_,rfl,a,t,rfl,hA.mono (Same.kt s3),by omega,An,fun H4 s4=>⟨_,rfl,aq (by show 2<=1000000;decide),fun p hp=>?_⟩⟩;have s5:=ag hp (.tup [.int ((t.walk.filter Th.isKnot).length:Nat),.ref d]);exact k p d es _ (s3.trans (s4.trans s5)) hd ad (s5 _ _ (s4 _ _ CV)) AI
theorem oo:aP P w K mg base CX0 4 T.g_depths_in.f T.g_depths_in.d ["pattern"] iQ:=by
 refine T.g_depths_in.F.ok cV (fun vs H Q E h=>?_) (fun zQ A outer s H vs Q E hr h=>?_)
 · obtain ⟨a,t,rfl,_⟩:=h;rfl
 obtain ⟨a,t,rfl,hA,hsz,An,k⟩:=h
 refine ⟨_,(ai (aA (i:=1) cV.nd rfl (VQ rfl) ij)
  (ai (bN We rfl (cm (pcF T.g_calls_in (jR T) hr (ac (pv 0) ae))) (bm rfl (aw (ar (i:=2) cV.nd rfl (VQ rfl)) (aw (ar (i:=3) cV.nd rfl (VQ rfl)) aR))) (aj (eL (dq hr) (pv 1) (pv 3) (az (jB rfl) rfl T.n_max X1 (ac (az ay rfl T.n_len Wd (ac (pv 2) ae)) (ac (pV (dq hr) (pv 1) (pv 3) am ⟨rfl,rfl,rfl,rfl⟩) ae))) rfl)))
  (aj (aB (aO (ac (pcF T.g_tall_of (qS T) hr (ac (pv 0) ae)) (ac (pv 1) ae))))))),?_⟩
 try dsimp only [Ab,zL]
 intro d hd;dsimp only [aD];have s1:L2.Same H (upd H d (.dT [])):=ag hd _;have e1:(upd H d (.dT [])) d=some (.dT (dE [])):=ad;generalize (upd H d (.dT []))=H1 at s1 e1 ⊢;refine ⟨_,rfl,a,t,rfl,hA.mono (Same.kt s1),by omega,by omega,fun r as H2 s2 er B3=>⟨r,rfl,⟨_,SqL.of er⟩,?_⟩⟩;have Aw:=VU B3;have hl:=dD (t.pl []);have Bj:=Th.pl_len [] t;generalize R3:callsOf (t.pl [])=cs at B3 Aw hl k;have Jy:r≠d:=fun z=>by rw [z,s2 _ _ e1] at er;cases er
 refine fN (K:=K) (a:=r) (xs:=as.map V.ref) (fun i σ H3=>Ex3 fun (c3 c4:Option V) (es:CE)=>An7 (σ=[some (.ref a),some (.ref d),c3,c4]) (L2.Same H H3) (H3 r=some (.lst (as.map V.ref))) (CsAt H3 cs as) (H3 d=some (.dT (dE es))) (es.length<=i) (DepthE (cs.take i) es))
  ⟨none,none,[],rfl,s1.trans s2,er,B3,s2 _ _ e1,VG _,by rw [YE];exact DepthE.nil⟩ (fun i σ H3 _ ⟨_,_,_,_,_,e,_,_,_,_⟩=>SqL.of e) ?_ ?_
 · rintro i x σ H3 hx ⟨c3,c4,es,rfl,s3,Eg,Cf,CV,hlen,AI⟩;refine hid fun ZZ kZ=>?_;obtain ⟨ca,rfl,BV⟩:=aM hx;obtain ⟨⟨pl,sn,kn⟩,hc,pa,LA,ec,ep,Fx⟩:=P2.get' Cf BV;refine kZ ?_;have BH:i<10000:=by have:=(Vz.mp hc).1;omega
   refine ⟨ca,_,rfl,SqT.of ec,rfl,_,_,rfl,_,_,rfl,rfl,?_⟩;dsimp only [aD];have HK:H3 LA=some (.tup ((ky (sn,kn)).map kV)):=Fx;refine ⟨_,rfl,pa,_,rfl,.inr (SqT.of ep),_,rfl,d,rfl,.inr ⟨_,.inl CV⟩,_,rfl,_,DGet.t CV HK,?_⟩;rw [oM];have hg:((ck es (sn,kn)).map V.int).getD (.int 0)=.int ((ck es (sn,kn)).getD 0):=by cases ck es (sn,kn) <;> rfl
   rw [hg];refine ⟨_,_,rfl,?_⟩;simp only [Vt];refine ⟨_,rfl,_,rfl,d,_,rfl,DPut.t CV HK (aI (by unfold dE;rw [Vt];omega)),?_⟩;rw [sj];generalize hv:(if (ck es (sn,kn)).getD 0 > ((pl.length:Nat):Int) then (ck es (sn,kn)).getD 0 else ((pl.length:Nat):Int))=v;have k6:KT H3 (upd H3 d (.dT (dE (dS es (sn,kn) v)))):=fun b xs e=>by rw [af (aJ e CV (fun z=>nomatch z))];exact e
   refine ⟨_,_,_,rfl,aG s3 hd,by rw [af Jy];exact Eg,Cf.mono k6,ad,?_,?_⟩
   · have:=qi es (sn,kn) v;omega
   · rw [l4 hc,<- hv];exact AI.put (pl,sn,kn)
 · rintro σ H3 ⟨c3,c4,es,rfl,s3,Eg,Cf,CV,hlen,AI⟩;rw [W0 (by rw [Vt];omega)] at AI;refine ⟨_,rfl,a,t,rfl,hA.mono (Same.kt s3),by omega,fun H4 s4=>⟨_,rfl,aq (by show 2<=1000000;decide),fun p hp=>?_⟩⟩;have s5:=ag hp (.tup [.int (t.tall:Nat),.ref d]);exact k p d es _ (s3.trans (s4.trans s5)) hd ad (s5 _ _ (s4 _ _ CV)) AI
inductive fc (vs:List V) (H:Hp) (Q:VK) (_E:XK):Prop
 | mk (pa d ca:Vy) (own:Int) (es:CE) (Ak:List (List Key×V)) (f:Int->Int->Int) (zS:vs=[.ref pa,.ref ca]) (zT:H pa=some (.tup [.int own,.ref d])) (zX:H d=some (.dT (dE es))) (Af:H ca=some (.dT Ak)) (Av:d≠ca) (AZ:es.length<=10000) (Bz:(∀ e∈es,0<=e.2/\e.2<=10000/\aS Ak (ky e.1)=some (.int (f e.1.1 e.1.2)))) (Ct:∀ H',L2.Same H H'->Q (.int (own+smE f es)) H'):fc  vs H Q _E
def fY:Sp:=fc
inductive d7 (vs:List V) (H:Hp) (Q:VK) (_E:XK):Prop
 | mk (pa d ca:Vy) (own:Int) (es:CE) (Ak:List (List Key×V)) (f:Int->Int->Int) (zS:vs=[.ref pa,.ref ca]) (zT:H pa=some (.tup [.int own,.ref d])) (zX:H d=some (.dT (dE es))) (Af:H ca=some (.dT Ak)) (Av:d≠ca) (AZ:es.length<=10000) (Bz:(∀ e∈es,aS Ak (ky e.1)=some (.int (f e.1.1 e.1.2)))) (Ct:∀ (H':Hp) (M:Int),L2.Same H H'->M∈own::es.map (fun e=>e.2+f e.1.1 e.1.2)->(∀ a∈own::es.map (fun e=>e.2+f e.1.1 e.1.2),a<=M)->Q (.int M) H'):d7  vs H Q _E
def fb:Sp:=d7
theorem lW:aP P w K mg base CX0 2 T.g_count_worth.f T.g_count_worth.d ["pair","counts"] fY:=by
 refine T.g_count_worth.F.ok dz (fun vs H Q E h=>?_) (fun zQ A outer s H vs Q E hr h=>?_)
 · obtain ⟨pa,d,ca,own,es,Ak,f,rfl,_⟩:=h;rfl
 obtain ⟨pa,d,ca,own,es,Ak,f,rfl,Du,ed,DQ,HL,hlen,AI,k⟩:=h
 refine ⟨_,(ai (fS (pv 0) (bm rfl (aw (ar (i:=2) dz.nd rfl (VQ rfl)) (aw (ar (i:=3) dz.nd rfl (VQ rfl)) aR))))
  (aj (aB (aE bE (pv 2) (az (o5 rfl) rfl T.n_sum PyProof.Rows.boot_sum (ac (nG (bA (N:=[Vx "call",Vx "many",Vx "counts"]) (js:=[none,none,some 1]) (g:=(qd K 2 (dG (aD 0) (dG (aD 1) pH)))) (tt:=aQ) (te:=(tOp (rI CMul fun i j=>.int (i * j)) (bC 1) (uj (bC 2) (bC 0)))) rfl (bO rfl (by decide +kernel) (by decide +kernel) rfl rfl rfl) (nE (pv 3)) (fun _ _ _ _ _ _=>(bm rfl (aw (ar (i:=0) yp rfl (VQ rfl)) (aw (ar (i:=1) yp rfl (VQ rfl)) aR)))) (i7 (cp bw (aN rfl) (cp bw (aN rfl) jc))) (fun _ _ _ _ _ _=>bc) (fun _ _ _ _ _ _=>(aE dR (pv 1) (iM (dq hr) (pv 2) (pv 0) (fun _ _=>rfl)))))) ae)))))),?_⟩
 try dsimp only [Ab,zL]
 refine ⟨_,rfl,pa,_,rfl,SqT.of Du,rfl,_,_,rfl,_,_,rfl,rfl,?_⟩;dsimp only [aD];refine ⟨_,rfl,?_⟩;change kS _ _ _ _;refine jL (d:=d) (es:=es) (val:=fun e=>e.2 * f e.1.1 e.1.2) (fun R hR=>⟨_,rfl,hR⟩) ed hlen (fun i e p b H2 R he sb ep eb hR=>?_) (fun D H2 s2 eD=>?_)
 · obtain ⟨h1,h2,h3⟩:=AI e (VD he);refine ⟨p,_,rfl,SqT.of ep,rfl,_,_,rfl,_,_,rfl,rfl,?_⟩;dsimp only [aD];exact ⟨_,rfl,_,rfl,_,rfl,ca,_,rfl,by have:=DGet.t (sb _ _ HL.symm DQ) eb;rw [h3] at this;exact this,_,_,rfl,rfl,.inl ⟨by omega,by omega⟩,hR⟩
 · exact ⟨D,_,rfl,SqL.of eD,_,_,rfl,rfl,k H2 s2⟩
theorem kf:aP P w K mg base CX0 2 T.g_height_worth.f T.g_height_worth.d ["pair","heights"] fb:=by
 refine T.g_height_worth.F.ok cS (fun vs H Q E h=>?_) (fun zQ A outer s H vs Q E hr h=>?_)
 · obtain ⟨pa,d,ca,own,es,Ak,f,rfl,_⟩:=h;rfl
 obtain ⟨pa,d,ca,own,es,Ak,f,rfl,Du,ed,DQ,HL,hlen,AI,k⟩:=h
 refine ⟨_,(ai (fS (pv 0) (bm rfl (aw (ar (i:=2) cS.nd rfl (VQ rfl)) (aw (ar (i:=3) cS.nd rfl (VQ rfl)) aR))))
  (aj (aB (az (iV rfl) rfl T.n_max X1 (ac (aE gY (aT (ac (pv 2) ae)) (nG (bA (N:=[Vx "call",Vx "depth",Vx "heights"]) (js:=[none,none,some 1]) (g:=(qd K 2 (dG (aD 0) (dG (aD 1) pH)))) (tt:=aQ) (te:=(tOp (rI0 fun i j=>.int (i+j)) (bC 1) (uj (bC 2) (bC 0)))) rfl (bO rfl (by decide +kernel) (by decide +kernel) rfl rfl rfl) (nE (pv 3)) (fun _ _ _ _ _ _=>(bm rfl (aw (ar (i:=0) yb rfl (VQ rfl)) (aw (ar (i:=1) yb rfl (VQ rfl)) aR)))) (i7 (cp bw (aN rfl) (cp bw (aN rfl) jc))) (fun _ _ _ _ _ _=>bc) (fun _ _ _ _ _ _=>(aE bE (pv 1) (iM (dq hr) (pv 2) (pv 0) (fun _ _=>rfl))))))) ae))))),?_⟩
 try dsimp only [Ab,zL]
 refine ⟨_,rfl,pa,_,rfl,SqT.of Du,rfl,_,_,rfl,_,_,rfl,rfl,?_⟩;dsimp only [aD];refine ⟨_,rfl,aq (by show 1<=1000000;decide),fun l hl=>?_⟩;have s1:L2.Same H (upd H l (.lst [.int own])):=ag hl _;have e1:(upd H l (.lst [.int own])) l=some (.lst [.int own]):=ad;generalize (upd H l (.lst [.int own]))=H1 at s1 e1 ⊢;refine jL (d:=d) (es:=es) (val:=fun e=>e.2+f e.1.1 e.1.2) (fun R hR=>⟨_,rfl,hR⟩) (s1 _ _ ed) hlen (fun i e p b H2 R he sb ep eb hR=>?_) (fun D H2 s2 eD=>?_)
 · have h3:=AI e (VD he);refine ⟨p,_,rfl,SqT.of ep,rfl,_,_,rfl,_,_,rfl,rfl,?_⟩;dsimp only [aD];exact ⟨_,rfl,_,rfl,_,rfl,ca,_,rfl,by have:=DGet.t (sb _ _ HL.symm (s1 _ _ DQ)) eb;rw [h3] at this;exact this,_,_,rfl,rfl,hR⟩
 · refine ⟨l,D,_,_,rfl,rfl,s2 _ _ e1,eD,by refine aq ?_;rw [Vt,Vt,Xb];omega,fun r BW=>?_⟩;refine ⟨r,own::es.map (fun e=>e.2+f e.1.1 e.1.2),rfl,SqL.of (by rw [ad];rfl),by simp,fun M hM zY=>k _ M (s1.trans (s2.trans (ag BW _))) hM zY⟩
theorem ut {k:Nat} {A:Wn} (hr:L2.Room k A):A.units+148+4<Ys:=by
 have:=dh hr;omega
inductive fo (C:Vy) (vs:List V) (H:Hp) (Q:VK) (_E:XK):Prop
 | mk (x dx:Vy) (zS:vs=[.ref x]) (zT:H x=some (.ins C dx [])) (zX:∀ (tl al kl:Vy) (H':Hp),SameB x H H'->H tl=none->H al=none->H kl=none->tl≠al->tl≠kl->al≠kl->H' x=some (.ins C dx (lvF tl al kl))->H' tl=some (.lst [])->H' al=some (.lst [])->H' kl=some (.lst [])->Q .non H'):fo C vs H Q _E
def mq (C:Vy):Sp:=fo C
inductive dB (C:Vy) (vs:List V) (H:Hp) (Q:VK) (_E:XK):Prop
 | mk (L:Lv) (ta:Vy) (t:Th) (zS:vs=[.ref L.x,.ref ta]) (zT:LvSh C H L) (zX:At H t ta) (Af:t.tall<=140) (Av:(∀ n∈L.ns,n.t.tall<=140)) (AZ:L.ns.length<=50000) (Bz:∀ (L':Lv) (j:Nat) (n:Nd) (H':Hp),LvSh C H' L'->(L'=L∨∃ aa ka,H aa=none/\H ka=none/\L'=L.add t ta aa ka)->L'.ns[j]?=some n->n.t=t->FrB [L.tl,L.al,L.kl] H H'->Q (.int (j:Nat)) H'):dB C vs H Q _E
def jv (C:Vy):Sp:=dB C
theorem gg:aP P w K mg base CX0 1 T.f_Level_init T.d_Level_init ["self"] (mq T.e_Level):=by
 refine T.F_Level_init.ok mr (fun vs H Q E h=>?_) (fun zQ A outer s H vs Q E hr h=>?_)
 · obtain ⟨x,dx,rfl,_⟩:=h;rfl
 obtain ⟨x,dx,rfl,ex,q⟩:=h
 refine ⟨_,(ai (l5 (pv 0) (aT ae) rfl)
  (ai (l5 (pv 0) (aT ae) rfl)
  (aj (l5 (pv 0) (aT ae) rfl)))),?_⟩
 try dsimp only [Ab,zL]
 refine ⟨aq (by show 0<=1000000;decide),fun tl An=>?_⟩;have Fy:x≠tl:=fun z=>by rw [<- z,ex] at An;cases An
 refine ⟨_,rfl,x,T.e_Level,dx,_,rfl,by rw [af Fy];exact ex,T.cl_Level,T.na_Level_trees,(by show 0<1000;decide),?_⟩;refine ⟨aq (by show 0<=1000000;decide),fun al Ay=>?_⟩;have HM:x≠al:=fun z=>by rw [<- z,ad] at Ay;cases Ay
 have JQ:tl≠al:=fun z=>by rw [<- z,af Fy.symm,ad] at Ay;cases Ay
 rw [af HM.symm,af JQ.symm] at Ay;refine ⟨_,rfl,x,T.e_Level,dx,_,rfl,by rw [af HM];exact ad,T.cl_Level,T.na_Level_asked,(by show 1<1000;decide),?_⟩;refine ⟨aq (by show 0<=1000000;decide),fun kl Ae=>?_⟩;have JR:x≠kl:=fun z=>by rw [<- z,ad] at Ae;cases Ae
 have LB:al≠kl:=fun z=>by rw [<- z,af HM.symm,ad] at Ae;cases Ae
 have LC:tl≠kl:=fun z=>by rw [<- z,af Fy.symm,af JQ,af Fy.symm,ad] at Ae;cases Ae
 rw [af JR.symm,af LB.symm,af JR.symm,af LC.symm] at Ae;refine ⟨_,rfl,x,T.e_Level,dx,_,rfl,by rw [af JR];exact ad,T.cl_Level,T.na_Level_kid_spots,(by show 2<1000;decide),?_⟩;refine q tl al kl _ (fun b o hb e=>?_) An Ay Ae JQ LC LB ?_ ?_ ?_ ?_
 · rw [af hb,af (av e Ae),af hb,af (av e Ay),af hb,af (av e An)];exact e
 · rw [ad];exact congrArg some (congrArg (HO.ins T.e_Level dx) (vT tl al kl))
 · rw [af Fy.symm,af LC,af Fy.symm,af JQ,af Fy.symm,ad]
 · rw [af HM.symm,af LB,af HM.symm,ad]
 · rw [af JR.symm,ad]
theorem dZ:aP P w K mg base CX0 2 T.f_Level_spot_of T.d_Level_spot_of ["self","tree"] (jv T.e_Level):=by
 refine T.F_Level_spot_of.ok jl (fun vs H Q E h=>?_) (fun zQ A outer s H vs Q E hr h=>?_)
 · obtain ⟨L,ta,t,rfl,_⟩:=h;rfl
 obtain ⟨L,ta,t,rfl,hL,hA,An,R4,hlen,k⟩:=h
 refine ⟨_,(ai (bW (bt (sO (B:=150) (dh hr)) (pv 1) (cf (pv 0) rfl) (by with_unfolding_all rfl)) (ai (bd (cv V0 Wt Ws bq (cf (pv 0) rfl) (ac (pv 1) ae)))
  (ai (bd (cv V0 Wt Ws bq (cf (pv 0) rfl) (ac pJ ae)))
  (aj (bd (cv V0 Wt Ws bq (cf (pv 0) rfl) (ac pJ ae)))))) bv)
  (aj (aB (cv V0 Y4 PySem.F.type_list_index (tq (B:=148) (ut hr)) (cf (pv 0) rfl) (ac (pv 1) ae))))),?_⟩
 try dsimp only [Ab,zL]
 have Eh:∀ a b:Th,a.dv=b.dv->a=b:=fun a b=>Th.dv_inj
 have CA:∀ u∈L.ns.map (·.t),u.tall<=140:=fun u hu=>by
  obtain ⟨n,hn,rfl⟩:=V4.mp hu;exact R4 n hn
 have R5:(L.ns.map fun n=>V.ref n.ta).length<V1:=aI (by rw [Vt];omega);refine cZ (fun zJ H'=>An2 (zJ=[some (.ref L.x),some (.ref ta)]) (Ex1 fun (L':Lv)=>An5 (LvSh T.e_Level H' L') ((L'=L∨∃ aa ka,H aa=none/\H ka=none/\L'=L.add t ta aa ka)) (t∈L'.ns.map (·.t)) (At H' t ta) (FrB [L.tl,L.al,L.kl] H H'))) (fun kk hk=>?_) ?_
 · refine cE (fun b H'=>An2 (H=H') ((b=true↔t∉L.ns.map (·.t)))) (fun k2 Bl=>?_) (fun H' hb=>?_) (fun H' hb=>?_)
   · refine ⟨_,rfl,_,rfl,L.x,T.e_Level,L.dx,_,_,rfl,hL.ins,T.cl_Level,T.na_Level_trees,nD _ _ _,L.tl,_,_,_,rfl,SqL.of hL.tl,At.dv hA,hL.dats,WI (eN CA) (by decide),fun r hr=>⟨r,rfl,Bl _ _ ⟨rfl,hr.trans (not_congr ⟨fun z=>?_,fun z=>V4.mpr ⟨_,z,rfl⟩⟩)⟩⟩⟩;obtain ⟨u,hu,e⟩:=V4.mp z;exact Eh _ _ e ▸ hu
   · obtain ⟨rfl,hb⟩:=hb;have AY:=hb.mp rfl;refine ⟨_,rfl,L.x,T.e_Level,L.dx,_,_,rfl,hL.ins,T.cl_Level,T.na_Level_trees,nD _ _ _,.inl ⟨rfl,_,SqL.of hL.tl⟩,_,rfl,L.tl,_,_,rfl,rfl,hL.tl,R5,?_⟩;have nxt:L.x≠L.tl:=aJ hL.ins hL.tl (fun z=>nomatch z);have R6:L.x≠L.al:=aJ hL.ins hL.al (fun z=>nomatch z);have U1:L.x≠L.kl:=aJ hL.ins hL.kl (fun z=>nomatch z);have f1:FrB [L.tl,L.al,L.kl] H (upd H L.tl (.lst ((L.ns.map fun n=>V.ref n.ta)++[.ref ta]))):=FrB.set (VI ..);have x1:(upd H L.tl (.lst ((L.ns.map fun n=>V.ref n.ta)++[.ref ta]))) L.x=_:=(af nxt).trans hL.ins;have a1:(upd H L.tl (.lst ((L.ns.map fun n=>V.ref n.ta)++[.ref ta]))) L.al=_:=(af hL.n1.symm).trans hL.al;have k1:(upd H L.tl (.lst ((L.ns.map fun n=>V.ref n.ta)++[.ref ta]))) L.kl=_:=(af hL.n2.symm).trans hL.kl;have t1:(upd H L.tl (.lst ((L.ns.map fun n=>V.ref n.ta)++[.ref ta]))) L.tl=some (.lst ((L.ns.map fun n=>V.ref n.ta)++[.ref ta])):=ad
     have g1:∀ b,(upd H L.tl (.lst ((L.ns.map fun n=>V.ref n.ta)++[.ref ta]))) b=none->H b=none:=fun b e=>by
      by_cases z:b=L.tl
      · rw [z,ad] at e;cases e
      · rw [af z] at e;exact e
     generalize (upd H L.tl (.lst ((L.ns.map fun n=>V.ref n.ta)++[.ref ta])))=H1 at f1 x1 a1 k1 t1 g1 ⊢;refine ⟨_,rfl,L.x,T.e_Level,L.dx,_,_,rfl,x1,T.cl_Level,T.na_Level_asked,qj _ _ _,.inl ⟨rfl,_,SqL.of a1⟩,fun aa CW=>⟨L.al,_,_,rfl,rfl,(ag CW _) _ _ a1,aI (by rw [Vt];omega),?_⟩⟩;have O3:=g1 _ CW;have q1:L.tl≠aa:=fun z=>by rw [<- z,t1] at CW;cases CW
     have q2:L.al≠aa:=fun z=>by rw [<- z,a1] at CW;cases CW
     have q3:L.kl≠aa:=fun z=>by rw [<- z,k1] at CW;cases CW
     have q4:L.x≠aa:=fun z=>by rw [<- z,x1] at CW;cases CW
     have f2:FrB [L.tl,L.al,L.kl] H (upd (upd H1 aa (.dK [])) L.al (.lst ((L.ns.map fun n=>V.ref n.aa)++[.ref aa]))):=f1.trans ((FrB.of (ag CW _)).trans (FrB.set (Vv _ (VI ..))));have x2:(upd (upd H1 aa (.dK [])) L.al (.lst ((L.ns.map fun n=>V.ref n.aa)++[.ref aa]))) L.x=_:=(af R6).trans ((af q4).trans x1);have k2:(upd (upd H1 aa (.dK [])) L.al (.lst ((L.ns.map fun n=>V.ref n.aa)++[.ref aa]))) L.kl=_:=(af hL.n3.symm).trans ((af q3).trans k1);have t2:(upd (upd H1 aa (.dK [])) L.al (.lst ((L.ns.map fun n=>V.ref n.aa)++[.ref aa]))) L.tl=_:=(af hL.n1).trans ((af q1).trans t1);have a2:(upd (upd H1 aa (.dK [])) L.al (.lst ((L.ns.map fun n=>V.ref n.aa)++[.ref aa]))) L.al=_:=ad;have d2:(upd (upd H1 aa (.dK [])) L.al (.lst ((L.ns.map fun n=>V.ref n.aa)++[.ref aa]))) aa=some (.dK []):=(af q2.symm).trans ad
     have g2:∀ b,(upd (upd H1 aa (.dK [])) L.al (.lst ((L.ns.map fun n=>V.ref n.aa)++[.ref aa]))) b=none->H b=none:=fun b e=>by
      by_cases z:b=L.al
      · rw [z,ad] at e;cases e
      · rw [af z] at e;by_cases z2:b=aa
        · rw [z2,ad] at e;cases e
        · rw [af z2] at e;exact g1 _ e
     generalize (upd (upd H1 aa (.dK [])) L.al (.lst ((L.ns.map fun n=>V.ref n.aa)++[.ref aa])))=H2 at f2 x2 k2 t2 a2 d2 g2 ⊢;refine ⟨_,rfl,L.x,T.e_Level,L.dx,_,_,rfl,x2,T.cl_Level,T.na_Level_kid_spots,uC _ _ _,.inl ⟨rfl,_,SqL.of k2⟩,fun ka Ag=>⟨L.kl,_,_,rfl,rfl,(ag Ag _) _ _ k2,aI (by rw [Vt];omega),?_⟩⟩;have O4:=g2 _ Ag;have r1:L.tl≠ka:=fun z=>by rw [<- z,t2] at Ag;cases Ag
     have r2:L.al≠ka:=fun z=>by rw [<- z,a2] at Ag;cases Ag
     have r3:L.kl≠ka:=fun z=>by rw [<- z,k2] at Ag;cases Ag
     have r4:aa≠ka:=fun z=>by rw [<- z,d2] at Ag;cases Ag
     have f3:FrB [L.tl,L.al,L.kl] H (upd (upd H2 ka (.dK [])) L.kl (.lst ((L.ns.map fun n=>V.ref n.ka)++[.ref ka]))):=f2.trans ((FrB.of (ag Ag _)).trans (FrB.set (Vv _ (Vv _ (VI ..)))));have Ei:=hL.add f3 O3 O4 r4 hA AY ((af hL.n2).trans ((af r1).trans t2)) ((af hL.n3).trans ((af r2).trans a2)) ad ((af q3.symm).trans ((af r4).trans d2)) ((af r3.symm).trans ad);exact hk _ _ ⟨rfl,_,Ei,.inr ⟨aa,ka,O3,O4,rfl⟩,by show t∈(L.ns++[_]).map _;simp,Ei.tr ⟨t,ta,aa,ka,[],[]⟩ (V5 _ (VJ.mpr rfl)),f3⟩
   · obtain ⟨rfl,hb⟩:=hb;have C6:t∈L.ns.map (·.t):=Classical.byContradiction fun z=>by cases hb.mpr z
     exact hk _ _ ⟨rfl,L,hL,.inl rfl,C6,hA,FrB.refl⟩
 rintro zJ H' ⟨rfl,L',Ei,Cd,C6,R7,hf⟩;refine hid fun ZZ kZ=>?_;obtain ⟨n,hn,Ej⟩:=V4.mp C6;obtain ⟨j,hj⟩:=V8.mp hn;refine kZ ?_;have hx:L'.x=L.x:=by rcases Cd with rfl | ⟨_,_,_,_,rfl⟩ <;> rfl
 have Bi:L'.ns.length<=100000/\∀ u∈L'.ns.map (·.t),u.tall<=140:=by
  rcases Cd with rfl | ⟨aa,ka,_,_,rfl⟩
  · exact ⟨by omega,CA⟩
  · refine ⟨by show (L.ns++[_]).length<=_;rw [VO,Xb];omega,fun u hu=>?_⟩;have Cb:u∈(L.ns++[(⟨t,ta,aa,ka,[],[]⟩:Nd)]).map (fun n:Nd=>n.t):=hu;rw [VN] at Cb;rcases VV.mp Cb with h | h
    · exact CA u h
    · have:u=t:=by simpa using h
      rw [this];exact An
 have JS:((L'.ns.map (·.t)).map Th.dv)[j]?=some t.dv:=by rw [VM,VM,hj,<- Ej];rfl
 have R8:=mF Eh Ei.un;exact ⟨_,rfl,L.x,T.e_Level,L'.dx,_,_,rfl,by rw [<- hx];exact Ei.ins,T.cl_Level,T.na_Level_trees,nD _ _ _,.inl ⟨rfl,_,SqL.of Ei.tl⟩,_,rfl,L'.tl,_,_,_,_,j,rfl,rfl,SqL.of Ei.tl,At.dv R7,Ei.dats,WI (eN Bi.2) (by decide),JS,fun i hi e=>absurd (kF R8 e JS) (by omega),by rw [Vt,Vt];exact Bi.1,k L' j n H' Ei Cd hj Ej hf⟩
inductive fP (P:V3) (w:Wg) (K:VB) (mg:V2->Option VC) (base:WR) (vs:List V) (H:Hp) (Q:VK) (_E:XK):Prop
 | mk (b f:Vy) (ins outs:List (V2×Int)) (head:Th) (rows:List (List Th)) (Cw:Sp) (Dp:DP) (ok:Th->Prop) (zS:vs=[.ref b,.ref f]) (zT:Bk H ins outs head rows b) (zX:bu ins) (Af:rows.length<=100) (Av:(∀ row∈rows,row.length=ins.length/\∀ p∈row,ok p)) (AZ:FvOk P w K mg base CX0 4 f Cw) (Bz:vx Dp Cw ok) (Ct:∀ (td:Vy) (H':Hp),L2.Same H H'->DgTab Dp H' ins rows td->Q (.ref td) H'):fP P w K mg base vs H Q _E
def ml (P:V3) (w:Wg) (K:VB) (mg:V2->Option VC) (base:WR):Sp:=fP P w K mg base
set_option maxHeartbeats 2000000 in
theorem my:aP P w K mg base CX0 5 T.g_digests_of.f T.g_digests_of.d ["book","digest"] (ml P w K mg base):=by
 refine T.g_digests_of.F.ok bU (fun vs H Q E h=>?_) (fun zQ A outer s H vs Q E hr h=>?_)
 · obtain ⟨b,f,ins,outs,head,rows,Cw,Dp,ok,rfl,_⟩:=h;rfl
 obtain ⟨b,f,ins,outs,head,rows,Cw,Dp,ok,rfl,hB,gi,Gr,Bv,JT,Ek,k⟩:=h;refine hid fun ZZ kZ=>?_;obtain ⟨ia,oa,ha,ra,Ac,Ap,AD,hB⟩:=hB;refine kZ ?_
 refine ⟨_,(ai (aA (i:=2) bU.nd rfl (VQ rfl) ij)
  (ai (bN We rfl (rD rfl T.n_enumerate (pcF T.g_rules_of (jO T) hr (ac (pv 0) ae))) (bm rfl (aw (ar (i:=3) bU.nd rfl (VQ rfl)) (aw (ar (i:=4) bU.nd rfl (VQ rfl)) aR))) (aj (bN We rfl (uP rfl T.n_zip (ac (pcF T.g_ins_of (nq T) hr (ac (pv 0) ae)) (ac (pv 4) ae))) (bm rfl (aw (ar (i:=5) bU.nd rfl (VQ rfl)) (aw (ar (i:=6) bU.nd rfl (VQ rfl)) aR))) (aj (eL (dq hr) (pv 2) (aO (ac (pv 3) (ac (aK aL (pv 5) am (fun _ _=>rfl)) ae))) (lb (k:=4) (i:=1) rfl (VQ rfl) (hr.mono (by first | decide | omega)) fQ (ac (pv 6) ae)) rfl)))))
  (aj (aB (pv 2))))),?_⟩
 try dsimp only [Ab,zL]
 intro td O5;dsimp only [aD];have s1:L2.Same H (upd H td (.dT [])):=ag O5 _;have e1:(upd H td (.dT [])) td=some (.dT []):=ad;generalize (upd H td (.dT []))=H1 at s1 e1 ⊢;have R9:rows.length=AD.length:=VU hB.rw;have R':ins.length=Ac.length:=VU hB.inK;refine ⟨_,rfl,b,_,_,_,_,rfl,s1 _ _ hB.bk,ra,rfl,⟨_,SqT.of (s1 _ _ hB.rl)⟩,?_⟩
 refine ug (K:=K) (a:=ra) (xs:=AD.map V.ref) (fun i σ H3=>Ex5 fun (c3 c4 c5 c6:Option V) (tk:List (List Key×V))=>An5 (σ=[some (.ref b),some (.ref f),some (.ref td),c3,c4,c5,c6]) (L2.Same H H3) (H3 td=some (.dT tk)) (tk.length<=8 * i) (yk Dp td H3 ins rows tk i 0))
  ⟨none,none,none,none,[],rfl,s1,e1,Wc _,fun s c row p kd h=>by rcases h with h | ⟨_,h⟩ <;> cases h⟩ (fun i σ H3 _ ⟨_,_,_,_,_,_,s3,_,_,_⟩=>SqT.of (s3 _ _ hB.rl)) ?_ ?_
 · rintro i x pr σ H3 hx Bn ⟨c3,c4,c5,c6,tk,rfl,s3,LD,hlen,zY⟩;refine hid fun ZZ kZ=>?_;obtain ⟨rwa,rfl,LF⟩:=aM hx;obtain ⟨row,Aq,as,O6,Cg⟩:=P2.get' hB.rw LF;have BH:i<100:=by have:=(Vz.mp Aq).1;omega
   obtain ⟨Sa,hok⟩:=Bv row (VD Aq);refine kZ ?_;have HN:=Cg.length;have s4:L2.Same H3 (upd H3 pr (.tup [.int ((i:Nat):Int),.ref rwa])):=ag Bn _;have e4:(upd H3 pr (.tup [.int ((i:Nat):Int),.ref rwa])) pr=some (.tup [.int ((i:Nat):Int),.ref rwa]):=ad;generalize (upd H3 pr (.tup [.int ((i:Nat):Int),.ref rwa]))=H4 at s4 e4 ⊢;have BD:=s3.trans s4;refine ⟨pr,_,rfl,SqT.of e4,rfl,_,_,rfl,_,_,rfl,rfl,?_⟩;dsimp only [aD];refine ⟨_,rfl,b,_,_,_,_,rfl,BD _ _ hB.bk,_,rfl,ia,rwa,rfl,⟨_,SqT.of (BD _ _ hB.inE)⟩,⟨_,SqT.of (BD _ _ O6)⟩,?_⟩
   refine vt (K:=K) (a:=ia) (b:=rwa) (xs:=Ac.map V.ref) (ys:=as.map V.ref) (by rw [Vt,Vt];omega) (fun j σ H5=>Ex3 fun (c5 c6:Option V) (tk:List (List Key×V))=>An5 (σ=[some (.ref b),some (.ref f),some (.ref td),some (.int ((i:Nat):Int)),some (.ref rwa),c5,c6]) (L2.Same H H5) (H5 td=some (.dT tk)) (tk.length<=8 * i+j) (yk Dp td H5 ins rows tk i j))
    ⟨_,_,tk,rfl,BD,s4 _ _ LD,hlen,fun s c row p kd h h1 h2 h3=>by
     obtain ⟨da,a1,a2⟩:=zY s c row p kd h h1 h2 h3;exact ⟨da,a1,a2.same s4⟩⟩ (fun j σ H5 _ ⟨_,_,_,_,s5,_,_,_⟩=>⟨SqT.of (s5 _ _ hB.inE),SqT.of (s5 _ _ O6)⟩) ?_ ?_
   · rintro j x y p2 σ H5 hx hy D7 ⟨c5,c6,tk,rfl,s5,LG,hlen,zY⟩;refine hid fun ZZ kZ=>?_;obtain ⟨ka,rfl,Ag⟩:=aM hx;obtain ⟨pa,rfl,Cc⟩:=aM hy;obtain ⟨⟨nm,cn⟩,hk,ek⟩:=P2.get' hB.inK Ag;obtain ⟨p,hp,LH⟩:=Cg.get Cc;refine kZ ?_;have U2:j<8:=by have:=(Vz.mp hk).1;have:=gi.le;omega
     have s6:L2.Same H5 (upd H5 p2 (.tup [.ref ka,.ref pa])):=ag D7 _;have e6:(upd H5 p2 (.tup [.ref ka,.ref pa])) p2=some (.tup [.ref ka,.ref pa]):=ad;generalize (upd H5 p2 (.tup [.ref ka,.ref pa]))=H6 at s6 e6 ⊢;have HP:=s5.trans s6;refine ⟨p2,_,rfl,SqT.of e6,rfl,_,_,rfl,_,_,rfl,rfl,?_⟩;dsimp only [aD];refine ⟨f,Cw,rfl,JT,_,rfl,Ek H6 p pa _ (LH.mono (Same.kt HP)) (hok p (VD hp)) fun r d own kvs H7 s7 hd er ed Fz=>?_⟩;have O7:=s6 _ _ LG;have Sb:=s7 _ _ O7;have hdt:d≠td:=fun z=>by rw [z,O7] at hd;cases hd
     have JU:H7 ka=some (.tup [.str nm,.int cn]):=(HP.trans s7) _ _ ek;refine ⟨_,rfl,_,rfl,_,rfl,ka,_,0,.str nm,rfl,rfl,SqT.of JU,at0,aq (by show 2<=1000000;decide),fun kp HQ=>?_⟩;have s8:L2.Same H7 (upd H7 kp (.tup [.int ((i:Nat):Int),.str nm])):=ag HQ _;have e8:(upd H7 kp (.tup [.int ((i:Nat):Int),.str nm])) kp=some (.tup ((kn2 i nm).map kV)):=ad;generalize (upd H7 kp (.tup [.int ((i:Nat):Int),.str nm]))=H8 at s8 e8 ⊢;have LI:=s8 _ _ Sb;refine ⟨td,_,rfl,DPut.t LI e8 (aI (by omega)),?_⟩;have HR:=(s6.trans s7).trans s8;refine ⟨_,_,_,rfl,aG (s5.trans HR) O5,ad,?_,fun s c Dy p' kd h h1 h2 h3=>?_⟩
     · have:=cA tk (kn2 i nm) (.ref r);omega
     · rw [db];by_cases DR:kn2 s kd.1=kn2 i nm
       · obtain ⟨rfl,hn⟩:=we DR;rw [if_pos DR];have Sd:=gi.nd _ _ _ _ h3 hk hn;subst Sd;rw [Aq] at h1;cases h1;rw [hp] at h2;cases h2;exact ⟨r,rfl,DgN.upd ⟨d,own,kvs,hdt,s8 _ _ er,s8 _ _ ed,Fz⟩ LI⟩
       · rw [if_neg DR]
         have h':s<i∨(s=i/\c<j):=by
          rcases h with h | ⟨h,hc⟩
          · exact .inl h
          · refine .inr ⟨h,?_⟩;rcases Xw.mp hc with z | z
            · exact z
            · refine absurd ?_ DR;rw [z,hk] at h3;cases h3;rw [h]
         obtain ⟨da,a1,a2⟩:=zY s c Dy p' kd h' h1 h2 h3;exact ⟨da,a1,(a2.same HR).upd LI⟩
   · rintro σ H5 ⟨c5,c6,tk,rfl,s5,LG,hlen,zY⟩;rw [Vt] at hlen zY;have LJ:=gi.le;refine ⟨_,_,_,_,tk,rfl,s5,LG,by omega,fun s c Dy p' kd h h1 h2 h3=>zY s c Dy p' kd ?_ h1 h2 h3⟩;rcases h with h | ⟨_,h⟩
     · rcases Xw.mp h with z | z
       · exact .inl z
       · refine .inr ⟨z,?_⟩;have:=(Vz.mp h3).1;omega
     · cases h
 · rintro σ H3 ⟨c3,c4,c5,c6,tk,rfl,s3,LD,hlen,zY⟩;rw [Vt] at zY;refine ⟨_,rfl,k td H3 s3 ⟨tk,LD,fun s c row p kd h1 h2 h3=>?_⟩⟩;obtain ⟨da,a1,a2⟩:=zY s c row p kd (.inl (by have:=(Vz.mp h1).1;omega)) h1 h2 h3;exact ⟨da,a1,a2.at⟩
inductive jV (C:Vy) (vs:List V) (H:Hp) (Q:VK) (_E:XK):Prop
 | mk (td:Vy) (L B:Lv) (i:Nat) (n:Nd) (Dp:DP) (ins:List (V2×Int)) (rows:List (List Th)) (head:Th) (ok:Th->Prop) (W:List Th) (zS:vs=[.ref td,.ref L.x,.int (i:Nat),.ref B.x]) (zT:DgTab Dp H ins rows td) (zX:(∀ p own kvs,Dp p own kvs->mU p kvs)) (Af:HandC C H L i n B) (Av:n.sp=[]) (AZ:(∀ kv∈n.ask,∃ s p da,AskE Dp ins rows head H n.t kv s p da/\∀ c∈callsOf (p.pl []),∃ p' h,Step ins rows c.2.1 c.2.2 n.t.kids p' h/\ok h)) (Bz:(∀ m∈B.ns,GoodNd Dp ins rows head ok H m)) (Ct:(∀ h,ok h->h.tall<=140/\h∈W)) (FA:W.length<=40000) (Gw:rows.length<=100) (El:n.t.kids.length<=100) (FC:(∃ nm ks,n.t=.knot nm ks)) (HS:∀ (B':Lv) (sp:List (Key×V)) (H':Hp),HandI C Dp ins rows head ok H L i n B H' B' sp->(∀ kv∈n.ask,EDone Dp ins rows head H n.t sp B'.ns kv)->Q .non H'):jV C vs H Q _E
def qT (C:Vy):Sp:=jV C
set_option maxHeartbeats 4000000 in
theorem qv:aP P w K mg base CX0 3 T.g_hand_on.f T.g_hand_on.d ["digests","level","number","beneath"] (qT T.e_Level):=by
 refine T.g_hand_on.F.ok bZ (fun vs H Q E h=>?_) (fun zQ A outer s H vs Q E hr h=>?_)
 · obtain ⟨td,L,B,i,n,Dp,ins,rows,head,ok,W,rfl,_⟩:=h;rfl
 obtain ⟨td,L,B,i,n,Dp,ins,rows,head,ok,W,rfl,hT,Fz,hc,LK,FD,CB,hW,U3,Gr,Ae,⟨nm,ks,Ej⟩,k⟩:=h;have ni:=VD hc.hi;have U4:=(Vz.mp hc.hi).1;have eta:=hc.lv.tr n ni;rw [Ej,At] at eta;refine hid fun ZZ kZ=>?_;obtain ⟨_,zN,eta,Dz⟩:=eta;obtain ⟨tk,Se,Cp⟩:=hT;refine kZ ?_
 refine ⟨_,(ai (aA (i:=4) bZ.nd rfl (VQ rfl) (aK bY (cf (pv 1) rfl) (pv 2) (fun _ _=>rfl)))
  (ai (aA (i:=5) bZ.nd rfl (VQ rfl) (aK bY (cf (pv 1) rfl) (pv 2) (fun _ _=>rfl)))
  (aj (kA (bN We rfl (tQ (aK bY (cf (pv 1) rfl) (pv 2) (fun _ _=>rfl))) (bm rfl (aw (ar (i:=6) bZ.nd rfl (VQ rfl)) (aw (ar (i:=7) bZ.nd rfl (VQ rfl)) aR))) (aj (kA (bN We rfl (vJ (pv 7)) (bm rfl (aw (ar (i:=8) bZ.nd rfl (VQ rfl)) (aw (ar (i:=9) bZ.nd rfl (VQ rfl)) aR))) (ai (aA (i:=10) bZ.nd rfl (VQ rfl) (aK aL (pv 4) (aE bE (pv 9) am) (fun _ _=>rfl)))
  (ai (bW (xM (tm (dq hr) (pv 9) (pv 5))) (aj (eL (dq hr) (pv 5) (pv 9) (oB (pv 3) T.cl_Level T.me_Level_spot_of (dZ T) (hr.mono (by first | decide | omega)) T.b_Level_spot_of .nil fQ (ac (pv 10) ae)) rfl)) bv)
  (aj (eL (dq hr) (aK bY (cf (pv 3) rfl) (iM (dq hr) (pv 5) (pv 9) (fun _ _=>rfl)) (fun _ _=>rfl)) (pv 8) (iM (dq hr) (pv 0) (aO (ac (pv 8) (ac (aK aL (pv 10) am (fun _ _=>rfl)) ae))) (fun _ _=>rfl)) rfl)))))))))))),?_⟩
 try dsimp only [Ab,zL]
 refine ⟨_,rfl,L.x,T.e_Level,L.dx,_,_,rfl,hc.lv.ins,T.cl_Level,T.na_Level_trees,nD _ _ _,_,rfl,L.tl,_,_,.ref n.ta,rfl,rfl,SqL.of hc.lv.tl,bK (by rw [VM,hc.hi];rfl),?_⟩;dsimp only [aD];refine ⟨_,rfl,L.x,T.e_Level,L.dx,_,_,rfl,hc.lv.ins,T.cl_Level,T.na_Level_kid_spots,uC _ _ _,_,rfl,L.kl,_,_,.ref n.ka,rfl,rfl,SqL.of hc.lv.kl,bK (by rw [VM,hc.hi];rfl),?_⟩;dsimp only [aD];refine ⟨_,rfl,L.x,T.e_Level,L.dx,_,_,rfl,hc.lv.ins,T.cl_Level,T.na_Level_asked,qj _ _ _,_,rfl,L.al,_,_,.ref n.aa,rfl,rfl,SqL.of hc.lv.al,bK (by rw [VM,hc.hi];rfl),n.aa,n.ask,rfl,hc.lv.ak n ni,fun o1=>?_⟩
 refine qu (a:=n.aa) (o:=o1) (kvs:=n.ask) (fun e σ H3=>Ex8 fun (c6 c7 c8 c9 Ci:Option V) (Hg:Hp) (B':Lv) (sp:List (Key×V))=>An5 (σ=[some (.ref td),some (.ref L.x),some (.int ((i:Nat):Int)),some (.ref B.x),some (.ref n.ta),some (.ref n.ka),c6,c7,c8,c9,Ci]) ((∀ b,b≠n.aa->H3 b=Hg b)) (H3 n.aa=some (.frz o1 (.dK n.ask))) (HandI T.e_Level Dp ins rows head ok H L i n B Hg B' sp) (∀ (e':Nat) (kv:Key×V),e'<e->n.ask[e']?=some kv->EDone Dp ins rows head H n.t sp B'.ns kv))
  ⟨none,none,none,none,none,H,B,[],rfl,fun b hb=>af hb,ad,hc.start LK CB,fun e' kv h=>by cases h⟩ (fun e σ H3 _ ⟨_,_,_,_,_,_,_,_,_,_,h,_,_⟩=>h) ?_ ?_
 · rintro e kv σ H3 zR ⟨c6,c7,c8,c9,Ci,Hg,B1,sp,rfl,eq3,Gs,I,AE⟩;refine hid fun ZZ kZ=>?_;obtain ⟨s0,p,da,hE,Cj⟩:=FD kv (VD zR);obtain ⟨d,own,kvs,Sf,ed,FE⟩:=hE.dg;obtain ⟨Sg,Sh⟩:=Fz p own kvs FE;refine kZ ?_;have O8:=I.ktd.tup _ _ Sf;have gd:=I.ktd.dct _ _ ed;have LL:=I.aa hc;have LM:H3 da=some (.tup [own,.ref d]):=(eq3 _ (aJ O8 LL (fun z=>nomatch z))).trans O8;have A8:d≠n.aa:=aJ gd LL (fun z=>nomatch z);have O9:H3 d=some (.dT kvs):=(eq3 _ A8).trans gd;rw [hE.v];refine ⟨da,_,rfl,SqT.of LM,rfl,_,_,rfl,_,_,rfl,rfl,?_⟩;dsimp only [aD];refine ⟨_,rfl,d,kvs,rfl,O9,fun o2=>?_⟩
   refine uf (a:=d) (o:=o2) (kvs:=kvs) (fun f σ H4=>Ex6 fun (c8 c9 Ci:Option V) (Hg:Hp) (B':Lv) (sp:List (Key×V))=>An5 (σ=[some (.ref td),some (.ref L.x),some (.int ((i:Nat):Int)),some (.ref B.x),some (.ref n.ta),some (.ref n.ka),some own,some (.ref d),c8,c9,Ci]) (Fz2 n.aa d o1 o2 n.ask kvs Hg H4) (HandI T.e_Level Dp ins rows head ok H L i n B Hg B' sp) ((∀ (e':Nat) (kv:Key×V),e'<e->n.ask[e']?=some kv->EDone Dp ins rows head H n.t sp B'.ns kv)) (∀ (f':Nat) (kv:List Key×V) (c:Int×Int),f'<f->kvs[f']?=some kv->kv.1=ky c->CDone sp n.t B'.ns c))
    ⟨_,_,_,Hg,B1,sp,rfl,⟨fun b h1 h2=>by rw [af h2];exact eq3 b h1,by rw [af A8.symm];exact Gs,ad,LL,gd⟩,I,AE,fun f' kv c h=>by cases h⟩ (fun f σ H4 _ ⟨_,_,_,_,_,_,_,z,_,_,_⟩=>z.fd) ?_ ?_
   · rintro f JV b σ H4 BP eb ⟨c8,c9,Ci,Hg,B1,sp,rfl,z,I,AE,AO⟩;refine hid fun ZZ kZ=>?_;obtain ⟨c,Ft,Pa⟩:=Sg JV (VD BP);obtain ⟨pl,s',kid⟩:=c;obtain ⟨p',h,st,hok⟩:=Cj _ Ft;refine kZ ?_;rw [Pa] at eb;have Si:H4 b=some (.tup [.int s',.int kid]):=eb;refine ⟨b,_,rfl,SqT.of Si,rfl,_,_,rfl,_,_,rfl,rfl,?_⟩;dsimp only [aD];refine hid fun ZZ kZ=>?_;obtain ⟨LN,k0,Ck,m,hs,cc,j0,row,hm,Em,Aq,B6⟩:=id st;refine kZ ?_;simp only at LN k0 Ck Aq
     have JW:∀ b' xs,H b'=some (.tup xs)->H4 b'=some (.tup xs):=fun b' xs FF=>by
      have g:=I.ktd.tup _ _ FF;rw [z.eq b' (aJ g z.ga (fun z=>nomatch z)) (aJ g z.gd (fun z=>nomatch z))];exact g
     have LO:H4 n.ta=_:=JW _ _ eta;have HU:=Dz.mono JW;rw [Ej] at Ck;obtain ⟨pa,Cc,Sj⟩:=HU.get' Ck;refine ⟨_,rfl,_,rfl,_,_,rfl,rfl,n.ta,_,kid+1,.ref pa,rfl,rfl,SqT.of LO,at_nonneg (by omega) (by rw [show (kid+1).toNat=kid.toNat+1 by omega,Z3,VM,Cc];rfl),?_⟩;dsimp only [aD];have LP:H4 n.ka=some (.dK sp):=(z.eq _ (iO hc.lv.nd hc.hi).symm (aJ (I.ka hc) z.gd (fun z=>nomatch z))).trans (I.ka hc);refine cZ (fun zJ H5=>Ex5 fun (Hg:Hp) (B':Lv) (sp:List (Key×V)) (j:Nat) (mj:Nd)=>An8 (zJ=[some (.ref td),some (.ref L.x),some (.int ((i:Nat):Int)),some (.ref B.x),some (.ref n.ta),some (.ref n.ka),some own,some (.ref d),some (.int s'),some (.int kid),some (.ref pa)]) (Fz2 n.aa d o1 o2 n.ask kvs Hg H5) (HandI T.e_Level Dp ins rows head ok H L i n B Hg B' sp) ((∀ (e':Nat) (kv:Key×V),e'<e->n.ask[e']?=some kv->EDone Dp ins rows head H n.t sp B'.ns kv)) ((∀ (f':Nat) (kv:List Key×V) (c:Int×Int),f'<f->kvs[f']?=some kv->kv.1=ky c->CDone sp n.t B'.ns c)) (aS sp (Wa kid)=some (.int (j:Nat))) (B'.ns[j]?=some mj) (mj.t=h)) (fun kk hk=>?_) ?_
     · refine cE (fun bb H'=>An2 (H4=H') (bb=!(aS sp (Wa kid)).isSome)) (fun k2 Bl=>?_) (fun H' hb=>?_) (fun H' hb=>?_)
       · exact ⟨_,rfl,_,rfl,n.ka,_,rfl,DGet.k (k:=Wa kid) LP,_,rfl,Bl _ _ ⟨rfl,rfl⟩⟩
       · obtain ⟨rfl,hb⟩:=hb
         have AY:aS sp (Wa kid)=none:=by
          cases hv:aS sp (Wa kid) with
          | none=>rfl
          | some v=>rw [hv] at hb;cases hb
         have hx:=I.bn.ins;rw [I.gr.x] at hx;have Sk:H4 B.x=_:=(z.eq _ (aJ hx z.ga (fun z=>nomatch z)) (aJ hx z.gd (fun z=>nomatch z))).trans hx
         have Sl:LvSh T.e_Level H4 B1:=by
          refine I.bn.keep (fun b' xs FF=>?_) (fun b' AU o eo=>?_)
          · rw [z.eq b' (aJ FF z.ga (fun z=>nomatch z)) (aJ FF z.gd (fun z=>nomatch z))];exact FF
          · have h1:b'≠n.aa:=fun y=>I.dis hc _ (eK ni) (y ▸ AU)
            have h2:b'≠d:=fun y=>by
             obtain ⟨o',e',_,h2,_⟩:=cj I.bn AU;rw [y,z.gd] at e';exact h2 _ (VZ e').symm
            rw [z.eq b' h1 h2];exact eo
         have hlen:B1.ns.length<=50000:=by
          have:=cX (m:=W) I.bn.un fun u hu=>by
           obtain ⟨m',Cv,rfl⟩:=V4.mp hu;exact (hW _ (I.good m' Cv).ok).2
          rw [Vt] at this;omega
         have Sm:=I.gr.x;refine ⟨_,rfl,B.x,_,_,rfl,Sk,u9 _ _ _ (by decide +kernel) (by decide +kernel) (by decide +kernel),_,rfl,B1,pa,h,by rw [Sm];rfl,Sl,Sj,(hW h hok).1,fun m' Cv=>(hW _ (I.good m' Cv).ok).1,hlen,fun B2 j mj H5 Sn Cd hj HV fr=>?_⟩;have So:n.t.kids[kid.toNat]?=some h:=by rw [Ej];exact Ck
         obtain ⟨JF,z',I'⟩:=I.spot hc z Sn Cd hj HV fr So k0 AY hok;have HW:=I.spk.len I.spn;refine ⟨_,rfl,_,rfl,n.ka,_,rfl,DPut.k (k:=Wa kid) JF (aI (by omega)),?_⟩
         have g2:Grow B1 B2:=by
          rcases Cd with rfl | ⟨_,_,_,_,rfl⟩
          · exact Grow.refl
          · exact Grow.add
         have Fd:∀ (k:Key) (v:V),aS sp k=some v->aS (putK sp (Wa kid) (.int ((j:Nat):Int))) k=some v:=fun k v hv=>by
          rw [db,if_neg (fun y=>by rw [y,AY] at hv;cases hv)];exact hv
         exact hk _ _ ⟨_,B2,_,j,mj,rfl,z',I',fun e' kv h1 h2=>(AE e' kv h1 h2).grow g2 Fd,fun f' kv c h1 h2 h3=>(AO f' kv c h1 h2 h3).mono g2 Fd,by rw [db,if_pos rfl],hj,HV⟩
       · obtain ⟨rfl,hb⟩:=hb;cases hv:aS sp (Wa kid) with
         | none=>rw [hv] at hb;cases hb
         | some v =>
           refine hid fun ZZ kZ=>?_;obtain ⟨CY,j,mj,he,hj,_,Gp⟩:=I.spk _ (iq hv);refine kZ ?_;injection he with LQ KO;injection LQ with LQ;subst LQ;rw [Ej] at Gp;rw [KO] at hv;exact hk _ _ ⟨Hg,B1,sp,j,mj,rfl,z,I,AE,AO,hv,hj,VZ (Gp.symm.trans Ck)⟩
     rintro zJ H5 ⟨Hg,B1,sp,j,mj,rfl,z,I,AE,AO,Pb,hj,HV⟩
     have JW:∀ b' xs,H b'=some (.tup xs)->H5 b'=some (.tup xs):=fun b' xs FF=>by
      have g:=I.ktd.tup _ _ FF;rw [z.eq b' (aJ g z.ga (fun z=>nomatch z)) (aJ g z.gd (fun z=>nomatch z))];exact g
     obtain ⟨JX,LR,HX⟩:=(Dz.mono JW).get' Ck;have Du:JX=pa:=VZ (LR.symm.trans Cc);subst Du;rw [hm,At] at HX;refine hid fun ZZ kZ=>?_;obtain ⟨_,has,LS,_⟩:=HX;obtain ⟨LU,LV,LW⟩:=Cp s'.toNat j0 row p' (m,cc) Aq B6 Em;refine kZ ?_;refine ⟨_,rfl,_,rfl,_,rfl,JX,_,0,.str m,rfl,rfl,SqT.of LS,at0,aq (by show 2<=1000000;decide),fun kp HQ=>?_⟩;have s7:L2.Same H5 (upd H5 kp (.tup [.int s',.str m])):=ag HQ _
     have e7:(upd H5 kp (.tup [.int s',.str m])) kp=some (.tup ((kn2 s'.toNat m).map kV)):=by
      rw [ad];show _=some (HO.tup [.int ((s'.toNat:Nat):Int),.str m]);rw [WW LN]
     generalize (upd H5 kp (.tup [.int s',.str m]))=H7 at s7 e7 ⊢;have LX:=I.ktd.dct _ _ Se
     have Sq:Rd H7 td (.dT tk):=by
      by_cases y:td=d
      · refine .inr ⟨o2,?_⟩
        have:kvs=tk:=by
         have g:=z.gd;rw [<- y,LX] at g;cases g;rfl
        rw [y,<- this];exact s7 _ _ z.fd
      · exact .inl (s7 _ _ ((z.eq td (aJ LX z.ga (fun z=>nomatch z)) y).trans LX))
     obtain ⟨Lh,z',I'⟩:=I.ask hc z s7 hj LN (by rw [HV];exact st.pat) (LW.mono I.ktd);have hx:=I.bn.ins;have Ay:=I.bn.al;rw [I.gr.x,I.gr.tl,I.gr.al,I.gr.kl,I.gr.dx] at hx;rw [I.gr.al] at Ay;have Sr:H7 B.x=_:=s7 _ _ ((z.eq _ (aJ hx z.ga (fun z=>nomatch z)) (aJ hx z.gd (fun z=>nomatch z))).trans hx);have LY:H7 B.al=_:=s7 _ _ ((z.eq _ (aJ Ay z.ga (fun z=>nomatch z)) (aJ Ay z.gd (fun z=>nomatch z))).trans Ay);have LZ:H7 n.ka=some (.dK sp):=s7 _ _ ((z.eq _ (iO hc.lv.nd hc.hi).symm (aJ (I.ka hc) z.gd (fun z=>nomatch z))).trans (I.ka hc));have gk:DGet H7 n.ka (.int kid) (some (.int ((j:Nat):Int))):=by have:=DGet.k (k:=Wa kid) LZ;rw [Pb] at this;exact this
     have Pd:=I.good mj (VD hj);have En:=Pd.ask.len Pd.nd;refine ⟨td,.ref LU,rfl,.inr ⟨tk,kn2 s'.toNat m,kp,Sq,rfl,e7,LV.symm⟩,_,rfl,B.x,T.e_Level,B.dx,_,_,rfl,Sr,T.cl_Level,T.na_Level_asked,qj _ _ _,_,rfl,_,rfl,n.ka,_,rfl,gk,B.al,_,_,.ref mj.aa,rfl,rfl,SqL.of LY,bK (by rw [VM,hj];rfl),_,rfl,mj.aa,_,rfl,DPut.k (k:=Wa s') Lh (aI (by omega)),?_⟩;have g2:Grow B1 (B1.setAsk j mj (putK mj.ask (Wa s') (.ref LU))):=Grow.setAsk hj;refine ⟨_,_,_,_,_,_,rfl,z',I',fun e' kv h1 h2=>(AE e' kv h1 h2).grow g2 (fun _ _ h=>h),fun f' kv c h1 h2 h3=>?_⟩;rcases Xw.mp h1 with h4 | h4
     · exact (AO f' kv c h4 h2 h3).mono g2 (fun _ _ h=>h)
     · rw [h4,BP] at h2;cases h2;have:=jA (Pa.symm.trans h3);subst this;refine ⟨j,{ mj with ask:=putK mj.ask (Wa s') (.ref LU) },Pb,W2 (Vz.mp hj).1,?_,?_⟩
       · rw [Ej];exact Ck.trans (congrArg some HV.symm)
       · show (aS (putK _ _ _) _).isSome=true;rw [db,if_pos rfl];rfl
   · rintro σ H4 ⟨c8,c9,Ci,Hg,B1,sp,rfl,z,I,AE,AO⟩;refine ⟨fun b=>if b=d then some (.dT kvs) else H4 b,fun b=>?_,?_⟩
     · by_cases hb:b=d
       · refine .inr ⟨o2,.dT kvs,by rw [hb];exact z.fd,by rw [hb];exact O9,if_pos hb⟩
       · exact .inl (if_neg hb)
     · refine ⟨_,_,_,_,_,Hg,B1,sp,rfl,fun b hb=>?_,(if_neg A8.symm).trans z.fa,I,fun e' L3 h1 h2=>?_⟩
       · dsimp only;by_cases JY:b=d
         · rw [if_pos JY,JY,z.gd]
         · rw [if_neg JY];exact z.eq b hb JY
       · rcases Xw.mp h1 with h4 | h4
         · exact AE e' L3 h4 h2
         · rw [h4,zR] at h2;cases h2;refine ⟨s0,p,da,hE,fun c Ft=>?_⟩;refine hid fun ZZ kZ=>?_;obtain ⟨Ss,L4,Gp⟩:=Sh c Ft;obtain ⟨f',HY⟩:=V8.mp L4;refine kZ ?_;exact AO f' Ss c.2 (Vz.mp HY).1 HY Gp
 · rintro σ H3 ⟨c6,c7,c8,c9,Ci,Hg,B1,sp,rfl,eq3,Gs,I,AE⟩;refine ⟨Hg,fun b=>?_,?_⟩
   · by_cases hb:b=n.aa
     · refine .inr ⟨o1,.dK n.ask,by rw [hb];exact Gs,by rw [hb];exact hc.lv.ak n ni,by rw [hb];exact I.aa hc⟩
     · exact .inl (eq3 b hb).symm
   · refine k B1 sp Hg I fun kv zR=>?_;obtain ⟨e',HZ⟩:=V8.mp zR;exact AE e' kv (Vz.mp HZ).1 HZ
inductive gp (C:Vy) (vs:List V) (H:Hp) (Q:VK) (_E:XK):Prop
 | mk (td A8 ta:Vy) (t:Th) (Dp:DP) (ins:List (V2×Int)) (rows:List (List Th)) (head:Th) (W:List Th) (zS:vs=[.ref td,.ref A8,.ref ta]) (zT:DgTab Dp H ins rows td) (zX:DgAt Dp H head A8) (Af:(∀ p own kvs,Dp p own kvs->mU p kvs)) (Av:At H t ta) (AZ:t.Fit ins) (Bz:t.tall<=100) (Ct:t∈W) (FA:ix ins rows head W) (Gw:(∀ c∈callsOf (head.pl []),∃ p',Step ins rows c.2.1 c.2.2 [t] p' t)) (El:∀ (r:Vy) (Ls:List Lv) (H':Hp),L2.Same H H'->H' r=some (.lst (Ls.map fun L=>V.ref L.x))->Chain C Dp ins rows head H' Ls []->tX t Ls->Ls.length<=150->Q (.ref r) H'):gp C vs H Q _E
def oi (C:Vy):Sp:=gp C
set_option maxHeartbeats 4000000 in
theorem oC:aP P w K mg base CX0 4 T.g_levels_of.f T.g_levels_of.d ["digests","head","tree"] (oi T.e_Level):=by
 refine T.g_levels_of.F.ok bR (fun vs H Q E h=>?_) (fun zQ A outer s H vs Q E hr h=>?_)
 · obtain ⟨td,A8,ta,t,Dp,ins,rows,head,W,rfl,_⟩:=h;rfl
 obtain ⟨td,A8,ta,t,Dp,ins,rows,head,W,rfl,hT,Su,Fz,hA,Aa,An,L5,TO,DA,k⟩:=h
 refine ⟨_,(ai (aA (i:=3) bR.nd rfl (VQ rfl) (kT T.mk_Level (gg T) (hr.mono (by first | decide | omega)) rfl T.x_Level T.b_Level_init .nil fQ))
  (ai (aA (i:=4) bR.nd rfl (VQ rfl) (oB (pv 3) T.cl_Level T.me_Level_spot_of (dZ T) (hr.mono (by first | decide | omega)) T.b_Level_spot_of .nil fQ (ac (pcF T.g_above (pq T) hr (ac (pv 2) ae)) ae)))
  (ai (eL (dq hr) (aK bY (cf (pv 3) rfl) (pv 4) (fun _ _=>rfl)) (bp (v:=.int (-1)) rfl T.c_HEAD.choose_spec ⟨_,rfl⟩) (pv 1) rfl)
  (ai (aA (i:=5) bR.nd rfl (VQ rfl) (aT ae))
  (ai (cM We (aU (cf (pv 3) rfl) (fun _=>rfl)) (ai (bd (cv V0 Wt Ws bq (pv 5) (ac (pv 3) ae)))
  (ai (aA (i:=6) bR.nd rfl (VQ rfl) (kT T.mk_Level (gg T) (hr.mono (by first | decide | omega)) rfl T.x_Level T.b_Level_init .nil fQ))
  (ai (bN We rfl (d4 rfl T.n_range (ac (az ay rfl T.n_len Wd (ac (cf (pv 3) rfl) ae)) ae)) (ar (i:=7) bR.nd rfl (VQ rfl)) (aj (bd (pcF T.g_hand_on (qv T) hr (ac (pv 0) (ac (pv 3) (ac (pv 7) (ac (pv 6) ae))))))))
  (aj (aA (i:=3) bR.nd rfl (VQ rfl) (pv 6)))))))
  (aj (aB (pv 5)))))))),?_⟩
 try dsimp only [Ab,zL]
 intro x dx hx ET Al;refine ⟨x,dx,rfl,ad,fun tl al kl H1 sb FG Ay Ae n1 n2 n3 ex e1 e2 e3=>⟨rfl,?_⟩⟩;dsimp only [aD];obtain ⟨s1,Gq,EV⟩:=sq hx ET Al sb FG Ay Ae n1 n2 n3 ex e1 e2 e3;refine ⟨_,rfl,x,_,_,rfl,Gq.ins,u9 _ _ _ (by decide +kernel) (by decide +kernel) (by decide +kernel),_,rfl,.ref ta,rfl,fun ap Pe=>?_⟩;have s2:L2.Same H1 (upd H1 ap (.tup [.str (Vx ""),.ref ta])):=ag Pe _;have Cr:(upd H1 ap (.tup [.str (Vx ""),.ref ta])) ap=some (.tup [.str (Vx ""),.ref ta]):=ad;generalize (upd H1 ap (.tup [.str (Vx ""),.ref ta]))=H2 at s2 Cr ⊢
 have Sv:At H2 (.knot XS [t]) ap:=by
  rw [At];exact ⟨by decide +kernel,[ta],Cr,.cons (hA.mono (Same.kt (s1.trans s2))) .nil⟩
 have CA:(Th.knot XS [t]).tall=t.tall+1:=by rw [Th.tall,aC,aC];omega
 have Sw:H ap=none:=s1.free Pe;refine ⟨⟨x,dx,tl,al,kl,[]⟩,ap,.knot XS [t],rfl,Gq.keep (Same.kt s2) (fun b _ o e=>s2 b o e),Sv,by omega,fun n hn=>(by cases hn),by show 0<=50000;decide,fun L1 j n H3 Fg Cd hj Ej fr=>?_⟩;dsimp only [aD];rcases Cd with rfl | ⟨aa,ka,CW,Ag,rfl⟩
 · cases hj
 have Ov:j=0/\n=⟨.knot XS [t],ap,aa,ka,[],[]⟩:=by
  cases j with
  | zero=>exact ⟨rfl,(VZ hj).symm⟩
  | succ j=>cases hj
 obtain ⟨rfl,rfl⟩:=Ov;have Pf:=Fg.ak _ (VD hj);refine ⟨_,rfl,_,rfl,x,T.e_Level,dx,_,_,rfl,Fg.ins,T.cl_Level,T.na_Level_asked,qj _ _ _,_,rfl,al,_,_,.ref aa,rfl,rfl,SqL.of Fg.al,bK (j:=0) rfl,aa,_,rfl,DPut.k (k:=Wa (-1)) Pf (aI (by show 0<=1000000;decide)),?_⟩;have f3:L2.Same H H3:=fun b o e=>fr b o (fun z=>by rw [EV b (cx (L:=⟨x,dx,tl,al,kl,[]⟩) b z)] at e;cases e) (s2 _ _ (s1 _ _ e));have Ia:H aa=none:=(s1.trans s2).free CW;have L6:H ka=none:=(s1.trans s2).free Ag;have s4:L2.Same H (upd H3 aa (.dK (putK [] (Wa (-1)) (.ref A8)))):=aG f3 Ia;have Pg:(upd H3 aa (.dK (putK [] (Wa (-1)) (.ref A8)))) aa=some (.dK (putK [] (Wa (-1)) (.ref A8))):=ad;have JZ:=Fg.setAsk (ask:=putK [] (Wa (-1)) (.ref A8)) hj (fun b xs e=>by rw [af (aJ e Pf (fun z=>nomatch z))];exact e) (fun b _ hb o e=>by rw [af hb];exact e) Pg;generalize (upd H3 aa (.dK (putK [] (Wa (-1)) (.ref A8))))=H4 at s4 Pg JZ ⊢;refine ⟨aq (by show 0<=1000000;decide),fun lv Gu=>?_⟩;dsimp only [aD];have s5:L2.Same H4 (upd H4 lv (.lst [])):=ag Gu _;have e5:(upd H4 lv (.lst [])) lv=some (.lst []):=ad;generalize (upd H4 lv (.lst []))=H5 at s5 e5 ⊢;have L7:=s4.trans s5;have L8:H lv=none:=s4.free Gu;generalize L9:(Lv.add ⟨x,dx,tl,al,kl,[]⟩ (.knot XS [t]) ap aa ka).setAsk 0 ⟨.knot XS [t],ap,aa,ka,[],[]⟩ (putK [] (Wa (-1)) (.ref A8))=L at JZ;have FH:L.ns=[⟨.knot XS [t],ap,aa,ka,[(Wa (-1),.ref A8)],[]⟩]:=by rw [<- L9];rfl
 have Sx:L.x=x:=by rw [<- L9];rfl
 have Ib:∀ b∈L.own,H b=none:=fun b hb=>by
  have AU:b∈(Lv.mk x dx tl al kl []).own∨b=aa∨b=ka:=by
   rw [<- L9] at hb;have:b=x∨b=tl∨b=al∨b=kl∨b=aa∨b=ka:=by simpa [Lv.own,Lv.setAsk,Lv.add,dcts] using hb
   rcases this with h | h | h | h | h | h
   · exact .inl (by rw [h];simp [Lv.own])
   · exact .inl (by rw [h];simp [Lv.own])
   · exact .inl (by rw [h];simp [Lv.own])
   · exact .inl (by rw [h];simp [Lv.own])
   · exact .inr (.inl h)
   · exact .inr (.inr h)
  rcases AU with h | rfl | rfl
  · exact EV b h
  · exact Ia
  · exact L6
 have Sy:LvSh T.e_Level H5 L:=JZ.keep (Same.kt s5) (fun b _ o e=>s5 b o e)
 have Ma:lv∉L.own:=fun z=>by
  obtain ⟨o,e,_⟩:=cj JZ z;rw [Gu] at e;cases e
 have I0:LoopI T.e_Level Dp ins rows head W t H lv (t.tall+1) H5 [] L:=by
  refine ⟨L7,e5,⟨fun M hM=>(by cases hM),fun k M hk=>(by cases hk)⟩,Sy,fun n hn=>?_,fun M hM=>(by cases hM),⟨Ma,fun M hM=>(by cases hM)⟩,⟨L8,Ib,fun M hM=>(by cases hM)⟩,⟨L,_,rfl,FH,rfl,?_⟩,by show 0+_<=_;omega,by rw [FH];show 1<=50000;decide⟩
  · rw [FH] at hn;rw [VJ.mp hn];refine ⟨rfl,by simp,fun kv zR=>?_,⟨_,_,rfl⟩,by show 1<=100;decide,by show (Th.knot XS [t]).tall<=_;omega⟩;have Ce:kv=(Wa (-1),.ref A8):=VJ.mp zR;subst Ce;refine ⟨-1,head,A8,⟨rfl,rfl,.inl ⟨rfl,rfl,t,rfl⟩,Su.mono (KTD.of L7)⟩,fun c hc=>?_⟩;obtain ⟨p',st⟩:=DA c hc;exact ⟨p',t,st,by omega,L5,Aa⟩
  · show (aS [((Wa (-1):Key),V.ref A8)] (Wa (-1))).isSome=true;rw [bD rfl];rfl
 have Sz:x=L.x:=Sx.symm;rw [Sz];refine ⟨fun mz σ H6=>Ex5 fun (Ls:List Lv) (L:Lv) (c4 c6 c7:Option V)=>An2 (σ=[some (.ref td),some (.ref A8),some (.ref ta),some (.ref L.x),c4,some (.ref lv),c6,c7]) (LoopI T.e_Level Dp ins rows head W t H lv mz H6 Ls L),⟨_,[],L,_,_,_,rfl,I0⟩,?_⟩;rintro mz σ H6 ⟨Ls,L,c4,c6,c7,rfl,I⟩;refine ⟨_,rfl,L.x,T.e_Level,L.dx,_,_,rfl,I.cur.ins,T.cl_Level,T.na_Level_trees,nD _ _ _,!(L.ns.map fun n=>V.ref n.ta).isEmpty,?_,?_⟩
 · exact .inl ⟨_,SqL.of I.cur.tl,rfl⟩
 refine cH (fun cc=>?_) (fun cc=>?_)
 · have Al:L.ns≠[]:=fun z=>by rw [z] at cc;cases cc
   refine ⟨fun zJ H'=>∃ m',m'<mz/\Ex5 fun (Ls:List Lv) (L:Lv) (c4 c6 c7:Option V)=>An2 (zJ=[some (.ref td),some (.ref A8),some (.ref ta),some (.ref L.x),c4,some (.ref lv),c6,c7]) (LoopI T.e_Level Dp ins rows head W t H lv m' H' Ls L),fun zJ H' h=>h,?_⟩;have Dw:=I.len;refine ⟨_,rfl,.inl ⟨rfl,_,SqL.of I.ls⟩,_,rfl,lv,_,_,rfl,rfl,I.ls,aI (by rw [Vt];omega),?_⟩
   have SD:(upd H6 lv (.lst ((Ls.map fun L=>V.ref L.x)++[.ref L.x]))) L.x=some (.ins T.e_Level L.dx (lvF L.tl L.al L.kl)):=by
    rw [af (aJ I.cur.ins I.ls (fun z=>nomatch z))];exact I.cur.ins
   have Mb:LvSh T.e_Level (upd H6 lv (.lst ((Ls.map fun L=>V.ref L.x)++[.ref L.x]))) L:=I.cur.keep (bx I.ls) (fun b hb o e=>by rw [af (show b≠lv from fun z=>I.lvn.1 (z ▸ hb))];exact e);have k7:KTD H6 (upd H6 lv (.lst ((Ls.map fun L=>V.ref L.x)++[.ref L.x]))):=⟨bx I.ls,fun b xs e=>by rw [af (aJ e I.ls (fun z=>nomatch z))];exact e⟩;generalize SE:(upd H6 lv (.lst ((Ls.map fun L=>V.ref L.x)++[.ref L.x])))=H7 at SD Mb k7 ⊢;intro x dx hx ET Mc;refine ⟨x,dx,rfl,ad,fun tl al kl H8 sb FG Ay Ae n1 n2 n3 ex e1 e2 e3=>⟨rfl,?_⟩⟩;dsimp only [aD];obtain ⟨s8,hB,Ic⟩:=sq hx ET Mc sb FG Ay Ae n1 n2 n3 ex e1 e2 e3;have FI:LvSh T.e_Level H8 L:=Mb.keep (Same.kt s8) (fun b _ o e=>s8 b o e)
   have Ie:∀ b∈L.own,b∉(Lv.mk x dx tl al kl []).own:=fun b hb hz=>by
    obtain ⟨o,e,_⟩:=cj Mb hb;rw [Ic b hz] at e;cases e
   have SF:KTD H H8:=((KTD.of I.same).trans k7).trans (KTD.of s8);refine ⟨_,rfl,L.x,T.e_Level,L.dx,_,_,rfl,FI.ins,T.cl_Level,T.na_Level_trees,nD _ _ _,L.tl,_,rfl,.inl (SqL.of FI.tl),_,rfl,?_⟩;have hlen:((L.ns.map fun n=>V.ref n.ta).length:Int).toNat=L.ns.length:=by rw [Vt,WL]
   have SG:=I.cnt;refine ⟨by rw [Vt];omega,by rw [Vt];omega,?_⟩;rw [hlen]
   refine mE (fun i σ H9=>Ex3 fun (c7:Option V) (L' B':Lv)=>An2 (σ=[some (.ref td),some (.ref A8),some (.ref ta),some (.ref L.x),c4,some (.ref lv),some (.ref x),c7]) (RunI T.e_Level Dp ins rows head (Okd W ins (mz - 1)) H8 L ⟨x,dx,tl,al,kl,[]⟩ i H9 L' B'))
    ⟨_,L,⟨x,dx,tl,al,kl,[]⟩,rfl,RunI.start FI hB rfl⟩ ?_ ?_
   · rintro i σ H9 hi ⟨c7,L',B',rfl,R⟩;dsimp only [aD];obtain ⟨n,hn⟩:∃ n,L.ns[i]?=some n:=⟨_,Vw hi⟩;have Jv:L'.ns[i]?=some n:=(R.todo i (VG _)).trans hn;have J0:=(I.rd n (VD hn)).mono ((k7.trans (KTD.of s8)).trans R.ktd);have hC:=R.handC FI Ie Jv;have Md:L'.x=L.x:=R.up.x;have Me:B'.x=x:=R.gr.x;have ei:(0:Int)+((i:Nat):Int)=((i:Nat):Int):=by omega
     refine ⟨_,rfl,_,rfl,_,rfl,_,rfl,td,L',B',i,n,Dp,ins,rows,head,Okd W ins (mz - 1),W,by rw [Md,Me,ei];rfl,hT.mono (SF.trans R.ktd),Fz,hC,J0.sp,J0.ask,R.good,fun h ho=>⟨?_,ho.mem⟩,TO.wl,TO.rl,J0.kids,J0.knot,fun B2 sp BL I2 hd=>?_⟩
     · have:=ho.tall;have:=I.len;omega
     · exact ⟨_,_,_,rfl,R.step Jv I2 hd⟩
   · rintro σ H9 ⟨c7,L',B',rfl,R⟩;have Me:B'.x=x:=R.gr.x;subst SE;obtain ⟨zV,I'⟩:=I.step TO Al s8 Ic R;exact ⟨_,rfl,mz - 1,zV,_,B',_,_,_,by rw [Me];rfl,I'⟩
 · have CK:L.ns=[]:=by
    cases hL:L.ns with
    | nil=>rfl
    | cons a as=>rw [hL] at cc;exact absurd rfl cc
   have FJ:tX t Ls:=by
    obtain ⟨L0,n0,h1,h2,h3,h4⟩:=I.top;cases Ls with
    | cons M Ms=>exact ⟨L0,n0,h1,h2,h3,h4⟩
    | nil =>
      have Gq:L=L0:=VZ h1;rw [<- Gq,CK] at h2;cases h2
   have BR:=I.ch;rw [CK] at BR;exact ⟨_,rfl,k lv Ls H6 I.same I.ls BR FJ (by have:=I.len;omega)⟩
def WsAt (H:Hp) (bl:Vy) (ws:List (Vy×List (Key×V))):Prop:=H bl=some (.lst (ws.map fun w=>V.ref w.1))/\∀ w∈ws,H w.1=some (.dK w.2)/\(w.2.map (·.1)).Nodup/\∀ kv∈w.2,∃ s:Int,kv.1=Wa s
inductive fG (vs:List V) (H:Hp) (Q:VK) (_E:XK):Prop
 | mk (ka bl:Vy) (sp:List (Key×V)) (ws:List (Vy×List (Key×V))) (zS:vs=[.ref ka,.ref bl]) (zT:H ka=some (.dK sp)) (zX:(sp.map (·.1)).Nodup) (Af:sp.length<=100) (Av:WsAt H bl ws) (AZ:(∀ w∈ws,w.1≠ka/\w.2.length<=101)) (Bz:(∀ kv∈sp,∃ (kid:Int) (j:Nat) (w:Vy×List (Key×V)),kv=(Wa kid,.int (j:Nat))/\ws[j]?=some w)) (Ct:∀ (r:Vy) (Ak:List (List Key×V)) (H':Hp),L2.Same H H'->H r=none->H' r=some (.dT Ak)->(∀ (kid:Int) (j:Nat) (w:Vy×List (Key×V)) (s:Int) (v:V),aS sp (Wa kid)=some (.int (j:Nat))->ws[j]?=some w->aS w.2 (Wa s)=some v->aS Ak (ky (s,kid))=some v)->Q (.ref r) H'):fG  vs H Q _E
def mx:Sp:=fG
set_option maxHeartbeats 4000000 in
theorem mn:aP P w K mg base CX0 1 T.g_kid_worths.f T.g_kid_worths.d ["spots","beneath"] mx:=by
 refine T.g_kid_worths.F.ok bT (fun vs H Q E h=>?_) (fun zQ A outer s H vs Q E hr h=>?_)
 · obtain ⟨ka,bl,sp,ws,rfl,_⟩:=h;rfl
 obtain ⟨ka,bl,sp,ws,rfl,AW,FK,HW,⟨Ph,Au⟩,SH,CJ,k⟩:=h
 refine ⟨_,(ai (aA (i:=2) bT.nd rfl (VQ rfl) ij)
  (ai (kA (bN We rfl (l3 (pv 0)) (bm rfl (aw (ar (i:=3) bT.nd rfl (VQ rfl)) (aw (ar (i:=4) bT.nd rfl (VQ rfl)) aR))) (aj (kA (bN We rfl (l3 (aK bY (pv 1) (pv 4) (fun _ _=>rfl))) (bm rfl (aw (ar (i:=5) bT.nd rfl (VQ rfl)) (aw (ar (i:=6) bT.nd rfl (VQ rfl)) aR))) (aj (eL (dq hr) (pv 2) (aO (ac (pv 5) (ac (pv 3) ae))) (pv 6) rfl)))))))
  (aj (aB (pv 2))))),?_⟩
 try dsimp only [Ab,zL]
 intro r J1;dsimp only [aD];have s1:L2.Same H (upd H r (.dT [])):=ag J1 _;have e1:(upd H r (.dT [])) r=some (.dT []):=ad;generalize (upd H r (.dT []))=H1 at s1 e1 ⊢;have Gv:ka≠r:=av AW J1;refine ⟨_,rfl,ka,sp,rfl,s1 _ _ AW,fun o1=>?_⟩
 refine ng (a:=ka) (o:=o1) (kvs:=sp) (fun e σ H3=>Ex5 fun (c3 c4 c5 c6:Option V) (Ak:List (List Key×V))=>An6 (σ=[some (.ref ka),some (.ref bl),some (.ref r),c3,c4,c5,c6]) ((∀ b u,b≠ka->H b=some u->H3 b=some u)) (H3 ka=some (.frz o1 (.dK sp))) (H3 r=some (.dT Ak)) (Ak.length<=101 * e) (∀ (e':Nat) (kid:Int) (j:Nat) (w:Vy×List (Key×V)) (s:Int) (v:V),e'<e->sp[e']?=some (Wa kid,.int (j:Nat))->ws[j]?=some w->aS w.2 (Wa s)=some v->aS Ak (ky (s,kid))=some v))
  ⟨none,none,none,none,[],rfl,fun b u hb e=>by rw [af hb];exact s1 _ _ e,ad,by rw [af Gv.symm];exact e1,Wc _,fun e' kid j w s v h=>by cases h⟩ (fun e σ H3 _ ⟨_,_,_,_,_,_,_,h,_,_,_⟩=>h) ?_ ?_
 · rintro e kv p σ H3 zR hp ⟨c3,c4,c5,c6,Ak,rfl,EE,EW,Eg,hlen,zY⟩;refine hid fun ZZ kZ=>?_;obtain ⟨kid,j,w,rfl,hw⟩:=CJ kv (VD zR);have wm:=VD hw;obtain ⟨ew,SI,SJ⟩:=Au w wm;obtain ⟨FL,C4⟩:=SH w wm;refine kZ ?_;have DO:e<100:=by have:=(Vz.mp zR).1;omega
   dsimp only;have s4:L2.Same H3 (upd H3 p (.tup [kV (Wa kid),.int ((j:Nat):Int)])):=ag hp _;have e4:(upd H3 p (.tup [kV (Wa kid),.int ((j:Nat):Int)])) p=some (.tup [.int kid,.int ((j:Nat):Int)]):=ad;generalize (upd H3 p (.tup [kV (Wa kid),.int ((j:Nat):Int)]))=H4 at s4 e4 ⊢;refine ⟨p,_,rfl,SqT.of e4,rfl,_,_,rfl,_,_,rfl,rfl,?_⟩;dsimp only [aD];have Mf:=s4 _ _ (EE _ _ (aJ Ph AW (fun z=>nomatch z)) Ph);have Mg:=s4 _ _ (EE _ _ FL ew);have Pj:=s4 _ _ Eg;have Mh:w.1≠r:=aJ Mg Pj (fun z=>nomatch z);refine ⟨_,rfl,_,rfl,bl,_,_,.ref w.1,rfl,rfl,SqL.of Mf,bK (by rw [VM,hw];rfl),w.1,w.2,rfl,Mg,fun o2=>?_⟩
   refine ng (a:=w.1) (o:=o2) (kvs:=w.2) (fun f σ H5=>Ex3 fun (c5 c6:Option V) (Ak:List (List Key×V))=>An7 (σ=[some (.ref ka),some (.ref bl),some (.ref r),some (.int kid),some (.int ((j:Nat):Int)),c5,c6]) ((∀ b u,b≠w.1->b≠r->H4 b=some u->H5 b=some u)) (H5 w.1=some (.frz o2 (.dK w.2))) (H5 r=some (.dT Ak)) (Ak.length<=101 * e+f) ((∀ (e':Nat) (kid:Int) (j:Nat) (w:Vy×List (Key×V)) (s:Int) (v:V),e'<e->sp[e']?=some (Wa kid,.int (j:Nat))->ws[j]?=some w->aS w.2 (Wa s)=some v->aS Ak (ky (s,kid))=some v)) (∀ (f':Nat) (s:Int) (v:V),f'<f->w.2[f']?=some (Wa s,v)->aS Ak (ky (s,kid))=some v))
    ⟨_,_,Ak,rfl,fun b u hb _ eb=>by rw [af hb];exact eb,ad,by rw [af Mh.symm];exact Pj,by omega,zY,fun f' s v h=>by cases h⟩ (fun f σ H5 _ ⟨_,_,_,_,_,h,_,_,_,_⟩=>h) ?_ ?_
   · rintro f JV p2 σ H5 BP D7 ⟨c5,c6,Ak,rfl,DU,Mi,Gx,hlen,zY,En⟩;obtain ⟨s',Ll⟩:=SJ JV (VD BP);obtain ⟨k2,v2⟩:=JV;simp only at Ll;subst Ll;have U5:f<101:=by have:=(Vz.mp BP).1;omega
     dsimp only;have s6:L2.Same H5 (upd H5 p2 (.tup [kV (Wa s'),v2])):=ag D7 _;have e6:(upd H5 p2 (.tup [kV (Wa s'),v2])) p2=some (.tup [.int s',v2]):=ad;generalize (upd H5 p2 (.tup [kV (Wa s'),v2]))=H6 at s6 e6 ⊢;refine ⟨p2,_,rfl,SqT.of e6,rfl,_,_,rfl,_,_,rfl,rfl,?_⟩;dsimp only [aD];refine ⟨_,rfl,_,rfl,_,rfl,_,rfl,aq (by show 2<=1000000;decide),fun kp HQ=>?_⟩;have s7:L2.Same H6 (upd H6 kp (.tup [.int s',.int kid])):=ag HQ _;have e7:(upd H6 kp (.tup [.int s',.int kid])) kp=some (.tup ((ky (s',kid)).map kV)):=ad;generalize (upd H6 kp (.tup [.int s',.int kid]))=H7 at s7 e7 ⊢;have Mj:=s6.trans s7;have SK:=Mj _ _ Gx;refine ⟨r,_,rfl,DPut.t SK e7 (aI (by omega)),?_⟩;refine ⟨_,_,_,rfl,fun b u hb Pk eb=>by rw [af Pk];exact Mj _ _ (DU b u hb Pk eb),by rw [af Mh];exact Mj _ _ Mi,ad,?_,fun e' CY j' w' s v he h1 h2 h3=>?_,fun f' s v hf h1=>?_⟩
     · have:=cA Ak (ky (s',kid)) v2;omega
     · rw [db];by_cases hk:ky (s,CY)=ky (s',kid)
       · have DR:CY=kid:=congrArg Prod.snd (jA hk);rw [DR] at h1;exact absurd (kF FK (i:=e') (j:=e) (x:=Wa kid) (by rw [VM,h1];rfl) (by rw [VM,zR];rfl)) (by omega)
       · rw [if_neg hk];exact zY e' CY j' w' s v he h1 h2 h3
     · rw [db];by_cases hk:ky (s,kid)=ky (s',kid)
       · rw [if_pos hk];have Gy:s=s':=congrArg Prod.fst (jA hk);rw [Gy] at h1;have J2:=kF SI (i:=f') (j:=f) (x:=Wa s') (by rw [VM,h1];rfl) (by rw [VM,BP];rfl);rw [J2,BP] at h1;cases h1;rfl
       · rw [if_neg hk];rcases Xw.mp hf with h4 | h4
         · exact En f' s v h4 h1
         · rw [h4,BP] at h1;cases h1;exact absurd rfl hk
   · rintro σ H5 ⟨c5,c6,Ak,rfl,DU,Mi,Gx,hlen,zY,En⟩;refine ⟨upd H5 w.1 (.dK w.2),fun b=>?_,?_⟩
     · by_cases hb:b=w.1
       · rw [hb];exact .inr ⟨o2,_,Mi,Mg,ad⟩
       · exact .inl (af hb)
     · refine ⟨_,_,_,_,Ak,rfl,fun b u hb eb=>?_,?_,by rw [af Mh.symm];exact Gx,by omega,fun e' CY j' w' s v he h1 h2 h3=>?_⟩
       · by_cases J3:b=w.1
         · rw [J3,ew] at eb;cases eb;rw [J3,ad]
         · rw [af J3];exact DU b u J3 (av eb J1) (s4 _ _ (EE b u hb eb))
       · rw [af FL.symm];exact DU _ _ FL.symm Gv (s4 _ _ EW)
       · rcases Xw.mp he with h4 | h4
         · exact zY e' CY j' w' s v h4 h1 h2 h3
         · rw [h4,zR] at h1;cases h1;rw [hw] at h2;cases h2;obtain ⟨f',HY⟩:=V8.mp (iq h3);exact En f' s v (Vz.mp HY).1 HY
 · rintro σ H3 ⟨c3,c4,c5,c6,Ak,rfl,EE,EW,Eg,hlen,zY⟩;refine ⟨upd H3 ka (.dK sp),fun b=>?_,?_⟩
   · by_cases hb:b=ka
     · rw [hb];exact .inr ⟨o1,_,EW,s1 _ _ AW,ad⟩
     · exact .inl (af hb)
   · refine ⟨_,rfl,k r Ak _ (fun b u eb=>?_) J1 (by rw [af Gv.symm];exact Eg) fun kid j w s v h1 h2 h3=>?_⟩
     · by_cases hb:b=ka
       · rw [hb,AW] at eb;cases eb;rw [hb,ad]
       · rw [af hb];exact EE b u hb eb
     · obtain ⟨e',HZ⟩:=V8.mp (iq h1);exact zY e' kid j w s v (Vz.mp HZ).1 HZ h2 h3
theorem iU:∀ (prs acc:List (Key×V)),((acc++prs).map (·.1)).Nodup->dY acc prs=acc++prs
 | [],acc,_=>by rw [Xf];rfl
 | pr::prs,acc,h=>by
   have e:acc++pr::prs=(acc++[pr])++prs:=by rw [Xk];rfl
   rw [e] at h ⊢
   have hv:aS acc pr.1=none:=by
    cases hv:aS acc pr.1 with
    | none=>rfl
    | some v =>
      rw [VN,VN,Xk,Yz] at h;exact absurd rfl (h.2.2 _ (V4.mpr ⟨_,iq hv,rfl⟩) pr.1 (V9 _ (by simp)))
   show dY (putK acc pr.1 pr.2) prs=_;rw [uT _ hv];exact iU prs _ h
def fOf (Ak:List (List Key×V)) (s k:Int):Int:=match aS Ak (ky (s,k)) with
 | some (.int v)=>v
 | _=>0
structure Ws1 (VR:Int->Th->Int->Prop) (Hl:Hp) (m:Nd) (w:Vy×List (Key×V)):Prop where
 new:Hl w.1=none
 len:w.2.length<=101
 val:∀ s,(aS m.ask (Wa s)).isSome=true->∃ v,aS w.2 (Wa s)=some (.int v)/\VR s m.t v
structure yy (VR:Int->Th->Int->Prop) (Hl H:Hp) (bl:Vy) (ns:List Nd) (ws:List (Vy×List (Key×V))):Prop where
 «at»:WsAt H bl ws
 len:ws.length=ns.length
 one:∀ (j:Nat) (m:Nd) (w:Vy×List (Key×V)),ns[j]?=some m->ws[j]?=some w->Ws1 VR Hl m w
theorem WsAt.same {H H':Hp} {bl:Vy} {ws:List (Vy×List (Key×V))} (h:WsAt H bl ws) (s:L2.Same H H'):WsAt H' bl ws:=⟨s _ _ h.1,fun w hw=>⟨s _ _ (h.2 w hw).1,(h.2 w hw).2⟩⟩
def WSp (Dp:DP) (FN:Sp) (Wv:Th->(Int->Int->Int)->Int->Prop):Prop:=∀ (H1:Hp) (p:Th) (da ca:Vy) (Ak:List (List Key×V)) (f:Int->Int->Int) (R:VK),DgN Dp ca H1 p da->H1 ca=some (.dT Ak)->(∀ c∈callsOf (p.pl []),aS Ak (ky c.2)=some (.int (f c.2.1 c.2.2)))->(∀ (v:Int) (H2:Hp),L2.Same H1 H2->Wv p f v->R (.int v) H2)->FN [.ref da,.ref ca] H1 R E0
inductive ld (P:V3) (w:Wg) (K:VB) (mg:V2->Option VC) (base:WR) (vs:List V) (H:Hp) (Q:VK) (_E:XK):Prop
 | mk (b hd ta f g:Vy) (ins outs:List (V2×Int)) (Bd head t:Th) (rows:List (List Th)) (Cw FN:Sp) (Dp:DP) (Gz:Th->Prop) (Wv:Th->(Int->Int->Int)->Int->Prop) (W:List Th) (VR:Int->Th->Int->Prop) (zS:vs=[.ref b,.ref hd,.ref ta,.ref f,.ref g]) (zT:Bk H ins outs Bd rows b) (zX:bu ins) (Af:(∀ row∈rows,row.length=ins.length/\∀ p∈row,Gz p)) (Av:At H head hd) (AZ:Gz head) (Bz:FvOk P w K mg base CX0 4 f Cw) (Ct:vx Dp Cw Gz) (FA:(∀ p own kvs,Dp p own kvs->mU p kvs)) (Gw:At H t ta) (El:t.Fit ins) (FC:t.tall<=100) (HS:t∈W) (SM:ix ins rows head W) (SN:(∀ c∈callsOf (head.pl []),∃ p',Step ins rows c.2.1 c.2.2 [t] p' t)) (SO:FvOk P w K mg base CX0 2 g FN) (SQ:WSp Dp FN Wv) (SR:(∀ (s:Int) (u p:Th) (f:Int->Int->Int) (v:Int),jd ins rows head s u p->(∀ c∈callsOf (p.pl []),∀ h,u.kids[c.2.2.toNat]?=some h->VR c.2.1 h (f c.2.1 c.2.2))->Wv p f v->VR s u v)) (SS:∀ (v:Int) (H':Hp),L2.Same H H'->VR (-1) (.knot XS [t]) v->Q (.int v) H'):ld P w K mg base vs H Q _E
def tS (P:V3) (w:Wg) (K:VB) (mg:V2->Option VC) (base:WR):Sp:=ld P w K mg base
set_option maxHeartbeats 4000000 in
theorem mQ:aP P w K mg base CX0 6 T.g_folded.f T.g_folded.d ["book","head","tree","digest","worth"] (tS P w K mg base):=by
 refine T.g_folded.F.ok cz (fun vs H Q E h=>?_) (fun zQ A outer s H vs Q E hr h=>?_)
 · obtain ⟨b,hd,ta,f,g,ins,outs,Bd,head,t,rows,Cw,FN,Dp,Gz,Wv,W,VR,rfl,_⟩:=h;rfl
 obtain ⟨b,hd,ta,f,g,ins,outs,Bd,head,t,rows,Cw,FN,Dp,Gz,Wv,W,VR,rfl,hB,gi,Bv,SU,Ml,JT,Ek,Fz,SV,Aa,An,L5,TO,DA,SW,Mm,Mn,k⟩:=h
 refine ⟨_,(ai (aA (i:=5) cz.nd rfl (VQ rfl) (aT ae))
  (ai (bN We rfl (uH rfl T.n_reversed (pcF T.g_levels_of (oC T) hr (ac (pcF T.g_digests_of (my T) hr (ac (pv 0) (ac (pv 3) ae))) (ac (lb (k:=4) (i:=3) rfl (VQ rfl) (hr.mono (by first | decide | omega)) fQ (ac (pv 1) ae)) (ac (pv 2) ae))))) (ar (i:=6) cz.nd rfl (VQ rfl)) (ai (aA (i:=7) cz.nd rfl (VQ rfl) (aT ae))
  (ai (bN We rfl (vq rfl T.n_zip (ac (cf (pv 6) rfl) (ac (cf (pv 6) rfl) ae))) (bm rfl (aw (ar (i:=8) cz.nd rfl (VQ rfl)) (aw (ar (i:=9) cz.nd rfl (VQ rfl)) aR))) (ai (aA (i:=10) cz.nd rfl (ZI rfl) (pcF T.g_kid_worths (mn T) hr (ac (pv 9) (ac (pv 5) ae))))
  (aj (bd (cv V0 Wt Ws bq (pv 7) (ac (bi (kb (vY hr) rfl) rfl T.n_dict PyProof.Rows.boot_dict (ac (nG (bA (N:=[Vx "state",Vx "pair",Vx "worth",Vx "kids"]) (js:=[none,none,some 4,some 10]) (g:=(qd K 2 (dG (aD 0) (dG (aD 1) pH)))) (tt:=aQ) (te:=(ow (bz (bC 0) (bz (tW P w K mg base CX0 2 2 E0 (bz (bC 1) (bz (bC 3) dk))) dk)))) rfl (bO rfl (by decide +kernel) (by decide +kernel) rfl rfl rfl) (l3 (pv 8)) (fun _ _ _ _ _ _=>(bm rfl (aw (ar (i:=0) yt rfl (VQ rfl)) (aw (ar (i:=1) yt rfl (VQ rfl)) aR)))) (i7 (cp bw (aN rfl) (cp bw (aN rfl) jc))) (fun _ _ _ _ _ _=>bc) (fun _ _ _ _ _ _=>(aO (ac (pv 0) (ac (lb (k:=2) (i:=2) rfl (by first | exact VQ rfl | exact ZI (VQ rfl) | exact ZI (ZI rfl)) (hr.mono (by first | decide | omega)) fQ (ac (pv 1) (ac (pv 3) ae))) ae)))))) ae)) ae))))))
  (aj (aA (i:=5) cz.nd rfl (VQ rfl) (pv 7))))))
  (aj (aB (iM (dq hr) (aK bY (pv 5) am (fun _ _=>rfl)) (bp (v:=.int (-1)) rfl T.c_HEAD.choose_spec ⟨_,rfl⟩) (fun _ _=>rfl)))))),?_⟩
 try dsimp only [Ab,zL]
 refine ⟨aq (by show 0<=1000000;decide),fun bl Cs=>?_⟩;dsimp only [aD];have s1:L2.Same H (upd H bl (.lst [])):=ag Cs _;have e1:(upd H bl (.lst [])) bl=some (.lst []):=ad;generalize (upd H bl (.lst []))=H1 at s1 e1 ⊢
 have SX:Bk H1 ins outs Bd rows b:=by
  obtain ⟨ia,oa,ha,ra,Ac,Ap,AD,hB⟩:=hB;exact ⟨ia,oa,ha,ra,Ac,Ap,AD,hB.mono (Same.kt s1)⟩
 refine ⟨_,rfl,_,rfl,b,f,ins,outs,Bd,rows,Cw,Dp,Gz,rfl,SX,gi,TO.rl,Bv,JT,Ek,fun td H2 s2 Mo=>?_⟩;refine ⟨f,Cw,rfl,JT,_,rfl,Ek H2 head hd _ (SU.mono (Same.kt (s1.trans s2))) Ml fun r d own kvs H3 s3 Gg er ed FE=>?_⟩;refine ⟨_,rfl,td,r,ta,t,Dp,ins,rows,head,W,rfl,Mo.mono (KTD.of s3),⟨d,own,kvs,er,ed,FE⟩,Fz,SV.mono (Same.kt ((s1.trans s2).trans s3)),Aa,An,L5,TO,DA,fun lr Ls H4 s4 Pl BR FJ hlen=>?_⟩;have BD:=((s1.trans s2).trans s3).trans s4;refine ⟨lr,_,rfl,SqL.of Pl,?_⟩
 refine si (K:=K) (a:=lr) (xs:=Ls.map fun L=>V.ref L.x) (fun i σ H5=>Ex7 fun (c6 c7 c8 c9 Ci:Option V) (bl:Vy) (ws:List (Vy×List (Key×V)))=>An3 (σ=[some (.ref b),some (.ref hd),some (.ref ta),some (.ref f),some (.ref g),some (.ref bl),c6,c7,c8,c9,Ci]) (L2.Same H4 H5) (yy VR H4 H5 bl (nxt Ls (Ls.length - i) []) ws))
  ⟨none,none,none,none,none,bl,[],rfl,.refl _,⟨⟨((s2.trans s3).trans s4) _ _ e1,fun w hw=>by cases hw⟩,by unfold nxt;rw [Z9,W5 (VG _)];rfl,fun j m w _ hw=>by cases hw⟩⟩ (fun i σ H5 _ ⟨_,_,_,_,_,_,_,_,s5,_⟩=>SqL.of (s5 _ _ Pl)) ?_ ?_
 · rintro i x σ H5 hi hx ⟨c6,c7,c8,c9,Ci,bl,ws,rfl,s5,Au⟩;rw [Vt] at hi hx;rw [VM] at hx
   obtain ⟨L,hL,rfl⟩:∃ L,Ls[Ls.length - 1 - i]?=some L/\V.ref L.x=x:=by
    cases h:Ls[Ls.length - 1 - i]? with
    | none=>rw [h] at hx;cases hx
    | some L=>rw [h] at hx;exact ⟨L,rfl,VZ hx⟩
   have AQ:=BR.sh L (VD hL);have Aw:=BR.cl _ L hL;rw [show Ls.length - 1 - i+1=Ls.length - i by omega] at Aw;dsimp only [aD];refine ⟨aq (by show 0<=1000000;decide),fun tl An=>?_⟩;dsimp only [aD];have s6:L2.Same H5 (upd H5 tl (.lst [])):=ag An _;have e6:(upd H5 tl (.lst [])) tl=some (.lst []):=ad;generalize (upd H5 tl (.lst []))=H6 at s6 e6 ⊢;have CZ:=s5.trans s6;have DB:H4 tl=none:=s5.free An;refine ⟨_,rfl,L.x,T.e_Level,L.dx,_,_,rfl,CZ _ _ AQ.ins,T.cl_Level,T.na_Level_asked,qj _ _ _,_,rfl,L.x,T.e_Level,L.dx,_,_,rfl,CZ _ _ AQ.ins,T.cl_Level,T.na_Level_kid_spots,uC _ _ _,L.al,L.kl,rfl,⟨_,SqL.of (CZ _ _ AQ.al)⟩,⟨_,SqL.of (CZ _ _ AQ.kl)⟩,?_⟩
   refine va (K:=K) (a:=L.al) (b:=L.kl) (xs:=L.ns.map fun n=>V.ref n.aa) (ys:=L.ns.map fun n=>V.ref n.ka) (by rw [Vt,Vt]) (fun q σ H7=>Ex4 fun (c8 c9 Ci:Option V) (us:List (Vy×List (Key×V)))=>An3 (σ=[some (.ref b),some (.ref hd),some (.ref ta),some (.ref f),some (.ref g),some (.ref bl),some (.ref L.x),some (.ref tl),c8,c9,Ci]) (SameB tl H6 H7) (yy VR H4 H7 tl (L.ns.take q) us))
    ⟨_,_,_,[],rfl,SameB.refl,⟨⟨e6,fun w hw=>by cases hw⟩,by rw [YE];rfl,fun j m w _ hw=>by cases hw⟩⟩ (fun q σ H7 _ ⟨_,_,_,_,_,s7,_⟩=>⟨SqL.of (s7 _ _ (fun z=>by rw [<- z,AQ.al] at DB;cases DB) (CZ _ _ AQ.al)),SqL.of (s7 _ _ (fun z=>by rw [<- z,AQ.kl] at DB;cases DB) (CZ _ _ AQ.kl))⟩) ?_ ?_
   · rintro q x y pz σ H7 hx hy SY ⟨c8,c9,Ci,us,rfl,s7,DM⟩;rw [VM] at hx hy
     obtain ⟨n,hn,rfl⟩:∃ n,L.ns[q]?=some n/\V.ref n.aa=x:=by
      cases h:L.ns[q]? with
      | none=>rw [h] at hx;cases hx
      | some n=>rw [h] at hx;exact ⟨n,rfl,VZ hx⟩
     rw [hn] at hy;have B5:V.ref n.ka=y:=VZ hy;subst B5;have CC:=VD hn;have s8:L2.Same H7 (upd H7 pz (.tup [.ref n.aa,.ref n.ka])):=ag SY _;have e8:(upd H7 pz (.tup [.ref n.aa,.ref n.ka])) pz=some (.tup [.ref n.aa,.ref n.ka]):=ad;generalize (upd H7 pz (.tup [.ref n.aa,.ref n.ka]))=H8 at s8 e8 ⊢;have HR:L2.Same H5 H8:=fun c o e=>s8 _ _ (s7 c o (fun z=>by rw [z,An] at e;cases e) (s6 _ _ e));have GA:=s5.trans HR;refine ⟨pz,_,rfl,SqT.of e8,rfl,_,_,rfl,_,_,rfl,rfl,?_⟩;dsimp only [aD];have CJ:=Aw.sp n CC;have HW:=CJ.len (Aw.sn n CC);have Cy:=Aw.kd n CC;have C4:=Au.len
     have S0:∀ (j:Nat) (w':Vy×List (Key×V)),ws[j]?=some w'->∃ m,(nxt Ls (Ls.length - i) [])[j]?=some m/\Ws1 VR H4 m w':=fun j w' Bm=>by
      obtain ⟨m,hm⟩:∃ m,(nxt Ls (Ls.length - i) [])[j]?=some m:=⟨_,Vw (by rw [<- C4];exact (Vz.mp Bm).1)⟩;exact ⟨m,hm,Au.one j m w' hm Bm⟩
     refine ⟨_,rfl,_,rfl,n.ka,bl,n.sp,ws,rfl,GA _ _ (AQ.sp n CC),Aw.sn n CC,by omega,Au.at.same HR,fun w' Bm=>?_,fun kv zR=>?_,fun ca Ak H9 s9 BV DQ S3=>?_⟩
     · refine hid fun ZZ kZ=>?_;obtain ⟨j,hj⟩:=V8.mp Bm;obtain ⟨m,hm,hW⟩:=S0 j w' hj;refine kZ ?_;exact ⟨fun z=>(by have:=hW.new;rw [z,AQ.sp n CC] at this;cases this),hW.len⟩
     · refine hid fun ZZ kZ=>?_;obtain ⟨kid,j,m,h1,h2,_⟩:=CJ kv zR;obtain ⟨w',Bm⟩:∃ w',ws[j]?=some w':=⟨_,Vw (by rw [C4];exact (Vz.mp h2).1)⟩;refine kZ ?_;exact ⟨kid,j,w',h1,Bm⟩
     dsimp only [aD];have Mp:=GA.trans s9;have Ig:=s9 _ _ (s8 _ _ DM.at.1);have Ih:=Mp _ _ (AQ.ak n CC)
     have FD:AskOk Dp ins rows head H4 n.t n.ask:=fun kv zR=>by
      obtain ⟨s,p,da,h,_⟩:=Aw.ed n CC kv zR;exact ⟨s,p,da,h⟩
     have Ay:=FD.len (Aw.an n CC);have Gr:=TO.rl;refine ⟨_,rfl,.inl ⟨rfl,_,SqL.of Ig⟩,?_⟩;change kS _ _ _ _;refine qe (aa:=n.aa) (ask:=n.ask) (VW:=fun kv v=>∃ s,kv.1=Wa s/\VR s n.t v) (fun R hR=>⟨_,rfl,hR⟩) Ih (by omega) (fun e kv p H2 R zR sb ep hR=>?_) (fun D ps prs H2 s2 eD CS Aj B9=>?_)
     · refine hid fun ZZ kZ=>?_;obtain ⟨s0,p0,da,hE,Cj⟩:=Aw.ed n CC kv (VD zR);refine kZ ?_;rw [hE.k,hE.v] at ep;refine ⟨p,_,rfl,SqT.of ep,rfl,_,_,rfl,_,_,rfl,rfl,?_⟩;dsimp only [aD];refine hid fun ZZ kZ=>?_;obtain ⟨d,own,kvs,g1,g2,g3⟩:=hE.dg;refine kZ ?_;have kp:∀ c o,H4 c=some o->c≠n.aa->H2 c=some o:=fun c o e hc=>sb c o hc (Mp _ _ e);have HL:d≠ca:=fun z=>by rw [z] at g2;rw [GA _ _ g2] at BV;cases BV
       have S5:DgN Dp ca H2 p0 da:=⟨d,own,kvs,HL,kp _ _ g1 (aJ g1 (AQ.ak n CC) (fun z=>nomatch z)),kp _ _ g2 (aJ g2 (AQ.ak n CC) (fun z=>nomatch z)),g3⟩;have Mq:H2 ca=some (.dT Ak):=sb _ _ (aJ DQ Ih (fun z=>nomatch z)) DQ
       have Pm:∀ c∈callsOf (p0.pl []),∃ (v:Int) (m:Nd),aS Ak (ky c.2)=some (.int v)/\n.t.kids[c.2.2.toNat]?=some m.t/\VR c.2.1 m.t v:=fun c hc=>by
        obtain ⟨j,m,h1,h2,h3,h4⟩:=Cj c hc;obtain ⟨w',Bm⟩:∃ w',ws[j]?=some w':=⟨_,Vw (by rw [C4];exact (Vz.mp h2).1)⟩;obtain ⟨v,Mr,J4⟩:=(Au.one j m w' h2 Bm).val _ h4;exact ⟨v,m,S3 _ j w' _ _ h1 Bm Mr,h3,J4⟩
       have J2:∀ c∈callsOf (p0.pl []),∀ v,aS Ak (ky c.2)=some (.int v)->fOf Ak c.2.1 c.2.2=v:=fun c _ v h=>by
        unfold fOf;rw [show ky (c.2.1,c.2.2)=ky c.2 from rfl,h]
       refine ⟨_,rfl,g,FN,rfl,SW,_,rfl,_,rfl,Mm H2 p0 da ca Ak (fOf Ak) _ S5 Mq (fun c hc=>?_) fun v H3 s3 S6=>?_⟩
       · refine hid fun ZZ kZ=>?_;obtain ⟨v,m,h1,_,_⟩:=Pm c hc;refine kZ ?_;rw [J2 c hc v h1];exact h1
       · refine ⟨aq (by show 2<=1000000;decide),fun pr Bn=>?_⟩;refine hR v pr _ (s3.trans (ag Bn _)) (by rw [hE.k];exact ad) ⟨s0,hE.k,Mn s0 n.t p0 (fOf Ak) v hE.pat (fun c hc h hh=>?_) S6⟩;refine hid fun ZZ kZ=>?_;obtain ⟨v',m,h1,h2,h3⟩:=Pm c hc;refine kZ ?_;rw [h2] at hh;cases hh;rw [J2 c hc v' h1];exact h3
     · have Bj:=VU CS;have Ae:=congrArg Y5 Aj;rw [Vt,Vt] at Ae;refine ⟨D,ps,prs,rfl,eD,CS,by omega,fun wd Pn=>?_⟩;have FK:(prs.map (·.1)).Nodup:=by rw [Aj];exact Aw.an n CC
       rw [iU prs [] FK,Y0];have s3:L2.Same H2 (upd H2 wd (.dK prs)):=ag Pn _;have e3:(upd H2 wd (.dK prs)) wd=some (.dK prs):=ad;generalize (upd H2 wd (.dK prs))=H3 at s3 e3 ⊢;have Po:=s2.trans s3;have Ii:=Po _ _ Ig;have S7:=DM.len;rw [Wi] at S7;have U6:=(Vz.mp hn).1;have U7:=Aw.ln;refine ⟨tl,_,_,rfl,rfl,Ii,aI (by rw [Vt];omega),?_⟩;have S8:wd≠tl:=aJ e3 Ii (fun z=>nomatch z);have Pp:L2.Same H7 H3:=(s8.trans s9).trans Po;refine ⟨_,_,_,us++[(wd,prs)],rfl,fun c o hc e=>by rw [af hc];exact Pp _ _ (s7 c o hc e),⟨⟨by rw [ad,VN];rfl,fun w' Bm=>?_⟩,by rw [VO,Wi,Xb];omega,fun j m w' hm Bm=>?_⟩⟩
       · rcases VV.mp Bm with h | h
         · obtain ⟨h1,h2⟩:=DM.at.2 w' h;exact ⟨by rw [af (aJ h1 DM.at.1 (fun z=>nomatch z))];exact Pp _ _ h1,h2⟩
         · rw [VJ.mp h];refine ⟨by rw [af S8];exact e3,FK,fun kv zR=>?_⟩;refine hid fun ZZ kZ=>?_;obtain ⟨v,_,L3,_,h1,s,h2,_⟩:=B9 kv zR;refine kZ ?_;exact ⟨s,h1.symm.trans h2⟩
       · by_cases S9:j<q
         · rw [Xa (by omega)] at Bm;refine DM.one j m w' ?_ Bm;rw [List.getElem?_take,if_pos (by omega)] at hm;rw [List.getElem?_take,if_pos S9];exact hm
         · have JC:=(Vz.mp Bm).1;rw [VO,Xb] at JC;have Mt:j=q:=by omega
           subst Mt;rw [XZ (by omega),show j - us.length=0 by omega] at Bm;have Ta:(wd,prs)=w':=VZ Bm;rw [List.getElem?_take,if_pos (by omega),hn] at hm;cases hm;rw [<- Ta];refine ⟨(Mp.trans s2).free Pn,by show prs.length<=101;omega,fun s Ij=>?_⟩;refine hid fun ZZ kZ=>?_;obtain ⟨u,hu⟩:=ZR.mp Ij;have C6:(Wa s:Key)∈prs.map (·.1):=by rw [Aj];exact V4.mpr ⟨_,iq hu,rfl⟩
           obtain ⟨pr,Bn,DS⟩:=V4.mp C6;obtain ⟨v,h1,L3,_,h2,s',h3,h4⟩:=B9 pr Bn;refine kZ ?_;have Gy:s'=s:=Sum.inl.inj (h3.symm.trans (h2.trans DS));have:=vo FK Bn;rw [DS,h1] at this;exact ⟨v,this,Gy ▸ h4⟩
   · rintro σ H7 ⟨c8,c9,Ci,us,rfl,s7,DM⟩;rw [Vt,W8] at DM;refine ⟨_,rfl,_,_,_,_,_,tl,us,rfl,fun c o e=>s7 c o (fun z=>by rw [z,DB] at e;cases e) (CZ _ _ e),?_⟩
     have e2:nxt Ls (Ls.length - (i+1)) []=L.ns:=by
      unfold nxt;rw [show Ls.length - (i+1)=Ls.length - 1 - i by omega,hL]
     rw [e2];exact DM
 · rintro σ H5 ⟨c6,c7,c8,c9,Ci,bl,ws,rfl,s5,Au⟩;rw [Vt,Nat.sub_self] at Au;refine hid fun ZZ kZ=>?_;obtain ⟨L0,n0,h1,h2,h3,h4⟩:=FJ
   have e2:nxt Ls 0 []=[n0]:=by
    unfold nxt;rw [h1];exact h2
   rw [e2] at Au
   obtain ⟨w0,Mu⟩:∃ w0,ws[0]?=some w0:=by
    have:=Au.len;exact ⟨_,Vw (by rw [this];exact Nat.zero_lt_one)⟩
   obtain ⟨v,Mr,J4⟩:=(Au.one 0 n0 w0 rfl Mu).val (-1) h4;refine kZ ?_;rw [h3] at J4;have gk:DGet H5 w0.1 (.int (-1)) (some (.int v)):=by have:=DGet.k (k:=Wa (-1)) ((Au.at.2 w0 (VD Mu)).1);rw [Mr] at this;exact this
   exact ⟨_,rfl,bl,_,_,.ref w0.1,rfl,rfl,SqL.of Au.at.1,bK (j:=0) (by rw [VM,Mu];rfl),w0.1,_,rfl,gk,k v H5 (BD.trans s5) J4⟩
def wb:DP:=fun p own kvs=>∃ es:CE,own=.int (p.kn:Nat)/\kvs=dE es/\TimesE (callsOf (p.pl [])) es/\(callsOf (p.pl [])).length<=10000
def vj:DP:=fun p own kvs=>∃ es:CE,own=.int (p.tall:Nat)/\kvs=dE es/\DepthE (callsOf (p.pl [])) es/\(callsOf (p.pl [])).length<=10000
structure PatS (p:Th):Prop where
 size:p.size<=10000
 tall:p.tall<=150
 kn:(p.walk.filter Th.isKnot).length=p.kn
theorem PatS.calls {p:Th} (h:PatS p):(callsOf (p.pl [])).length<=10000:=by
 have h1:=dD (p.pl []);have h2:=Th.pl_len [] p;have h3:=h.size;omega
theorem dgS:vx wb jX PatS:=fun H1 p pa R hA ok hR=>⟨pa,p,rfl,hA,ok.size,ok.tall,fun r d es H' s hd er ed hT=>hR r d _ _ H' s hd er ed ⟨es,by rw [ok.kn],rfl,hT,ok.calls⟩⟩
theorem dgT:vx vj iQ PatS:=fun H1 p pa R hA ok hR=>⟨pa,p,rfl,hA,ok.size,ok.tall,fun r d es H' s hd er ed hT=>hR r d _ _ H' s hd er ed ⟨es,rfl,rfl,hT,ok.calls⟩⟩
theorem yU (p:Th) (own:V) (kvs:List (List Key×V)) (h:wb p own kvs):mU p kvs:=by
 obtain ⟨es,_,rfl,h,_⟩:=h;exact pK h.toCallsE
theorem zk (p:Th) (own:V) (kvs:List (List Key×V)) (h:vj p own kvs):mU p kvs:=by
 obtain ⟨es,_,rfl,h,_⟩:=h;exact pK h.toCallsE
theorem wS:WSp wb fY Wvs:=fun H1 p da ca Ak f R hd DQ hv hR=>by
 refine hid fun ZZ kZ=>?_;obtain ⟨d,own,kvs,h0,h1,h2,es,rfl,rfl,hT,hl⟩:=hd;refine kZ ?_;have AR:=hT.toCallsE.len;refine ⟨da,d,ca,_,es,Ak,f,rfl,h1,h2,DQ,h0,by omega,fun e he=>?_,fun H' s=>hR _ H' s ?_⟩
 · refine hid fun ZZ kZ=>?_;obtain ⟨p1,p2⟩:=hT.pos e he;obtain ⟨c,hc,e2⟩:=hT.of e he;refine kZ ?_;have:=hv c hc;rw [e2] at this;exact ⟨p1,by omega,this⟩
 · unfold Wvs;rw [hT.sum f]
theorem wT:WSp vj fb Wvt:=fun H1 p da ca Ak f R hd DQ hv hR=>by
 refine hid fun ZZ kZ=>?_;obtain ⟨d,own,kvs,h0,h1,h2,es,rfl,rfl,hT,hl⟩:=hd;refine kZ ?_;have AR:=hT.toCallsE.len;refine ⟨da,d,ca,_,es,Ak,f,rfl,h1,h2,DQ,h0,by omega,fun e he=>?_,fun H' M s hm ha=>hR _ H' s (tG hT hm ha)⟩;obtain ⟨c,hc,e2⟩:=hT.of e he;have:=hv c hc;rw [e2] at this;exact this
structure CntI (H:Hp) (ins outs:List (V2×Int)) (S:Int) (dp:Nat) (head:Th) (rows:List (List Th)) (t:Th) (b ta:Vy):Prop where
 bk:Bk H ins outs head rows b
 gi:bu ins
 ok0:∃ h0,oy ins outs S dp h0 rows
 hdf:head.FitS outs S 1
 le:S<=100
 pat:∀ row∈rows,∀ p∈row,PatS p
 hd:PatS head
 tr:At H t ta
 fit:t.Fit ins
 tall:t.tall<=100
 size:t.size<=40000
inductive iT (vs:List V) (H:Hp) (Q:VK) (_E:XK):Prop
 | mk (b ta:Vy) (ins outs:List (V2×Int)) (S:Int) (dp:Nat) (head:Th) (rows:List (List Th)) (t:Th) (zS:vs=[.ref b,.ref ta]) (zT:CntI H ins outs S dp head rows t b ta) (zX:∀ (v:Int) (H':Hp),L2.Same H H'->VRs ins rows head (-1) (.knot XS [t]) v->Q (.int v) H'):iT  vs H Q _E
def o7:Sp:=iT
inductive gh (vs:List V) (H:Hp) (Q:VK) (_E:XK):Prop
 | mk (b ta:Vy) (ins outs:List (V2×Int)) (S:Int) (dp:Nat) (head:Th) (rows:List (List Th)) (t:Th) (zS:vs=[.ref b,.ref ta]) (zT:CntI H ins outs S dp head rows t b ta) (zX:∀ (v:Int) (H':Hp),L2.Same H H'->VRt ins rows head (-1) (.knot XS [t]) v->Q (.int v) H'):gh  vs H Q _E
def nJ:Sp:=gh
theorem CntI.head {H:Hp} {ins outs:List (V2×Int)} {S:Int} {dp:Nat} {hd head:Th} {rows:List (List Th)} {t:Th} {b ta:Vy} (h:CntI H ins outs S dp hd rows t b ta) (hf:head.FitS outs S 1):∀ c∈callsOf (head.pl []),∃ p',Step ins rows c.2.1 c.2.2 [t] p' t:=fun c hc=>by
 refine hid fun ZZ kZ=>?_;obtain ⟨a1,a2,a3,a4⟩:=jf head [] hf c hc;obtain ⟨h0,ok⟩:=h.ok0;obtain ⟨p',u,st⟩:=mG ok (ks:=[t]) a1 a2 a3 (by simpa using a4) (fun u hu=>by rw [VJ.mp hu];exact h.fit);refine kZ ?_;have hu:=st.2.2.1;have e:c.2.2.toNat=0:=by omega
 rw [e] at hu;have:t=u:=VZ hu;subst this;exact ⟨p',st⟩
theorem pF:aP P w K mg base CX0 7 T.g_count_of.f T.g_count_of.d ["book","tree"] o7:=by
 refine T.g_count_of.F.ok p8 (fun vs H Q E h=>?_) (fun zQ A outer s H vs Q E hr h=>?_)
 · obtain ⟨b,ta,ins,outs,S,dp,head,rows,t,rfl,_⟩:=h;rfl
 obtain ⟨b,ta,ins,outs,S,dp,head,rows,t,rfl,I,k⟩:=h;refine ⟨_,(aj (aB (pcF T.g_folded (mQ T) hr (ac (pv 0) (ac (pcF T.g_head_of (gN T) hr (ac (pv 0) ae)) (ac (pv 1) (ac (bp (v:=.ref T.g_times_in.f) rfl T.g_times_in.m rfl) (ac (bp (v:=.ref T.g_count_worth.f) rfl T.g_count_worth.m rfl) ae)))))))),?_⟩
 try dsimp only [Ab,zL]
 refine hid fun ZZ kZ=>?_;obtain ⟨ia,oa,ha,ra,Ac,Ap,AD,hB⟩:=I.bk;obtain ⟨h0,ok⟩:=I.ok0;refine kZ ?_;exact ⟨_,rfl,_,rfl,b,_,_,_,_,rfl,hB.bk,_,rfl,b,ha,ta,T.g_times_in.f,T.g_count_worth.f,ins,outs,head,head,t,rows,_,_,wb,PatS,Wvs,t.walk,VRs ins rows head,rfl,I.bk,I.gi,fun row hr=>⟨(ok.row row hr).len,I.pat row hr⟩,hB.hd,I.hd,FvOk.of (pM T) T.g_times_in.F T.g_times_in.b,dgS,yU,I.tr,I.fit,I.tall,by rw [Th.walk_eq];exact VI ..,rE I.gi ok I.le I.size,I.head I.hdf,FvOk.of (lW T) T.g_count_worth.F T.g_count_worth.b,wS,xb I.gi,k⟩
theorem nT:aP P w K mg base CX0 7 T.g_height_of.f T.g_height_of.d ["book","tree"] nJ:=by
 refine T.g_height_of.F.ok n6 (fun vs H Q E h=>?_) (fun zQ A outer s H vs Q E hr h=>?_)
 · obtain ⟨b,ta,ins,outs,S,dp,head,rows,t,rfl,_⟩:=h;rfl
 obtain ⟨b,ta,ins,outs,S,dp,head,rows,t,rfl,I,k⟩:=h;refine ⟨_,(aj (aB (pcF T.g_folded (mQ T) hr (ac (pv 0) (ac (pcF T.g_head_of (gN T) hr (ac (pv 0) ae)) (ac (pv 1) (ac (bp (v:=.ref T.g_depths_in.f) rfl T.g_depths_in.m rfl) (ac (bp (v:=.ref T.g_height_worth.f) rfl T.g_height_worth.m rfl) ae)))))))),?_⟩
 try dsimp only [Ab,zL]
 refine hid fun ZZ kZ=>?_;obtain ⟨ia,oa,ha,ra,Ac,Ap,AD,hB⟩:=I.bk;obtain ⟨h0,ok⟩:=I.ok0;refine kZ ?_;exact ⟨_,rfl,_,rfl,b,_,_,_,_,rfl,hB.bk,_,rfl,b,ha,ta,T.g_depths_in.f,T.g_height_worth.f,ins,outs,head,head,t,rows,_,_,vj,PatS,Wvt,t.walk,VRt ins rows head,rfl,I.bk,I.gi,fun row hr=>⟨(ok.row row hr).len,I.pat row hr⟩,hB.hd,I.hd,FvOk.of (oo T) T.g_depths_in.F T.g_depths_in.b,dgT,zk,I.tr,I.fit,I.tall,by rw [Th.walk_eq];exact VI ..,rE I.gi ok I.le I.size,I.head I.hdf,FvOk.of (kf T) T.g_height_worth.F T.g_height_worth.b,wT,wY I.gi,k⟩
theorem oT {ks:List (V2×Int)} {S C:Int} (g:bu ks):∀ n:Nat,(∀ t:Th,t.size<=n->t.FitS ks S C->(t.walk.filter Th.isKnot).length=t.kn)/\(∀ ts:List Th,au ts<=n->cT ks S C ts->((walks ts).filter Th.isKnot).length=kns ts):=by
 intro n;induction n with
 | zero =>
   refine ⟨fun t h=>?_,fun ts h _=>?_⟩
   · have:=size_pos t;omega
   · cases ts with
     | nil=>rw [walks,kns];rfl
     | cons t ts =>
       rw [au] at h;have:=size_pos t;omega
 | succ n ih =>
   have one:∀ t:Th,t.size<=n+1->t.FitS ks S C->(t.walk.filter Th.isKnot).length=t.kn:=fun t hn h=>by
    cases t with
    | call s k=>rw [Th.walk,Th.kn];rfl
    | knot nm ts =>
      rw [Th.FitS] at h;rw [Th.size] at hn;have hs:nm≠star:=ve (g.low _ h.1).1
      have e:(Th.knot nm ts).isKnot=true:=by
       show (!false && !(decide (nm=star/\ts=[])))=true;rw [decide_eq_false (fun z=>hs z.1)];rfl
      rw [Th.walk,List.filter_cons,if_pos e,VY,ih.2 ts (by omega) h.2,Th.kn]
   refine ⟨one,fun ts=>?_⟩;induction ts with
   | nil=>intro _ _;rw [walks,kns];rfl
   | cons t ts Tb =>
     intro h hf;rw [au] at h;rw [cT] at hf;rw [walks,kns,List.filter_append,VO,one t (by omega) hf.1,Tb (by omega) hf.2]
theorem rW {ks:List (V2×Int)} {S C:Int} (g:bu ks) {p:Th} (h:p.FitS ks S C) (hz:p.size<=10000) (ht:p.tall<=150):PatS p:=⟨hz,ht,(oT g _).1 p (VG _) h⟩
theorem CntI.same {H H':Hp} {ins outs:List (V2×Int)} {S:Int} {dp:Nat} {head:Th} {rows:List (List Th)} {t:Th} {b ta:Vy} (h:CntI H ins outs S dp head rows t b ta) (k:L2.Same H H'):CntI H' ins outs S dp head rows t b ta:=by
 refine hid fun ZZ kZ=>?_;obtain ⟨ia,oa,ha,ra,Ac,Ap,AD,hB⟩:=h.bk;refine kZ ?_;exact ⟨⟨ia,oa,ha,ra,Ac,Ap,AD,hB.mono (Same.kt k)⟩,h.gi,h.ok0,h.hdf,h.le,h.pat,h.hd,h.tr.mono (Same.kt k),h.fit,h.tall,h.size⟩
def mf (k c:Int):List (V2×V):=[("met_knots",.int k),("met_calls",.int c)]
theorem mkc:¬ (("met_knots":V2)="met_calls"):=by decide +kernel
theorem zF:¬ (("met_calls":V2)="met_knots"):=by decide +kernel
theorem vQ:cg "met_knots" (.int 0) []=[(("met_knots":V2),V.int 0)]:=rfl
theorem v6:cg "met_calls" (.int 0) [(("met_knots":V2),V.int 0)]=mf 0 0:=by
 unfold mf;rw [cg,if_neg mkc,cg]
theorem vM (k c z:Int):cg "met_knots" (.int z) (mf k c)=mf z c:=by
 unfold mf;rw [cg,if_pos rfl]
theorem vL (k c z:Int):cg "met_calls" (.int z) (mf k c)=mf k z:=by
 unfold mf;rw [cg,if_neg mkc,cg,if_pos rfl]
theorem yg (k c:Int):(mf k c).lookup ("met_knots":V2)=some (V.int k):=by
 unfold mf;have hb:(("met_knots":V2) == "met_knots")=true:=beq_iff_eq.mpr rfl;simp only [Xg,hb]
theorem ya (k c:Int):(mf k c).lookup ("met_calls":V2)=some (V.int c):=by
 unfold mf;have hb:(("met_calls":V2) == "met_calls")=true:=beq_iff_eq.mpr rfl;have hc:(("met_calls":V2) == "met_knots")=false:=beq_eq_false_iff_ne.mpr zF;simp only [Xg,hb,hc]
theorem xZ {m:V2} (k c:Int) (h1:(m == ("met_knots":V2))=false) (h2:(m == ("met_calls":V2))=false):(mf k c).lookup m=none:=by
 unfold mf;simp only [Xg,h1,h2]
theorem uq (k c:Int):(mf k c).length<1000:=by show 2<1000;decide
inductive dX (C:Vy) (vs:List V) (H:Hp) (Q:VK) (_E:XK):Prop
 | mk (x dx:Vy) (zS:vs=[.ref x]) (zT:H x=some (.ins C dx [])) (zX:∀ H':Hp,(∀ b o,b≠x->H b=some o->H' b=some o)->H' x=some (.ins C dx (mf 0 0))->Q .non H'):dX C vs H Q _E
def j4 (C:Vy):Sp:=dX C
theorem kg:aP P w K mg base CX0 1 T.f_Measure_init T.d_Measure_init ["self"] (j4 T.e_Measure):=by
 refine T.F_Measure_init.ok j5 (fun vs H Q E h=>?_) (fun zQ A outer s H vs Q E hr h=>?_)
 · obtain ⟨x,dx,rfl,_⟩:=h;rfl
 obtain ⟨x,dx,rfl,ex,q⟩:=h
 refine ⟨_,(ai (l5 (pv 0) am rfl)
  (aj (l5 (pv 0) am rfl))),?_⟩
 try dsimp only [Ab,zL]
 refine ⟨_,rfl,x,T.e_Measure,dx,_,rfl,ex,T.cl_Measure,T.na_Measure_met_knots,(by show 0<1000;decide),?_⟩;refine ⟨_,rfl,x,T.e_Measure,dx,_,rfl,ad,T.cl_Measure,T.na_Measure_met_calls,(by show 1<1000;decide),?_⟩;refine q _ (fun b o hb e=>?_) ?_
 · rw [af hb,af hb];exact e
 · rw [ad,vQ,v6]
inductive dM (C:Vy) (vs:List V) (H:Hp) (Q:VK) (_E:XK):Prop
 | mk (x dx pa:Vy) (k c row:Int) (t:Th) (zS:vs=[.ref x,.ref pa,.int row]) (zT:H x=some (.ins C dx (mf k c))) (zX:At H t pa) (Af:∀ (k' c':Int) (H':Hp),k'=(if t.isCall=true then k else k+1)->c'=(if t.isCall=true then c+1 else c)->(∀ b o,b≠x->H b=some o->H' b=some o)->H' x=some (.ins C dx (mf k' c'))->Q (.bl (decide (row<=20/\k'<=400/\c'<=200))) H'):dM C vs H Q _E
def ja (C:Vy):Sp:=dM C
theorem jC:aP P w K mg base CX0 2 T.f_Measure_takes T.d_Measure_takes ["self","part","row"] (ja T.e_Measure):=by
 refine T.F_Measure_takes.ok i9 (fun vs H Q E h=>?_) (fun zQ A outer s H vs Q E hr h=>?_)
 · obtain ⟨x,dx,pa,k,c,row,t,rfl,_⟩:=h;rfl
 obtain ⟨x,dx,pa,k,c,row,t,rfl,ex,hA,q⟩:=h
 refine ⟨_,(ai (bW (aU (pcF T.g_is_call (dA T) hr (ac (pv 1) ae)) (fun _=>rfl)) (aj (nh (pv 0) am ul)) (aj (nh (pv 0) am ul)))
  (aj (aB (fh (cb j1 (pv 2) (bp (v:=.int (20)) rfl T.c_MOST_ROWS.choose_spec ⟨_,rfl⟩) (aW _)) (fh (cb j1 (cf (pv 0) rfl) (bp (v:=.int (400)) rfl T.c_MOST_KNOTS_books.choose_spec ⟨_,rfl⟩) (aW _)) (iY (cb j1 (cf (pv 0) rfl) (bp (v:=.int (200)) rfl T.c_MOST_CALLS.choose_spec ⟨_,rfl⟩) (aW _)))))))),?_⟩
 try dsimp only [Ab,zL]
 refine cZ (fun zJ H'=>Ex2 fun (k' c':Int)=>An5 (k'=(if t.isCall=true then k else k+1)) (c'=(if t.isCall=true then c+1 else c)) ((∀ b o,b≠x->H b=some o->H' b=some o)) (H' x=some (.ins T.e_Measure dx (mf k' c'))) (zJ=[some (.ref x),some (.ref pa),some (.int row)])) (fun kk hk=>?_) ?_
 · refine cE (fun b H'=>An2 (H=H') (b=t.isCall)) (fun k2 Bl=>?_) (fun H' hb=>?_) (fun H' hb=>?_)
   · exact ⟨_,rfl,pa,t,rfl,hA,_,rfl,Bl _ _ ⟨rfl,rfl⟩⟩
   · obtain ⟨rfl,hb⟩:=hb;refine ⟨_,rfl,x,T.e_Measure,dx,_,_,rfl,ex,T.cl_Measure,T.na_Measure_met_calls,ya k c,c,1,rfl,rfl,dx,_,ex,uq k c,?_⟩;exact hk _ _ ⟨k,c+1,by rw [if_pos hb.symm],by rw [if_pos hb.symm],fun b o hb e=>by rw [af hb];exact e,by rw [ad,vL],rfl⟩
   · obtain ⟨rfl,hb⟩:=hb;have AU:¬ t.isCall=true:=fun z=>by rw [<- hb] at z;cases z
     refine ⟨_,rfl,x,T.e_Measure,dx,_,_,rfl,ex,T.cl_Measure,T.na_Measure_met_knots,yg k c,k,1,rfl,rfl,dx,_,ex,uq k c,?_⟩;exact hk _ _ ⟨k+1,c,by rw [if_neg AU],by rw [if_neg AU],fun b o hb e=>by rw [af hb];exact e,by rw [ad,vM],rfl⟩
 rintro zJ H' ⟨k',c',Br,AX,hs,Jt,rfl⟩;have q':=q k' c' H' Br AX hs Jt;clear q;refine ⟨_,rfl,_,_,rfl,rfl,?_⟩;refine ⟨_,rfl,?_⟩;by_cases c1:row<=20
 · rw [if_pos (decide_eq_true c1)];refine ⟨_,rfl,x,T.e_Measure,dx,_,_,rfl,Jt,T.cl_Measure,T.na_Measure_met_knots,yg k' c',_,_,rfl,rfl,_,rfl,?_⟩;by_cases c2:k'<=400
   · rw [if_pos (decide_eq_true c2)];refine ⟨_,rfl,x,T.e_Measure,dx,_,_,rfl,Jt,T.cl_Measure,T.na_Measure_met_calls,ya k' c',_,_,rfl,rfl,?_⟩;have e:decide (row<=20/\k'<=400/\c'<=200)=decide (c'<=200):=by simp [c1,c2]
     rw [e] at q';exact q'
   · rw [if_neg (fun z=>c2 (of_decide_eq_true z))];rw [decide_eq_false (fun z=>c2 z.2.1)] at q';exact q'
 · rw [if_neg (fun z=>c1 (of_decide_eq_true z))];rw [decide_eq_false (fun z=>c1 z.1)] at q';exact q'
instance (t:Th):Decidable (Small t):=decidable_of_iff (t.tall<=20/\t.kn<=400/\cnT t<=200) ⟨fun h=>⟨h.1,h.2.1,h.2.2⟩,fun h=>⟨h.1,h.2,h.3⟩⟩
theorem uy {ts:List Th} (h:ts≠[]):∃ t∈ts,aC ts=t.tall:=by
 induction ts with
 | nil=>exact absurd rfl h
 | cons x ts ih =>
   rw [aC];by_cases hz:ts=[]
   · subst hz;exact ⟨x,VI ..,by rw [aC];omega⟩
   · obtain ⟨t,ht,e⟩:=ih hz;by_cases hc:aC ts<=x.tall
     · exact ⟨x,VI ..,by omega⟩
     · exact ⟨t,Vv _ ht,by omega⟩
def RwAt (H:Hp) (e:Th×Int) (p:Vy):Prop:=∃ ta,H p=some (.tup [.ref ta,.int e.2])/\At H e.1 ta
theorem RwAt.mono {H H':Hp} (k:KT H H') {e:Th×Int} {p:Vy} (h:RwAt H e p):RwAt H' e p:=by
 obtain ⟨ta,h1,h2⟩:=h;exact ⟨ta,k _ _ h1,h2.mono k⟩
inductive iH (vs:List V) (H:Hp) (Q:VK) (_E:XK):Prop
 | mk (a:Vy) (t:Th) (zS:vs=[.ref a]) (zT:At H t a) (zX:t.size<=100000) (Af:∀ H',L2.Same H H'->Q (.bl (decide (Small t))) H'):iH  vs H Q _E
def pe:Sp:=iH
set_option maxHeartbeats 2000000 in
theorem pY:aP P w K mg base CX0 4 T.g_is_small.f T.g_is_small.d ["pattern"] pe:=by
 refine T.g_is_small.F.ok cO (fun vs H Q E h=>?_) (fun zQ A outer s H vs Q E hr h=>?_)
 · obtain ⟨a,t,rfl,_⟩:=h;rfl
 obtain ⟨a,t,rfl,hA,hsz,q⟩:=h
 refine ⟨_,(ai (aA (i:=1) cO.nd rfl (VQ rfl) (kT T.mk_Measure (kg T) (hr.mono (by first | decide | omega)) rfl T.x_Measure T.b_Measure_init .nil fQ))
  (ai (aA (i:=2) cO.nd rfl (VQ rfl) (aT (ac (aO (ac (pv 0) (ac am ae))) ae)))
  (ai (cM We (aU (pv 2) (fun _=>rfl)) (ai (fS (kI V0 Yw Yv kH (pv 2)) (bm rfl (aw (ar (i:=3) cO.nd rfl (VQ rfl)) (aw (ar (i:=4) cO.nd rfl (ZI rfl)) aR))))
  (ai (bW (dm (aU (oB (pv 1) T.cl_Measure T.me_Measure_takes (jC T) (hr.mono (by first | decide | omega)) T.b_Measure_takes .nil fQ (ac (pv 3) (ac (pv 4) ae))) (fun _=>rfl))) (aj (aB iG)) bv)
  (aj (bd (cv V0 Ye Yd i3 (pv 2) (ac (bA (N:=[Vx "kid",Vx "row"]) (js:=[none,some 4]) (g:=(aD 0)) (tt:=aQ) (te:=(ow (bz (bC 0) (bz (tOp (rI0 fun i j=>.int (i+j)) (bC 1) (tC (.int 1))) dk)))) rfl (bO rfl (by decide +kernel) (by decide +kernel) rfl rfl rfl) (cR (pcF T.g_kids_of (eX T) hr (ac (pv 3) ae))) (fun _ _ _ _ _ _=>(ar (i:=0) yX rfl (VQ rfl))) (aN rfl) (fun _ _ _ _ _ _=>bc) (fun _ _ _ _ _ _=>(aO (ac (pv 0) (ac (aE bE (pv 1) am) ae))))) ae)))))))
  (aj (aB iG))))),?_⟩
 try dsimp only [Ab,zL]
 intro mo dx J5 ET Al;refine ⟨mo,dx,rfl,ad,fun H1 k1 Pq=>⟨rfl,?_⟩⟩
 have s0:L2.Same H (upd (upd H dx (.own mo)) mo (.ins T.e_Measure dx [])):=fun b o e=>by
  rw [af (av e J5),af (av e ET)];exact e
 have s1:L2.Same H H1:=fun b o e=>k1 b o (av e J5) (s0 b o e);refine ⟨_,rfl,aq (by show 2<=1000000;decide),fun p0 Ln=>?_⟩;dsimp only [aD];have s2:L2.Same H1 (upd H1 p0 (.tup [.ref a,.int 1])):=ag Ln _;have e2:(upd H1 p0 (.tup [.ref a,.int 1])) p0=some (.tup [.ref a,.int 1]):=ad;generalize (upd H1 p0 (.tup [.ref a,.int 1]))=H2 at s2 e2 ⊢;refine ⟨aq (by show 1<=1000000;decide),fun ah Bu=>?_⟩;have s3:L2.Same H2 (upd H2 ah (.lst [.ref p0])):=ag Bu _;have e3:(upd H2 ah (.lst [.ref p0])) ah=some (.lst (([p0]:List Vy).map V.ref)):=ad;have Ik:H ah=none:=(s1.trans s2).free Bu;have Fp:mo≠ah:=fun z=>by rw [<- z,s2 _ _ Pq] at Bu;cases Bu
 generalize (upd H2 ah (.lst [.ref p0]))=H3 at s3 e3 ⊢;have C0:=s2.trans s3;refine ⟨fun m σ H4=>Ex6 fun (ps:List Vy) (As:List (Th×Int)) (k c:Int) (pv rv:Option V)=>w8 (σ=[some (.ref a),some (.ref mo),some (.ref ah),pv,rv]) (L2.Same H H4) (H4 ah=some (.lst (ps.map V.ref))) (WD (RwAt H4) As ps) (H4 mo=some (.ins T.e_Measure dx (mf k c))) (k+(kns (As.map (·.1)):Int)=(t.kn:Int)) (c+(cI (As.map (·.1)):Int)=(cnT t:Int)) (k<=400) (c<=200) ((∀ e∈As,e.2+(e.1.tall:Int)<=(t.tall:Int)+1)) (((t.tall:Int)<=20∨∃ e∈As,(t.tall:Int)+1<=e.2+(e.1.tall:Int))) (au (As.map (·.1))<=100000) (m=au (As.map (·.1))),⟨_,[p0],[(t,1)],0,0,none,none,rfl,s1.trans C0,e3,.cons ⟨a,s3 _ _ e2,hA.mono (Same.kt (s1.trans C0))⟩ .nil,C0 _ _ Pq,?_,?_,by decide,by decide,?_,?_,?_,rfl⟩,?_⟩
 · show (0:Int)+((kns [t]:Nat):Int)=_;rw [kns,kns];omega
 · show (0:Int)+((cI [t]:Nat):Int)=_;rw [cI,cI];omega
 · intro e he;rw [VJ.mp he];show (1:Int)+(t.tall:Int)<=_;omega
 · exact .inr ⟨(t,1),VI ..,by show _<=(1:Int)+(t.tall:Int);omega⟩
 · show au [t]<=100000;rw [au,au];omega
 rintro m σ H4 ⟨ps,As,k,c,pv,rv,rfl,s4,e4,Pr,em,hk,hc,U8,DL,hle,Cd,Gy,rfl⟩;refine ⟨_,rfl,_,.inl ⟨_,SqL.of e4,rfl⟩,?_⟩;refine cH (fun cc=>?_) (fun cc=>?_)
 · refine ⟨fun zJ H'=>∃ m',m'<au (As.map (·.1))/\Ex6 fun (ps:List Vy) (As:List (Th×Int)) (k c:Int) (pv rv:Option V)=>w8 (zJ=[some (.ref a),some (.ref mo),some (.ref ah),pv,rv]) (L2.Same H H') (H' ah=some (.lst (ps.map V.ref))) (WD (RwAt H') As ps) (H' mo=some (.ins T.e_Measure dx (mf k c))) (k+(kns (As.map (·.1)):Int)=(t.kn:Int)) (c+(cI (As.map (·.1)):Int)=(cnT t:Int)) (k<=400) (c<=200) ((∀ e∈As,e.2+(e.1.tall:Int)<=(t.tall:Int)+1)) (((t.tall:Int)<=20∨∃ e∈As,(t.tall:Int)+1<=e.2+(e.1.tall:Int))) (au (As.map (·.1))<=100000) (m'=au (As.map (·.1))),fun zJ H' h=>h,?_⟩;have Be:ps≠[]:=by intro z;subst z;simp at cc
   refine hid fun ZZ kZ=>?_;obtain ⟨Cm,b,rfl⟩:∃ Cm b,ps=Cm++[b]:=⟨ps.dropLast,ps.getLast Be,(XI Be).symm⟩;obtain ⟨Us,⟨x,r⟩,rfl,Pt,ta,eb,hx⟩:=P2.snoc_inv Pr;refine kZ ?_;have Il:(Us++[(x,r)]).map (·.1)=Us.map (·.1)++[x]:=by rw [VN];rfl
   rw [Il] at hk hc Gy;rw [lE,kns,kns,yE] at hk;rw [jM,cI,cI,yr] at hc;rw [aF,au,au,x.size_eq] at Gy;have Tc:=hle (x,r) (V5 _ (VI ..));dsimp only at Tc;have J6:=x.tall_eq;refine ⟨_,rfl,.inl ⟨rfl,_,SqL.of e4⟩,ah,_,.ref b,rfl,rfl,e4,by simp,?_⟩;have d1:((Cm++[b]).map V.ref).dropLast=Cm.map V.ref:=by simp
   rw [d1];have k5:KT H4 (upd H4 ah (.lst (Cm.map V.ref))):=bx e4;have s5:L2.Same H (upd H4 ah (.lst (Cm.map V.ref))):=aG s4 Ik;have e5:(upd H4 ah (.lst (Cm.map V.ref))) ah=some (.lst (Cm.map V.ref)):=ad;have J7:(upd H4 ah (.lst (Cm.map V.ref))) mo=some (.ins T.e_Measure dx (mf k c)):=by rw [af Fp];exact em
   generalize (upd H4 ah (.lst (Cm.map V.ref)))=H5 at k5 s5 e5 J7 ⊢;refine ⟨b,_,rfl,SqT.of (k5 _ _ eb),rfl,_,_,rfl,_,_,rfl,rfl,?_⟩;dsimp only [aD];refine cZ (fun zJ H6=>Ex2 fun (k' c':Int)=>An6 (k'=(if x.isCall=true then k else k+1)) (c'=(if x.isCall=true then c+1 else c)) ((∀ b o,b≠mo->H5 b=some o->H6 b=some o)) (H6 mo=some (.ins T.e_Measure dx (mf k' c'))) ((r<=20/\k'<=400/\c'<=200)) (zJ=[some (.ref a),some (.ref mo),some (.ref ah),some (.ref ta),some (.int r)])) (fun kk DR=>?_) ?_
   · refine cE (fun bb H6=>Ex2 fun (k' c':Int)=>An5 (k'=(if x.isCall=true then k else k+1)) (c'=(if x.isCall=true then c+1 else c)) ((∀ b o,b≠mo->H5 b=some o->H6 b=some o)) (H6 mo=some (.ins T.e_Measure dx (mf k' c'))) (bb=!decide (r<=20/\k'<=400/\c'<=200))) (fun k2 Bl=>?_) (fun H6 hb=>?_) (fun H6 hb=>?_)
     · refine ⟨_,rfl,mo,dx,_,rfl,J7,xZ k c (by decide +kernel) (by decide +kernel),_,rfl,_,rfl,mo,dx,ta,k,c,r,x,rfl,J7,hx.mono k5,fun k' c' H6 h1 h2 h3 h4=>?_⟩;exact ⟨_,rfl,Bl _ _ ⟨k',c',h1,h2,h3,h4,rfl⟩⟩
     · refine hid fun ZZ kZ=>?_;obtain ⟨k',c',h1,h2,h3,h4,h5⟩:=hb;refine kZ ?_;have AY:¬ (r<=20/\k'<=400/\c'<=200):=fun z=>by rw [decide_eq_true z] at h5;cases h5
       have CK:decide (Small t)=false:=decide_eq_false fun z=>AY (by
        obtain ⟨z1,z2,z3⟩:=z;refine ⟨by omega,?_,?_⟩
        · rw [h1];split at hk <;> split <;> first | omega | contradiction
        · rw [h2];split at hc <;> split <;> first | omega | contradiction)
       have s6:L2.Same H H6:=fun b o e=>h3 b o (av e J5) (s5 b o e);rw [CK] at q;exact q H6 s6
     · refine hid fun ZZ kZ=>?_;obtain ⟨k',c',h1,h2,h3,h4,h5⟩:=hb;refine kZ ?_
       have CM:r<=20/\k'<=400/\c'<=200:=of_decide_eq_true (by
        cases hd:decide (r<=20/\k'<=400/\c'<=200) with
        | true=>rfl
        | false=>rw [hd] at h5;cases h5)
       exact DR _ _ ⟨k',c',h1,h2,h3,h4,CM,rfl⟩
   rintro zJ H6 ⟨k',c',h1,h2,h3,h4,⟨Td,Mv,Mw⟩,rfl⟩;have k6:KT H5 H6:=fun b xs e=>h3 b _ (fun z=>by rw [z,J7] at e;cases e) e;have s6:L2.Same H H6:=fun b o e=>h3 b o (av e J5) (s5 b o e);have e6:H6 ah=some (.lst (Cm.map V.ref)):=h3 _ _ Fp.symm e5;have Pu:=k5.trans k6;refine ⟨_,rfl,.inl ⟨rfl,_,SqL.of e6⟩,_,rfl,ta,x,rfl,hx.mono Pu,fun ka zN H7 s7 ek Aj=>?_⟩;have Ae:zN.length=x.kids.length:=Aj.length;have U9:=cy x.kids;refine ⟨ka,rfl,⟨_,SqT.of ek⟩,eV (F:=RwAt) (xs:=zN.map V.ref) (x.kids.map fun u=>(u,r+1)) (fun H1 H2 z p kt h=>h.mono kt) (by rw [Vt,Vt];omega) (by rw [Vt];omega) (fun i Hx sx hi=>⟨_,_,SqT.of (sx _ _ ek),Vw hi⟩) (fun Hx sx=>⟨_,SqT.of (sx _ _ ek),VG _⟩) (fun i Hx x Hy sx hi hy=>⟨hy.1,hy.2 _ (SqT.of (sx _ _ ek))⟩) (fun i y z Hx R W' hy Bo sx hR=>?_) (fun D H8 bs hD s8 eD Bh=>?_)⟩
   · obtain ⟨ua,rfl,Mx⟩:=aM hy;obtain ⟨u,hu,My⟩:=Aj.get Mx;rw [VM,hu] at Bo;cases Bo;refine ⟨_,rfl,_,rfl,_,_,rfl,rfl,aq (by show 2<=1000000;decide),fun p1 CU=>?_⟩;exact hR _ p1 (ag CU _) ⟨ua,ad,My.mono (Same.kt (sx.trans (ag CU _)))⟩
   have U':Us.length=Cm.length:=VU Pt;have Cs:(x.kids.map fun u=>(u,r+1)).length=bs.length:=VU Bh;rw [Vt] at Cs;have Te:=cy (Us.map (·.1));rw [Vt] at Te;have J8:=s7.trans s8;have e8:=J8 _ _ e6;refine ⟨ah,D,_,_,rfl,rfl,e8,eD,YN (aI (by rw [Vt,Vt];omega)),?_⟩;have k9:KT H8 (upd H8 ah (.lst (Cm.map V.ref++bs.map V.ref))):=bx e8;have s9:L2.Same H (upd H8 ah (.lst (Cm.map V.ref++bs.map V.ref))):=aG (s6.trans J8) Ik
   have Gm:(Us++x.kids.map fun u=>(u,r+1)).map (·.1)=Us.map (·.1)++x.kids:=by
    rw [VN,XR];congr 1;exact List.map_id' _
   refine ⟨au ((Us++x.kids.map fun u=>(u,r+1)).map (·.1)),?_,Cm++bs,Us++(x.kids.map fun u=>(u,r+1)),k',c',_,_,rfl,s9,?_,?_,?_,?_,?_,Mv,Mw,?_,?_,?_,rfl⟩
   · rw [Gm,Il,aF,aF,au,au,x.size_eq];omega
   · rw [ad,VN]
   · exact P2.append (P2.mp (fun _ _ e=>e.mono ((Pu.trans (Same.kt J8)).trans k9)) Pt) (P2.mp (fun _ _ e=>e.mono k9) Bh)
   · rw [af Fp];exact J8 _ _ h4
   · rw [Gm,lE,h1];split at hk <;> split <;> first | omega | contradiction
   · rw [Gm,jM,h2];split at hc <;> split <;> first | omega | contradiction
   · intro e he;rcases VV.mp he with he | he
     · exact hle e (V9 _ he)
     · obtain ⟨u,hu,rfl⟩:=V4.mp he;have:=cL hu;dsimp only;omega
   · rcases Cd with h | ⟨e,he,Mz⟩
     · exact .inl h
     · rcases VV.mp he with he | he
       · exact .inr ⟨e,V9 _ he,Mz⟩
       · rw [VJ.mp he] at Mz;dsimp only at Mz;by_cases hz:x.kids=[]
         · rw [hz,aC] at J6;exact .inl (by omega)
         · obtain ⟨u,hu,eu⟩:=uy hz;exact .inr ⟨(u,r+1),V5 _ (V4.mpr ⟨u,hu,rfl⟩),by dsimp only;omega⟩
   · rw [Gm,aF];omega
 · have hz:ps=[]:=by
    cases ps with
    | nil=>rfl
    | cons y ys=>simp at cc
   subst hz;have Ed:As=[]:=Xh.mp (VU Pr);subst Ed;have Br:k+((kns []:Nat):Int)=(t.kn:Int):=hk;have AX:c+((cI []:Nat):Int)=(cnT t:Int):=hc;rw [kns] at Br;rw [cI] at AX
   have Tf:(t.tall:Int)<=20:=by
    rcases Cd with h | ⟨e,he,_⟩
    · exact h
    · cases he
   have J9:decide (Small t)=true:=decide_eq_true ⟨by omega,by omega,by omega⟩;rw [J9] at q;exact q H4 s4
inductive gm (vs:List V) (H:Hp) (Q:VK) (_E:XK):Prop
 | mk (i:Int) (zS:vs=[.int i]) (zT:Q (.bl true) H):gm  vs H Q _E
def n8:Sp:=gm
theorem oS:aP P w K mg base CX0 1 T.g_is_number.f T.g_is_number.d ["thing"] n8:=by
 refine T.g_is_number.F.ok oK (fun vs H Q E h=>?_) (fun zQ A outer s H vs Q E hr h=>?_)
 · obtain ⟨i,rfl,_⟩:=h;rfl
 obtain ⟨i,rfl,k⟩:=h;refine ⟨_,(aj (aB (fh (az (f9 (T:="int")) rfl T.n_isinstance Yt (ac (pv 0) (ac (ki (v:=.ty "int") rfl T.n_int Zg rfl) ae))) (iY (qF (az (f9 (T:="bool")) rfl T.n_isinstance Yt (ac (pv 0) (ac (ki (v:=.ty "bool") rfl T.n_bool PyProof.Rows.boot_bool rfl) ae)))))))),?_⟩
 try dsimp only [Ab,zL]
 refine ⟨_,rfl,_,_,_,rfl,.int i,xV,_,rfl,?_⟩;refine j7 ?_;exact ⟨_,rfl,_,_,_,rfl,.int i,wZ,_,rfl,k⟩
inductive iE (vs:List V) (H:Hp) (Q:VK) (_E:XK):Prop
 | mk (i b:Int) (zS:vs=[.int i,.int b]) (zT:Q (.bl (decide (0<=i/\i<b))) H):iE  vs H Q _E
def oZ:Sp:=iE
theorem fk:aP P w K mg base CX0 2 T.g_is_below.f T.g_is_below.d ["number","bound"] oZ:=by
 refine T.g_is_below.F.ok oU (fun vs H Q E h=>?_) (fun zQ A outer s H vs Q E hr h=>?_)
 · obtain ⟨i,b,rfl,_⟩:=h;rfl
 obtain ⟨i,b,rfl,k⟩:=h;refine ⟨_,(aj (aB (fh (pcF T.g_is_number (oS T) hr (ac (pv 0) ae)) (iY (qc j1 wL am (pv 0) (pv 1)))))),?_⟩
 try dsimp only [Ab,zL]
 refine ⟨_,rfl,i,rfl,_,rfl,?_⟩;refine j7 ?_;refine ⟨_,rfl,_,_,rfl,rfl,_,rfl,?_⟩;refine cH (fun c=>?_) (fun c=>?_)
 · have c':0<=i:=of_decide_eq_true c;refine ⟨_,rfl,_,_,rfl,rfl,?_⟩;have e:decide (0<=i/\i<b)=decide (i<b):=by simp [c']
   rw [e] at k;exact k
 · have c':¬ 0<=i:=fun z=>c (decide_eq_true z);have e:decide (0<=i/\i<b)=false:=by simp [c']
   rw [e] at k;exact k
inductive jG (vs:List V) (H:Hp) (Q:VK) (_E:XK):Prop
 | mk (z:V2) (zS:vs=[.str z]) (zT:z.length<=100000) (zX:∀ H',L2.Same H H'->Q (.bl (df z)) H'):jG  vs H Q _E
def qq:Sp:=jG
theorem qU:aP P w K mg base CX0 1 T.g_is_name.f T.g_is_name.d ["thing"] qq:=by
 refine T.g_is_name.F.ok ri (fun vs H Q E h=>?_) (fun zQ A outer s H vs Q E hr h=>?_)
 · obtain ⟨z,rfl,_⟩:=h;rfl
 obtain ⟨z,rfl,hz,k⟩:=h
 refine ⟨_,(ai (bW (PW.pt (lG (dm (aU (az (f9 (T:="str")) rfl T.n_isinstance Yt (ac (pv 0) (ac (ki (v:=.ty "str") rfl T.n_str PyProof.Rows.boot_str rfl) ae))) (fun _=>rfl))) (gS (dm (pj j1 j1 am (az eM rfl T.n_len Wd (ac (pv 0) ae)) (bp (v:=.int (8)) rfl T.c_MOST_LETTERS.choose_spec ⟨_,rfl⟩)))))) (aj (aB iG)) bv)
  (aj (aB (az (p5 rfl) rfl T.n_all PyProof.Rows.boot_all (ac (bA (N:=[Vx "sign"]) (js:=[none]) (g:=(aD 0)) (tt:=aQ) (te:=(qB (xl) (xl) (tC (.str (Vx "a"))) (bC 0) (tC (.str (Vx "z"))))) rfl (bO rfl (by decide +kernel) (by decide +kernel) rfl rfl rfl) (xX (pv 0)) (fun _ _ _ _ _ _=>(ar (i:=0) yY rfl (VQ rfl))) (aN rfl) (fun _ _ _ _ _ _=>bc) (fun _ _ _ _ _ _=>(qc mY mY eR (pv 0) eR))) ae))))),?_⟩
 try dsimp only [Ab,zL]
 refine ⟨_,rfl,_,_,_,rfl,.str z,xE,_,rfl,?_⟩;refine kc ?_;refine ⟨_,rfl,_,rfl,aq (by omega),_,_,rfl,rfl,_,rfl,?_⟩;refine cH (fun c1=>?_) (fun c1=>?_)
 · have Im:1<=(z.length:Int):=of_decide_eq_true c1;refine ⟨_,_,rfl,rfl,_,rfl,?_⟩;refine cH (fun c2=>?_) (fun c2=>?_)
   · have kk:=k H (.refl _)
     have e:df z=false:=by
      unfold df;rw [decide_eq_false (fun h=>?_)]
      · rfl
      · rw [decide_eq_true (show (z.length:Int)<=8 by omega)] at c2;cases c2
     rw [e] at kk;exact kk
   · have EX:z.length<=8:=by
      by_cases h:z.length<=8
      · exact h
      · rw [decide_eq_false (show ¬ (z.length:Int)<=8 by omega)] at c2;exact absurd rfl c2
     have e:df z=low z:=by
      unfold df;rw [decide_eq_true (show 1<=z.length/\z.length<=8 from ⟨by omega,EX⟩)];rfl
     rw [e] at k;refine ⟨_,rfl,z,rfl,re (fun c=>decide (97<=c/\c<=122)) (by show z.length<=100000;exact hz) (fun c H1 Q' W' _ hQ=>?_) (fun D H' hD s1 e1=>?_)⟩
     · refine ⟨_,rfl,_,_,rfl,rfl,_,rfl,?_⟩;rw [show (Vx "a").cps.toList=[97] by decide +kernel];rw [ui 97 c];refine cH (fun d1=>?_) (fun d1=>?_)
       · have MA:97<=c:=of_decide_eq_true d1;refine ⟨_,_,rfl,rfl,?_⟩;rw [show (Vx "z").cps.toList=[122] by decide +kernel,ui c 122];have e2:decide (97<=c/\c<=122)=decide (c<=122):=by simp [MA]
         rw [e2] at hQ;exact hQ
       · have MA:¬ 97<=c:=fun z=>d1 (decide_eq_true z);have e2:decide (97<=c/\c<=122)=false:=decide_eq_false fun z=>MA z.1;rw [e2] at hQ;exact hQ
     · refine ⟨D,_,rfl,SqL.of e1,?_⟩;rw [show ((z.cps.toList.map fun c=>decide (97<=c/\c<=122)).all id)=low z by unfold low;rw [List.all_map];rfl];exact k H' s1
 · have kk:=k H (.refl _)
   have e:df z=false:=by
    unfold df;rw [decide_eq_false (fun h=>c1 (decide_eq_true (by omega)))];rfl
   rw [e] at kk;refine ⟨_,rfl,j7 ?_⟩;exact kk
def ci (k:V2×Int):Bool:=df k.1 && decide (0<=k.2/\k.2<4)
inductive jS (vs:List V) (H:Hp) (Q:VK) (_E:XK):Prop
 | mk (a:Vy) (k:V2×Int) (zS:vs=[.ref a]) (zT:H a=some (.tup [.str k.1,.int k.2])) (zX:k.1.length<=100000) (Af:∀ H',L2.Same H H'->Q (.bl (ci k)) H'):jS  vs H Q _E
def lL:Sp:=jS
theorem rh:aP P w K mg base CX0 3 T.g_is_kind.f T.g_is_kind.d ["pair"] lL:=by
 refine T.g_is_kind.F.ok qE (fun vs H Q E h=>?_) (fun zQ A outer s H vs Q E hr h=>?_)
 · obtain ⟨a,z,rfl,_⟩:=h;rfl
 obtain ⟨a,⟨z,n⟩,rfl,ha,hz,k⟩:=h;refine ⟨_,(aj (aB (fh (cb hX (az ay rfl T.n_len Wd (ac (pv 0) ae)) am (aW _)) (fh (pcF T.g_is_name (qU T) hr (ac (aK aL (pv 0) am (fun _ _=>rfl)) ae)) (iY (pcF T.g_is_below (fk T) hr (ac (aK aL (pv 0) am (fun _ _=>rfl)) (ac (aE bE (bp (v:=.int (3)) rfl T.c_MOST_KIDS.choose_spec ⟨_,rfl⟩) am) ae)))))))),?_⟩
 try dsimp only [Ab,zL]
 refine ⟨_,rfl,a,_,rfl,.inr (SqT.of ha),rfl,_,rfl,?_⟩;refine j7 ?_;refine ⟨_,rfl,a,_,0,.str z,rfl,rfl,SqT.of ha,at0,z,rfl,hz,fun H1 s1=>?_⟩;refine ⟨_,rfl,?_⟩;refine cH (fun c=>?_) (fun c=>?_)
 · refine ⟨_,rfl,a,_,1,.int n,rfl,rfl,SqT.of (s1 _ _ ha),at1,_,_,rfl,rfl,n,_,rfl,?_⟩;have kk:=k H1 s1;unfold ci at kk;rw [show df z=true from c,Bool.true_and] at kk;exact kk
 · have kk:=k H1 s1;unfold ci at kk;have c':df z=false:=X9.mpr c;rw [c',Bool.false_and] at kk;exact kk
def b8 (ks:List (V2×Int)):Bool:=decide (1<=ks.length/\ks.length<=8) && (ks.all ci && (decide ((ks.map (·.1)).Nodup) && decide ((0:Int)∈ks.map (·.2))))
inductive gF (K:VB) (vs:List V) (H:Hp) (Q:VK) (_E:XK):Prop
 | mk (kr:Vy) (zN:List Vy) (ks:List (V2×Int)) (zS:vs=[.ref kr]) (zT:SqT K H kr (zN.map V.ref)) (zX:KsAt H ks zN) (Af:ks.length<=1000) (Av:(∀ k∈ks,k.1.length<=100000)) (AZ:∀ H',L2.Same H H'->Q (.bl (b8 ks)) H'):gF K vs H Q _E
def n5 (K:VB):Sp:=gF K
theorem oh:aP P w K mg base CX0 4 T.g_are_kinds.f T.g_are_kinds.d ["kinds"] (n5 K):=by
 refine T.g_are_kinds.F.ok ii (fun vs H Q E h=>?_) (fun zQ A outer s H vs Q E hr h=>?_)
 · obtain ⟨kr,zN,ks,rfl,_⟩:=h;rfl
 obtain ⟨kr,zN,ks,rfl,hK,Aj,hlen,MB,k⟩:=h
 refine ⟨_,(ai (bW (PW.pt (lG (dm (pj j1 j1 am (az ay rfl T.n_len Wd (ac (pv 0) ae)) (bp (v:=.int (8)) rfl T.c_MOST_KINDS.choose_spec ⟨_,rfl⟩))) (gS (dm (aU (az (p5 rfl) rfl T.n_all PyProof.Rows.boot_all (ac (bA (N:=[Vx "pair"]) (js:=[none]) (g:=(aD 0)) (tt:=aQ) (te:=(jU lL [] E0 (bz (bC 0) dk))) rfl (bO rfl (by decide +kernel) (by decide +kernel) rfl rfl rfl) (cR (pv 0)) (fun _ _ _ _ _ _=>(ar (i:=0) vO rfl (VQ rfl))) (aN rfl) (fun _ _ _ _ _ _=>bc) (fun _ _ _ _ _ _=>(pcF T.g_is_kind (rh T) hr (ac (pv 0) ae)))) ae)) (fun _=>rfl)))))) (aj (aB iG)) bv)
  (ai (eW (i:=1) (N:=[Vx "pair"]) (js:=[none]) (g:=(aD 0)) (tt:=aQ) (te:=(tOp (mw K) (bC 0) (tC (.int 0)))) ii.nd rfl (VQ rfl) rfl (bO rfl (by decide +kernel) (by decide +kernel) rfl rfl rfl) (cR (pv 0)) (fun _ _ _ _ _ _=>(ar (i:=0) vO rfl (VQ rfl))) (aN rfl) (fun _ _ _ _ _ _=>bc) (fun _ _ _ _ _ _=>(aK aL (pv 0) am (fun _ _=>rfl))))
  (aj (aB (fh (cb hX (az tu rfl T.n_len Wd (ac (bi (tO rfl) rfl T.n_set PyProof.Rows.boot_set (ac (pv 1) ae)) ae)) (az ay rfl T.n_len Wd (ac (pv 1) ae)) (aW _)) (iY (cb tH am (bA (N:=[Vx "pair"]) (js:=[none]) (g:=(aD 0)) (tt:=aQ) (te:=(tOp (mw K) (bC 0) (tC (.int 1)))) rfl (bO rfl (by decide +kernel) (by decide +kernel) rfl rfl rfl) (cR (pv 0)) (fun _ _ _ _ _ _=>(ar (i:=0) vO rfl (VQ rfl))) (aN rfl) (fun _ _ _ _ _ _=>bc) (fun _ _ _ _ _ _=>(aK aL (pv 0) am (fun _ _=>rfl)))) (by with_unfolding_all rfl)))))))),?_⟩
 try dsimp only [Ab,zL]
 have Ae:ks.length=zN.length:=VU Aj;refine ⟨_,rfl,kr,_,rfl,.inr hK,_,_,rfl,rfl,_,rfl,?_⟩;rw [Vt,<- Ae]
 have AY:∀ Hx,L2.Same H Hx->b8 ks=false->Q (.bl false) Hx:=fun Hx sx e=>by
  have kk:=k Hx sx;rw [e] at kk;exact kk
 have bad:¬ (1<=ks.length/\ks.length<=8)->b8 ks=false:=fun z=>by
  unfold b8;rw [decide_eq_false z];rfl
 refine cH (fun c1=>?_) (fun c1=>?_)
 · have Im:(1:Int)<=(ks.length:Int):=of_decide_eq_true c1;refine ⟨_,_,rfl,rfl,_,rfl,?_⟩;refine cH (fun c2=>?_) (fun c2=>?_)
   · refine j7 (AY H (.refl _) (bad fun z=>?_));rw [decide_eq_true (show (ks.length:Int)<=8 by omega)] at c2;cases c2
   · have EX:ks.length<=8:=by
      by_cases h:ks.length<=8
      · exact h
      · rw [decide_eq_false (show ¬ (ks.length:Int)<=8 by omega)] at c2;exact absurd rfl c2
     have DC:b8 ks=(ks.all ci && (decide ((ks.map (·.1)).Nodup) && decide ((0:Int)∈ks.map (·.2)))):=by
      unfold b8;rw [decide_eq_true (show 1<=ks.length/\ks.length<=8 from ⟨by omega,EX⟩)];rfl
     refine ⟨_,rfl,kr,rfl,⟨_,hK⟩,cN ks (fun k=>V.bl (ci k)) hK (by rw [Vt];exact Ae) (by rw [Vt];omega) (fun i x z H2 R W' hx hz s2 hR=>?_) (fun D H1 hD s1 e1=>?_)⟩
     · obtain ⟨ka,rfl,Ag⟩:=aM hx;obtain ⟨z',Bs,ez⟩:=P2.get' Aj Ag;rw [hz] at Bs;cases Bs;exact ⟨_,rfl,ka,z,rfl,s2 _ _ ez,MB z (VD hz),fun H3 s3=>hR H3 s3⟩
     · have MC:ks.map (fun k=>V.bl (ci k))=(ks.map ci).map V.bl:=by rw [XR];rfl
       rw [MC] at e1;refine ⟨D,_,rfl,SqL.of e1,_,rfl,?_⟩;rw [show (ks.map ci).all id=ks.all ci by rw [List.all_map];rfl];refine cH (fun c3=>?_) (fun c3=>?_)
       · refine AY H1 s1 ?_;rw [DC]
         have:ks.all ci=false:=by
          cases h:ks.all ci with
          | false=>rfl
          | true=>rw [h] at c3;cases c3
         rw [this];rfl
       · have zY:ks.all ci=true:=by
          cases h:ks.all ci with
          | true=>rfl
          | false=>rw [h] at c3;exact absurd rfl c3
         rw [zY,Bool.true_and] at DC;have MD:=Aj.mono (Same.kt s1);refine ⟨_,rfl,kr,rfl,⟨_,s1.seqT hK⟩,cN ks (fun k=>V.str k.1) (s1.seqT hK) (by rw [Vt];exact Ae) (by rw [Vt];omega) (fun i x z H2 R W' hx hz s2 hR=>?_) (fun D1 H2 Va s2 e2=>?_)⟩
         · obtain ⟨ka,rfl,Ag⟩:=aM hx;obtain ⟨z',Bs,ez⟩:=P2.get' MD Ag;rw [hz] at Bs;cases Bs;exact ⟨_,rfl,ka,_,0,.str z.1,rfl,rfl,SqT.of (s2 _ _ ez),at0,hR H2 (.refl _)⟩
         · have en:ks.map (fun k=>V.str k.1)=(ks.map (·.1)).map V.str:=by rw [XR];rfl
           rw [en] at e2;have CD:=s1.trans s2;refine ⟨_,rfl,D1,ks.map (·.1),rfl,SqL.of e2,by rw [Vt];omega,fun sa Tg=>?_⟩;have s3:=fun o:HO=>ag Tg o;have C0:=fun o:HO=>CD.trans (s3 o);refine ⟨sa,ks.map (·.1),rfl,ad,_,rfl,D1,_,rfl,.inl (SqL.of (s3 _ _ _ e2)),rfl,_,rfl,?_⟩;have DD:=o8 (ks.map (·.1)) (ks.map (·.1)).length (VG _);rw [W8] at DD;refine cH (fun c4=>?_) (fun c4=>?_)
           · have Ti:((dn (ks.map (·.1)) (ks.map (·.1)).length:Nat):Int)=(((ks.map (·.1)).map V.str).length:Int):=V.int.inj (of_decide_eq_true c4);rw [Vt (f:=V.str)] at Ti;have FK:=DD.mp (by omega);rw [decide_eq_true FK,Bool.true_and] at DC;refine ⟨_,rfl,kr,rfl,⟨_,(C0 _).seqT hK⟩,cN ks (fun k=>V.int k.2) ((C0 _).seqT hK) (by rw [Vt];exact Ae) (by rw [Vt];omega) (fun i x z H4 R W' hx hz s4 hR=>?_) (fun D3 H4 Vb s4 e4=>?_)⟩
             · obtain ⟨ka,rfl,Ag⟩:=aM hx;obtain ⟨z',Bs,ez⟩:=P2.get' (Aj.mono (Same.kt ((C0 _).trans s4))) Ag;rw [hz] at Bs;cases Bs;exact ⟨_,rfl,ka,_,1,.int z.2,rfl,rfl,SqT.of ez,at1,hR H4 (.refl _)⟩
             · have C6:inV (.int 0) (ks.map fun k=>V.int k.2)=decide ((0:Int)∈ks.map (·.2)):=by
                unfold inV;rw [List.any_map];by_cases h:(0:Int)∈ks.map (·.2)
                · rw [decide_eq_true h];obtain ⟨k',Br,e'⟩:=V4.mp h;exact Zk.mpr ⟨k',Br,by show eqV (.int k'.2) (.int 0)=true;rw [e'];rfl⟩
                · rw [decide_eq_false h];refine X9.mpr fun z=>h ?_;obtain ⟨k',Br,e'⟩:=Zk.mp z;have Cr:eqV (.int k'.2) (.int 0)=true:=e';exact V4.mpr ⟨k',Br,by simpa [eqV] using Cr⟩
               refine ⟨D3,_,rfl,.inl (SqL.of e4),rfl,?_,?_⟩
               · rw [List.all_map];exact Xs.mpr fun _ _=>rfl
               · have kk:=k H4 ((C0 _).trans s4);rw [DC,<- C6] at kk;exact kk
           · refine AY _ (C0 _) ?_;rw [DC,decide_eq_false (fun z=>c4 (decide_eq_true ?_))]
             · rfl
             · show V.int ((dn (ks.map (·.1)) (ks.map (·.1)).length:Nat):Int)=V.int (((ks.map (·.1)).map V.str).length:Int);rw [DD.mpr z,Vt (f:=V.str)]
 · refine ⟨_,rfl,j7 (AY H (.refl _) (bad fun z=>c1 (decide_eq_true (by omega))))⟩
def jj (K:VB) (H:Hp) (ks:List (V2×Int)) (a:Vy) (zN:List Vy):Prop:=(SqL K H a (zN.map V.ref)∨SqT K H a (zN.map V.ref))/\KsAt H ks zN/\ks.length<=1000/\∀ k∈ks,k.1.length<=100000
inductive iC (K:VB) (vs:List V) (H:Hp) (Q:VK) (_E:XK):Prop
 | mk (pr:Vy) (zN:List Vy) (ks:List (V2×Int)) (zS:vs=[.ref pr]) (zT:jj K H ks pr zN) (zX:b8 ks=true) (Af:∀ (r:Vy) (H':Hp),L2.Same H H'->H' r=some (.tup (zN.map V.ref))->Q (.ref r) H'):iC K vs H Q _E
def oX (K:VB):Sp:=iC K
theorem nM {σ:St} {H:Hp} {ks:List (V2×Int)} {pr:Vy} {zN:List Vy} {fin:Vy->Hp->Prop} (h:jj K H ks pr zN) (hq:∀ D H',L2.Same H H'->H' D=some (.lst (zN.map V.ref))->fin D H') :
 ((∃ xs,SqL K H pr xs)/\∀ D,H D=none->∃ (n:Nat) (W:Nat->Hp->Prop),W 0 (upd H D (.lst []))/\dN [none] (aD 0) aQ (tCB (fun xs H Q=>∃ p ys,xs=[.ref p]/\((SqL K H p ys/\∀ l,H l=none->Q (.ref l) (upd H l (.tup ys)))∨(SqT K H p ys/\Q (.ref p) H))) (bz (bC 0) dk)) σ (Itl K pr) D n W fun H'=>fin D H') ∨
 ((∃ xs,SqT K H pr xs)/\∀ D,H D=none->∃ (n:Nat) (W:Nat->Hp->Prop),W 0 (upd H D (.lst []))/\dN [none] (aD 0) aQ (tCB (fun xs H Q=>∃ p ys,xs=[.ref p]/\((SqL K H p ys/\∀ l,H l=none->Q (.ref l) (upd H l (.tup ys)))∨(SqT K H p ys/\Q (.ref p) H))) (bz (bC 0) dk)) σ (Itt K pr) D n W fun H'=>fin D H'):=by
 obtain ⟨hS,Aj,hlen,_⟩:=h;have Ae:ks.length=zN.length:=VU Aj
 have step:∀ (i:Nat) (x:V) (z:Vy) (H2:Hp) (R:VK) (W':Hp->Prop),(zN.map V.ref)[i]?=some x->zN[i]?=some z->L2.Same H H2->(∀ H3,L2.Same H2 H3->R (.ref z) H3) →
  aD 0 x (cσ [none] σ) H2 fun zU H3=>aQ zU H3 fun b H4=>if b=true then (tCB (fun xs H Q=>∃ p ys,xs=[.ref p]/\((SqL K H p ys/\∀ l,H l=none->Q (.ref l) (upd H l (.tup ys)))∨(SqT K H p ys/\Q (.ref p) H))) (bz (bC 0) dk)) zU H4 R else W' H4:=by
  intro i x z H2 R W' hx hz s2 hR;obtain ⟨ka,rfl,Ag⟩:=aM hx;rw [hz] at Ag;cases Ag;obtain ⟨z',Bs,ez⟩:=P2.get' Aj hz;exact ⟨_,rfl,z,_,rfl,.inr ⟨SqT.of (s2 _ _ ez),hR H2 (.refl _)⟩⟩
 rcases hS with hS | hS
 · exact .inl ⟨⟨_,hS⟩,cC zN V.ref hS (by rw [Vt]) (by rw [Vt];omega) step fun D H' hD s1 e1=>hq D H' s1 e1⟩
 · exact .inr ⟨⟨_,hS⟩,cN zN V.ref hS (by rw [Vt]) (by rw [Vt];omega) step fun D H' hD s1 e1=>hq D H' s1 e1⟩
theorem j2:aP P w K mg base CX0 5 T.g_kinds_of.f T.g_kinds_of.d ["pairs"] (oX K):=by
 refine T.g_kinds_of.F.ok jK (fun vs H Q E h=>?_) (fun zQ A outer s H vs Q E hr h=>?_)
 · obtain ⟨pr,zN,ks,rfl,_⟩:=h;rfl
 obtain ⟨pr,zN,ks,rfl,hp,hok,k⟩:=h
 refine ⟨_,(ai (aA (i:=1) jK.nd rfl (VQ rfl) (bi aY rfl T.n_tuple WE (ac (bA (N:=[Vx "pair"]) (js:=[none]) (g:=(aD 0)) (tt:=aQ) (te:=(tCB (fun xs H Q=>∃ p ys,xs=[.ref p]/\((SqL K H p ys/\∀ l,H l=none->Q (.ref l) (upd H l (.tup ys)))∨(SqT K H p ys/\Q (.ref p) H))) (bz (bC 0) dk))) rfl (bO rfl (by decide +kernel) (by decide +kernel) rfl rfl rfl) (xA (pv 0)) (fun _ _ _ _ _ _=>(ar (i:=0) vO rfl (VQ rfl))) (aN rfl) (fun _ _ _ _ _ _=>bc) (fun _ _ _ _ _ _=>(bi aY rfl T.n_tuple WE (ac (pv 0) ae)))) ae)))
  (ai (bW (dm (aU (pcF T.g_are_kinds (oh T) hr (ac (pv 1) ae)) (fun _=>rfl))) (aj dU) bv)
  (aj (aB (pv 1))))),?_⟩
 try dsimp only [Ab,zL]
 refine ⟨_,rfl,pr,rfl,nM hp fun D H1 s1 e1=>?_⟩;refine ⟨D,_,rfl,.inl ⟨SqL.of e1,fun r BW=>?_⟩⟩;have s2:=s1.trans (ag BW (.tup (zN.map V.ref)));refine hid fun ZZ kZ=>?_;obtain ⟨hS,Aj,hlen,MB⟩:=hp;refine kZ ?_;refine ⟨_,rfl,r,zN,ks,rfl,SqT.of ad,Aj.mono (Same.kt s2),hlen,MB,fun H3 s3=>?_⟩;rw [hok];refine ⟨_,rfl,kc ?_⟩;exact ⟨_,rfl,k r H3 (s2.trans s3) (s3 _ _ ad)⟩
inductive jF (K:VB) (vs:List V) (H:Hp) (Q:VK) (_E:XK):Prop
 | mk (kr:Vy) (zN:List Vy) (ks:List (V2×Int)) (n:V2) (zS:vs=[.ref kr,.str n]) (zT:SqT K H kr (zN.map V.ref)) (zX:KsAt H ks zN) (Af:Q (.int (cQ ks n)) H):jF K vs H Q _E
def qM (K:VB):Sp:=jF K
theorem qG:aP P w K mg base CX0 1 T.g_many_of.f T.g_many_of.d ["kinds","name"] (qM K):=by
 refine T.g_many_of.F.ok gL (fun vs H Q E h=>?_) (fun zQ A outer s H vs Q E hr h=>?_)
 · obtain ⟨kr,zN,ks,n,rfl,_⟩:=h;rfl
 obtain ⟨kr,zN,ks,n,rfl,hK,Aj,k⟩:=h
 refine ⟨_,(ai (bN We rfl (cR (pv 0)) (bm rfl (aw (ar (i:=2) gL.nd rfl (VQ rfl)) (aw (ar (i:=3) gL.nd rfl (VQ rfl)) aR))) (aj (bW (bt hX (pv 2) (pv 1) (aW _)) (aj (aB (pv 3))) bv)))
  (aj (aB (wo uB am)))),?_⟩
 try dsimp only [Ab,zL]
 refine ⟨_,rfl,kr,rfl,⟨_,hK⟩,?_⟩;have Ae:ks.length=zN.length:=VU Aj;refine oA (K:=K) (a:=kr) (xs:=zN.map V.ref) (fun i σ H2=>Ex2 fun c1 c2=>An3 (σ=[some (.ref kr),some (.str n),c1,c2]) (H2=H) (cQ ks n=cQ (ks.drop i) n)) ⟨none,none,rfl,rfl,by rw [XC]⟩ (fun i σ H2 _ ⟨_,_,_,e,_⟩=>by rw [e];exact hK) ?_ ?_
 · rintro i x σ H2 hx ⟨c1,c2,rfl,rfl,hm⟩;obtain ⟨ka,rfl,Ag⟩:=aM hx;obtain ⟨kd,Cy,Tj⟩:=P2.get' Aj Ag;have hi:i<ks.length:=(Vz.mp Cy).1
   have hd:ks.drop i=kd::ks.drop (i+1):=by
    rw [YQ hi];congr 1;rw [Vw hi] at Cy;exact VZ Cy
   rw [hd,cQ] at hm;refine ⟨ka,_,rfl,SqT.of Tj,rfl,_,_,rfl,_,_,rfl,rfl,?_⟩;refine ⟨_,rfl,_,rfl,rfl,_,rfl,?_⟩;refine cH (fun c=>?_) (fun c=>?_)
   · have c':kd.1=n:=V.str.inj (of_decide_eq_true c);rw [if_pos c'] at hm;rw [hm] at k;exact ⟨_,rfl,k⟩
   · have c':¬ kd.1=n:=fun z=>c (decide_eq_true (congrArg V.str z));rw [if_neg c'] at hm;exact ⟨_,_,rfl,rfl,hm⟩
 · rintro σ H2 ⟨c1,c2,rfl,rfl,hm⟩;rw [Vt,<- Ae,Z5,cQ] at hm;rw [hm] at k;exact ⟨_,rfl,k⟩
inductive d5 (K:VB) (vs:List V) (H:Hp) (Q:VK) (_E:XK):Prop
 | mk (kr a:Vy) (zN:List Vy) (ks:List (V2×Int)) (t:Th) (st kd:Int) (zS:vs=[.ref kr,.ref a,.int st,.int kd]) (zT:SqT K H kr (zN.map V.ref)) (zX:KsAt H ks zN) (Af:At H t a) (Av:t.size<=100000) (AZ:∀ H',L2.Same H H'->Q (.bl (fpb ks st kd t)) H'):d5 K vs H Q _E
def j9 (K:VB):Sp:=d5 K
theorem j6:aP P w K mg base CX0 3 T.g_fits_pattern.f T.g_fits_pattern.d ["kinds","pattern","states","kids"] (j9 K):=by
 refine T.g_fits_pattern.F.ok ff (fun vs H Q E h=>?_) (fun zQ A outer s H vs Q E hr h=>?_)
 · obtain ⟨kr,a,zN,ks,t,st,kd,rfl,_⟩:=h;rfl
 obtain ⟨kr,a,zN,ks,t,st,kd,rfl,hK,Aj,hA,hsz,k⟩:=h
 refine ⟨_,(ai (bN We rfl (cm (pcF T.g_walked (mT T) hr (ac (pv 1) ae))) (ar (i:=4) ff.nd rfl (VQ rfl)) (aj (bW (aU (pcF T.g_is_call (dA T) hr (ac (pv 4) ae)) (fun _=>rfl)) (aj (bW (PW.pt (lG (dm (aU (pcF T.g_is_below (fk T) hr (ac (aK aL (pv 4) am (fun _ _=>rfl)) (ac (pv 2) ae))) (fun _=>rfl))) (gS (dm (aU (pcF T.g_is_below (fk T) hr (ac (aK aL (pv 4) am (fun _ _=>rfl)) (ac (pv 3) ae))) (fun _=>rfl)))))) (aj (aB iG)) bv)) (aj (bW (bt u5 (pcF T.g_many_of (qG T) hr (ac (pv 0) (ac (aK aL (pv 4) am (fun _ _=>rfl)) ae))) (aE lV (az ay rfl T.n_len Wd (ac (pv 4) ae)) am) (aW _)) (aj (aB iG)) bv)))))
  (aj (aB iG))),?_⟩
 try dsimp only [Ab,zL]
 refine ⟨_,rfl,a,t,rfl,hA,hsz,fun r as H1 s1 nr er hw=>⟨r,rfl,⟨_,SqL.of er⟩,?_⟩⟩;have C4:as.length=t.walk.length:=hw.length
 refine fN (K:=K) (a:=r) (xs:=as.map V.ref) (fun i σ H2=>Ex1 fun c=>An3 (σ=[some (.ref kr),some (.ref a),some (.int st),some (.int kd),c]) (L2.Same H1 H2) ((t.walk.take i).all (okP ks st kd)=true))
  ⟨none,rfl,.refl _,by rw [YE];rfl⟩ (fun i σ H2 _ ⟨_,_,s2,_⟩=>SqL.of (s2 _ _ er)) ?_ ?_
 · rintro i x σ H2 hx ⟨c,rfl,s2,zY⟩;obtain ⟨xa,rfl,Ee⟩:=aM hx;obtain ⟨tx,Fv,ME⟩:=hw.get Ee;have Fw:=ME.mono (Same.kt s2);have CD:=s1.trans s2;have Cp:t.walk.take (i+1)=t.walk.take i++[tx]:=by rw [WY,Fv];rfl
   have AY:okP ks st kd tx=false->fpb ks st kd t=false:=by
    intro z;unfold fpb;rw [X9];intro y;rw [Xs] at y;rw [y tx (VD Fv)] at z;cases z
   have CM:okP ks st kd tx=true->(t.walk.take (i+1)).all (okP ks st kd)=true:=by
    intro z;rw [Cp,List.all_append,zY];simp [z]
   refine ⟨_,rfl,xa,tx,rfl,Fw,_,rfl,?_⟩;cases tx with
   | call sn kn =>
     refine j7 ?_;have C1:=Fw;rw [At] at C1;refine ⟨_,rfl,xa,_,1,_,rfl,rfl,SqT.of C1,at1,_,rfl,sn,st,rfl,_,rfl,?_⟩;refine cH (fun c1=>?_) (fun c1=>?_)
     · have e:fpb ks st kd t=false:=AY (by rw [okP];rw [Bool.not_eq_true'] at c1;rw [c1];rfl);have:=k H2 CD;rw [e] at this;exact j7 this
     · refine ⟨_,rfl,xa,_,2,_,rfl,rfl,SqT.of C1,at2,_,rfl,kn,kd,rfl,_,rfl,?_⟩
       have Im:decide (0<=sn/\sn<st)=true:=by
        cases h:decide (0<=sn/\sn<st) with
        | true=>rfl
        | false=>rw [h] at c1;exact absurd rfl c1
       refine cH (fun c2=>?_) (fun c2=>?_)
       · have e:fpb ks st kd t=false:=AY (by rw [okP];rw [Bool.not_eq_true'] at c2;rw [Im,c2];rfl);have:=k H2 CD;rw [e] at this;exact this
       · have EX:decide (0<=kn/\kn<kd)=true:=by
          cases h:decide (0<=kn/\kn<kd) with
          | true=>rfl
          | false=>rw [h] at c2;exact absurd rfl c2
         exact ⟨_,rfl,s2,CM (by rw [okP,Im,EX];rfl)⟩
   | knot nm us =>
     refine kc ?_;have C1:=Fw;rw [At] at C1;refine hid fun ZZ kZ=>?_;obtain ⟨CC,ka,ek,Ag⟩:=C1;refine kZ ?_;have Ae:ka.length=us.length:=Ag.length;refine ⟨_,rfl,_,rfl,xa,_,0,.str nm,rfl,rfl,SqT.of ek,at0,kr,zN,ks,nm,rfl,CD.seqT hK,Aj.mono (Same.kt CD),_,rfl,xa,_,rfl,.inr (SqT.of ek),_,_,rfl,rfl,rfl,_,rfl,?_⟩;have hlen:((V.str nm::ka.map V.ref).length:Int) - 1=(us.length:Int):=by rw [VY,Vt,Ae];omega
     refine cH (fun c=>?_) (fun c=>?_)
     · have hm:¬ cQ ks nm=((us.length:Nat):Int):=fun z=>yl c (by rw [z,<- hlen]);have e:fpb ks st kd t=false:=AY (by rw [okP];exact decide_eq_false hm);have:=k H2 CD;rw [e] at this;exact this
     · have hm:cQ ks nm=((us.length:Nat):Int):=by
        have:=V.int.inj (xC c);rw [this];exact hlen
       exact ⟨_,rfl,s2,CM (by rw [okP];exact decide_eq_true hm)⟩
 · rintro σ H2 ⟨c,rfl,s2,zY⟩;rw [Vt,C4,W8] at zY;have e:fpb ks st kd t=true:=zY;have:=k H2 (s1.trans s2);rw [e] at this;exact this
def qa (outs:List (V2×Int)) (st kd:Int) (t:Th):Prop:=Small t/\fpb outs st kd t=true
instance (outs:List (V2×Int)) (st kd:Int) (t:Th):Decidable (qa outs st kd t):=inferInstanceAs (Decidable (_/\_))
inductive dF (K:VB) (vs:List V) (H:Hp) (Q:VK) (_E:XK):Prop
 | mk (oa pa:Vy) (Ap:List Vy) (outs:List (V2×Int)) (t:Th) (st kd:Int) (zS:vs=[.ref oa,.ref pa,.int st,.int kd]) (zT:SqT K H oa (Ap.map V.ref)) (zX:KsAt H outs Ap) (Af:At H t pa) (Av:t.size<=100000) (AZ:qa outs st kd t) (Bz:∀ H',L2.Same H H'->Q .non H'):dF K vs H Q _E
def i0 (K:VB):Sp:=dF K
theorem d8:aP P w K mg base CX0 5 T.g_check_pattern.f T.g_check_pattern.d ["outs","pattern","states","kids"] (i0 K):=by
 refine T.g_check_pattern.F.ok jm (fun vs H Q E h=>?_) (fun zQ A outer s H vs Q E hr h=>?_)
 · obtain ⟨oa,pa,Ap,outs,t,st,kd,rfl,_⟩:=h;rfl
 obtain ⟨oa,pa,Ap,outs,t,st,kd,rfl,hS,Aj,hA,hsz,hok,q⟩:=h
 refine ⟨_,(ai (bW (dm (aU (pcF T.g_is_small (pY T) hr (ac (pv 1) ae)) (fun _=>rfl))) (aj dU) bv)
  (aj (bW (dm (aU (pcF T.g_fits_pattern (j6 T) hr (ac (pv 0) (ac (pv 1) (ac (pv 2) (ac (pv 3) ae))))) (fun _=>rfl))) (aj dU) bv))),?_⟩
 try dsimp only [Ab,zL]
 refine ⟨_,rfl,pa,t,rfl,hA,hsz,fun H1 s1=>⟨_,rfl,?_⟩⟩;rw [decide_eq_true hok.1];refine kc ?_;refine ⟨_,rfl,_,rfl,_,rfl,_,rfl,oa,pa,Ap,outs,t,st,kd,rfl,s1.seqT hS,Aj.mono (Same.kt s1),hA.mono (Same.kt s1),hsz,fun H2 s2=>⟨_,rfl,?_⟩⟩;rw [hok.2];exact kc (q H2 (s1.trans s2))
def oq (ins outs:List (V2×Int)) (st:Int) (row:List Th):Prop:=row.length=ins.length/\∀ (j:Nat) (t:Th) (k:V2×Int),row[j]?=some t->ins[j]?=some k->qa outs st k.2 t
inductive fe (K:VB) (vs:List V) (H:Hp) (Q:VK) (_E:XK):Prop
 | mk (ia oa ra:Vy) (Ac Ap Ai:List Vy) (ins outs:List (V2×Int)) (row:List Th) (st:Int) (zS:vs=[.ref ia,.ref oa,.ref ra,.int st]) (zT:SqT K H ia (Ac.map V.ref)) (zX:KsAt H ins Ac) (Af:SqT K H oa (Ap.map V.ref)) (Av:KsAt H outs Ap) (AZ:H ra=some (.tup (Ai.map V.ref))) (Bz:Ats H row Ai) (Ct:(∀ t∈row,t.size<=100000)) (FA:oq ins outs st row) (Gw:∀ H',L2.Same H H'->Q .non H'):fe K vs H Q _E
def l6 (K:VB):Sp:=fe K
theorem lZ:aP P w K mg base CX0 6 T.g_check_state.f T.g_check_state.d ["ins","outs","patterns","states"] (l6 K):=by
 refine T.g_check_state.F.ok de (fun vs H Q E h=>?_) (fun zQ A outer s H vs Q E hr h=>?_)
 · obtain ⟨ia,oa,ra,Ac,Ap,Ai,ins,outs,row,st,rfl,_⟩:=h;rfl
 obtain ⟨ia,oa,ra,Ac,Ap,Ai,ins,outs,row,st,rfl,hI,DE,hO,GB,er,Aq,hsz,BZ,q⟩:=h
 refine ⟨_,(ai (bW (bt u5 (az ay rfl T.n_len Wd (ac (pv 2) ae)) (az ay rfl T.n_len Wd (ac (pv 0) ae)) (aW _)) (aj dU) bv)
  (aj (bN We rfl (uP rfl T.n_zip (ac (pv 0) (ac (pv 2) ae))) (bm rfl (aw (ar (i:=4) de.nd rfl (VQ rfl)) (aw (ar (i:=5) de.nd rfl (VQ rfl)) aR))) (aj (bd (pcF T.g_check_pattern (d8 T) hr (ac (pv 1) (ac (pv 5) (ac (pv 3) (ac (aK aL (pv 4) am (fun _ _=>rfl)) ae)))))))))),?_⟩
 try dsimp only [Ab,zL]
 have BH:ins.length=Ac.length:=VU DE;have An:Ai.length=row.length:=Aq.length;refine ⟨_,rfl,ra,_,rfl,.inr (SqT.of er),_,rfl,ia,_,rfl,.inr hI,rfl,_,rfl,?_⟩;refine cH (fun c=>?_) (fun c=>?_)
 · exfalso
   have hz:((Ai.map V.ref).length:Int)=((Ac.map V.ref).length:Int):=by
    rw [Vt,Vt];have:=BZ.1;omega
   rw [hz] at c;simp at c
 · have hlen:row.length=ins.length:=by
    by_cases z:V.int ((Ai.map V.ref).length:Int)=V.int ((Ac.map V.ref).length:Int)
    · have z':=V.int.inj z;rw [Vt,Vt] at z';omega
    · exact absurd (by simpa using z) c
   refine ⟨_,rfl,_,rfl,ia,ra,rfl,⟨_,hI⟩,⟨_,SqT.of er⟩,?_⟩
   refine xG ins.length (fun j σ H7=>Ex2 fun c4 c5=>An2 (σ=[some (.ref ia),some (.ref oa),some (.ref ra),some (.int st),c4,c5]) (L2.Same H H7))
    ⟨none,none,rfl,.refl _⟩ (fun j σ H7 hj ⟨_,_,_,s7⟩=>⟨_,_,_,_,s7.seqT hI,SqT.of (s7 _ _ er),Vw (by rw [Vt];omega),Vw (by rw [Vt];omega)⟩) (fun σ H7 ⟨_,_,_,s7⟩=>⟨_,_,s7.seqT hI,SqT.of (s7 _ _ er),.inl (by rw [Vt];omega)⟩) ?_ ?_
   · rintro j x σ H7 H8 hj ⟨c4,c5,rfl,s7⟩ ⟨p2,x1,y1,D7,rfl,rfl,Tn,MF⟩;refine hid fun ZZ kZ=>?_;obtain ⟨ka,rfl,Ag⟩:=aM (Tn _ (s7.seqT hI));obtain ⟨ta,rfl,BU⟩:=aM (MF _ (SqT.of (s7 _ _ er)));obtain ⟨k,hk,ek⟩:=P2.get' DE Ag;obtain ⟨t,ht,BX⟩:=Aq.get BU;refine kZ ?_;have s8:L2.Same H7 (upd H7 p2 (.tup [.ref ka,.ref ta])):=ag D7 _;have e8:(upd H7 p2 (.tup [.ref ka,.ref ta])) p2=some (.tup [.ref ka,.ref ta]):=ad;generalize (upd H7 p2 (.tup [.ref ka,.ref ta]))=H8 at s8 e8 ⊢;have Io:=s7.trans s8;refine ⟨p2,_,rfl,SqT.of e8,rfl,_,_,rfl,_,_,rfl,rfl,?_⟩;refine ⟨_,rfl,_,rfl,_,rfl,_,rfl,ka,_,1,_,rfl,rfl,SqT.of (Io _ _ ek),at1,oa,ta,Ap,outs,t,st,k.2,rfl,Io.seqT hO,GB.mono (Same.kt Io),BX.mono (Same.kt Io),hsz t (VD ht),BZ.2 j t k ht hk,fun H9 s9=>⟨_,_,rfl,Io.trans s9⟩⟩
   · rintro σ H7 ⟨c4,c5,rfl,s7⟩;exact q H7 s7
def LRow (H:Hp) (row:List Th) (a:Vy):Prop:=∃ Ai:List Vy,H a=some (.lst (Ai.map V.ref))/\Ats H row Ai
theorem LRow.mono {H H':Hp} (s:L2.Same H H') {row:List Th} {a:Vy} (h:LRow H row a):LRow H' row a:=by
 obtain ⟨Ai,h1,h2⟩:=h;exact ⟨Ai,s _ _ h1,h2.mono (Same.kt s)⟩
def uD (ins outs:List (V2×Int)) (head:Th) (rows:List (List Th)):Prop:=rows.length<=20/\qa outs (rows.length:Nat) 1 head/\∀ row∈rows,oq ins outs (rows.length:Nat) row
inductive gj (K:VB) (vs:List V) (H:Hp) (Q:VK) (_E:XK):Prop
 | mk (ia oa ha ru:Vy) (Ac Ap GC:List Vy) (ins outs:List (V2×Int)) (head:Th) (rows:List (List Th)) (zS:vs=[.ref ia,.ref oa,.ref ha,.ref ru]) (zT:jj K H ins ia Ac) (zX:b8 ins=true) (Af:jj K H outs oa Ap) (Av:b8 outs=true) (AZ:At H head ha) (Bz:head.size<=100000) (Ct:H ru=some (.lst (GC.map V.ref))) (FA:WD (LRow H) rows GC) (Gw:rows.length<=1000) (El:(∀ row∈rows,∀ t∈row,t.size<=100000)) (FC:uD ins outs head rows) (HS:∀ (r:Vy) (H':Hp),L2.Same H H'->Bk H' ins outs head rows r->Q (.ref r) H'):gj K vs H Q _E
def oj (K:VB):Sp:=gj K
set_option maxHeartbeats 2000000 in
theorem ie:aP P w K mg base CX0 7 T.g_made_book.f T.g_made_book.d ["ins","outs","head","rules"] (oj K):=by
 refine T.g_made_book.F.ok cB (fun vs H Q E h=>?_) (fun zQ A outer s H vs Q E hr h=>?_)
 · obtain ⟨ia,oa,ha,ru,Ac,Ap,GC,ins,outs,head,rows,rfl,_⟩:=h;rfl
 obtain ⟨ia,oa,ha,ru,Ac,Ap,GC,ins,outs,head,rows,rfl,hI,gi,hO,go,hd,To,Tp,Bv,Vc,Tq,hok,q⟩:=h
 refine ⟨_,(ai (aA (i:=4) cB.nd rfl (VQ rfl) (pcF T.g_kinds_of (j2 T) hr (ac (pv 0) ae)))
  (ai (aA (i:=5) cB.nd rfl (VQ rfl) (pcF T.g_kinds_of (j2 T) hr (ac (pv 1) ae)))
  (ai (aA (i:=6) cB.nd rfl (VQ rfl) (bi aY rfl T.n_tuple WE (ac (bA (N:=[Vx "patterns"]) (js:=[none]) (g:=(aD 0)) (tt:=aQ) (te:=(tCB (fun xs H Q=>∃ p ys,xs=[.ref p]/\((SqL K H p ys/\∀ l,H l=none->Q (.ref l) (upd H l (.tup ys)))∨(SqT K H p ys/\Q (.ref p) H))) (bz (bC 0) dk))) rfl (bO rfl (by decide +kernel) (by decide +kernel) rfl rfl rfl) (cm (pv 3)) (fun _ _ _ _ _ _=>(ar (i:=0) zf rfl (VQ rfl))) (aN rfl) (fun _ _ _ _ _ _=>bc) (fun _ _ _ _ _ _=>(bi aY rfl T.n_tuple WE (ac (pv 0) ae)))) ae)))
  (ai (bW (bt gz (az ay rfl T.n_len Wd (ac (pv 6) ae)) (bp (v:=.int (20)) rfl T.c_MOST_STATES.choose_spec ⟨_,rfl⟩) (aW _)) (aj dU) bv)
  (ai (bd (pcF T.g_check_pattern (d8 T) hr (ac (pv 5) (ac (pv 2) (ac (az ay rfl T.n_len Wd (ac (pv 6) ae)) (ac am ae))))))
  (ai (bN We rfl (cR (pv 6)) (ar (i:=7) cB.nd rfl (VQ rfl)) (aj (bd (pcF T.g_check_state (lZ T) hr (ac (pv 4) (ac (pv 5) (ac (pv 7) (ac (az ay rfl T.n_len Wd (ac (pv 6) ae)) ae))))))))
  (aj (aB (aO (ac (pv 4) (ac (pv 5) (ac (pv 2) (ac (pv 6) ae))))))))))))),?_⟩
 try dsimp only [Ab,zL]
 have Gr:rows.length=GC.length:=VU Bv;refine hid fun ZZ kZ=>?_;obtain ⟨Tr,DE,Ts,Tt⟩:=hI;obtain ⟨Tu,GB,Tv,Tw⟩:=hO;refine kZ ?_;refine ⟨_,rfl,ia,Ac,ins,rfl,⟨Tr,DE,Ts,Tt⟩,gi,fun ti H1 s1 ei=>?_⟩;refine ⟨_,rfl,oa,Ap,outs,rfl,⟨?_,GB.mono (Same.kt s1),Tv,Tw⟩,go,fun to H2 s2 eo=>?_⟩
 · rcases Tu with h | h
   · exact .inl (s1.seq h)
   · exact .inr (s1.seqT h)
 have Ip:=s1.trans s2;have Eo:=Ip _ _ Tp;refine ⟨_,rfl,ru,rfl,⟨_,SqL.of Eo⟩,eV (F:=RowAt) (xs:=GC.map V.ref) rows (fun H1 H2 z p kt h=>h.mono kt) (by rw [Vt];omega) (by rw [Vt];omega) (fun i Hx sx hi=>⟨_,_,SqL.of (sx _ _ Eo),Vw hi⟩) (fun Hx sx=>⟨_,SqL.of (sx _ _ Eo),VG _⟩) (fun i Hx x Hy sx hi hy=>⟨hy.1,hy.2 _ (SqL.of (sx _ _ Eo))⟩) (fun i y row Hx R W' hy Bo sx hR=>?_) (fun D H3 bs hD s3 eD Bh=>?_)⟩
 · obtain ⟨la,rfl,Hn⟩:=aM hy;obtain ⟨Dy,EY,hl⟩:=P2.get' Bv Hn;rw [Bo] at EY;cases EY;obtain ⟨Ai,e1,h1⟩:=hl.mono (Ip.trans sx);exact ⟨_,rfl,la,_,rfl,.inl ⟨SqL.of e1,fun l Bi=>hR _ l (ag Bi _) ⟨Ai,ad,h1.mono (Same.kt (ag Bi _))⟩⟩⟩
 have Cs:rows.length=bs.length:=VU Bh;refine ⟨D,_,rfl,.inl ⟨SqL.of eD,fun rt Tx=>?_⟩⟩;have s4:L2.Same H3 (upd H3 rt (.tup (bs.map V.ref))):=ag Tx _;have e4:(upd H3 rt (.tup (bs.map V.ref))) rt=some (.tup (bs.map V.ref)):=ad;generalize (upd H3 rt (.tup (bs.map V.ref)))=H4 at s4 e4 ⊢;have C8:=s3.trans s4;have BD:=Ip.trans C8;have Pw:WD (RowAt H4) rows bs:=P2.mp (fun _ _ e=>e.mono (Same.kt s4)) Bh;have MG:((bs.map V.ref).length:Int)=(rows.length:Nat):=by rw [Vt,Cs]
 refine ⟨_,rfl,rt,_,rfl,.inr (SqT.of e4),_,_,rfl,rfl,_,rfl,?_⟩;rw [MG];have GD:=hok.1;have c20:decide (((rows.length:Nat):Int) > 20)=false:=decide_eq_false (by omega);rw [c20];refine kc ?_;have MH:=C8 _ _ eo;have Px:=(s2.trans C8) _ _ ei;refine ⟨_,rfl,_,rfl,_,rfl,rt,_,rfl,.inr (SqT.of e4),to,ha,Ap,outs,head,_,1,rfl,SqT.of MH,GB.mono (Same.kt BD),hd.mono (Same.kt BD),To,?_,?_⟩
 · rw [MG];exact hok.2.1
 · intro H5 s5;dsimp only [wH];have L7:=BD.trans s5;refine ⟨_,rfl,rt,rfl,⟨_,SqT.of (s5 _ _ e4)⟩,?_⟩
   refine oA (K:=K) (a:=rt) (xs:=bs.map V.ref) (fun i σ H6=>Ex1 fun c7=>An2 (σ=[some (.ref ia),some (.ref oa),some (.ref ha),some (.ref ru),some (.ref ti),some (.ref to),some (.ref rt),c7]) (L2.Same H4 H6))
    ⟨none,rfl,s5⟩ (fun i σ H6 _ ⟨_,_,s6⟩=>SqT.of (s6 _ _ e4)) ?_ ?_
   · rintro i x σ H6 hx ⟨c7,rfl,s6⟩;refine hid fun ZZ kZ=>?_;obtain ⟨ra,rfl,Tz⟩:=aM hx;obtain ⟨row,Aq,Ai,er,BX⟩:=P2.get' Pw Tz;refine kZ ?_;have Py:=VD Aq;have HP:=BD.trans s6;refine ⟨_,rfl,_,rfl,_,rfl,_,rfl,rt,_,rfl,.inr (SqT.of (s6 _ _ e4)),ti,to,ra,Ac,Ap,Ai,ins,outs,row,_,rfl,SqT.of (s6 _ _ Px),DE.mono (Same.kt HP),SqT.of (s6 _ _ MH),GB.mono (Same.kt HP),s6 _ _ er,BX.mono (Same.kt s6),Tq row Py,?_,fun H7 s7=>⟨_,rfl,s6.trans s7⟩⟩;rw [MG];exact hok.2.2 row Py
   · rintro σ H6 ⟨c7,rfl,s6⟩;refine ⟨_,rfl,_,rfl,_,rfl,_,rfl,aq (by show 4<=1000000;decide),fun r BW=>?_⟩;have s7:=s6.trans (ag BW (.tup [.ref ti,.ref to,.ref ha,.ref rt]));have J':=BD.trans s7;exact q r _ J' ⟨ti,to,ha,rt,Ac,Ap,bs,ad,s7 _ _ Px,DE.mono (Same.kt J'),s7 _ _ MH,GB.mono (Same.kt J'),hd.mono (Same.kt J'),s7 _ _ e4,P2.mp (fun _ _ e=>e.mono (Same.kt s7)) Pw⟩
inductive gx (vs:List V) (H:Hp) (Q:VK) (_E:XK):Prop
 | mk (n:V2) (m:Int) (zS:vs=[.str n,.int m]) (zT:Low n) (zX:0<=m) (Af:m<=3) (Av:∀ (r:Vy) (H':Hp),L2.Same H H'->At H' (.knot n (bV m)) r->Q (.ref r) H'):gx  vs H Q _E
def g9:Sp:=gx
inductive gB (vs:List V) (H:Hp) (Q:VK) (_E:XK):Prop
 | mk (ka:Vy) (zN:List Vy) (ks:List (V2×Int)) (zS:vs=[.ref ka]) (zT:H ka=some (.tup (zN.map V.ref))) (zX:KsAt H ks zN) (Af:bu ks) (Av:b8 ks=true) (AZ:∀ (r:Vy) (H':Hp),L2.Same H H'->Bk H' ks ks (.call 0 0) [bS ks] r->Q (.ref r) H'):gB  vs H Q _E
def nZ:Sp:=gB
theorem sk (m:Int) (n:V2):(Th.knot n (bV m)).tall<=2:=by
 rw [Th.tall]
 have:∀ l:List Nat,aC (l.map fun i=>Th.call 0 (i:Nat))<=1:=fun l=>by
  induction l with
  | nil=>rw [Xj,aC];decide
  | cons x l ih=>rw [Wf,aC,Th.tall];omega
 have:=this (WT m.toNat);unfold bV;omega
theorem wO {ks:List (V2×Int)} (g:bu ks):uD ks ks (.call 0 0) [bS ks]:=by
 have F:=rT g;have hc:(Th.call 0 0).FitS ks 1 1:=oW (by decide) (by decide);refine ⟨(show 1<=20 by decide),(show qa ks 1 1 (.call 0 0) from ⟨ph g hc (by rw [Th.tall];decide) (by rw [lc];decide),lj (fw g) hc⟩),fun row hr=>(show oq ks ks 1 row from ?_)⟩;obtain ⟨h1,h2⟩:=F.row row hr;refine ⟨h1,fun j t k ht hk=>?_⟩;have hf:=h2 j t k ht hk
 have An:t.tall<=2:=by
  rw [VJ.mp hr,cJ hk] at ht;cases ht;exact sk _ _
 exact ⟨ph g hf (by omega) (by have:=r8 t;omega),lj (fw g) hf⟩
theorem nP:aP P w K mg base CX0 1 T.g_same_knot.f T.g_same_knot.d ["name","many"] g9:=by
 refine T.g_same_knot.F.ok nU (fun vs H Q E h=>?_) (fun zQ A outer s H vs Q E hr h=>?_)
 · obtain ⟨n,m,rfl,_⟩:=h;rfl
 obtain ⟨n,m,rfl,hn,h0,h3,q⟩:=h;refine ⟨_,(aj (aB (aE iK (aO (ac (pv 0) ae)) (bi aY rfl T.n_tuple WE (ac (bA (N:=[Vx "kid"]) (js:=[none]) (g:=(aD 0)) (tt:=aQ) (te:=(ow (bz (tC (.str (Vx "?"))) (bz (tC (.int 0)) (bz (bC 0) dk))))) rfl (bO rfl (by decide +kernel) (by decide +kernel) rfl rfl rfl) (d4 rfl T.n_range (ac (pv 1) ae)) (fun _ _ _ _ _ _=>(ar (i:=0) o4 rfl (VQ rfl))) (aN rfl) (fun _ _ _ _ _ _=>bc) (fun _ _ _ _ _ _=>(aO (ac (bp (v:=.str (Vx "?")) rfl T.c_CALL_SIGN.choose_spec ⟨_,rfl⟩) (ac am (ac (pv 0) ae)))))) ae))))),?_⟩
 try dsimp only [Ab,zL]
 refine ⟨_,rfl,aq (by show 1<=1000000;decide),fun p1 CU=>?_⟩;have s1:L2.Same H (upd H p1 (.tup [.str n])):=ag CU _;have e1:(upd H p1 (.tup [.str n])) p1=some (.tup [.str n]):=ad;generalize (upd H p1 (.tup [.str n]))=H1 at s1 e1 ⊢;have hlen:(bV m).length=((WT m.toNat).map fun i=>V.int (i:Nat)).length:=by rw [b7,Vt,WK]
 refine ⟨_,rfl,m,rfl,by omega,by omega,eV (F:=At) (xs:=(WT m.toNat).map fun i=>V.int (i:Nat)) (bV m) (fun H1 H2 z p kt h=>h.mono kt) hlen (by rw [Vt,WK];omega) (fun i Hx sx hi=>by rw [Vt,WK] at hi;exact hi) (fun Hx sx=>by rw [Vt,WK];exact VG _) (fun i Hx x Hy sx hi hy=>⟨hy.1,?_⟩) (fun i y z Hx R W' hy Bo sx hR=>?_) (fun D H2 as hD s2 eD Bh=>?_)⟩
 · rw [Vt,WK] at hi;rw [VM,YU hi,hy.2];show some (V.int ((i:Nat):Int))=some (V.int (0+((i:Nat):Int)));rw [ZD]
 · have hi:i<m.toNat:=by have:=(Vz.mp Bo).1;rwa [b7] at this
   rw [VM,YU hi] at hy;cases hy;have hz:=gW (m:=m) (c:=(i:Nat)) (by omega) (by omega);rw [WL,Bo] at hz;cases hz;refine ⟨_,rfl,aq (by show 3<=1000000;decide),fun ca BV=>hR _ ca (ag BV _) ?_⟩;rw [At];exact ad
 have Ay:=VU Bh;rw [b7] at Ay;refine ⟨D,_,rfl,.inl ⟨SqL.of eD,fun tp BY=>?_⟩⟩;have s3:L2.Same H2 (upd H2 tp (.tup (as.map V.ref))):=ag BY _;have e3:(upd H2 tp (.tup (as.map V.ref))) tp=some (.tup (as.map V.ref)):=ad;generalize (upd H2 tp (.tup (as.map V.ref)))=H3 at s3 e3 ⊢;refine ud ((s2.trans s3) _ _ e1) e3 (by rw [Vt];show 1+as.length<=1000000;omega) fun p H4 s4 e4=>?_;refine q p H4 (s1.trans (s2.trans (s3.trans s4))) ?_;rw [At];exact ⟨m8 hn,as,e4,(eQ Bh).mono (Same.kt (s3.trans s4))⟩
set_option maxHeartbeats 1000000 in
theorem oQ:aP P w K mg base CX0 8 T.g_same_book.f T.g_same_book.d ["kinds"] nZ:=by
 refine T.g_same_book.F.ok oJ (fun vs H Q E h=>?_) (fun zQ A outer s H vs Q E hr h=>?_)
 · obtain ⟨ka,zN,ks,rfl,_⟩:=h;rfl
 obtain ⟨ka,zN,ks,rfl,ek,Aj,g,GF,q⟩:=h;refine ⟨_,(aj (aB (pcF T.g_made_book (ie T) hr (ac (pv 0) (ac (pv 0) (ac (pcF T.g_call_of (rm T) hr (ac am ae)) (ac (aT (ac (bA (N:=[Vx "name",Vx "many"]) (js:=[none,none]) (g:=(qd K 2 (dG (aD 0) (dG (aD 1) pH)))) (tt:=aQ) (te:=(jU g9 [] E0 (bz (bC 0) (bz (bC 1) dk)))) rfl (bO rfl (by decide +kernel) (by decide +kernel) rfl rfl rfl) (cR (pv 0)) (fun _ _ _ _ _ _=>(bm rfl (aw (ar (i:=0) wN rfl (VQ rfl)) (aw (ar (i:=1) wN rfl (VQ rfl)) aR)))) (i7 (cp bw (aN rfl) (cp bw (aN rfl) jc))) (fun _ _ _ _ _ _=>bc) (fun _ _ _ _ _ _=>(pcF T.g_same_knot (nP T) hr (ac (pv 0) (ac (pv 1) ae))))) ae)) ae))))))),?_⟩
 try dsimp only [Ab,zL]
 have Ae:ks.length=zN.length:=VU Aj;refine ⟨_,rfl,_,rfl,0,rfl,fun ca BV=>?_⟩;have s1:L2.Same H (upd H ca (.tup [.str BB.q,.int 0,.int 0])):=ag BV _;have e1:(upd H ca (.tup [.str BB.q,.int 0,.int 0])) ca=some (.tup [.str BB.q,.int 0,.int 0]):=ad;generalize (upd H ca (.tup [.str BB.q,.int 0,.int 0]))=H1 at s1 e1 ⊢;have Pz:=g.le;refine ⟨_,rfl,ka,rfl,⟨_,SqT.of (s1 _ _ ek)⟩,eV (F:=At) (xs:=zN.map V.ref) (bS ks) (fun H1 H2 z p kt h=>h.mono kt) (by unfold bS;rw [Vt,Vt];omega) (by rw [Vt];omega) (fun i Hx sx hi=>⟨_,_,SqT.of (sx _ _ (s1 _ _ ek)),Vw hi⟩) (fun Hx sx=>⟨_,SqT.of (sx _ _ (s1 _ _ ek)),VG _⟩) (fun i Hx x Hy sx hi hy=>⟨hy.1,hy.2 _ (SqT.of (sx _ _ (s1 _ _ ek)))⟩) (fun i y z Hx R W' hy Bo sx hR=>?_) (fun D H2 as hD s2 eD Bh=>?_)⟩
 · obtain ⟨pa,rfl,Cc⟩:=aM hy;obtain ⟨k,hk,MI⟩:=P2.get' Aj Cc;rw [cJ hk] at Bo;cases Bo;have hm:=VD hk;have DF:=g.num k hm;exact ⟨pa,_,rfl,SqT.of ((s1.trans sx) _ _ MI),rfl,_,_,rfl,_,_,rfl,rfl,_,rfl,_,rfl,k.1,k.2,rfl,(g.low k hm).1,DF.1,DF.2,fun r H' s' BX=>hR H' r s' BX⟩
 refine ⟨aq (by show 1<=1000000;decide),fun ru MJ=>?_⟩;have s3:L2.Same H2 (upd H2 ru (.lst [.ref D])):=ag MJ _;have e3:(upd H2 ru (.lst [.ref D])) ru=some (.lst (([D]:List Vy).map V.ref)):=ad;generalize (upd H2 ru (.lst [.ref D]))=H3 at s3 e3 ⊢;have MK:=s1.trans (s2.trans s3);have hK:jj K H3 ks ka zN:=⟨.inr (SqT.of (MK _ _ ek)),Aj.mono (Same.kt MK),by omega,fun k hk=>WI (g.low k hk).2 (by decide)⟩;have ok:=wO g;refine ⟨ka,ka,ca,ru,zN,zN,[D],ks,ks,.call 0 0,[bS ks],rfl,hK,GF,hK,GF,?_,by rw [Th.size];decide,e3,.cons ⟨as,s3 _ _ eD,(eQ Bh).mono (Same.kt s3)⟩ .nil,(show 1<=1000 by decide),fun row hr t ht=>?_,ok,fun r H4 s4 bk=>q r H4 (MK.trans s4) bk⟩
 · rw [At];exact (s2.trans s3) _ _ e1
 · obtain ⟨j,hj⟩:=V8.mp ht;obtain ⟨h1,h2⟩:=ok.2.2 row hr;have CO:=(Vz.mp hj).1;have:=(h2 j t _ hj (Vw (by omega))).1;have h3:=kj t;have h4:=this.kn;have h5:=this.cn;omega
inductive fR (vs:List V) (H:Hp) (Q:VK) (_E:XK):Prop
 | mk (b ia ra BQ ta:Vy) (v2 v3:V) (Ac AD Ai:List Vy) (ins:List (V2×Int)) (st:Int) (j:Nat) (k:V2×Int) (zS:vs=[.ref b,.int st,.str k.1]) (zT:H b=some (.tup [.ref ia,v2,v3,.ref ra])) (zX:H ia=some (.tup (Ac.map V.ref))) (Af:KsAt H ins Ac) (Av:bu ins) (AZ:H ra=some (.tup (AD.map V.ref))) (Bz:0<=st) (Ct:AD[st.toNat]?=some BQ) (FA:H BQ=some (.tup (Ai.map V.ref))) (Gw:ins[j]?=some k) (El:Ai[j]?=some ta) (FC:∀ H',L2.Same H H'->Q (.ref ta) H'):fR  vs H Q _E
def me:Sp:=fR
theorem mi:aP P w K mg base CX0 2 T.g_pattern_of.f T.g_pattern_of.d ["book","state","name"] me:=by
 refine T.g_pattern_of.F.ok gD (fun vs H Q E h=>?_) (fun zQ A outer s H vs Q E hr h=>?_)
 · obtain ⟨b,ia,ra,BQ,ta,v2,v3,Ac,AD,Ai,ins,st,j,k,rfl,_⟩:=h;rfl
 obtain ⟨b,ia,ra,BQ,ta,v2,v3,Ac,AD,Ai,ins,st,j,k,rfl,eb,PB,Em,g,era,BZ,Aq,FO,hj,BU,q⟩:=h
 refine ⟨_,(ai (eW (i:=3) (N:=[Vx "kind"]) (js:=[none]) (g:=(aD 0)) (tt:=aQ) (te:=(tOp (mw K) (bC 0) (tC (.int 0)))) gD.nd rfl (VQ rfl) rfl (bO rfl (by decide +kernel) (by decide +kernel) rfl rfl rfl) (cR (pcF T.g_ins_of (nq T) hr (ac (pv 0) ae))) (fun _ _ _ _ _ _=>(ar (i:=0) uN rfl (VQ rfl))) (aN rfl) (fun _ _ _ _ _ _=>bc) (fun _ _ _ _ _ _=>(aK aL (pv 0) am (fun _ _=>rfl))))
  (aj (aB (aK aL (aK aL (pcF T.g_rules_of (jO T) hr (ac (pv 0) ae)) (pv 1) (fun _ _=>rfl)) (cv V0 Y4 PySem.F.type_list_index tM (pv 3) (ac (pv 2) ae)) (fun _ _=>rfl))))),?_⟩
 try dsimp only [Ab,zL]
 have BH:ins.length=Ac.length:=VU Em;have LJ:=g.le;refine ⟨_,rfl,b,_,_,_,_,rfl,eb,ia,rfl,⟨_,SqT.of PB⟩,cN ins (fun k=>V.str k.1) (SqT.of PB) (by rw [Vt];exact BH) (by rw [Vt];omega) (fun i x z H2 R W' hx hz s2 hR=>?_) (fun D H1 hD s1 e1=>?_)⟩
 · obtain ⟨ka,rfl,Ag⟩:=aM hx;obtain ⟨z',Bs,ez⟩:=P2.get' Em Ag;rw [hz] at Bs;cases Bs;exact ⟨_,rfl,ka,_,0,.str z.1,rfl,rfl,SqT.of (s2 _ _ ez),at0,hR H2 (.refl _)⟩
 have en:ins.map (fun k=>V.str k.1)=(ins.map (·.1)).map V.str:=by rw [XR];rfl
 rw [en] at e1;refine ⟨_,rfl,b,_,_,_,_,rfl,s1 _ _ eb,_,rfl,ra,_,st,.ref BQ,rfl,rfl,SqT.of (s1 _ _ era),at_nonneg BZ (by rw [VM,Aq];rfl),_,rfl,.inl ⟨rfl,_,SqL.of e1⟩,_,rfl,?_⟩;refine ⟨D,ins.map (·.1),k.1,j,rfl,rfl,SqL.of e1,by rw [VM,hj];rfl,fun i hi hz=>?_,by rw [Vt];omega,?_⟩
 · rw [VM] at hz;obtain ⟨k',Br,e⟩:=Yn.mp hz;have:=g.nd i j k' k Br hj e;omega
 · exact ⟨BQ,_,(j:Int),.ref ta,rfl,rfl,SqT.of (s1 _ _ FO),bK (by rw [VM,BU];rfl),q H1 s1⟩
inductive lQ (vs:List V) (H:Hp) (Q:VK) (_E:XK):Prop
 | mk (b ca ka:Vy) (ins outs:List (V2×Int)) (head:Th) (rows:List (List Th)) (s k:Int) (n:V2) (ks:List Th) (p h:Th) (zS:vs=[.ref b,.ref ca,.ref ka]) (zT:Bk H ins outs head rows b) (zX:bu ins) (Af:At H (.call s k) ca) (Av:At H (.knot n ks) ka) (AZ:Step ins rows s k ks p h) (Bz:∀ (r pa ha:Vy) (H':Hp),L2.Same H H'->H' r=some (.tup [.ref pa,.ref ha])->At H' p pa->At H' h ha->Q (.ref r) H'):lQ  vs H Q _E
def tj:Sp:=lQ
inductive iL (vs:List V) (H:Hp) (Q:VK) (_E:XK):Prop
 | mk (b pa ka:Vy) (ins outs:List (V2×Int)) (head:Th) (rows:List (List Th)) (p k p' k':Th) (zS:vs=[.ref b,.ref pa,.ref ka]) (zT:Bk H ins outs head rows b) (zX:bu ins) (Af:At H p pa) (Av:At H k ka) (AZ:Res ins rows p k p' k') (Bz:∀ (r pa ha:Vy) (H':Hp),L2.Same H H'->H' r=some (.tup [.ref pa,.ref ha])->At H' p' pa->At H' k' ha->Q (.ref r) H'):iL  vs H Q _E
def pN:Sp:=iL
theorem sP:aP P w K mg base CX0 3 T.g_led_on.f T.g_led_on.d ["book","call","knot"] tj:=by
 refine T.g_led_on.F.ok f7 (fun vs H Q E h=>?_) (fun zQ A outer s H vs Q E hr h=>?_)
 · obtain ⟨b,ca,ka,ins,outs,head,rows,s,k,n,ks,p,h,rfl,_⟩:=h;rfl
 obtain ⟨b,ca,ka,ins,outs,head,rows,s,k,n,ks,p,h,rfl,hb,g,hc,hk,st,q⟩:=h
 refine ⟨_,(ai (fS (pcF T.g_called_by (iu T) hr (ac (pv 1) ae)) (bm rfl (aw (ar (i:=3) f7.nd rfl (VQ rfl)) (aw (ar (i:=4) f7.nd rfl (VQ rfl)) aR))))
  (ai (aA (i:=5) f7.nd rfl (VQ rfl) (aK aL (pv 2) (aE bE (pv 4) am) (fun _ _=>rfl)))
  (aj (aB (aO (ac (pcF T.g_pattern_of (mi T) hr (ac (pv 0) (ac (pv 3) (ac (aK aL (pv 5) am (fun _ _=>rfl)) ae)))) (ac (pv 5) ae))))))),?_⟩
 try dsimp only [Ab,zL]
 refine hid fun ZZ kZ=>?_;obtain ⟨s0,k0,hh,m,hs,c,j,row,rfl,hj,Aq,hp⟩:=st;refine kZ ?_;refine ⟨_,rfl,ca,s,k,rfl,hc,fun pr Bn=>?_⟩;have s1:L2.Same H (upd H pr (.tup [.int s,.int k])):=ag Bn _;have e1:(upd H pr (.tup [.int s,.int k])) pr=some (.tup [.int s,.int k]):=ad;generalize (upd H pr (.tup [.int s,.int k]))=H1 at s1 e1 ⊢;refine ⟨pr,_,rfl,SqT.of e1,rfl,_,_,rfl,_,_,rfl,rfl,?_⟩;have Ec:=hk.mono (Same.kt s1);rw [At] at Ec;refine hid fun ZZ kZ=>?_;obtain ⟨PD,as,AW,Cg⟩:=Ec
 obtain ⟨ha,ML,BX⟩:∃ a,as[k.toNat]?=some a/\At H1 (.knot m hs) a:=by
  have hl:=Cg.length;have Ae:=(Vz.mp hh).1;obtain ⟨a,ha⟩:∃ a,as[k.toNat]?=some a:=⟨_,Vw (by omega)⟩;obtain ⟨t,ht,BX⟩:=Cg.get ha;rw [hh] at ht;cases ht;exact ⟨a,ha,BX⟩
 refine kZ ?_;have MM:atI (V.str n::as.map V.ref) (k+1)=some (.ref ha):=at_nonneg (by omega) (by rw [show (k+1).toNat=k.toNat+1 by omega,Z3,VM,ML];rfl);refine ⟨_,rfl,_,rfl,_,_,rfl,rfl,ka,_,_,.ref ha,rfl,rfl,SqT.of AW,MM,?_⟩;have Iq:=BX;rw [At] at Iq;refine hid fun ZZ kZ=>?_;obtain ⟨TB,bs,TC,Bf⟩:=Iq;obtain ⟨ia,oa,A8,ra,Ac,Ap,AD,bk⟩:=hb.mono (Same.kt s1);obtain ⟨BQ,Ir,Ai,FO,Ep⟩:=P2.get bk.rw Aq
 obtain ⟨ta,BU,MN⟩:∃ a,Ai[j]?=some a/\At H1 p a:=by
  have hl:=Ep.length;have Ae:=(Vz.mp hp).1;obtain ⟨a,ha⟩:∃ a,Ai[j]?=some a:=⟨_,Vw (by omega)⟩;obtain ⟨t,ht,BX⟩:=Ep.get ha;rw [hp] at ht;cases ht;exact ⟨a,ha,BX⟩
 refine kZ ?_;refine ⟨_,rfl,_,rfl,_,rfl,ha,_,0,.str m,rfl,rfl,SqT.of TC,at0,?_⟩;refine ⟨b,ia,ra,BQ,ta,_,_,Ac,AD,Ai,ins,s,j,(m,c),rfl,bk.bk,bk.inE,bk.inK,g,bk.rl,s0,Ir,FO,hj,BU,fun H2 s2=>?_⟩;refine ⟨_,rfl,aq (by show 2<=1000000;decide),fun r BW=>?_⟩;have s3:=s2.trans (ag BW (.tup [.ref ta,.ref ha]));exact q r ta ha _ (s1.trans s3) ad (MN.mono (Same.kt s3)) (BX.mono (Same.kt s3))
theorem pA:aP P w K mg base CX0 4 T.g_resolved.f T.g_resolved.d ["book","part","knot"] pN:=by
 refine T.g_resolved.F.ok fO (fun vs H Q E h=>?_) (fun zQ A outer s H vs Q E hr h=>?_)
 · obtain ⟨b,pa,ka,ins,outs,head,rows,p,k,p',k',rfl,_⟩:=h;rfl
 obtain ⟨b,pa,ka,ins,outs,head,rows,p,k,p',k',rfl,hb,g,hp,hk,DG,q⟩:=h
 refine ⟨_,(ai (cM We (aU (pcF T.g_is_call (dA T) hr (ac (pv 1) ae)) (fun _=>rfl)) (aj (fS (pcF T.g_led_on (sP T) hr (ac (pv 0) (ac (pv 1) (ac (pv 2) ae)))) (bm rfl (aw (ar (i:=1) fO.nd rfl (VQ rfl)) (aw (ar (i:=2) fO.nd rfl (VQ rfl)) aR))))))
  (aj (aB (aO (ac (pv 1) (ac (pv 2) ae)))))),?_⟩
 try dsimp only [Ab,zL]
 refine ⟨fun m σ H2=>Ex4 fun (pa ka:Vy) (p k:Th)=>An6 (σ=[some (.ref b),some (.ref pa),some (.ref ka)]) (L2.Same H H2) (At H2 p pa) (At H2 k ka) (Res ins rows p k p' k') (m=k.tall),⟨_,pa,ka,p,k,rfl,.refl _,hp,hk,DG,rfl⟩,?_⟩;rintro m σ H2 ⟨pa,ka,p,k,rfl,s2,hp,hk,DG,rfl⟩;refine ⟨_,rfl,pa,p,rfl,hp,_,rfl,?_⟩;cases DG with
 | stop n ts _ =>
   refine kc ?_;refine ⟨_,rfl,_,rfl,aq (by show 2<=1000000;decide),fun r BW=>?_⟩;have s3:=ag BW (.tup [.ref pa,.ref ka]);exact q r pa ka _ (s2.trans s3) ad (hp.mono (Same.kt s3)) (hk.mono (Same.kt s3))
 | @step s c n ks p1 h1 _ _ st r =>
   refine j7 ?_;refine ⟨fun zJ H'=>∃ m',m'<(Th.knot n ks).tall/\Ex4 fun (pa ka:Vy) (p k:Th)=>An6 (zJ=[some (.ref b),some (.ref pa),some (.ref ka)]) (L2.Same H H') (At H' p pa) (At H' k ka) (Res ins rows p k p' k') (m'=k.tall),fun zJ H' h=>h,?_⟩;refine ⟨_,rfl,_,rfl,_,rfl,b,pa,ka,ins,outs,head,rows,s,c,n,ks,p1,h1,rfl,hb.mono (Same.kt s2),g,hp,hk,st,fun r' JX KA H3 s3 er Cc ML=>?_⟩
   have hm:h1∈ks:=by
    obtain ⟨_,_,hh,_⟩:=st;exact VD hh
   have An:=cL hm;refine ⟨r',_,rfl,SqT.of er,rfl,_,_,rfl,_,_,rfl,rfl,h1.tall,?_,JX,KA,p1,h1,rfl,s2.trans s3,Cc,ML,r,rfl⟩;rw [Th.tall];omega
inductive m7 (vs:List V) (H:Hp) (Q:VK) (_E:XK):Prop
 | mk (l:Vy) (as:List Vy) (tops:List Top) (u:Th) (zS:vs=[.ref l]) (zT:H l=some (.lst (as.map V.ref))) (zX:WD (TopAt H) tops as) (Af:tops.length<=100000) (Av:TopsOk tops) (AZ:(∀ t,Top.th t∈tops->t.size<=100000)) (Bz:bl tops=[u]) (Ct:∀ (r:Vy) (H':Hp),L2.Same H H'->At H' u r->Q (.ref r) H'):m7  vs H Q _E
def uG:Sp:=m7
theorem uk:aP P w K mg base CX0 1 T.g_built.f T.g_built.d ["tops"] uG:=by
 refine T.g_built.F.ok iA (fun vs H Q E h=>?_) (fun zQ A outer s H vs Q E hr h=>?_)
 · obtain ⟨l,as,tops,u,rfl,_⟩:=h;rfl
 obtain ⟨l,as,tops,u,rfl,el,hT,hlen,hok,MO,hu,k⟩:=h
 refine ⟨_,(ai (aA (i:=1) iA.nd rfl (ZI rfl) (aT ae))
  (ai (bN We rfl (uH rfl T.n_reversed (pv 0)) (bm rfl (aw (ar (i:=2) iA.nd rfl (VQ rfl)) (aw (ar (i:=3) iA.nd rfl (VQ rfl)) aR))) (aj (bW (bt gz (pv 3) am (aW _)) (aj (bd (cv V0 Wt Ws bq (pv 1) (ac (aE iK (pv 2) (bi aY rfl T.n_tuple WE (ac (bA (N:=[Vx "number",Vx "done"]) (js:=[none,some 1]) (g:=(aD 0)) (tt:=aQ) (te:=(yJ K "list" (yC) (bC 1))) rfl (bO rfl (by decide +kernel) (by decide +kernel) rfl rfl rfl) (d4 rfl T.n_range (ac (pv 3) ae)) (fun _ _ _ _ _ _=>(ar (i:=0) yn rfl (VQ rfl))) (aN rfl) (fun _ _ _ _ _ _=>bc) (fun _ _ _ _ _ _=>(kI V0 Yw Yv kH (pv 1)))) ae))) ae)))) (aj (bd (cv V0 Wt Ws bq (pv 1) (ac (pv 2) ae)))))))
  (aj (aB (aK bY (pv 1) am (fun _ _=>rfl)))))),?_⟩
 try dsimp only [Ab,zL]
 have Ay:tops.length=as.length:=VU hT;refine ⟨aq (by show 0<=1000000;decide),fun dn DD=>?_⟩;refine ⟨_,rfl,l,_,rfl,SqL.of (ag DD _ _ _ el),?_⟩
 refine si (K:=K) (a:=l) (xs:=as.map V.ref) (fun i σ H2=>Ex3 fun c2 c3 ds=>An4 (σ=[some (.ref l),some (.ref dn),c2,c3]) (L2.Same H H2) (H2 dn=some (.lst (ds.map V.ref))) (Ats H2 (bl (tops.drop (tops.length - i))).reverse ds))
  ⟨none,none,[],rfl,ag DD _,ad,by rw [Z9,Z5];exact .nil⟩ (fun i σ H2 _ ⟨_,_,_,_,s2,_,_⟩=>SqL.of (s2 _ _ el)) ?_ ?_
 · rintro i y σ H2 hi hy ⟨c2,c3,ds,rfl,s2,Er,BF⟩;rw [Vt,<- Ay] at hi hy;obtain ⟨pr,rfl,Bn⟩:=aM hy;obtain ⟨x,hx,MP⟩:=P2.get' hT Bn;have J6:=MP.mono (Same.kt s2);have hn:tops.length - 1 - i<tops.length:=by omega
   have Ka:tops.drop (tops.length - 1 - i)=x::tops.drop (tops.length - i):=by
    rw [YQ hn,show tops.length - 1 - i+1=tops.length - i by omega];congr 1;rw [Vw hn] at hx;exact VZ hx
   have Es:=hok.drop (tops.length - 1 - i);rw [Ka] at Es;have EZ:tops.length - (i+1)=tops.length - 1 - i:=by omega
   have KZ:(bl (tops.drop (tops.length - i))).length<=100000:=by
    have:=qA (tops.drop (tops.length - i));rw [Wz] at this;omega
   generalize tops.drop (tops.length - i)=S at Ka BF Es KZ;refine hid fun ZZ kZ=>?_
   obtain ⟨ta,m,xs,Fs,eta,hm,MQ,AV⟩:∃ (ta:Vy) (m:Nat) (xs:List V),H2 pr=some (.tup [.ref ta,.int (m:Nat)])/\H2 ta=some (.tup xs)/\m<=(bl S).length/\xs.length<=200000/\∀ (H':Hp) (p:Vy) (ks:List Vy),KT H2 H'->Ats H' ((bl S).take m) ks->H' p=some (.tup (xs++ks.map V.ref))->∃ u',bl (x::S)=u'::(bl S).drop m/\At H' u' p:=by
    cases x with
    | nm n m =>
      rw [TopsOk] at Es;obtain ⟨ta,h1,h2,h3⟩:=J6;refine ⟨ta,m,_,h1,h3,Es.1,(by show 1<=200000;decide),fun H' p ks kt hk hp=>⟨_,by rw [bl],?_⟩⟩;rw [At];exact ⟨h2,ks,hp,hk⟩
    | th t =>
      obtain ⟨ta,h1,h2⟩:=J6;obtain ⟨n',r',h3⟩:=h2.tup;have hw:=h2.width h3;have AU:=MO t (VD hx);refine ⟨ta,0,_,h1,h3,Wc _,by omega,fun H' p ks kt hk hp=>⟨t,by rw [bl,XC],?_⟩⟩;rw [YE,Ats] at hk;subst hk;rw [Xj,Xf] at hp;exact (h2.mono kt).same (kt _ _ h3) hp
   refine kZ ?_;refine ⟨pr,_,rfl,SqT.of Fs,rfl,_,_,rfl,_,_,rfl,rfl,?_⟩;have MR:=BF.length;rw [Wy] at MR;refine cE (fun b H'=>An2 (H'=H2) (b=decide ((0:Int)<(m:Int)))) (fun kk DR=>?_) (fun H' hb=>?_) (fun H' hb=>?_)
   · exact ⟨_,rfl,_,_,rfl,rfl,_,rfl,DR _ _ ⟨rfl,rfl⟩⟩
   rotate_left
   · obtain ⟨rfl,hb⟩:=hb
     have Bp:m=0:=by
      have:=of_decide_eq_false hb.symm;omega
     subst Bp;obtain ⟨u',Cb,BX⟩:=AV H' ta [] (Same.kt (.refl _)) (by rw [YE];exact .nil) (by rw [Xj,Xf];exact eta);refine ⟨_,rfl,.inl ⟨rfl,_,SqL.of Er⟩,_,rfl,dn,_,_,rfl,rfl,Er,aI (by rw [Vt];omega),?_⟩;have k6:KT H' (upd H' dn (.lst (ds.map V.ref++[.ref ta]))):=bx Er;refine ⟨_,_,ds++[ta],rfl,?_,by rw [ad,VN];rfl,?_⟩
     · intro b o e;rw [af (av e DD)];exact s2 b o e
     · rw [EZ,Ka,Cb,WJ];rw [XC];exact (BF.mono k6).append (.cons (BX.mono k6) .nil)
   obtain ⟨rfl,hb⟩:=hb;refine ⟨_,rfl,.inl ⟨rfl,_,SqL.of Er⟩,_,rfl,?_⟩;refine ⟨_,rfl,(m:Int),rfl,by omega,by omega,fun D hD=>?_⟩;have CT:D≠dn:=fun z=>by rw [z,Er] at hD;cases hD
   have Cz:((m:Nat):Int).toNat=m:=WL m
   refine ⟨m,fun j H3=>An3 (j<=m) ((∀ b o,H' b=some o->b≠dn->H3 b=some o)) (Ex2 fun (Et ks:List Vy)=>An4 (H3 dn=some (.lst (Et.map V.ref))) (H3 D=some (.lst (ks.map V.ref))) (Ats H3 ((bl S).drop j).reverse Et) (Ats H3 ((bl S).take j) ks)),
    ⟨Wc _,fun b o e hb=>?_,ds,[],?_,?_,?_,?_⟩,?_⟩
   · rw [af (av e hD)];exact e
   · rw [af CT.symm];exact Er
   · rw [ad];rfl
   · rw [XC];exact BF.mono (fz hD)
   · rw [YE];exact .nil
   rintro j H3 ⟨hj,kp,Et,ks,ed,eD,Iu,hd2⟩;by_cases PF:j=m
   · left;refine ⟨(by show ((m:Nat):Int).toNat<=j;rw [Cz,PF];exact VG _),?_⟩;subst PF;have Iv:KT H' H3:=fun b Vd e=>kp b _ e (aJ e Er (by intro z;cases z));refine ⟨D,_,rfl,.inl ⟨SqL.of eD,fun tp BY=>?_⟩⟩;have s4:L2.Same H3 (upd H3 tp (.tup (ks.map V.ref))):=ag BY _;have e4:(upd H3 tp (.tup (ks.map V.ref))) tp=some (.tup (ks.map V.ref)):=ad;generalize (upd H3 tp (.tup (ks.map V.ref)))=H4 at s4 e4 ⊢;have Ae:=hd2.length;refine ud (s4 _ _ (Iv _ _ eta)) e4 (by rw [Vt,Ae,Wi];omega) fun p H5 s5 e5=>?_;have Iw:=s4.trans s5;have PH:=Iw _ _ ed;have MS:=Iv.trans (Same.kt Iw);obtain ⟨u',Cb,BX⟩:=AV H5 p ks MS (hd2.mono (Same.kt Iw)) e5;have EL:=Iu.length;rw [Wy,Wz] at EL;refine ⟨dn,_,_,rfl,rfl,PH,aI (by rw [Vt];omega),?_⟩;have k6:KT H5 (upd H5 dn (.lst (Et.map V.ref++[.ref p]))):=bx PH;refine ⟨_,_,Et++[p],rfl,?_,by rw [ad,VN];rfl,?_⟩
     · intro b o e;have hb:b≠dn:=av e DD;rw [af hb];exact Iw _ _ (kp b o (s2 b o e) hb)
     · rw [EZ,Ka,Cb,WJ];exact (Iu.mono ((Same.kt Iw).trans k6)).append (.cons (BX.mono k6) .nil)
   · right;have Bt:j<m:=by omega
     refine ⟨Bt,(by show j<((m:Nat):Int).toNat;rw [Cz];exact Bt),?_⟩;rintro x' H4 ⟨e1,e2⟩;have Cr:H4=H3:=e1;subst Cr;have PJ:j<(bl S).length:=by omega
     have TF:(bl S).drop j=(bl S)[j]::(bl S).drop (j+1):=YQ PJ;rw [TF,WJ] at Iu
     have Al:Et≠[]:=by
      intro z;subst z;have:=Iu.length;rw [VO] at this;simp at this
     refine hid fun ZZ kZ=>?_;obtain ⟨FP,b,rfl⟩:∃ FP b,Et=FP++[b]:=⟨Et.dropLast,Et.getLast Al,(XI Al).symm⟩;obtain ⟨Us,x2,e3,hU,Az⟩:=Iu.snoc_inv;have e4:=List.append_inj' e3 rfl;obtain ⟨e5,e6⟩:=e4;refine kZ ?_;cases e6;subst e5;refine ⟨_,rfl,.inl ⟨rfl,_,SqL.of ed⟩,dn,_,.ref b,rfl,rfl,ed,by simp,?_⟩;have d1:((FP++[b]).map V.ref).dropLast=FP.map V.ref:=by simp
     rw [d1];have PK:(upd H4 dn (.lst (FP.map V.ref))) D=some (.lst (ks.map V.ref)):=by rw [af CT];exact eD
     have k5:KT H4 (upd (upd H4 dn (.lst (FP.map V.ref))) D (.lst (ks.map V.ref++[.ref b]))):=(bx ed).trans (bx PK);refine ⟨_,PK,aI (by rw [Vt,hd2.length,Wi];omega),Bt,fun b' o e AU=>?_,FP,ks++[b],?_,?_,hU.mono k5,?_⟩
     · rw [af (av e hD),af AU];exact kp b' o e AU
     · rw [af CT.symm,ad]
     · rw [ad,VN];rfl
     · rw [WY,Vw PJ];exact (hd2.mono k5).append (.cons (Az.mono k5) .nil)
 · rintro σ H2 ⟨c2,c3,ds,rfl,s2,Er,BF⟩;rw [Vt,<- Ay,Nat.sub_self,XC,hu] at BF;have Iy:Ats H2 [u] ds:=BF;rw [Ats] at Iy;obtain ⟨b,r,rfl,hb,PL⟩:=Iy;exact ⟨_,rfl,dn,_,0,.ref b,rfl,rfl,SqL.of Er,at0,k b H2 s2 hb⟩
inductive rG (vs:List V) (H:Hp) (Q:VK) (_E:XK):Prop
 | mk (b ha ta:Vy) (ins outs:List (V2×Int)) (head:Th) (rows:List (List Th)) (p t o:Th) (zS:vs=[.ref b,.ref ha,.ref ta]) (zT:Bk H ins outs head rows b) (zX:bu ins) (Af:bu outs) (Av:At H p ha) (AZ:At H t ta) (Bz:Out ins rows p (.knot (Vx "") [t]) o) (Ct:o.Fit outs) (FA:(o.size<=2000/\o.tall<=150)) (Gw:∀ (r:Vy) (H':Hp),L2.Same H H'->At H' o r->Q (.ref r) H'):rG  vs H Q _E
def xR:Sp:=rG
theorem pU:Vx ""≠q:=by decide +kernel
def RunI (b ha ta tl ah:Vy) (ins outs:List (V2×Int)) (rows:List (List Th)) (o:Th) (H:Hp) (m:Nat) (σ:St) (H2:Hp):Prop :=
 Ex7 fun (CF as:List Vy) (done:List Th) (js:List Job) (c5 c6 c7:Option V)=>An8 (σ=[some (.ref b),some (.ref ha),some (.ref ta),some (.ref tl),some (.ref ah),c5,c6,c7]) (L2.Same H H2) (H2 tl=some (.lst (CF.map V.ref))) (H2 ah=some (.lst (as.map V.ref))) (WD (TopAt H2) (done.map (fj Th.call)) CF) (WD (JAt H2 ins rows) js as) (JInv outs o done js) (m=au (jos js))
set_option maxHeartbeats 2000000 in
theorem xP:aP P w K mg base CX0 6 T.g_run.f T.g_run.d ["book","head","tree"] xR:=by
 refine T.g_run.F.ok fM (fun vs H Q E h=>?_) (fun zQ A outer s H vs Q E hr h=>?_)
 · obtain ⟨b,ha,ta,ins,outs,head,rows,p,t,o,rfl,_⟩:=h;rfl
 obtain ⟨b,ha,ta,ins,outs,head,rows,p,t,o,rfl,hb,gi,go,hp,ht,Bc,Aa,FQ,q⟩:=h
 refine ⟨_,(ai (aA (i:=3) fM.nd rfl (VQ rfl) (aT ae))
  (ai (aA (i:=4) fM.nd rfl (VQ rfl) (aT (ac (aO (ac (pv 1) (ac (pcF T.g_above (pq T) hr (ac (pv 2) ae)) (ac am ae)))) ae)))
  (ai (cM We (aU (pv 4) (fun _=>rfl)) (ai (fS (kI V0 Yw Yv kH (pv 4)) (bm rfl (aw (ar (i:=5) fM.nd rfl (VQ rfl)) (aw (ar (i:=6) fM.nd rfl (ZI rfl)) (aw (ar (i:=7) fM.nd rfl (ZI rfl)) aR)))))
  (ai (fS (pcF T.g_resolved (pA T) hr (ac (pv 0) (ac (pv 5) (ac (pv 6) ae)))) (bm rfl (aw (ar (i:=5) fM.nd rfl (VQ rfl)) (aw (ar (i:=6) fM.nd rfl (ZI rfl)) aR))))
  (ai (bW (PW.pt (lG (bt hX (az ay rfl T.n_len Wd (ac (pv 3) ae)) (bp (v:=.int (2000)) rfl T.c_MOST_KNOTS_running.choose_spec ⟨_,rfl⟩) (aW _)) (gS (bt gz (pv 7) (bp (v:=.int (150)) rfl T.c_TALLEST.choose_spec ⟨_,rfl⟩) (aW _))))) (aj dU) bv)
  (ai (bd (cv V0 Wt Ws bq (pv 3) (ac (aO (ac (bJ vz (pv 5) bX (bP am)) (ac (aE lV (az ay rfl T.n_len Wd (ac (pv 5) ae)) am) ae))) ae)))
  (aj (bd (cv V0 Ye Yd i3 (pv 4) (ac (bA (N:=[Vx "kid",Vx "knot",Vx "row"]) (js:=[none,some 6,some 7]) (g:=(aD 0)) (tt:=aQ) (te:=(ow (bz (bC 0) (bz (bC 1) (bz (tOp (rI0 fun i j=>.int (i+j)) (bC 2) (tC (.int 1))) dk))))) rfl (bO rfl (by decide +kernel) (by decide +kernel) rfl rfl rfl) (wf rfl T.n_reversed (bJ og (pv 5) (bP am) bX)) (fun _ _ _ _ _ _=>(ar (i:=0) yu rfl (VQ rfl))) (aN rfl) (fun _ _ _ _ _ _=>bc) (fun _ _ _ _ _ _=>(aO (ac (pv 0) (ac (pv 1) (ac (aE bE (pv 2) am) ae)))))) ae)))))))))
  (aj (aB (pcF T.g_built (uk T) hr (ac (pv 3) ae))))))),?_⟩
 try dsimp only [Ab,zL]
 refine ⟨aq (by show 0<=1000000;decide),fun tl An=>?_⟩;refine ⟨_,rfl,_,rfl,.ref ta,rfl,fun ab Gi=>⟨aq (by show 3<=1000000;decide),fun tp BY=>⟨aq (by show 1<=1000000;decide),fun ah Bu=>?_⟩⟩⟩;have s1:L2.Same H (upd H tl (.lst [])):=ag An _;have e1:(upd H tl (.lst [])) tl=some (.lst (([]:List Vy).map V.ref)):=ad;have C9:H ah=none:=s1.free ((ag Gi _).free ((ag BY _).free Bu));generalize Ve:(upd H tl (.lst []))=H1 at s1 e1 Gi BY Bu ⊢;have s2:L2.Same H1 (upd H1 ab (.tup [.str (Vx ""),.ref ta])):=ag Gi _;have e2:(upd H1 ab (.tup [.str (Vx ""),.ref ta])) ab=some (.tup [.str (Vx ""),.ref ta]):=ad;generalize (upd H1 ab (.tup [.str (Vx ""),.ref ta]))=H2 at s2 e2 BY Bu ⊢;have s3:L2.Same H2 (upd H2 tp (.tup [.ref ha,.ref ab,.int 1])):=ag BY _;have e3:(upd H2 tp (.tup [.ref ha,.ref ab,.int 1])) tp=some (.tup [.ref ha,.ref ab,.int 1]):=ad;generalize (upd H2 tp (.tup [.ref ha,.ref ab,.int 1]))=H3 at s3 e3 Bu ⊢;have s4:L2.Same H3 (upd H3 ah (.lst [.ref tp])):=ag Bu _;have e4:(upd H3 ah (.lst [.ref tp])) ah=some (.lst ([tp].map V.ref)):=ad;generalize (upd H3 ah (.lst [.ref tp]))=H4 at s4 e4 ⊢
 have BU:tl≠ah:=fun z=>by
  have:=s3 _ _ (s2 _ _ e1);rw [z,Bu] at this;cases this
 have C8:=s3.trans s4;have MT:=s2.trans C8;have BD:=s1.trans MT;refine ⟨RunI b ha ta tl ah ins outs rows o H,⟨_,[],[tp],[],[⟨p,.knot (Vx "") [t],1,o⟩],none,none,none,rfl,BD,MT _ _ e1,e4,.nil,.cons ⟨ha,ab,s4 _ _ e3,hp.mono (Same.kt BD),?_,Bc⟩ .nil,JInv.start Aa,rfl⟩,?_⟩
 · show At H4 (.knot (Vx "") [t]) ab;rw [At];exact ⟨pU,[ta],C8 _ _ e2,.cons (ht.mono (Same.kt BD)) .nil⟩
 clear MT C8 BD s4 e4 s3 e3 s2 e2 s1 e1;rintro m σ H2 ⟨CF,as,done,js,c5,c6,c7,rfl,sm,et,ea,hT,hJ,J,rfl⟩;refine ⟨_,rfl,_,.inl ⟨_,SqL.of ea,rfl⟩,?_⟩;refine cH (fun c=>?_) (fun c=>?_)
 · have Be:as≠[]:=by intro z;subst z;simp at c
   refine hid fun ZZ kZ=>?_;obtain ⟨Ao,x,rfl⟩:∃ Ao x,as=Ao++[x]:=⟨as.dropLast,as.getLast Be,(XI Be).symm⟩;obtain ⟨GG,j,rfl,PM,hj⟩:=P2.snoc_inv hJ;obtain ⟨jp,jk,jr,jo⟩:=j;obtain ⟨pa,ka,ex,Cc,Ag,PN⟩:=hj;refine kZ ?_;dsimp only at ex Cc Ag PN;cases PN with
   | @mk _ _ n ts k' os DG Bq =>
   have hl:=Bq.length
   have TH:au (jos (GG++[⟨jp,jk,jr,.knot n os⟩]))=au (jos GG)+(au os+1):=by
    unfold jos;rw [VN,aF];show _+au [Th.knot n os]=_;rw [au,au,Th.size]
   refine ⟨fun zJ H'=>∃ m',m'<au (jos (GG++[⟨jp,jk,jr,.knot n os⟩]))/\RunI b ha ta tl ah ins outs rows o H m' zJ H',fun zJ H' h=>h,?_⟩;refine ⟨_,rfl,.inl ⟨rfl,_,SqL.of ea⟩,ah,_,.ref x,rfl,rfl,ea,by simp,?_⟩;have d1:((Ao++[x]).map V.ref).dropLast=Ao.map V.ref:=by simp
   rw [d1];have k3:KT H2 (upd H2 ah (.lst (Ao.map V.ref))):=bx ea;have s3:L2.Same H (upd H2 ah (.lst (Ao.map V.ref))):=aG sm C9;have e3:(upd H2 ah (.lst (Ao.map V.ref))) ah=some (.lst (Ao.map V.ref)):=ad;have t3:(upd H2 ah (.lst (Ao.map V.ref))) tl=some (.lst (CF.map V.ref)):=by rw [af BU];exact et
   generalize (upd H2 ah (.lst (Ao.map V.ref)))=H3 at k3 s3 e3 t3 ⊢;refine ⟨x,_,rfl,SqT.of (k3 _ _ ex),rfl,_,_,rfl,_,_,rfl,_,_,rfl,rfl,?_⟩;refine ⟨_,rfl,_,rfl,_,rfl,b,pa,ka,ins,outs,head,rows,jp,jk,.knot n ts,k',rfl,hb.mono (Same.kt s3),gi,Cc.mono k3,Ag.mono k3,DG,fun r MU Kb H4 s4 er CU Ec=>?_⟩;refine ⟨r,_,rfl,SqT.of er,rfl,_,_,rfl,_,_,rfl,rfl,?_⟩;have t4:=s4 _ _ t3
   have EL:done.length=CF.length:=by
    have:=VU hT;rw [Vt] at this;exact this
   dsimp only [vc];refine cE (fun bb H'=>An3 (H4=H') ((bb=true->done.length=2000∨150<jr)) ((bb=false->done.length≠2000/\jr<=150))) (fun k2 Bl=>?_) (fun H' Az=>?_) (fun H' Az=>?_)
   · refine ⟨_,rfl,tl,_,rfl,.inl (SqL.of t4),rfl,_,rfl,?_⟩;refine cH (fun c1=>Bl _ _ ⟨rfl,fun _=>.inl ?_,fun z=>by cases z⟩) (fun c1=>?_)
     · have c2:=V.int.inj (of_decide_eq_true c1);rw [Vt] at c2;omega
     · refine ⟨_,rfl,_,_,rfl,rfl,_,rfl,Bl _ _ ⟨rfl,fun z=>.inr ?_,fun z=>⟨fun z2=>c1 (decide_eq_true ?_),?_⟩⟩⟩
       · have:=of_decide_eq_true z;omega
       · rw [Vt,<- EL,z2];rfl
       · have:=of_decide_eq_false z;omega
   · obtain ⟨rfl,Az,_⟩:=Az;exact absurd FQ (J.great (Az rfl))
   refine hid fun ZZ kZ=>?_;obtain ⟨rfl,_,Az⟩:=Az;obtain ⟨GU,PL⟩:=Az rfl;have DD:=J.dn;have JK:=J.fit ⟨jp,jk,jr,.knot n os⟩ (by simp);have TJ:=mN go JK;have CO:=J.len;rw [VO] at CO;have TK:GG.length=Ao.length:=VU PM;have Iz:=CU;rw [At] at Iz;obtain ⟨PD,zN,MV,Dz⟩:=Iz;refine kZ ?_;have Ae:zN.length=ts.length:=Dz.length;have MW:done.length<2000:=by omega
   have a4:=s4 _ _ e3;have BD:=s3.trans s4;have MX:=k3.trans (Same.kt s4)
   -- tops.append
   refine ⟨_,rfl,.inl ⟨rfl,_,SqL.of t4⟩,_,rfl,1,rfl,MU,_,rfl,MV,fun p2 H5 s5 e5=>?_⟩;rw [vy] at e5;refine ⟨_,rfl,MU,_,rfl,.inr (SqT.of (s5 _ _ MV)),_,_,rfl,rfl,aq (by show 2<=1000000;decide),fun C' MY=>?_⟩
   have IC:((V.str n::zN.map V.ref).length:Int) - 1=((os.length:Nat):Int):=by
    rw [VY,Vt];omega
   dsimp only [dk,rH];rw [IC];have s6:L2.Same H5 (upd H5 C' (.tup [.ref p2,.int (os.length:Nat)])):=ag MY _;have e6:(upd H5 C' (.tup [.ref p2,.int (os.length:Nat)])) C'=some (.tup [.ref p2,.int (os.length:Nat)]):=ad;generalize (upd H5 C' (.tup [.ref p2,.int (os.length:Nat)]))=H6 at s6 e6 ⊢;have CZ:=s5.trans s6;refine ⟨tl,_,_,rfl,rfl,CZ _ _ t4,aI (by rw [Vt];omega),?_⟩;have k7:KT H6 (upd H6 tl (.lst (CF.map V.ref++[.ref C']))):=bx (CZ _ _ t4);have s7:L2.Same H (upd H6 tl (.lst (CF.map V.ref++[.ref C']))):=aG (BD.trans CZ) An;have t7:(upd H6 tl (.lst (CF.map V.ref++[.ref C']))) tl=some (.lst ((CF++[C']).map V.ref)):=by rw [ad,VN];rfl
   have a7:(upd H6 tl (.lst (CF.map V.ref++[.ref C']))) ah=some (.lst (Ao.map V.ref)):=by rw [af BU.symm];exact CZ _ _ a4
   generalize (upd H6 tl (.lst (CF.map V.ref++[.ref C'])))=H7 at k7 s7 t7 a7 ⊢;have MZ:=(Same.kt CZ).trans k7;have PQ:=MX.trans MZ
   have TL:WD (TopAt H7) ((done++[Th.knot n os]).map (fj Th.call)) (CF++[C']):=by
    rw [VN];exact P2.append (nC PQ hT) (.cons ⟨p2,k7 _ _ e6,PD,((Same.kt s6).trans k7) _ _ e5⟩ .nil)
   -- ahead.extend
   refine ⟨_,rfl,.inl ⟨rfl,_,SqL.of a7⟩,_,rfl,1,rfl,MU,_,rfl,SqT.of (MZ _ _ MV),?_,fun p3 M0=>?_⟩
   · rintro ⟨z,_⟩;rw [VY,show (1:Int)=((1:Nat):Int) by rfl,HT.sIx_nat] at z;omega
   dsimp only;rw [kP];have s8:L2.Same H7 (upd H7 p3 (.tup (zN.map V.ref))):=ag M0 _;have e8:(upd H7 p3 (.tup (zN.map V.ref))) p3=some (.tup (zN.map V.ref)):=ad;generalize (upd H7 p3 (.tup (zN.map V.ref)))=H8 at s8 e8 ⊢;have TM:=MZ.trans (Same.kt s8);have Bi:ts.length=os.length:=hl.symm;have MQ:((zN.map V.ref).reverse).length=os.length:=by rw [Wy,Vt];omega
   refine ⟨p3,_,rfl,SqT.of e8,eV (F:=fun H j a=>JAt H ins rows j a) (xs:=(zN.map V.ref).reverse) (ce k' (jr+1) ts os).reverse (fun H1 H2 z p kt h=>h.mono kt) (by rw [Wy,cw Bi,MQ]) (by omega) (fun i Hx sx hi=>⟨by rw [Wy] at hi;exact hi,_,SqT.of (sx _ _ e8),rfl⟩) (fun Hx sx=>by rw [Wy];rfl) (fun i Hx x Hy sx hi hy=>⟨hy.1,?_⟩) (fun i x z Hx R W' hx Bo sx hR=>?_) (fun D Hx PR hD sx eD Bh=>?_)⟩
   · rw [Wy] at hi;rw [Zh hi];exact hy.2 _ (SqT.of (sx _ _ e8))
   · have M1:i<(ce k' (jr+1) ts os).length:=by
      rw [cw Bi];have:=(Vz.mp hx).1;omega
     rw [Zh M1,cw Bi] at Bo;have Vf:i<os.length:=by rw [cw Bi] at M1;exact M1
     have TN:i<(zN.map V.ref).length:=by rw [Vt];omega
     rw [Zh TN,Vt] at hx;refine hid fun ZZ kZ=>?_;obtain ⟨xa,rfl,Ee⟩:=aM hx;have Kc:zN.length - 1 - i=os.length - 1 - i:=by omega
     rw [Kc] at Ee;obtain ⟨u,hu,TQ⟩:=Dz.get Ee;obtain ⟨ou,PU⟩:∃ ou,os[os.length - 1 - i]?=some ou:=⟨_,Vw (by omega)⟩;refine kZ ?_;unfold ce at Bo;have M3:(ts.zip os)[os.length - 1 - i]?=some (u,ou):=X3.mpr ⟨hu,PU⟩;rw [VM,M3] at Bo;cases Bo;refine ⟨_,rfl,_,rfl,_,rfl,_,_,rfl,rfl,aq (by show 3<=1000000;decide),fun p4 TR=>?_⟩;have s9:=ag TR (.tup [.ref xa,.ref Kb,.int ((jr:Nat)+1)]);have PV:=TM.trans (Same.kt (sx.trans s9));refine hR _ p4 s9 ⟨xa,Kb,?_,TQ.mono PV,Ec.mono PV,Bq.get _ hu PU⟩;rw [ad];congr 4
   · have TU:=VU Bh;rw [Wy,cw Bi] at TU;refine ⟨ah,D,_,_,rfl,rfl,sx _ _ (s8 _ _ a7),eD,YN (aI (by rw [Vt,Vt];omega)),?_⟩;have a9:=sx _ _ (s8 _ _ a7);have k9:KT Hx (upd Hx ah (.lst (Ao.map V.ref++PR.map V.ref))):=bx a9;have PX:=(Same.kt (s8.trans sx)).trans k9;refine ⟨au (jos (GG++(ce k' (jr+1) ts os).reverse)),?_,CF++[C'],Ao++PR,done++[.knot n os],GG++(ce k' (jr+1) ts os).reverse,_,_,_,rfl,aG (s7.trans (s8.trans sx)) C9,by rw [af BU];exact sx _ _ (s8 _ _ t7),by rw [ad,VN],nC PX TL,P2.append (P2.mp (fun _ _ e=>e.mono (PQ.trans PX)) PM) (P2.mp (fun _ _ e=>e.mono k9) Bh),J.turn go PL MW Bi,rfl⟩;rw [TH];have e1:=jD k' (jr+1) ts os Bi;unfold jos at e1 ⊢;rw [VN,Z2,e1,aF,lP];omega
 · have hz:as=[]:=by
    cases as with
    | nil=>rfl
    | cons y ys=>simp at c
   subst hz;have M4:js=[]:=Xh.mp (VU hJ);subst M4;obtain ⟨J9,DD⟩:=J.done;subst DD;obtain ⟨b1,b2⟩:=vi Th.call o;rw [sg] at b1;have hsz:=Th.walk_len o;refine ⟨_,rfl,tl,CF,_,o,rfl,et,hT,by rw [Vt];omega,b2,?_,b1,fun r H3 s3 M5=>q r H3 (sm.trans s3) M5⟩;intro u hu;obtain ⟨x,hx,e⟩:=V4.mp hu;cases x with
   | knot nm us=>cases e
   | call sn kn =>
     cases e;rw [Th.size];decide
inductive lC (vs:List V) (H:Hp) (Q:VK) (_E:XK):Prop
 | mk (b ta:Vy) (ins outs:List (V2×Int)) (head:Th) (rows:List (List Th)) (t o:Th) (zS:vs=[.ref b,.ref ta]) (zT:Bk H ins outs head rows b) (zX:bu ins) (Af:bu outs) (Av:At H t ta) (AZ:Out ins rows head (.knot (Vx "") [t]) o) (Bz:o.Fit outs) (Ct:(o.size<=2000/\o.tall<=150)) (FA:∀ (r:Vy) (H':Hp),L2.Same H H'->At H' o r->Q (.ref r) H'):lC  vs H Q _E
def sw:Sp:=lC
theorem tz:aP P w K mg base CX0 7 T.g_turned.f T.g_turned.d ["book","tree"] sw:=by
 refine T.g_turned.F.ok sv (fun vs H Q E h=>?_) (fun zQ A outer s H vs Q E hr h=>?_)
 · obtain ⟨b,ta,ins,outs,head,rows,t,o,rfl,_⟩:=h;rfl
 obtain ⟨b,ta,ins,outs,head,rows,t,o,rfl,hb,gi,go,ht,Bc,Aa,J9,q⟩:=h;refine ⟨_,(aj (aB (pcF T.g_run (xP T) hr (ac (pv 0) (ac (pcF T.g_head_of (gN T) hr (ac (pv 0) ae)) (ac (pv 1) ae)))))),?_⟩
 try dsimp only [Ab,zL]
 refine hid fun ZZ kZ=>?_;obtain ⟨ia,oa,A8,ra,Ac,Ap,AD,bk⟩:=id hb;refine kZ ?_;exact ⟨_,rfl,_,rfl,b,_,_,_,_,rfl,bk.bk,_,rfl,b,A8,ta,ins,outs,head,rows,head,t,o,rfl,hb,gi,go,bk.hd,ht,Bc,Aa,J9,q⟩
inductive gu (K:VB) (vs:List V) (H:Hp) (Q:VK) (_E:XK):Prop
 | mk (a:Vy) (ns:List Int) (k:Int) (zS:vs=[.ref a,.int k]) (zT:SqL K H a (ns.map V.int)) (zX:0<=k) (Af:∀ c:Int,Q (.int c) H):gu K vs H Q _E
def oG (K:VB):Sp:=gu K
theorem ig:aP P w K mg base CX0 1 T.g__law_cell.f T.g__law_cell.d ["script","k"] (oG K):=by
 refine T.g__law_cell.F.ok nY (fun vs H Q E h=>?_) (fun zQ A outer s H vs Q E hr h=>?_)
 · obtain ⟨a,ns,k,rfl,_⟩:=h;rfl
 obtain ⟨a,ns,k,rfl,hS,h0,q⟩:=h
 refine ⟨_,(ai (bW (bt wL (pv 1) (az ay rfl T.n_len Wd (ac (pv 0) ae)) (aW _)) (aj (aB (aK bY (pv 0) (pv 1) (fun _ _=>rfl)))) bv)
  (aj (aB am))),?_⟩
 try dsimp only [Ab,zL]
 refine ⟨_,rfl,_,rfl,a,_,rfl,.inl hS,_,_,rfl,rfl,_,rfl,?_⟩;refine cH (fun c=>?_) (fun c=>q 0);have c':k<(((ns.map V.int).length:Nat):Int):=of_decide_eq_true c;rw [Vt] at c';exact ⟨_,rfl,_,rfl,a,_,k,_,rfl,rfl,hS,int_at h0 c',q _⟩
inductive gC (vs:List V) (H:Hp) (Q:VK) (_E:XK):Prop
 | mk (c k:Int) (zS:vs=[.int c,.int k]) (zT:0<=k) (zX:k<=100000) (Af:∀ r:Int,0<=r->r<2147483629->Q (.int r) H):gC  vs H Q _E
def oI:Sp:=gC
theorem d9:aP P w K mg base CX0 1 T.g__law_turn.f T.g__law_turn.d ["cell","k"] oI:=by
 refine T.g__law_turn.F.ok eZ (fun vs H Q E h=>?_) (fun zQ A outer s H vs Q E hr h=>?_)
 · obtain ⟨c,k,rfl,_⟩:=h;rfl
 obtain ⟨c,k,rfl,h0,h1,q⟩:=h
 refine ⟨_,(ai (aA (i:=2) eZ.nd rfl (VQ rfl) (aE b6 (aE bE (aE bE (aE bE (pv 0) (aE dR (aE dR am (pv 1)) (pv 1))) (aE dR am (pv 1))) am) am))
  (ai (aA (i:=2) eZ.nd rfl (VQ rfl) (aE b6 (aE dR (pv 2) (pv 2)) am))
  (aj (aB (aE b6 (aE dR (aE bE (pv 2) (aE dR am (aE bE (pv 1) am))) am) am))))),?_⟩
 try dsimp only [Ab,zL]
 refine ⟨_,rfl,_,rfl,_,_,rfl,rfl,.inl ⟨by decide,by decide⟩,_,rfl,_,_,rfl,rfl,.inr ⟨by omega,by omega⟩,_,_,rfl,rfl,_,rfl,_,_,rfl,rfl,.inl ⟨by decide,by decide⟩,_,_,rfl,rfl,_,_,rfl,rfl,_,_,rfl,rfl,(by show (0:Int)<2147483647;decide),?_⟩;have n0:=WM (c+977 * k * k+31 * k+1) (show (2147483647:Int)≠0 by decide);have n1:=WO (c+977 * k * k+31 * k+1) (show (0:Int)<2147483647 by decide);dsimp only;generalize (c+977 * k * k+31 * k+1)%2147483647=near at n0 n1;refine ⟨_,rfl,_,rfl,_,_,rfl,rfl,.inl ⟨by omega,by omega⟩,_,_,rfl,rfl,(by show (0:Int)<2147483647;decide),?_⟩;dsimp only;generalize near * near%2147483647=Vg;refine ⟨_,rfl,_,rfl,_,_,rfl,rfl,_,_,rfl,rfl,.inl ⟨by decide,by decide⟩,_,_,rfl,rfl,_,_,rfl,rfl,.inr ⟨by decide,by decide⟩,_,_,rfl,rfl,(by show (0:Int)<2147483629;decide),q _ (WM _ (by decide)) (WO _ (by decide))⟩
inductive gA (vs:List V) (H:Hp) (Q:VK) (_E:XK):Prop
 | mk (kr:Vy) (zN:List Vy) (ks:List (V2×Int)) (cell:Int) (zS:vs=[.ref kr,.int cell]) (zT:H kr=some (.tup (zN.map V.ref))) (zX:KsAt H ks zN) (Af:bu ks) (Av:∀ (k0:V2×Int) (ka:Vy) (H':Hp),L2.Same H H'->k0∈ks->k0.2=0->KAt H' k0 ka->Q (.ref ka) H'):gA  vs H Q _E
def nR:Sp:=gA
theorem g8 {H:Hp}:∀ {ks:List (V2×Int)} {as:List Vy},KsAt H ks as->∀ z∈ks.zip as,z.1∈ks/\KAt H z.1 z.2
 | _,_,.nil,z,hz=>by simp at hz
 | _,_,.cons (a:=k) (b:=a) r t,z,hz=>by
   rw [List.zip_cons_cons] at hz;rcases VP.mp hz with rfl | hz
   · exact ⟨VI ..,r⟩
   · obtain ⟨h1,h2⟩:=g8 t z hz;exact ⟨Vv _ h1,h2⟩
theorem qo {js:List (Option Nat)} {tt:TT} {te:TE} {σ:St} {H:Hp} {kr:Vy} {zN:List Vy} {ks:List (V2×Int)} {fin:Vy->Hp->Prop} (p:V2×Int->Bool) (e:H kr=some (.tup (zN.map V.ref))) (Aj:KsAt H ks zN) (hl:ks.length<=1000) (hp:∃ k∈ks,p k=true)
 (DZ:∀ (z:V2×Int) (ka:Vy) (H2:Hp) (R:Bool->Hp->Prop),L2.Same H H2->KAt H2 z ka->R (p z) H2->tt ((cσ js σ).set 0 (some (.ref ka))) H2 R)
 (D0:∀ (ka:Vy) (H2:Hp) (R:VK),R (.ref ka) H2->te ((cσ js σ).set 0 (some (.ref ka))) H2 R)
 (q:∀ (D:Vy) (bs:List ((V2×Int)×Vy)) (H':Hp),H D=none->H'=upd H D (.lst (bs.map fun z=>V.ref z.2))->1<=bs.length->bs.length<=ks.length->(∀ z∈bs,z.1∈ks/\p z.1=true/\KAt H z.1 z.2)->fin D H') :
 ∀ D,H D=none->∃ (n:Nat) (W:Nat->Hp->Prop),W 0 (upd H D (.lst []))/\dN js (aD 0) tt te σ (Itt K kr) D n W fun H'=>fin D H':=by
 have Ae:ks.length=zN.length:=VU Aj;have Ef:(ks.zip zN).length=ks.length:=by rw [List.length_zip];omega
 have Ds:∀ (i:Nat) (x:V) (z:(V2×Int)×Vy),(zN.map V.ref)[i]?=some x->(ks.zip zN)[i]?=some z->x=.ref z.2:=fun i x z hx hz=>by
  obtain ⟨ka,rfl,Ag⟩:=aM hx;obtain ⟨h1,h2⟩:=X3.mp hz;rw [Ag] at h2;cases h2;rfl
 refine jZ (ks.zip zN) (fun z=>p z.1) (fun z=>.ref z.2) (SqT.of e) (by rw [Ef,Vt];exact Ae) (by rw [Vt];omega) (fun i x z H2 R hx hz sm r=>?_) (fun i x z H2 R hx hz _ sm r=>?_) (fun D hD=>?_)
 · rw [Ds i x z hx hz];have:=(g8 Aj z (VD hz)).2;exact DZ z.1 z.2 H2 R sm (sm _ _ this) r
 · rw [Ds i x z hx hz];exact D0 z.2 H2 R r
 · refine q D _ _ hD rfl ?_ ?_ ?_
   · obtain ⟨k,hk,DS⟩:=hp;obtain ⟨i,hi,rfl⟩:=List.getElem_of_mem hk;have hz:(ks.zip zN)[i]'(by omega)∈(ks.zip zN).filter fun z=>p z.1:=Zw.mpr ⟨List.getElem_mem _,by rw [List.getElem_zip];exact DS⟩;exact List.length_pos_of_mem hz
   · exact WI (List.length_filter_le _ _) (by omega)
   · intro z hz;obtain ⟨h1,h2⟩:=Zw.mp hz;obtain ⟨h3,h4⟩:=g8 Aj z h1;exact ⟨h3,h2,h4⟩
theorem hG:aP P w K mg base CX0 1 T.g__law_leaf.f T.g__law_leaf.d ["kinds","cell"] nR:=by
 refine T.g__law_leaf.F.ok ir (fun vs H Q E h=>?_) (fun zQ A outer s H vs Q E hr h=>?_)
 · obtain ⟨kr,zN,ks,cell,rfl,_⟩:=h;rfl
 obtain ⟨kr,zN,ks,cell,rfl,ek,Aj,g,k⟩:=h
 refine ⟨_,(ai (eW (i:=2) (N:=[Vx "kind"]) (js:=[none]) (g:=(aD 0)) (tt:=(rQ (tOp (rEq) (tOp (mw K) (bC 0) (tC (.int 1))) (tC (.int 0))))) (te:=(bC 0)) ir.nd rfl (VQ rfl) rfl (bO rfl (by decide +kernel) (by decide +kernel) rfl rfl rfl) (cR (pv 0)) (fun _ _ _ _ _ _=>(ar (i:=0) uN rfl (VQ rfl))) (aN rfl) (fun _ _ _ _ _ _=>ku (bt hX (aK aL (pv 0) am (fun _ _=>rfl)) am (aW _))) (fun _ _ _ _ _ _=>(pv 0)))
  (aj (aB (aK bY (pv 2) (aE b6 (pv 1) (az ay rfl T.n_len Wd (ac (pv 2) ae))) (fun _ _=>rfl))))),?_⟩
 try dsimp only [Ab,zL]
 have Pz:=g.le;obtain ⟨kz,O0,M6⟩:=g.zero;refine ⟨_,rfl,kr,rfl,⟨_,SqT.of ek⟩,qo (K:=K) (fun k=>decide (V.int k.2=V.int 0)) ek Aj (by omega) ⟨kz,O0,by rw [M6];rfl⟩ (fun z ka H2 R sm hz r=>?_) (fun ka H2 R r=>⟨_,rfl,r⟩) (fun D bs H' hD e' Vh TV Bf=>?_)⟩
 · exact ⟨_,rfl,ka,_,1,_,rfl,rfl,SqT.of hz,at1,rfl,_,rfl,r⟩
 subst e';have HF:0<((bs.map fun z=>V.ref z.2).length:Int):=by rw [Vt];omega
 have PY:=WM cell (ZE HF);have MF:=WO cell HF;refine hid fun ZZ kZ=>?_;obtain ⟨z,hz⟩:∃ z,bs[(cell%((bs.map fun z=>V.ref z.2).length:Int)).toNat]?=some z:=⟨_,Vw (by rw [Vt] at PY MF ⊢;omega)⟩;obtain ⟨g1,g2,g3⟩:=Bf z (VD hz);refine kZ ?_;refine ⟨_,rfl,_,rfl,_,rfl,D,_,rfl,.inl (SqL.of ad),_,_,rfl,rfl,HF,D,_,_,.ref z.2,rfl,rfl,SqL.of ad,at_nonneg PY (by rw [VM,hz];rfl),?_⟩;exact k z.1 z.2 _ (ag hD _) g1 (V.int.inj (of_decide_eq_true g2)) (ag hD _ _ _ g3)
inductive fC (vs:List V) (H:Hp) (Q:VK) (_E:XK):Prop
 | mk (cell:Int) (lt:V2) (zS:vs=[.int cell,.str lt]) (zT:pw lt) (zX:∀ (r:Vy) (as:List Vy) (ks:List (V2×Int)) (H':Hp),L2.Same H H'->H' r=some (.tup (as.map V.ref))->KsAt H' ks as->bu ks->b8 ks=true->Q (.ref r) H'):fC  vs H Q _E
def mB:Sp:=fC
theorem wR {begun:Bool} {c0:Nat} {stem:V2} {a':Int} {L:List Nat} (p:Nat):1<=(i4 begun c0 stem a' L p).length:=by
 unfold i4;cases begun with
 | true =>
   simp only [if_true];rw [fE];omega
 | false =>
   simp only [Xu,if_false];rw [ZF,ZF];show 1<=_+1+_;omega
theorem xB {ks:List (V2×Int)} (g:bu ks) (h1:∀ k∈ks,1<=k.1.length):b8 ks=true:=by
 unfold b8;rw [decide_eq_true ⟨g.ne,g.le⟩,decide_eq_true (fw g),decide_eq_true (by obtain ⟨k,hk,e⟩:=g.zero;exact V4.mpr ⟨k,hk,e⟩)]
 have:ks.all ci=true:=by
  rw [Xs];intro k hk;have a1:=g.low k hk;have a2:=g.num k hk;unfold ci df;rw [decide_eq_true ⟨h1 k hk,a1.2⟩,decide_eq_true (show 0<=k.2/\k.2<4 by omega)]
  have:low k.1=true:=by
   unfold low;rw [Xs];intro c hc;exact decide_eq_true (a1.1 c hc)
  rw [this];rfl
 rw [this];rfl
theorem xf {begun:Bool} {c0:Nat} {stem:V2} {a':Nat} {L:List Nat} (hs:stem.length<=7) (ha:a'<=stem.length) {p:Nat} (hp:p<8):(i4 begun c0 stem (a':Int) L p).length<=8:=by
 unfold i4;cases begun with
 | true =>
   simp only [if_true];rw [fE];omega
 | false =>
   simp only [Xu,if_false];have h1:=(je (z:=stem) ha).2
   have h2:(cq stem (some (a':Int)) none).length=stem.length - a':=by
    show (cq stem (some (a':Int)) none).cps.size=_;rw [<- V7];show ((j8 stem.cps.toList (some (a':Int)) none).toArray.toList).length=_;rw [List.toList_toArray];unfold j8;have hz:stem.cps.toList.length=stem.length:=V7;rw [HT.sIx_nat,HT.sIx_none,hz,Zv ha,Wi,Wz,hz];omega
   rw [ZF,ZF,h1,h2];show a'+1+(stem.length - a')<=8;omega
theorem uo {x:Int} (h0:0<=x) (h1:x<4):1<=1+x/\1+x<=8:=by omega
theorem ro {x:Int} (h0:0<=x) (h1:x<4):1<=5+x/\5+x<=8:=by omega
theorem xj {i j:Nat} {t:Int} (hi:i<4) (hj:j<4) (h:(3 * (i:Int)+t)%4=(3 * (j:Int)+t)%4):i=j:=by omega
theorem xi {i j:Nat} {t:Int} (hi:i<8) (hj:j<8) (h:(3 * (i:Int)+t)%8=(3 * (j:Int)+t)%8):i=j:=by omega
theorem rB {x:Int} {m:Nat} (h0:0<=x) (h1:x<(m:Int)):x.toNat<m:=by omega
def KInv (nm:Nat->V2) (turn leaf:Int) (m:Nat) (ks:List (V2×Int)):Prop :=
 ∀ (j:Nat) (k:V2×Int),ks[j]?=some k->k.1=nm ((3 * (j:Int)+turn)%(m:Int)).toNat/\0<=k.2/\k.2<=3/\((j:Int)=leaf->k.2=0)
theorem KInv.good {nm:Nat->V2} {turn leaf:Int} {m:Nat} {ks:List (V2×Int)} (h:KInv nm turn leaf m ks) (h1:1<=ks.length) (hm:(m=4/\ks.length<=4)∨(m=8/\ks.length<=8)) (ht:0<=turn) (DT:0<=leaf/\leaf<(ks.length:Int))
 (D8:∀ p,p<m->Low (nm p)/\(nm p).length<=8) (Eh:∀ p r,p<m->r<m->nm p=nm r->p=r):bu ks:=by
 have Bp:(0:Int)<(m:Int):=by rcases hm with ⟨rfl,_⟩ | ⟨rfl,_⟩ <;> decide
 have hb:∀ j:Nat,((3 * (j:Int)+turn)%(m:Int)).toNat<m:=fun j=>by
  exact rB (WM _ (ZE Bp)) (WO _ Bp)
 refine ⟨h1,(by rcases hm with ⟨_,h⟩ | ⟨_,h⟩;exact WI h (by decide);exact h),fun k hk=>?_,fun k hk=>?_,?_,fun i j k l hk hl e=>?_⟩
 · obtain ⟨i,hi⟩:=V8.mp hk;rw [(h i k hi).1];exact D8 _ (hb i)
 · obtain ⟨i,hi⟩:=V8.mp hk;exact ⟨(h i k hi).2.1,(h i k hi).2.2.1⟩
 · have hl:leaf.toNat<ks.length:=rB DT.1 DT.2;exact ⟨ks[leaf.toNat],List.getElem_mem hl,(h leaf.toNat _ (Vw hl)).2.2.2 (WW DT.1)⟩
 · have Bg:i<ks.length:=(Vz.mp hk).1;have Bt:j<ks.length:=(Vz.mp hl).1;rw [(h i k hk).1,(h j l hl).1] at e;have e2:=Eh _ _ (hb i) (hb j) e;have e3:(3 * (i:Int)+turn)%(m:Int)=(3 * (j:Int)+turn)%(m:Int):=by rw [<- WW (WM (3 * (i:Int)+turn) (ZE Bp)),e2,WW (WM (3 * (j:Int)+turn) (ZE Bp))]
   rcases hm with ⟨rfl,hm⟩ | ⟨rfl,hm⟩
   · exact xj (Wh Bg hm) (Wh Bt hm) e3
   · exact xi (Wh Bg hm) (Wh Bt hm) e3
set_option maxHeartbeats 4000000 in
theorem mh:aP P w K mg base CX0 2 T.g__law_kinds.f T.g__law_kinds.d ["cell","letters"] mB:=by
 refine T.g__law_kinds.F.ok aH (fun vs H Q E h=>?_) (fun zQ A outer s H vs Q E hr h=>?_)
 · obtain ⟨c,lt,rfl,_⟩:=h;rfl
 obtain ⟨cell,lt,rfl,pk,q⟩:=h
 refine ⟨_,(ai (aA (i:=2) aH.nd rfl (VQ rfl) (pcF T.g__law_turn (d9 T) hr (ac (pv 0) (ac am ae))))
  (ai (aA (i:=3) aH.nd rfl (VQ rfl) (aE bE am (aE b6 (pv 2) am)))
  (ai (bW (bt hX (aE b6 (aE dC (pv 2) am) am) am (aW _)) (aj (aA (i:=3) aH.nd rfl (VQ rfl) (aE bE am (aE b6 (aE dC (pv 2) am) am)))) bv)
  (ai (aA (i:=4) aH.nd rfl (VQ rfl) (bJ n9 (aE gO (pv 1) eR) bX (bP (aE bE am (aE dR am (bi jw rfl T.n_int Zg (ac (cb gz (pv 3) am (aW _)) ae)))))))
  (ai (aA (i:=5) aH.nd rfl (VQ rfl) (bJ n9 eR bX (bP (aE b6 (aE dC (pv 2) am) am))))
  (ai (aA (i:=6) aH.nd rfl (VQ rfl) (aE b6 (aE dC (pv 2) am) (aE bE (az eM rfl T.n_len Wd (ac (pv 5) ae)) am)))
  (ai (aA (i:=7) aH.nd rfl (VQ rfl) (aE b6 (aE dC (pv 2) am) (pv 3)))
  (ai (aA (i:=8) aH.nd rfl (VQ rfl) (aE b6 (aE dC (pv 2) am) am))
  (ai (aA (i:=9) aH.nd rfl (VQ rfl) (cb hX (aE b6 (aE dC (pv 2) am) am) am (aW _)))
  (ai (aA (i:=10) aH.nd rfl (VQ rfl) (aT ae))
  (ai (bN We rfl (d4 rfl T.n_range (ac (pv 3) ae)) (ar (i:=11) aH.nd rfl (VQ rfl)) (ai (aA (i:=2) aH.nd rfl (VQ rfl) (pcF T.g__law_turn (d9 T) hr (ac (pv 2) (ac (aE bE (pv 11) am) ae))))
  (ai (aA (i:=12) aH.nd rfl (VQ rfl) (aE dR (aK bY (aT (ac am (ac am (ac am (ac am (ac am ae)))))) (aE b6 (pv 2) am) (fun _ _=>rfl)) (bi jw rfl T.n_int Zg (ac (cb u5 (pv 11) (pv 7) (aW _)) ae))))
  (ai (aA (i:=13) aH.nd rfl (VQ rfl) (aE b6 (aE bE (aE dR am (pv 11)) (pv 8)) (az eM rfl T.n_len Wd (ac (pv 4) ae))))
  (ai (aA (i:=14) aH.nd rfl (VQ rfl) (aE gO (aE gO (bJ n9 (pv 5) bX (bP (pv 6))) (aK uV (pv 4) (pv 13) (fun _ _=>rfl))) (bJ n9 (pv 5) (bP (pv 6)) bX)))
  (ai (bW (aU (pv 9) (fun _=>rfl)) (aj (aA (i:=14) aH.nd rfl (VQ rfl) (aE wa (aK uV (pv 1) am (fun _ _=>rfl)) (aE bE am (pv 13))))) bv)
  (aj (bd (cv V0 Wt Ws bq (pv 10) (ac (aO (ac (pv 14) (ac (pv 12) ae))) ae))))))))))
  (aj (aB (bi aY rfl T.n_tuple WE (ac (pv 10) ae))))))))))))))),?_⟩
 try dsimp only [Ab,zL]
 refine ⟨_,rfl,_,_,rfl,by decide,by decide,fun rest r0 r1=>?_⟩;have z0:=WM rest (show (4:Int)≠0 by decide);have z1:=WO rest (show (0:Int)<4 by decide);refine ⟨_,rfl,_,_,rfl,rfl,(by show (0:Int)<4;decide),_,_,rfl,rfl,?_⟩;dsimp only [aD];refine cZ (fun zJ H'=>An2 (H=H') (Ex1 fun (size:Int)=>An3 (1<=size) (size<=8) (zJ=[some (.int cell),some (.str lt),some (.int rest),some (.int size),none,none,none,none,none,none,none,none,none,none,none]))) (fun kk hk=>?_) ?_
 · refine ⟨_,rfl,_,_,rfl,rfl,⟨by decide,by decide⟩,_,_,rfl,rfl,(by show (0:Int)<4;decide),rfl,_,rfl,?_⟩;refine cH (fun _=>?_) (fun _=>hk _ _ ⟨rfl,_,(uo z0 z1).1,(uo z0 z1).2,rfl⟩);have y0:=WM (rest / 55296) (show (4:Int)≠0 by decide);have y1:=WO (rest / 55296) (show (0:Int)<4 by decide);exact ⟨_,rfl,_,_,rfl,rfl,⟨by decide,by decide⟩,_,_,rfl,rfl,(by show (0:Int)<4;decide),_,_,rfl,rfl,hk _ _ ⟨rfl,_,(ro y0 y1).1,(ro y0 y1).2,rfl⟩⟩
 rintro zJ H' ⟨rfl,size,TY,TZ,rfl⟩
 -- more
 have PZ:=pk.len;have FI:(lt++cW).length=8:=by rw [ZF,PZ];rfl
 have FR:(0:Int)<size:=TY
 obtain ⟨m,hm,T1⟩:∃ m:Nat,(4+4 * (if decide ((4:Int)<size) then 1 else 0):Int)=(m:Int)/\((m=4/\size<=4)∨(m=8/\size<=8)):=by
  by_cases c:(4:Int)<size
  · exact ⟨8,by rw [decide_eq_true c];rfl,.inr ⟨rfl,TZ⟩⟩
  · exact ⟨4,by rw [decide_eq_false c];rfl,.inl ⟨rfl,Int.not_lt.mp c⟩⟩
 refine ⟨_,rfl,_,_,rfl,rfl,aq (by rw [PZ];decide +kernel),_,rfl,_,_,rfl,rfl,.inr ⟨_,rfl,?_⟩⟩;refine ⟨_,_,rfl,rfl,.inl ⟨by decide,by decide⟩,_,_,rfl,rfl,_,rfl,_,rfl,aq (by show (lt++cW).length<=1000000;rw [FI];decide),?_⟩;have P0:m<=(lt++cW).length:=by rw [FI];rcases T1 with ⟨rfl,_⟩ | ⟨rfl,_⟩ <;> decide
 generalize (4+4 * (if decide ((4:Int)<size)=true then 1 else 0):Int)=x4 at hm ⊢;subst hm;obtain ⟨cl,cn⟩:(cq (lt++Vx "aeio") none (some (m:Int))).cps.toList=(lt++cW).cps.toList.take m/\(cq (lt++Vx "aeio") none (some (m:Int))).length=m:=je (z:=lt++cW) (n:=m) P0
 have E1:∀ p:Nat,p<m->(lt++cW).cps.toList[p]?=some ((lt++cW).cps.toList.getD p 0)/\(cq (lt++Vx "aeio") none (some (m:Int))).cps.toList[p]?=some ((lt++cW).cps.toList.getD p 0):=fun p hp=>by
  have Bj:p<(lt++cW).cps.toList.length:=by rw [V7];exact Wh hp P0
  have h1:(lt++cW).cps.toList[p]?=some ((lt++cW).cps.toList.getD p 0):=by rw [List.getD,Vw Bj];rfl
  refine ⟨h1,?_⟩;rw [cl,List.getElem?_take_of_lt hp];exact h1
 generalize cq (lt++Vx "aeio") none (some (m:Int))=more at cn E1 cl ⊢
 -- stem
 have y0:=WM (rest / 4) (show (8:Int)≠0 by decide);have y1:=WO (rest / 4) (show (0:Int)<8 by decide);refine ⟨_,rfl,_,_,rfl,rfl,⟨by decide,by decide⟩,_,_,rfl,rfl,(by show (0:Int)<8;decide),_,rfl,_,rfl,aq (by decide +kernel),?_⟩;generalize rest / 4%8=x8 at y0 y1 ⊢;obtain ⟨sn,rfl⟩:∃ n:Nat,x8=(n:Int):=⟨_,(WW y0).symm⟩
 have M7:(cq (Vx "gumleafs") none (some (sn:Int))).length<=7:=by
  show (cq gum none (some (sn:Int))).length<=7;rw [(je (z:=gum) (n:=sn) (by show sn<=8;omega)).2];omega
 have JA:Low (cq (Vx "gumleafs") none (some (sn:Int))):=oH vI _ _;generalize cq (Vx "gumleafs") none (some (sn:Int))=stem at M7 JA ⊢
 -- at
 have FT:(0:Int)<(stem.length:Int)+1:=Int.lt_add_one_of_le (Int.natCast_nonneg _);have x0:=WM (rest / 32) (ZE FT);have x1:=WO (rest / 32) FT;refine ⟨_,rfl,_,_,rfl,rfl,⟨by decide,by decide⟩,_,rfl,_,rfl,aq (WI M7 (by decide)),_,_,rfl,rfl,_,_,rfl,rfl,FT,?_⟩;generalize rest / 32%((stem.length:Int)+1)=xa at x0 x1 ⊢;obtain ⟨a',rfl⟩:∃ n:Nat,xa=(n:Int):=⟨_,(WW x0).symm⟩;have M8:a'<=stem.length:=by omega
 -- leaf,turn,begun
 have l0:=WM (rest / 288) (ZE FR);have l1:=WO (rest / 288) FR;refine ⟨_,rfl,_,_,rfl,rfl,⟨by decide,by decide⟩,_,rfl,_,_,rfl,rfl,FR,?_⟩;generalize rest / 288%size=leaf at l0 l1 ⊢;have t0:=WM (rest / 1152) (show (4:Int)≠0 by decide);refine ⟨_,rfl,_,_,rfl,rfl,⟨by decide,by decide⟩,_,_,rfl,rfl,(by show (0:Int)<4;decide),?_⟩;generalize rest / 1152%4=turn at t0 ⊢;refine ⟨_,rfl,_,_,rfl,rfl,⟨by decide,by decide⟩,_,_,rfl,rfl,(by show (0:Int)<3;decide),rfl,?_⟩;generalize decide (V.int (rest / 4608%3)=V.int 1)=bg;refine ⟨aq (by show 0<=1000000;decide),fun kl Ae=>?_⟩;obtain ⟨c0,P1⟩:∃ c0,lt.cps.toList[0]?=some c0:=⟨_,Vw (by rw [V7];show 0<lt.length;omega)⟩
 have M9:97<=c0/\c0<=122:=pk.low c0 (by
  show c0∈(lt.cps++cW.cps).toList;rw [Yi];exact V9 _ (VD P1))
 refine ⟨_,rfl,size,rfl,by omega,by omega,?_⟩
 refine mE (n:=size.toNat) (fun i σ H2=>Ex7 fun (DH:Int) (kv mv pv nv:Option V) (as:List Vy) (ks:List (V2×Int))=>An6 (σ=[some (.int cell),some (.str lt),some (.int DH),some (.int size),some (.str more),some (.str stem),some (.int (a':Int)),some (.int leaf),some (.int turn),some (.bl bg),some (.ref kl),kv,mv,pv,nv]) (L2.Same H H2) (H2 kl=some (.lst (as.map V.ref))) (KsAt H2 ks as) (ks.length=i) (KInv (i4 bg c0 stem (a':Int) (lt++cW).cps.toList) turn leaf m ks))
  ⟨rest,none,none,none,none,[],[],rfl,ag Ae _,ad,.nil,rfl,fun j k hj=>by simp at hj⟩ ?_ ?_
 · rintro i σ H2 hi ⟨DH,kv,mv,pv,nv,as,ks,rfl,sm,e,hp,ID,hinv⟩;have LJ:i<size.toNat:=hi;have hl:ks.length=as.length:=VU hp;refine ⟨_,rfl,_,rfl,_,_,rfl,rfl,_,_,rfl,by omega,by omega,fun AF _ _=>?_⟩;have v0:=WM AF (show (5:Int)≠0 by decide);have v1:=WO AF (show (0:Int)<5 by decide);refine hid fun ZZ kZ=>?_
   obtain ⟨v,hv,T2,T3⟩:∃ v:Int,atI [V.int 0,V.int 2,V.int 1,V.int 3,V.int 2] (AF%5)=some (.int v)/\0<=v/\v<=3:=by
    rcases (by omega:AF%5=0∨AF%5=1∨AF%5=2∨AF%5=3∨AF%5=4) with z | z | z | z | z <;> rw [z]
    · exact ⟨0,rfl,by decide,by decide⟩
    · exact ⟨2,rfl,by decide,by decide⟩
    · exact ⟨1,rfl,by decide,by decide⟩
    · exact ⟨3,rfl,by decide,by decide⟩
    · exact ⟨2,rfl,by decide,by decide⟩
   refine kZ ?_;refine ⟨aq (by show 5<=1000000;decide),fun ll Dw=>?_⟩;refine ⟨_,rfl,_,_,rfl,rfl,(by show (0:Int)<5;decide),ll,_,_,.int v,rfl,rfl,SqL.of ad,hv,_,rfl,_,rfl,rfl,.inr ⟨_,rfl,_,_,rfl,rfl,.inl ⟨by omega,by omega⟩,?_⟩⟩;have s3:L2.Same H2 (upd H2 ll (.lst [.int 0,.int 2,.int 1,.int 3,.int 2])):=ag Dw _;generalize (upd H2 ll (.lst [.int 0,.int 2,.int 1,.int 3,.int 2]))=H3 at s3 ⊢;have e3:=s3 _ _ e;have M0:=hp.mono (Same.kt s3);have P4:=sm.trans s3
   have IE:0<=(v * (if (!decide (V.int (0+(i:Int))=V.int leaf))=true then 1 else 0):Int)/\(v * (if (!decide (V.int (0+(i:Int))=V.int leaf))=true then 1 else 0):Int)<=3/\((i:Int)=leaf->(v * (if (!decide (V.int (0+(i:Int))=V.int leaf))=true then 1 else 0):Int)=0):=by
    by_cases c:(i:Int)=leaf
    · have:(!decide (V.int (0+(i:Int))=V.int leaf))=false:=by rw [ZD,c,decide_eq_true rfl];rfl
      rw [this];simp
    · have:(!decide (V.int (0+(i:Int))=V.int leaf))=true:=by
       rw [ZD,decide_eq_false (fun z=>c (V.int.inj z))];rfl
      rw [this];simp;exact ⟨T2,T3,fun z=>absurd z c⟩
   generalize (v * (if (!decide (V.int (0+(i:Int))=V.int leaf))=true then 1 else 0):Int)=M' at IE ⊢;obtain ⟨Bp,T4,T5⟩:=IE;have p0:=WM (3 * (0+(i:Int))+turn) (show (more.length:Int)≠0 by omega);have p1:=WO (3 * (0+(i:Int))+turn) (show (0:Int)<(more.length:Int) by omega);refine ⟨_,rfl,_,_,rfl,rfl,.inl ⟨by decide,by decide⟩,_,rfl,_,_,rfl,rfl,_,rfl,_,rfl,aq (by omega),_,_,rfl,rfl,(by show (0:Int)<(more.length:Int);omega),?_⟩;generalize T6:(3 * (0+(i:Int))+turn)%(more.length:Int)=xp at p0 p1 ⊢;obtain ⟨pc,rfl⟩:∃ n:Nat,xp=(n:Int):=⟨_,(WW p0).symm⟩
   have Na:((3 * (i:Int)+turn)%(m:Int)).toNat=pc:=by
    rw [cn,ZD] at T6;omega
   have T7:pc<m:=by omega
   obtain ⟨Fg,KQ⟩:=E1 pc T7;have Vi:=(fu stem none (some (a':Int)));have DL:=(fu stem (some (a':Int)) none);refine ⟨_,rfl,_,rfl,_,rfl,_,rfl,aq (by omega),_,rfl,_,rfl,_,_,_,rfl,rfl,aq (by omega),bK KQ,_,_,rfl,rfl,aq (by show (cq stem none (some (a':Int))).length+1<=1000000;omega),_,rfl,_,rfl,_,rfl,_,rfl,aq (by omega),_,_,rfl,rfl,aq (by rw [ZF];show (cq stem none (some (a':Int))).length+1+(cq stem (some (a':Int)) none).length<=1000000;omega),?_⟩;dsimp only [aD];refine cZ (fun zJ H'=>An2 (H3=H') (zJ=[some (.int cell),some (.str lt),some (.int AF),some (.int size),some (.str more),some (.str stem),some (.int (a':Int)),some (.int leaf),some (.int turn),some (.bl bg),some (.ref kl),some (.int (0+(i:Int))),some (.int M'),some (.int (pc:Int)),some (.str (i4 bg c0 stem (a':Int) (lt++cW).cps.toList pc))])) (fun kk hk=>?_) ?_
   · refine ⟨_,rfl,bg,rfl,?_⟩;cases bg with
     | false=>exact kc (hk _ _ ⟨rfl,rfl⟩)
     | true =>
       refine j7 ⟨_,rfl,_,_,c0,rfl,rfl,aq (by omega),bK (j:=0) P1,_,rfl,_,_,rfl,rfl,c0,_,rfl,rfl,by omega,by omega,hk _ _ ⟨rfl,?_⟩⟩;have:(1+(pc:Int)).toNat=1+pc:=by omega
       rw [this];rfl
   rintro zJ H' ⟨rfl,rfl⟩;refine ⟨_,rfl,.inl ⟨rfl,_,SqL.of e3⟩,_,rfl,_,rfl,aq (by show 2<=1000000;decide),fun p B6=>?_⟩;have DS:kl≠p:=av e3 B6;refine ⟨kl,_,_,rfl,rfl,by rw [af DS];exact e3,aI (by rw [Vt];omega),?_⟩;refine ⟨AF,_,_,_,_,as++[p],ks++[(i4 bg c0 stem (a':Int) (lt++cW).cps.toList pc,M')],rfl,aG (aG P4 (P4.free B6)) Ae,?_,?_,?_,?_⟩
   · rw [ad,VN];rfl
   · have kt:KT H3 (upd (upd H3 p (.tup [.str (i4 bg c0 stem (a':Int) (lt++cW).cps.toList pc),.int M'])) kl (.lst (as.map V.ref++[.ref p]))):=(fz B6).trans (bx (xs:=as.map V.ref) (by rw [af DS];exact e3));refine P2.append (M0.mono kt) (.cons ?_ .nil);show (upd (upd H3 p _) kl _) p=_;rw [af DS.symm,ad]
   · rw [VO,ID];rfl
   · intro j k hj;by_cases JS:j<ks.length
     · rw [Xa JS] at hj;exact hinv j k hj
     · rw [XZ (by omega)] at hj
       have M4:j - ks.length=0:=by
        have:=(Vz.mp hj).1;simp at this;omega
       rw [M4] at hj;cases hj;have Nb:j=i:=by omega
       subst Nb;exact ⟨by rw [Na],Bp,T4,T5⟩
 · rintro σ H2 ⟨DH,kv,mv,pv,nv,as,ks,rfl,sm,e,hp,ID,hinv⟩;refine ⟨_,rfl,kl,_,rfl,.inl ⟨SqL.of e,fun tp BY=>?_⟩⟩;have s3:=ag BY (.tup (as.map V.ref))
   have Nc:∀ k∈ks,1<=k.1.length:=fun k hk=>by
    obtain ⟨i,hi⟩:=V8.mp hk;rw [(hinv i k hi).1];exact wR _
   suffices CB:bu ks by exact q tp as ks _ (sm.trans s3) ad (hp.mono (Same.kt s3)) CB (xB CB Nc)
   refine hinv.good (by omega) (by omega) t0 ⟨l0,by omega⟩ (fun p B6=>⟨xc M9 JA (fun c hc=>pk.low c hc) (by rw [V7];show p<(lt++cW).length;omega),xf M7 M8 (by omega)⟩) (fun p r B6 BW e'=>xQ (fun p r c h1 h2=>pk.inj p r c h1 h2) (by rw [V7];show p<(lt++cW).length;omega) (by rw [V7];show r<(lt++cW).length;omega) e')
def EH (H:Hp) (t:Th) (a:Vy):Prop:=∃ ta,H a=some (.tup [.ref ta,.int (t.tall:Nat)])/\At H t ta
theorem EH.mono {H H':Hp} (k:KT H H') {t:Th} {a:Vy} (h:EH H t a):EH H' t a:=by
 obtain ⟨ta,h1,h2⟩:=h;exact ⟨ta,k _ _ h1,h2.mono k⟩
theorem pZ {H:Hp}:∀ {ts:List Th} {es:List Vy},WD (EH H) ts es->∃ Ai:List Vy,Ats H ts Ai/\Ai.length=es.length/\∀ (i:Nat) (e:Vy),es[i]?=some e->∃ ta t,Ai[i]?=some ta/\ts[i]?=some t/\H e=some (.tup [.ref ta,.int (t.tall:Nat)])
 | _,_,.nil=>⟨[],.nil,rfl,fun i e h=>by simp at h⟩
 | _,_,.cons (a:=t) (b:=e) r h=>by
   refine hid fun ZZ kZ=>?_;obtain ⟨ta,h1,h2⟩:=r;obtain ⟨Ai,g1,g2,g3⟩:=pZ h;refine kZ ?_;refine ⟨ta::Ai,.cons h2 g1,by rw [VY,VY,g2],fun i e' he=>?_⟩;cases i with
   | zero =>
     simp at he;subst he;exact ⟨ta,t,rfl,rfl,h1⟩
   | succ i =>
     refine hid fun ZZ kZ=>?_;obtain ⟨T8,t',q1,q2,q3⟩:=g3 i e' (by simpa using he);refine kZ ?_;exact ⟨T8,t',by simpa using q1,by simpa using q2,q3⟩
theorem li {ts:List Th} {M:Int} (h1:M∈(ts.map fun t:Th=>((t.tall:Nat):Int))++[0]) (h2:∀ a∈(ts.map fun t:Th=>((t.tall:Nat):Int))++[0],a<=M):M=((aC ts:Nat):Int):=by
 by_cases h:ts=[]
 · subst h;have:M=0:=by simpa using h1
   rw [this,aC];rfl
 · have h0:=h2 0 (by simp);obtain ⟨t,ht,he⟩:=jy h;have h3:=h2 _ (V9 _ (List.mem_map_of_mem (f:=fun t:Th=>((t.tall:Nat):Int)) ht));rcases VV.mp h1 with h1 | h1
   · obtain ⟨u,hu,e⟩:=V4.mp h1;have:=cL hu;omega
   · have h4:M=0:=VJ.mp h1;have h5:t.tall=0:=by omega
     cases t with
     | knot n ks=>rw [Th.tall] at h5;omega
     | call a b=>rw [Th.tall] at h5;omega
inductive gq (vs:List V) (H:Hp) (Q:VK) (_E:XK):Prop
 | mk (ka kl:Vy) (k0:V2×Int) (es:List Vy) (ts:List Th) (zS:vs=[.ref ka,.ref kl]) (zT:KAt H k0 ka) (zX:k0.1≠q) (Af:H kl=some (.lst (es.map V.ref))) (Av:WD (EH H) ts es) (AZ:ts.length<=1000) (Bz:∀ (r:Vy) (H':Hp),L2.Same H H'->EH H' (.knot k0.1 ts) r->Q (.ref r) H'):gq  vs H Q _E
def nX:Sp:=gq
theorem cU:aP P w K mg base CX0 1 T.g__law_knot.f T.g__law_knot.d ["kind","kids"] nX:=by
 refine T.g__law_knot.F.ok iP (fun vs H Q E h=>?_) (fun zQ A outer s H vs Q E hr h=>?_)
 · obtain ⟨ka,kl,k0,es,ts,rfl,_⟩:=h;rfl
 obtain ⟨ka,kl,k0,es,ts,rfl,AW,hq,Nf,AI,hlen,q⟩:=h
 refine ⟨_,(ai (aA (i:=2) iP.nd rfl (VQ rfl) (aE bE am (az (iV rfl) rfl T.n_max X1 (ac (aE gY (bA (N:=[Vx "kid"]) (js:=[none]) (g:=(aD 0)) (tt:=aQ) (te:=(tOp (mw K) (bC 0) (tC (.int 1)))) rfl (bO rfl (by decide +kernel) (by decide +kernel) rfl rfl rfl) (cm (pv 1)) (fun _ _ _ _ _ _=>(ar (i:=0) o4 rfl (VQ rfl))) (aN rfl) (fun _ _ _ _ _ _=>bc) (fun _ _ _ _ _ _=>(aK aL (pv 0) am (fun _ _=>rfl)))) (aT (ac am ae))) ae))))
  (aj (aB (aO (ac (aE iK (aO (ac (aK aL (pv 0) am (fun _ _=>rfl)) ae)) (bi aY rfl T.n_tuple WE (ac (bA (N:=[Vx "kid"]) (js:=[none]) (g:=(aD 0)) (tt:=aQ) (te:=(tOp (mw K) (bC 0) (tC (.int 0)))) rfl (bO rfl (by decide +kernel) (by decide +kernel) rfl rfl rfl) (cm (pv 1)) (fun _ _ _ _ _ _=>(ar (i:=0) o4 rfl (VQ rfl))) (aN rfl) (fun _ _ _ _ _ _=>bc) (fun _ _ _ _ _ _=>(aK aL (pv 0) am (fun _ _=>rfl)))) ae))) (ac (pv 2) ae)))))),?_⟩
 try dsimp only [Ab,zL]
 have DO:ts.length=es.length:=VU AI;refine ⟨_,rfl,kl,rfl,⟨_,SqL.of Nf⟩,cC ts (fun t:Th=>V.int (t.tall:Nat)) (SqL.of Nf) (by rw [Vt];exact DO) (by rw [Vt];omega) (fun i x z H2 R W' hx hz s2 hR=>?_) (fun D H1 hD s1 e1=>?_)⟩
 · refine hid fun ZZ kZ=>?_;obtain ⟨e,rfl,he⟩:=aM hx;obtain ⟨t,ht,ta,h1,_⟩:=P2.get' AI he;refine kZ ?_;rw [hz] at ht;cases ht;exact ⟨_,rfl,e,_,1,.int (z.tall:Nat),rfl,rfl,SqT.of (s2 _ _ h1),at1,hR H2 (.refl _)⟩
 refine ⟨aq (by show 1<=1000000;decide),fun zl Ef=>?_⟩;have s2:=ag Ef (.lst [.int 0]);refine ⟨D,zl,_,_,rfl,rfl,s2 _ _ e1,ad,aq (by rw [Vt];show ts.length+1<=1000000;omega),fun cl Aw=>?_⟩;have s3:L2.Same H _:=s1.trans (s2.trans (ag Aw (.lst (ts.map (fun t:Th=>V.int (t.tall:Nat))++[.int 0]))))
 have e3:(upd (upd H1 zl (.lst [.int 0])) cl (.lst (ts.map (fun t:Th=>V.int (t.tall:Nat))++[.int 0]))) cl=some (.lst (((ts.map fun t:Th=>((t.tall:Nat):Int))++[0]).map V.int)):=by
  rw [ad,VN,XR];rfl
 generalize (upd (upd H1 zl (.lst [.int 0])) cl (.lst (ts.map (fun t:Th=>V.int (t.tall:Nat))++[.int 0])))=H3 at s3 e3 ⊢;refine ⟨cl,(ts.map fun t:Th=>((t.tall:Nat):Int))++[0],rfl,SqL.of e3,by simp,fun M hM FU=>⟨_,_,rfl,rfl,?_⟩⟩;have Ng:=li hM FU;subst Ng;have C2:=s3 _ _ AW;refine ⟨_,rfl,ka,_,0,.str k0.1,rfl,rfl,SqT.of C2,at0,aq (by show 1<=1000000;decide),fun p1 CU=>?_⟩;have s4:=s3.trans (ag CU (.tup [.str k0.1]));have e4:(upd H3 p1 (.tup [.str k0.1])) p1=some (.tup [.str k0.1]):=ad;generalize (upd H3 p1 (.tup [.str k0.1]))=H4 at s4 e4 ⊢;refine hid fun ZZ kZ=>?_;obtain ⟨Ai,Cg,An,CN⟩:=pZ (P2.mp (fun _ _ e=>EH.mono (Same.kt s4) e) AI);refine kZ ?_;have IF:=s4 _ _ Nf;refine ⟨_,rfl,kl,rfl,⟨_,SqL.of IF⟩,cC Ai V.ref (SqL.of IF) (by rw [Vt];exact An) (by rw [Vt];omega) (fun i x z H5 R W' hx hz s5 hR=>?_) (fun D5 H5 Vj s5 e5=>?_)⟩
 · refine hid fun ZZ kZ=>?_;obtain ⟨e,rfl,he⟩:=aM hx;obtain ⟨ta,t,g1,_,g3⟩:=CN i e he;refine kZ ?_;rw [hz] at g1;cases g1;exact ⟨_,rfl,e,_,0,.ref z,rfl,rfl,SqT.of (s5 _ _ g3),at0,hR H5 (.refl _)⟩
 refine ⟨D5,_,rfl,.inl ⟨SqL.of e5,fun tp BY=>?_⟩⟩;have s6:L2.Same H5 (upd H5 tp (.tup (Ai.map V.ref))):=ag BY _;have e6:(upd H5 tp (.tup (Ai.map V.ref))) tp=some (.tup (Ai.map V.ref)):=ad;generalize (upd H5 tp (.tup (Ai.map V.ref)))=H6 at s6 e6 ⊢;refine ud (s6 _ _ (s5 _ _ e4)) e6 (by rw [Vt];show 1+Ai.length<=1000000;omega) fun p H7 s7 e7=>?_;refine ⟨_,rfl,aq (by show 2<=1000000;decide),fun r BW=>?_⟩;have s8:=ag BW (.tup [.ref p,.int (1+((aC ts:Nat):Int))]);have GA:=s5.trans (s6.trans (s7.trans s8));refine q r _ (s4.trans GA) ⟨p,?_,?_⟩
 · rw [ad,Th.tall];congr 4;simp;omega
 · rw [At];exact ⟨hq,Ai,s8 _ _ e7,Cg.mono (Same.kt GA)⟩
theorem tZ {c:TT} {σ:St} {H:Hp} {K:Bool->Hp->Prop} (R:Bool->Hp->Prop) (h1:∀ k:Bool->Hp->Prop,(∀ b H',R b H'->k b H')->c σ H k) (h2:∀ b H',R b H'->K b H'):c σ H K:=h1 K h2
theorem pD {K:VB} {js:List (Option Nat)} {tt:TT} {te:TE} {σ:St} {H:Hp} {kr:Vy} {zN:List Vy} {ks:List (V2×Int)} {fin:Vy->Hp->Prop} (p:V2×Int->Bool) (e:H kr=some (.tup (zN.map V.ref))) (Aj:KsAt H ks zN) (hl:ks.length<=1000)
 (DZ:∀ (z:V2×Int) (ka:Vy) (H2:Hp) (R:Bool->Hp->Prop),L2.Same H H2->KAt H2 z ka->R (p z) H2->tt ((cσ js σ).set 0 (some (.ref ka))) H2 R)
 (D0:∀ (ka:Vy) (H2:Hp) (R:VK),R (.ref ka) H2->te ((cσ js σ).set 0 (some (.ref ka))) H2 R)
 (q:∀ (D:Vy) (bs:List ((V2×Int)×Vy)) (H':Hp),H D=none->H'=upd H D (.lst (bs.map fun z=>V.ref z.2))->bs.length<=ks.length->(∀ z∈bs,z.1∈ks/\p z.1=true/\KAt H z.1 z.2)->fin D H') :
 ∀ D,H D=none->∃ (n:Nat) (W:Nat->Hp->Prop),W 0 (upd H D (.lst []))/\dN js (aD 0) tt te σ (Itt K kr) D n W fun H'=>fin D H':=by
 have Ae:ks.length=zN.length:=VU Aj;have Ef:(ks.zip zN).length=ks.length:=by rw [List.length_zip];omega
 have Ds:∀ (i:Nat) (x:V) (z:(V2×Int)×Vy),(zN.map V.ref)[i]?=some x->(ks.zip zN)[i]?=some z->x=.ref z.2:=fun i x z hx hz=>by
  obtain ⟨ka,rfl,Ag⟩:=aM hx;obtain ⟨h1,h2⟩:=X3.mp hz;rw [Ag] at h2;cases h2;rfl
 refine jZ (ks.zip zN) (fun z=>p z.1) (fun z=>.ref z.2) (SqT.of e) (by rw [Ef,Vt];exact Ae) (by rw [Vt];omega) (fun i x z H2 R hx hz sm r=>?_) (fun i x z H2 R hx hz _ sm r=>?_) (fun D hD=>?_)
 · rw [Ds i x z hx hz];have:=(g8 Aj z (VD hz)).2;exact DZ z.1 z.2 H2 R sm (sm _ _ this) r
 · rw [Ds i x z hx hz];exact D0 z.2 H2 R r
 · refine q D _ _ hD rfl ?_ ?_
   · exact WI (List.length_filter_le _ _) (by omega)
   · intro z hz;obtain ⟨h1,h2⟩:=Zw.mp hz;obtain ⟨h3,h4⟩:=g8 Aj z h1;exact ⟨h3,h2,h4⟩
theorem r6 {xs:List V} {n:Nat} (h:n<=xs.length):cG xs none (some (n:Int))=xs.take n:=by
 unfold cG;rw [HT.sIx_nat,HT.sIx_none,Zv h,Z9,XC]
theorem mI (n:Nat) (ts:List Th):au (ts.take n)+au (ts.drop n)=au ts:=by rw [<- aF,List.take_append_drop]
inductive gw (K:VB) (vs:List V) (H:Hp) (Q:VK) (_E:XK):Prop
 | mk (cl ia:Vy) (xs:List V) (Ac:List Vy) (ins:List (V2×Int)) (zS:vs=[.ref cl,.ref ia]) (zT:H cl=some (.lst xs)) (zX:(∀ v∈xs,∃ z,v=.int z)) (Af:xs.length<=61) (Av:H ia=some (.tup (Ac.map V.ref))) (AZ:KsAt H ins Ac) (Bz:bu ins) (Ct:∀ (t:Th) (r:Vy) (H':Hp),L2.Same H H'->At H' t r->t.Fit ins->t.tall<=80->t.size<=300->Q (.ref r) H'):gw K vs H Q _E
def nH (K:VB):Sp:=gw K
set_option maxHeartbeats 4000000 in
theorem nF:aP P w K mg base CX0 2 T.g__law_tree.f T.g__law_tree.d ["cells","ins"] (nH K):=by
 refine T.g__law_tree.F.ok aZ (fun vs H Q E h=>?_) (fun zQ A outer s H vs Q E hr h=>?_)
 · obtain ⟨cl,ia,xs,Ac,ins,rfl,_⟩:=h;rfl
 obtain ⟨cl,ia,xs,Ac,ins,rfl,P5,hint,MQ,ei,DE,gi,q⟩:=h
 refine ⟨_,(ai (aA (i:=2) aZ.nd rfl (VQ rfl) (pcF T.g__law_knot (cU T) hr (ac (pcF T.g__law_leaf (hG T) hr (ac (pv 1) (ac (az ay rfl T.n_len Wd (ac (pv 0) ae)) ae))) (ac (aT ae) ae))))
  (ai (eW (i:=3) (N:=[Vx "kind"]) (js:=[none]) (g:=(aD 0)) (tt:=(rQ (tOp (rI0 fun i j=>.bl (decide (j<i))) (tOp (mw K) (bC 0) (tC (.int 1))) (tC (.int 1))))) (te:=(bC 0)) aZ.nd rfl (VQ rfl) rfl (bO rfl (by decide +kernel) (by decide +kernel) rfl rfl rfl) (cR (pv 1)) (fun _ _ _ _ _ _=>(ar (i:=0) uN rfl (VQ rfl))) (aN rfl) (fun _ _ _ _ _ _=>ku (bt gz (aK aL (pv 0) am (fun _ _=>rfl)) am (aW _))) (fun _ _ _ _ _ _=>(pv 0)))
  (ai (aA (i:=4) aZ.nd rfl (VQ rfl) (aT ae))
  (ai (bN We rfl (cm (bJ gb (pv 0) bX (bP am))) (ar (i:=5) aZ.nd rfl (VQ rfl)) (ai (aA (i:=6) aZ.nd rfl (VQ rfl) (pcF T.g__law_turn (d9 T) hr (ac (pv 5) (ac (az ay rfl T.n_len Wd (ac (pv 4) ae)) ae))))
  (ai (aA (i:=7) aZ.nd rfl (VQ rfl) (aK aL (pv 1) (aE b6 (pv 6) (az ay rfl T.n_len Wd (ac (pv 1) ae))) (fun _ _=>rfl)))
  (ai (aA (i:=8) aZ.nd rfl (VQ rfl) (pcF T.g__law_knot (cU T) hr (ac (pv 7) (ac (aE xO (bJ gb (pv 4) (bP (az (jB rfl) rfl T.n_max X1 (ac am (ac (aE lV (az ay rfl T.n_len Wd (ac (pv 4) ae)) (aK aL (pv 7) am (fun _ _=>rfl))) ae)))) bX) (bi jw rfl T.n_int Zg (ac (cb gz (aK aL (pv 7) am (fun _ _=>rfl)) am (aW _)) ae))) ae))))
  (aj (bW (PW.pt (lG (bt gz (aK aL (pv 7) am (fun _ _=>rfl)) (az ay rfl T.n_len Wd (ac (pv 4) ae)) (aW _)) (gS (bt gz (aK aL (pv 8) am (fun _ _=>rfl)) am (aW _))))) (aj (bd (cv V0 Wt Ws bq (pv 4) (ac (pcF T.g__law_knot (cU T) hr (ac (pcF T.g__law_leaf (hG T) hr (ac (pv 1) (ac (aE dC (pv 6) am) ae))) (ac (aT ae) ae))) ae)))) (aj (aA (i:=4) aZ.nd rfl (VQ rfl) (aE gY (bJ gb (pv 4) bX (bP (aE lV (az ay rfl T.n_len Wd (ac (pv 4) ae)) (aK aL (pv 7) am (fun _ _=>rfl))))) (aT (ac (pv 8) ae)))))))))))
  (ai (cM We (PW.pt (xx (bt gz (az ay rfl T.n_len Wd (ac (pv 4) ae)) am (aW _)) (vZ (bt gz (az ay rfl T.n_len Wd (ac (pv 3) ae)) am (aW _))))) (ai (aA (i:=7) aZ.nd rfl (VQ rfl) (aK bY (pv 3) (aE b6 (az ay rfl T.n_len Wd (ac (pv 4) ae)) (az ay rfl T.n_len Wd (ac (pv 3) ae))) (fun _ _=>rfl)))
  (aj (aA (i:=4) aZ.nd rfl (VQ rfl) (aE gY (bJ gb (pv 4) (bP (aK aL (pv 7) am (fun _ _=>rfl))) bX) (aT (ac (pcF T.g__law_knot (cU T) hr (ac (pv 7) (ac (bJ gb (aE gY (pv 4) (aT (ac (pv 2) (ac (pv 2) ae)))) bX (bP (aK aL (pv 7) am (fun _ _=>rfl)))) ae))) ae)))))))
  (aj (aB (aK aL (aK bY (aE gY (pv 4) (aT (ac (pv 2) ae))) (az (jB rfl) rfl T.n_max X1 (ac am (ac (aE lV (az ay rfl T.n_len Wd (ac (pv 4) ae)) am) ae))) (fun _ _=>rfl)) am (fun _ _=>rfl))))))))),?_⟩
 try dsimp only [Ab,zL]
 have BH:ins.length=Ac.length:=VU DE;have LJ:=gi.le;have Vk:=gi.ne
 -- a leaf
 have CG:∀ k0:V2×Int,k0∈ins->k0.2=0->(Th.knot k0.1 []).Fit ins:=fun k0 hm hz=>by
  rw [Th.Fit,Fits];refine ⟨?_,trivial⟩;have:(k0.1,((([]:List Th).length:Nat):Int))=k0:=Prod.ext rfl hz.symm;rw [this];exact hm
 refine ⟨_,rfl,_,rfl,cl,_,rfl,.inl (SqL.of P5),ia,Ac,ins,_,rfl,ei,DE,gi,fun k0 ka H1 s1 Bp Gb AW=>?_⟩;refine ⟨aq (by show 0<=1000000;decide),fun el DO=>?_⟩;have s2:=s1.trans (ag DO (.lst []));refine ⟨ka,el,k0,[],[],rfl,ag DO _ _ _ AW,m8 (gi.low k0 Bp).1,ad,.nil,Wc _,fun lf H2 P6 DT=>?_⟩;have CD:L2.Same H H2:=s2.trans P6;have DI:=CG k0 Bp Gb;have Nh:(Th.knot k0.1 []).tall<=1:=by rw [Th.tall,aC];exact VG _
 have Ni:(Th.knot k0.1 []).size<=1:=by rw [Th.size,au];exact VG _
 generalize Th.knot k0.1 []=BI at DT DI Nh Ni;clear s2 P6 AW Bp Gb s1 DO
 -- Bw wide ones
 have Nj:=CD _ _ ei;have IG:=DE.mono (Same.kt CD);refine ⟨_,rfl,ia,rfl,⟨_,SqT.of Nj⟩,pD (K:=K) (fun k=>decide (1<k.2)) Nj IG (by omega) (fun z ka H2 R sm hz r=>⟨_,rfl,ka,_,1,_,rfl,rfl,SqT.of hz,at1,_,_,rfl,rfl,_,rfl,r⟩) (fun ka H2 R r=>⟨_,rfl,r⟩) (fun wd bs H3 hD e' TV Bf=>?_)⟩;have s3:L2.Same H2 H3:=by rw [e'];exact ag hD _
 have T9:H3 wd=some (.lst (bs.map fun z=>V.ref z.2)):=by rw [e'];exact ad
 clear e';refine ⟨aq (by show 0<=1000000;decide),fun E2 IH=>?_⟩;have Nk:=s3 _ _ (CD _ _ P5);have s4:L2.Same H3 (upd H3 E2 (.lst [])):=ag IH _;refine ⟨_,rfl,_,rfl,cl,_,rfl,SqL.of (s4 _ _ Nk),fun cc ED=>?_⟩;have P7:E2≠cc:=fun z=>by rw [<- z,ad] at ED;cases ED
 have s5:L2.Same H3 (upd (upd H3 E2 (.lst [])) cc (.lst (cG xs none (some 96)))):=s4.trans (ag ED _);have Gx:(upd (upd H3 E2 (.lst [])) cc (.lst (cG xs none (some 96)))) E2=some (.lst []):=by rw [af P7,ad]
 have Kd:(upd (upd H3 E2 (.lst [])) cc (.lst (cG xs none (some 96)))) cc=some (.lst (cG xs none (some 96))):=ad;generalize (upd (upd H3 E2 (.lst [])) cc (.lst (cG xs none (some 96))))=H5 at s5 Gx Kd ⊢;have E3:∀ v∈cG xs none (some 96),∃ z,v=.int z:=fun v hv=>hint v (X8 (XA hv));have Aw:=dI xs none (some 96);generalize cG xs none (some 96)=ys at Kd E3 Aw ⊢;have Nl:=DT.mono (Same.kt s3);have sb:L2.Same H H3:=CD.trans s3;have P8:=sb _ _ ei;have II:=DE.mono (Same.kt sb)
 have Nm:∀ z∈bs,z.1∈ins/\1<z.1.2/\KAt H3 z.1 z.2:=fun z hz=>by
  obtain ⟨h1,h2,h3⟩:=Bf z hz;exact ⟨h1,of_decide_eq_true h2,s3 _ _ h3⟩
 clear Bf DT IG Nj s4;refine ⟨cc,rfl,⟨_,SqL.of Kd⟩,?_⟩
 refine fN (K:=K) (a:=cc) (xs:=ys) (fun i σ H6=>Ex7 fun (rw:Vy) (es:List Vy) (ts:List Th) (c5 c6 c7 c8:Option V)=>yH (σ=[some (.ref cl),some (.ref ia),some (.ref lf),some (.ref wd),some (.ref rw),c5,c6,c7,c8]) (L2.Same H3 H6) (H3 rw=none) (rw≠cc) (H6 cc=some (.lst ys)) (H6 rw=some (.lst (es.map V.ref))) (WD (EH H6) ts es) ((∀ t∈ts,t.Fit ins)) ((∀ t∈ts,t.tall<=20)) (ts.length<=i) (au ts<=i))
  ⟨E2,[],[],none,none,none,none,rfl,s5,IH,P7,Kd,Gx,.nil,(fun t ht=>by cases ht),(fun t ht=>by cases ht),VG _,VG _⟩ (fun i σ H6 _ ⟨_,_,_,_,_,_,_,_,_,_,_,h,_,_,_,_,_,_⟩=>SqL.of h) ?_ ?_
 · rintro i x σ H6 hx ⟨rw,es,ts,c5,c6,c7,c8,rfl,s6,E4,Eu,Fx,erw,AI,Aa,GD,P9,hsz⟩;obtain ⟨c,rfl⟩:=E3 x (VD hx);have Kc:i<ys.length:=(Vz.mp hx).1;have DO:ts.length=es.length:=VU AI;have Nn:((es.map V.ref).length:Int)=(es.length:Int):=by rw [Vt]
   refine ⟨_,rfl,_,rfl,rw,_,rfl,.inl (SqL.of erw),_,_,rfl,by omega,by omega,fun rest r0 r1=>?_⟩;have P':=s6 _ _ P8;have m0:=WM rest (show ((Ac.map V.ref).length:Int)≠0 by rw [Vt];omega);have m1:=WO rest (show (0:Int)<((Ac.map V.ref).length:Int) by rw [Vt];omega);refine hid fun ZZ kZ=>?_;obtain ⟨k0,Qa⟩:∃ k0,ins[(rest%((Ac.map V.ref).length:Int)).toNat]?=some k0:=⟨_,Vw (by rw [Vt] at m0 m1 ⊢;omega)⟩;obtain ⟨ka,Ag,C2⟩:=P2.get II Qa;refine kZ ?_;have Bp:=VD Qa;have DF:=gi.num k0 Bp;have AW:=s6 _ _ C2;refine ⟨_,rfl,_,rfl,_,rfl,ia,_,rfl,.inr (SqT.of P'),_,_,rfl,rfl,(by show (0:Int)<((Ac.map V.ref).length:Int);rw [Vt];omega),ia,_,_,.ref ka,rfl,rfl,SqT.of P',at_nonneg m0 (by rw [VM,Ag];rfl),?_⟩
   -- made
   obtain ⟨lo,Oq,T'⟩:∃ lo:Nat,(if ((es.map V.ref).length:Int) - k0.2 > 0 then ((es.map V.ref).length:Int) - k0.2 else 0)=(lo:Int)/\lo=es.length - k0.2.toNat:=by
    refine ⟨es.length - k0.2.toNat,?_,rfl⟩;rw [Nn];split <;> omega
   have C3:cG (es.map V.ref) (some (lo:Int)) none=(es.drop lo).map V.ref:=by rw [i8 (by rw [Vt];omega),List.map_drop]
   refine ⟨_,rfl,_,rfl,_,rfl,rw,_,rfl,.inl (SqL.of erw),_,rfl,ka,_,1,_,rfl,rfl,SqT.of AW,at1,_,_,rfl,rfl,_,_,rfl,_,rfl,rw,_,rfl,SqL.of erw,fun IJ K4=>?_⟩;dsimp only;rw [Oq,C3];have sA:L2.Same H6 (upd H6 IJ (.lst ((es.drop lo).map V.ref))):=ag K4 _;have eA:(upd H6 IJ (.lst ((es.drop lo).map V.ref))) IJ=some (.lst ((es.drop lo).map V.ref)):=ad;generalize (upd H6 IJ (.lst ((es.drop lo).map V.ref)))=H7 at sA eA ⊢
   have Np:(WA (if decide ((0:Int)<k0.2)=true then (1:Int) else 0).toNat ((es.drop lo).map V.ref)).flatten=(es.drop lo).map V.ref:=by
    by_cases hc:(0:Int)<k0.2
    · rw [decide_eq_true hc];simp
    · have:es.drop lo=[]:=List.drop_eq_nil_of_le (by omega);rw [this];simp
   have Nq:(if decide ((0:Int)<k0.2)=true then (1:Int) else 0)=0∨(if decide ((0:Int)<k0.2)=true then (1:Int) else 0)=1:=by split <;> simp
   refine ⟨_,rfl,ka,_,1,_,rfl,rfl,SqT.of (sA _ _ AW),at1,_,_,rfl,rfl,.inr ⟨_,rfl,IJ,_,_,rfl,rfl,eA,by omega,by omega,aq ?_,fun rp Ua=>?_⟩⟩
   · have:((es.drop lo).map V.ref).length<=1000:=by rw [Vt,Wz];omega
     rcases Nq with z | z <;> rw [z] <;> simp <;> omega
   dsimp only;rw [Np];have sB:=sA.trans (ag Ua (.lst ((es.drop lo).map V.ref)));have eB:(upd H7 rp (.lst ((es.drop lo).map V.ref))) rp=some (.lst ((es.drop lo).map V.ref)):=ad;generalize (upd H7 rp (.lst ((es.drop lo).map V.ref)))=H8 at sB eB ⊢;refine ⟨ka,rp,k0,es.drop lo,ts.drop lo,rfl,sB _ _ AW,m8 (gi.low k0 Bp).1,eB,P2.mp (fun _ _ e=>EH.mono (Same.kt sB) e) (P2.drop lo AI),by rw [Wz];omega,fun md H9 s9 ES=>?_⟩;have E5:L2.Same H6 H9:=sB.trans s9;have BE:=E5 _ _ erw;have FV:=E5 _ _ Fx;have IK:=E5 _ _ AW;have Ew:=P2.mp (fun _ _ e=>EH.mono (Same.kt E5) e) AI;have IL:=s6.trans E5;obtain ⟨Vl,Ub,Vm⟩:=id ES;dsimp only [aD];refine cE (fun b H'=>An2 (H9=H') ((b=false->k0.2<=(es.length:Int)/\(Th.knot k0.1 (ts.drop lo)).tall<=20))) (fun k2 Bl=>?_) (fun H' hb=>?_) (fun H' hb=>?_)
   · refine ⟨_,rfl,ka,_,1,_,rfl,rfl,SqT.of IK,at1,_,rfl,rw,_,rfl,.inl (SqL.of BE),_,_,rfl,rfl,_,rfl,?_⟩;refine cH (fun c1=>Bl _ _ ⟨rfl,fun z=>by cases z⟩) (fun c1=>?_);refine ⟨_,rfl,md,_,1,_,rfl,rfl,SqT.of Ub,at1,_,_,rfl,rfl,_,rfl,Bl _ _ ⟨rfl,fun z2=>⟨?_,?_⟩⟩⟩
     · have:¬ ((es.map V.ref).length:Int)<k0.2:=fun z=>c1 (decide_eq_true z);omega
     · have:=of_decide_eq_false z2;omega
   · obtain ⟨rfl,_⟩:=hb;refine ⟨_,rfl,.inl ⟨rfl,_,SqL.of BE⟩,_,rfl,_,rfl,_,_,rfl,rfl,⟨by decide,by decide⟩,ia,Ac,ins,_,rfl,IL _ _ P8,II.mono (Same.kt IL),gi,fun k1 Kb BL BG Qb Uc Nr=>?_⟩;refine ⟨aq (by show 0<=1000000;decide),fun el IM=>?_⟩;refine ⟨Kb,el,k1,[],[],rfl,ag IM _ _ _ Nr,m8 (gi.low k1 Qb).1,ad,.nil,Wc _,fun l2 G8 DN AR=>?_⟩;have sC:L2.Same H9 G8:=BG.trans ((ag IM _).trans DN);refine ⟨rw,_,_,rfl,rfl,sC _ _ BE,aI (by rw [Vt];omega),?_⟩;have kt:KT G8 (upd G8 rw (.lst (es.map V.ref++[.ref l2]))):=bx (sC _ _ BE);refine ⟨rw,es++[l2],ts++[.knot k1.1 []],_,_,_,_,rfl,aG (IL.trans sC) E4,E4,Eu,by rw [af Eu.symm];exact sC _ _ FV,by rw [ad,VN];rfl,P2.append (P2.mp (fun _ _ e=>EH.mono ((Same.kt sC).trans kt) e) Ew) (.cons (AR.mono kt) .nil),fun t ht=>?_,fun t ht=>?_,by rw [VO];show ts.length+1<=i+1;omega,by rw [aF,au,au,Th.size,au];omega⟩
     rotate_left
     · rcases VV.mp ht with ht | ht
       · exact GD t ht
       · rw [VJ.mp ht,Th.tall,aC];decide
     rcases VV.mp ht with ht | ht
     · exact Aa t ht
     · rw [VJ.mp ht];exact CG k1 Qb Uc
   · obtain ⟨rfl,hb⟩:=hb;obtain ⟨hle,Cz⟩:=hb rfl;have hn:(((es.map V.ref).length:Int) - k0.2)=(lo:Int):=by rw [Nn];omega
     refine ⟨_,rfl,_,rfl,rw,_,rfl,.inl (SqL.of BE),_,rfl,ka,_,1,_,rfl,rfl,SqT.of IK,at1,_,_,rfl,rfl,_,rfl,rw,_,rfl,SqL.of BE,fun IP Fd=>?_⟩;dsimp only;rw [hn,r6 (by rw [Vt];omega)];have sC:L2.Same H9 (upd H9 IP (.lst ((es.map V.ref).take lo))):=ag Fd _;have eC:(upd H9 IP (.lst ((es.map V.ref).take lo))) IP=some (.lst ((es.map V.ref).take lo)):=ad;generalize (upd H9 IP (.lst ((es.map V.ref).take lo)))=BL at sC eC ⊢;refine ⟨_,rfl,aq (by show 1<=1000000;decide),fun Nt Ex=>?_⟩;have sD:=sC.trans (ag Ex (.lst [.ref md]));refine ⟨IP,Nt,_,_,rfl,rfl,ag Ex _ _ _ eC,ad,aq (by rw [Wi,Vt];show min lo es.length+1<=1000000;omega),fun nr Ke=>?_⟩;have sE:=sD.trans (ag Ke (.lst ((es.map V.ref).take lo++[.ref md])));have FW:H9 nr=none:=sD.free Ke;refine ⟨nr,es.take lo++[md],ts.take lo++[.knot k0.1 (ts.drop lo)],_,_,_,_,rfl,IL.trans sE,IL.free FW,(fun z=>by rw [z,FV] at FW;cases FW),sE _ _ FV,by rw [ad,VN,List.map_take];rfl,P2.append (P2.mp (fun _ _ e=>EH.mono (Same.kt sE) e) (P2.take lo Ew)) (.cons (ES.mono (Same.kt sE)) .nil),fun t ht=>?_,fun t ht=>?_,by rw [VO,Wi];show min lo ts.length+1<=i+1;omega,by rw [aF,au,au,Th.size];have:=mI lo ts;omega⟩
     rotate_left
     · rcases VV.mp ht with ht | ht
       · exact GD t (XA ht)
       · rw [VJ.mp ht];exact Cz
     rcases VV.mp ht with ht | ht
     · exact Aa t (XA ht)
     · rw [VJ.mp ht,Th.Fit];refine ⟨?_,Fits.of fun u hu=>Aa u (X8 hu)⟩;have:(k0.1,((ts.drop lo).length:Int))=k0:=Prod.ext rfl (by show (((ts.drop lo).length:Nat):Int)=k0.2;rw [Wz];omega);rw [this];exact Bp
 · rintro σ H6 ⟨rw,es,ts,c5,c6,c7,c8,rfl,s6,E4,Eu,Fx,erw,AI,Aa,GD,P9,hsz⟩;have FY:ts.length<=1000:=by omega
   have Nu:ts.length=es.length:=VU AI
   have GH:∀ t∈ts,t.tall+es.length<=81:=fun t ht=>by
    have:=GD t ht;omega
   have DJ:es.length<=61:=by omega
   have FZ:au ts+3 * es.length<=260:=by omega
   clear P9 Fx Eu GD Nu;refine ⟨fun m σ H6=>Ex7 fun (rw:Vy) (es:List Vy) (ts:List Th) (c5 c6 c7 c8:Option V)=>xw (σ=[some (.ref cl),some (.ref ia),some (.ref lf),some (.ref wd),some (.ref rw),c5,c6,c7,c8]) (L2.Same H3 H6) (H6 rw=some (.lst (es.map V.ref))) (WD (EH H6) ts es) ((∀ t∈ts,t.Fit ins)) ((∀ t∈ts,t.tall+es.length<=81)) (es.length<=61) (ts.length<=1000) (au ts+3 * es.length<=260) (m=es.length),⟨_,rw,es,ts,c5,c6,c7,c8,rfl,s6,erw,AI,Aa,GH,DJ,FY,FZ,rfl⟩,?_⟩;clear s6 E4 erw AI Aa FY GH DJ FZ hsz;rintro m σ H6 ⟨rw,es,ts,c5,c6,c7,c8,rfl,s6,erw,AI,Aa,GH,DJ,FY,FZ,rfl⟩;have DO:ts.length=es.length:=VU AI;have Nn:((es.map V.ref).length:Int)=(es.length:Int):=by rw [Vt]
   have F0:=s6 _ _ T9;have C4:((bs.map fun z=>V.ref z.2).length:Int)=(bs.length:Int):=by rw [Vt]
   have DT:=Nl;refine tZ (fun b H'=>An2 (H6=H') ((b=true->(1:Int)<((es.map V.ref).length:Int)/\(0:Int)<((bs.map fun z=>V.ref z.2).length:Int)))) (fun k2 Bl=>?_) (fun b H' hb=>?_)
   · refine ⟨_,rfl,rw,_,rfl,.inl (SqL.of erw),_,_,rfl,rfl,_,rfl,?_⟩;refine cH (fun c1=>?_) (fun c1=>Bl _ _ ⟨rfl,fun z=>absurd z VS⟩);exact ⟨_,rfl,wd,_,rfl,.inl (SqL.of F0),_,_,rfl,rfl,_,rfl,Bl _ _ ⟨rfl,fun z=>⟨of_decide_eq_true c1,of_decide_eq_true z⟩⟩⟩
   obtain ⟨rfl,hb⟩:=hb;cases b with
   | true =>
     obtain ⟨Im,EX⟩:=hb rfl;refine j7 ?_;refine ⟨fun zJ H'=>∃ m',m'<es.length/\Ex7 fun (rw:Vy) (es:List Vy) (ts:List Th) (c5 c6 c7 c8:Option V)=>xw (zJ=[some (.ref cl),some (.ref ia),some (.ref lf),some (.ref wd),some (.ref rw),c5,c6,c7,c8]) (L2.Same H3 H') (H' rw=some (.lst (es.map V.ref))) (WD (EH H') ts es) ((∀ t∈ts,t.Fit ins)) ((∀ t∈ts,t.tall+es.length<=81)) (es.length<=61) (ts.length<=1000) (au ts+3 * es.length<=260) (m'=es.length),fun zJ H' h=>h,?_⟩;have m0:=WM ((es.map V.ref).length:Int) (show ((bs.map fun z=>V.ref z.2).length:Int)≠0 by omega);have m1:=WO ((es.map V.ref).length:Int) EX;refine hid fun ZZ kZ=>?_;obtain ⟨z,hz⟩:∃ z,bs[(((es.map V.ref).length:Int)%((bs.map fun z=>V.ref z.2).length:Int)).toNat]?=some z:=⟨_,Vw (by omega)⟩;obtain ⟨Bp,Ec,C2⟩:=Nm z (VD hz);obtain ⟨k0,ka⟩:=z;refine kZ ?_;dsimp only at Bp Ec C2 hz;have DF:=gi.num k0 Bp;have AW:=s6 _ _ C2;refine ⟨_,rfl,_,rfl,rw,_,rfl,.inl (SqL.of erw),_,rfl,wd,_,rfl,.inl (SqL.of F0),_,_,rfl,rfl,EX,wd,_,_,.ref ka,rfl,rfl,SqL.of F0,at_nonneg m0 (by rw [VM,hz];rfl),?_⟩;obtain ⟨kn,ID⟩:∃ kn:Nat,k0.2=(kn:Int):=⟨k0.2.toNat,by omega⟩
     have C3:cG (es.map V.ref) (some (kn:Int)) none=(es.drop kn).map V.ref:=by
      by_cases hc:kn<=es.length
      · rw [i8 (by rw [Vt];exact hc),List.map_drop]
      · have h1:es.drop kn=[]:=List.drop_eq_nil_of_le (by omega);have h2:HT.sIx (es.map V.ref).length 0 (some (kn:Int))=(es.map V.ref).length:=by rw [HT.sIx_nat,Vt];omega
        unfold cG;rw [h1,h2,Z5];simp
     refine ⟨_,rfl,_,rfl,ka,_,1,_,rfl,rfl,SqT.of AW,at1,_,rfl,rw,_,rfl,SqL.of erw,fun dl EL=>?_⟩;dsimp only;rw [ID,C3];have sA:L2.Same H6 (upd H6 dl (.lst ((es.drop kn).map V.ref))):=ag EL _;have eA:(upd H6 dl (.lst ((es.drop kn).map V.ref))) dl=some (.lst ((es.drop kn).map V.ref)):=ad;generalize (upd H6 dl (.lst ((es.drop kn).map V.ref)))=H7 at sA eA ⊢;refine ⟨_,rfl,_,rfl,_,rfl,_,rfl,aq (by show 2<=1000000;decide),fun ll Dw=>?_⟩;have Qc:=ag Dw (.lst [.ref lf,.ref lf]);have sB:=sA.trans Qc;refine ⟨rw,ll,_,_,rfl,rfl,sB _ _ erw,ad,aq (by rw [Vt];show es.length+2<=1000000;omega),fun Kf CL=>?_⟩;have Nv:=Qc.trans (ag CL (.lst (es.map V.ref++[.ref lf,.ref lf])));have eC:(upd (upd H7 ll (.lst [.ref lf,.ref lf])) Kf (.lst (es.map V.ref++[.ref lf,.ref lf]))) Kf=some (.lst ((es++[lf,lf]).map V.ref)):=by rw [ad,VN];rfl
     generalize (upd (upd H7 ll (.lst [.ref lf,.ref lf])) Kf (.lst (es.map V.ref++[.ref lf,.ref lf])))=H8 at Nv eC ⊢;have sC:=sA.trans Nv;refine ⟨_,rfl,ka,_,1,_,rfl,rfl,SqT.of (sC _ _ AW),at1,_,rfl,Kf,_,rfl,SqL.of eC,fun tl An=>?_⟩;have Ud:(es++[lf,lf]).length=es.length+2:=by rw [VO];rfl
     dsimp only;rw [ID,r6 (by rw [Vt];omega),<- List.map_take];have Nw:=Nv.trans (ag An (.lst (((es++[lf,lf]).take kn).map V.ref)));have eD:(upd H8 tl (.lst (((es++[lf,lf]).take kn).map V.ref))) tl=some (.lst (((es++[lf,lf]).take kn).map V.ref)):=ad;generalize (upd H8 tl (.lst (((es++[lf,lf]).take kn).map V.ref)))=H9 at Nw eD ⊢;have sD:=sA.trans Nw;have IQ:=DT.mono (Same.kt (s6.trans sD));have Ew:WD (EH H9) (ts++[BI,BI]) (es++[lf,lf]):=P2.append (P2.mp (fun _ _ e=>EH.mono (Same.kt sD) e) AI) (.cons IQ (.cons IQ .nil));refine ⟨ka,tl,k0,(es++[lf,lf]).take kn,(ts++[BI,BI]).take kn,rfl,sD _ _ AW,m8 (gi.low k0 Bp).1,eD,P2.take kn Ew,by rw [Wi,VO];show min kn (ts.length+2)<=1000;omega,fun md BL BG ES=>?_⟩;have sE:=sD.trans BG;have Nx:=BG _ _ (Nw _ _ eA);refine ⟨aq (by show 1<=1000000;decide),fun Nt Ex=>?_⟩;have sF:=ag Ex (.lst [.ref md]);refine ⟨dl,Nt,_,_,rfl,rfl,sF _ _ Nx,ad,aq (by rw [Vt,Wz];show es.length - kn+1<=1000000;omega),fun nr Ke=>?_⟩;have sG:=sF.trans (ag Ke (.lst ((es.drop kn).map V.ref++[.ref md])));have sH:=sE.trans sG;refine ⟨(es.drop kn++[md]).length,?_,nr,es.drop kn++[md],ts.drop kn++[.knot k0.1 ((ts++[BI,BI]).take kn)],_,_,_,_,rfl,s6.trans sH,by rw [ad,VN];rfl,P2.append (P2.mp (fun _ _ e=>EH.mono (Same.kt sH) e) (P2.drop kn AI)) (.cons (ES.mono (Same.kt sG)) .nil),fun t ht=>?_,fun t ht=>?_,by rw [VO,Wz];show es.length - kn+1<=61;omega,by rw [VO,Wz];show ts.length - kn+1<=1000;omega,?_,rfl⟩
     · rw [VO,Wz];show es.length - kn+1<es.length;omega
     rotate_left 2
     · have AR:(es.drop kn++[md]).length=es.length - kn+1:=by rw [VO,Wz];rfl
       rw [AR,aF,au,au,Th.size,List.take_append,aF];have h1:=mI kn ts;have h2:=kD (kn - ts.length) [BI,BI];have h3:au [BI,BI]<=2:=by rw [au,au,au];omega
       omega
     rotate_left
     · have AR:(es.drop kn++[md]).length=es.length - kn+1:=by rw [VO,Wz];rfl
       rw [AR];rcases VV.mp ht with ht | ht
       · have:=GH t (X8 ht);omega
       · rw [VJ.mp ht,Th.tall]
         have h1:aC ((ts++[BI,BI]).take kn)<=81 - es.length:=mL fun u hu=>by
          rcases VV.mp (XA hu) with hu | hu
          · have:=GH u hu;omega
          · have:u=BI:=by
             rcases VP.mp hu with h | h
             · exact h
             · exact VJ.mp h
            rw [this];omega
         omega
     · rcases VV.mp ht with ht | ht
       · exact Aa t (X8 ht)
       · rw [VJ.mp ht,Th.Fit];refine ⟨?_,Fits.of fun u hu=>?_⟩
         · have:(k0.1,(((ts++[BI,BI]).take kn).length:Int))=k0:=Prod.ext rfl (by
            show ((((ts++[BI,BI]).take kn).length:Nat):Int)=k0.2;rw [Wi,VO];show ((min kn (ts.length+2):Nat):Int)=k0.2;omega)
           rw [this];exact Bp
         · rcases VV.mp (XA hu) with hu | hu
           · exact Aa u hu
           · have:u=BI:=by
              rcases VP.mp hu with h | h
              · exact h
              · exact VJ.mp h
             rw [this];exact DI
   | false =>
     refine kc ?_;refine ⟨_,rfl,_,rfl,aq (by show 1<=1000000;decide),fun l1 BM=>?_⟩;have s7:=ag BM (.lst [.ref lf]);refine ⟨rw,l1,_,_,rfl,rfl,s7 _ _ erw,ad,aq (by rw [Vt];show es.length+1<=1000000;omega),fun cr Ue=>?_⟩;have s8:=s7.trans (ag Ue (.lst (es.map V.ref++[.ref lf])));have Ny:=s8 _ _ erw;refine hid fun ZZ kZ=>?_
     obtain ⟨e0,t0,Gh,Nz,Ug,Uh,Ui⟩:∃ e0 t0,(es++[lf])[es.length - 1]?=some e0/\EH H6 t0 e0/\t0.Fit ins/\t0.tall<=80/\t0.size<=300:=by
      by_cases hz:es.length=0
      · refine ⟨lf,_,?_,DT.mono (Same.kt s6),DI,by omega,by omega⟩;rw [Xh.mp hz];rfl
      · obtain ⟨e0,Gh⟩:∃ e0,es[es.length - 1]?=some e0:=⟨_,Vw (by omega)⟩;obtain ⟨t0,NA,Nz⟩:=P2.get' AI Gh;exact ⟨e0,t0,by rw [Xa (by omega)];exact Gh,Nz,Aa t0 (VD NA),by have:=GH t0 (VD NA);omega,by have:=nA (VD NA);omega⟩
     obtain ⟨Qd,Uj,Ed⟩:=Nz;refine kZ ?_
     have Kc:atI (es.map V.ref++[.ref lf]) (if ((es.map V.ref).length:Int) - 1 > 0 then ((es.map V.ref).length:Int) - 1 else 0)=some (.ref e0):=by
      have hi:(if ((es.map V.ref).length:Int) - 1 > 0 then ((es.map V.ref).length:Int) - 1 else 0)=((es.length - 1:Nat):Int):=by
       rw [Vt];split <;> omega
      rw [hi];refine bK ?_;have:es.map V.ref++[V.ref lf]=(es++[lf]).map V.ref:=by rw [VN];rfl
      rw [this,VM,Gh];rfl
     refine ⟨_,rfl,rw,_,rfl,.inl (SqL.of Ny),_,_,rfl,rfl,_,_,rfl,cr,_,_,.ref e0,rfl,rfl,SqL.of ad,Kc,e0,_,0,.ref Qd,rfl,rfl,SqT.of (s8 _ _ Uj),at0,?_⟩;exact q t0 Qd _ ((sb.trans s6).trans s8) (Ed.mono (Same.kt s8)) Ug Uh Ui
def u7 (H:Hp) (o:Th) (r:Vy):Prop:=H r=some (.tup [.int (o.size:Nat),.int (o.tall:Nat)])
def iw:Nat->Sp
 | 0=>fun _ _ _ _=>False
 | n+1=>fun vs H Q _=>∃ (a:Vy) (ins:List (V2×Int)) (t:Th),vs=[.ref a]/\At H t a/\t.tall<=n+1/\t.Fit ins/\bu ins/\∀ (r:Vy) (H':Hp),L2.Same H H'->u7 H' t r->Q (.ref r) H'
set_option maxHeartbeats 2000000 in
theorem im:∀ n:Nat,aP P w K mg base CX0 n T.g__law_size.f T.g__law_size.d ["tree"] (iw n)
 | 0=>⟨fun _ _ _ _ h=>h.elim,fun _ _ _ _ _ _ _ _ _ _ _ _ _ h=>h.elim⟩
 | n+1=>by
   have ih:=im n;refine T.g__law_size.F.ok iB (fun vs H Q E h=>?_) (fun zQ A outer s H vs Q E hr h=>?_)
   · obtain ⟨a,ins,t,rfl,_⟩:=h;rfl
   obtain ⟨a,ins,t,rfl,hA,An,Aa,go,k⟩:=h
   refine ⟨_,(ai (eW (i:=1) (N:=[Vx "kid"]) (js:=[none]) (g:=(aD 0)) (tt:=aQ) (te:=(jU (iw _) [] E0 (bz (bC 0) dk))) iB.nd rfl (VQ rfl) rfl (bO rfl (by decide +kernel) (by decide +kernel) rfl rfl rfl) (cR (bJ og (pv 0) (bP am) bX)) (fun _ _ _ _ _ _=>(ar (i:=0) o4 rfl (VQ rfl))) (aN rfl) (fun _ _ _ _ _ _=>bc) (fun _ _ _ _ _ _=>(rR (ih) (hr.mono (VG _)) rfl T.g__law_size.m T.g__law_size.F.kp T.g__law_size.b .nil fQ (ac (pv 0) ae))))
    (aj (aB (aO (ac (aE bE am (az (o5 rfl) rfl T.n_sum PyProof.Rows.boot_sum (ac (bA (N:=[Vx "size"]) (js:=[none]) (g:=(aD 0)) (tt:=aQ) (te:=(tOp (mw K) (bC 0) (tC (.int 0)))) rfl (bO rfl (by decide +kernel) (by decide +kernel) rfl rfl rfl) (cm (pv 1)) (fun _ _ _ _ _ _=>(ar (i:=0) ww rfl (VQ rfl))) (aN rfl) (fun _ _ _ _ _ _=>bc) (fun _ _ _ _ _ _=>(aK aL (pv 0) am (fun _ _=>rfl)))) ae))) (ac (aE bE am (az (iV rfl) rfl T.n_max X1 (ac (aE gY (bA (N:=[Vx "size"]) (js:=[none]) (g:=(aD 0)) (tt:=aQ) (te:=(tOp (mw K) (bC 0) (tC (.int 1)))) rfl (bO rfl (by decide +kernel) (by decide +kernel) rfl rfl rfl) (cm (pv 1)) (fun _ _ _ _ _ _=>(ar (i:=0) ww rfl (VQ rfl))) (aN rfl) (fun _ _ _ _ _ _=>bc) (fun _ _ _ _ _ _=>(aK aL (pv 0) am (fun _ _=>rfl)))) (aT (ac am ae))) ae))) ae)))))),?_⟩
   try dsimp only [Ab,zL]
   cases t with
   | call sn cn=>rw [Th.Fit] at Aa;exact Aa.elim
   | knot m ts =>
   rw [Th.tall] at An;rw [Th.Fit] at Aa
   have hw:ts.length<=3:=by
    have:=(go.num _ Aa.1).2;have h2:((ts.length:Nat):Int)<=3:=this;omega
   rw [At] at hA;refine hid fun ZZ kZ=>?_;obtain ⟨TB,Ai,ea,BU⟩:=hA;refine kZ ?_;have Uk:Ai.length=ts.length:=BU.length;refine ⟨_,rfl,1,rfl,a,_,rfl,SqT.of ea,?_,fun p2 D7=>?_⟩
   · rintro ⟨z,_⟩;rw [VY,show (1:Int)=((1:Nat):Int) by rfl,HT.sIx_nat] at z;omega
   dsimp only;rw [kP];have s1:L2.Same H (upd H p2 (.tup (Ai.map V.ref))):=ag D7 _;have e1:(upd H p2 (.tup (Ai.map V.ref))) p2=some (.tup (Ai.map V.ref)):=ad;generalize (upd H p2 (.tup (Ai.map V.ref)))=H1 at s1 e1 ⊢;refine ⟨p2,rfl,⟨_,SqT.of e1⟩,eV (F:=u7) (xs:=Ai.map V.ref) ts (fun H1 H2 z p kt h=>kt _ _ h) (by rw [Vt];omega) (by rw [Vt];omega) (fun i Hx sx hi=>⟨_,_,SqT.of (sx _ _ e1),Vw hi⟩) (fun Hx sx=>⟨_,SqT.of (sx _ _ e1),VG _⟩) (fun i Hx x Hy sx hi hy=>⟨hy.1,hy.2 _ (SqT.of (sx _ _ e1))⟩) (fun i x z Hx R W' hx Bo sx hR=>?_) (fun D H2 as hD s2 eD Bh=>?_)⟩
   · obtain ⟨ua,rfl,Mx⟩:=aM hx;obtain ⟨u,hu,My⟩:=BU.get Mx;rw [Bo] at hu;cases hu;have Qe:z∈ts:=VD Bo;have Vn:=cL Qe;have Ul:=s1.trans sx;cases n with
     | zero =>
       have:=z.tall_eq;omega
     | succ n =>
     refine ⟨_,rfl,ua,ins,z,rfl,My.mono (Same.kt Ul),by omega,hV Aa.2 z Qe,go,fun r H3 s3 M5=>?_⟩;exact hR H3 r s3 M5
   have Ay:ts.length=as.length:=VU Bh;have Ip:=s1.trans s2;refine ⟨_,rfl,D,rfl,⟨_,SqL.of eD⟩,cC ts (fun o:Th=>V.int (o.size:Nat)) (SqL.of eD) (by rw [Vt];exact Ay) (by rw [Vt];omega) (fun i x z Hx R W' hx hz sx hR=>?_) (fun D2 H3 Vo s3 e3=>?_)⟩
   · obtain ⟨e,rfl,he⟩:=aM hx;obtain ⟨t,ht,h1⟩:=P2.get' Bh he;rw [hz] at ht;cases ht;exact ⟨_,rfl,e,_,0,.int (z.size:Nat),rfl,rfl,SqT.of (sx _ _ h1),at0,hR Hx (.refl _)⟩
   refine ⟨D2,ts.map (fun o=>((o.size:Nat):Int)),rfl,SqL.of (by rw [<- ints_map];exact e3),⟨_,_,rfl,rfl,?_⟩⟩;rw [mS];have Qf:=s3 _ _ eD;have NB:WD (u7 H3) ts as:=P2.mp (fun _ _ e=>s3 _ _ e) Bh;refine ⟨_,rfl,D,rfl,⟨_,SqL.of Qf⟩,cC ts (fun o:Th=>V.int (o.tall:Nat)) (SqL.of Qf) (by rw [Vt];exact Ay) (by rw [Vt];omega) (fun i x z Hx R W' hx hz sx hR=>?_) (fun D4 H4 Vp s4 e4=>?_)⟩
   · obtain ⟨e,rfl,he⟩:=aM hx;obtain ⟨t,ht,h1⟩:=P2.get' NB he;rw [hz] at ht;cases ht;exact ⟨_,rfl,e,_,1,.int (z.tall:Nat),rfl,rfl,SqT.of (sx _ _ h1),at1,hR Hx (.refl _)⟩
   refine ⟨aq (by show 1<=1000000;decide),fun zl Ef=>?_⟩;have s5:=ag Ef (.lst [.int 0]);refine ⟨D4,zl,_,_,rfl,rfl,s5 _ _ e4,ad,aq (by rw [Vt];show ts.length+1<=1000000;omega),fun cl Aw=>?_⟩;have s6:L2.Same H _:=Ip.trans (s3.trans (s4.trans (s5.trans (ag Aw (.lst (ts.map (fun t:Th=>V.int (t.tall:Nat))++[.int 0]))))))
   have e6:(upd (upd H4 zl (.lst [.int 0])) cl (.lst (ts.map (fun t:Th=>V.int (t.tall:Nat))++[.int 0]))) cl=some (.lst (((ts.map fun t:Th=>((t.tall:Nat):Int))++[0]).map V.int)):=by
    rw [ad,VN,XR];rfl
   generalize (upd (upd H4 zl (.lst [.int 0])) cl (.lst (ts.map (fun t:Th=>V.int (t.tall:Nat))++[.int 0])))=H6 at s6 e6 ⊢;refine ⟨cl,(ts.map fun t:Th=>((t.tall:Nat):Int))++[0],rfl,SqL.of e6,by simp,fun M hM FU=>⟨_,_,rfl,rfl,?_⟩⟩;have Ng:=li hM FU;subst Ng;refine ⟨aq (by show 2<=1000000;decide),fun r BW=>?_⟩;refine k r _ (s6.trans (ag BW _)) ?_;unfold u7;rw [ad,Th.size,Th.tall];congr 4
   · simp;omega
   · simp;omega
inductive rN (K:VB) (vs:List V) (H:Hp) (Q:VK) (_E:XK):Prop
 | mk (a:Vy) (ns:List Int) (zS:vs=[.ref a]) (zT:SqL K H a (ns.map V.int)) (zX:ns.length<=63) (Af:∀ H',Q (.bl true) H'):rN K vs H Q _E
def nQ (K:VB):Sp:=rN K
set_option maxHeartbeats 4000000 in
theorem xK:aP P w K mg base CX0 120 T.g_law.f T.g_law.d ["script"] (nQ K):=by
 refine T.g_law.F.ok gH (fun vs H Q E h=>?_) (fun zQ A outer s H vs Q E hr h=>?_)
 · obtain ⟨a,ns,rfl,_⟩:=h;rfl
 obtain ⟨a,ns,rfl,hS,CK,k⟩:=h
 refine ⟨_,(ai (aA (i:=1) gH.nd rfl (VQ rfl) (pcF T.g__law_kinds (mh T) hr (ac (pcF T.g__law_cell (ig T) hr (ac (pv 0) (ac am ae))) (ac (aK bY (aT (ac eR (ac eR ae))) (aE b6 (pcF T.g__law_cell (ig T) hr (ac (pv 0) (ac am ae))) am) (fun _ _=>rfl)) ae))))
  (ai (aA (i:=2) gH.nd rfl (VQ rfl) (pcF T.g__law_tree (nF T) hr (ac (bJ gb (pv 0) (bP am) bX) (ac (pv 1) ae))))
  (ai (aA (i:=3) gH.nd rfl (VQ rfl) (aT ae))
  (ai (bN We rfl (cR (pv 1)) (ar (i:=4) gH.nd rfl (VQ rfl)) (ai (eW (i:=5) (N:=[Vx "kid"]) (js:=[none]) (g:=(aD 0)) (tt:=aQ) (te:=(ow (bz (tC (.str (Vx "?"))) (bz (tC (.int 0)) (bz (bC 0) dk))))) gH.nd rfl (VQ rfl) rfl (bO rfl (by decide +kernel) (by decide +kernel) rfl rfl rfl) (d4 rfl T.n_range (ac (aK aL (pv 4) am (fun _ _=>rfl)) ae)) (fun _ _ _ _ _ _=>(ar (i:=0) o4 rfl (VQ rfl))) (aN rfl) (fun _ _ _ _ _ _=>bc) (fun _ _ _ _ _ _=>(aO (ac eR (ac am (ac (pv 0) ae))))))
  (aj (bd (cv V0 Wt Ws bq (pv 3) (ac (aE iK (aO (ac (aK aL (pv 4) am (fun _ _=>rfl)) ae)) (bi aY rfl T.n_tuple WE (ac (pv 5) ae))) ae))))))
  (ai (aA (i:=6) gH.nd rfl (VQ rfl) (pcF T.g_same_book (oQ T) hr (ac (pv 1) ae)))
  (ai (bW (PW.pt (lG (dm (aU (az (f9 (T:="tuple")) rfl T.n_isinstance Yt (ac (pv 6) (ac (ki (v:=.ty "tuple") rfl T.n_tuple WE rfl) ae))) (fun _=>rfl))) (gS (bt (qP (B:=150) (dh hr)) (pv 6) (aO (ac (pv 1) (ac (pv 1) (ac (aO (ac eR (ac am (ac am ae)))) (ac (aO (ac (bi aY rfl T.n_tuple WE (ac (pv 3) ae)) ae)) ae))))) (aW _))))) (aj (aB iG)) bv)
  (ai (bW (PW.pt (lG (bt (qP (B:=150) (dh hr)) (pcF T.g_made_book (ie T) hr (ac (pv 1) (ac (pv 1) (ac (aK aL (pv 6) am (fun _ _=>rfl)) (ac (aT (ac (pv 3) ae)) ae))))) (pv 6) (aW _)) (gS (bt (qP (B:=150) (dh hr)) (pcF T.g_turned (tz T) hr (ac (pv 6) (ac (pv 2) ae))) (pv 2) (aW _))))) (aj (aB iG)) bv)
  (aj (aB (cb (ue (B:=150) (dh hr)) (aO (ac (pcF T.g_count_of (pF T) hr (ac (pv 6) (ac (pv 2) ae))) (ac (pcF T.g_height_of (nT T) hr (ac (pv 6) (ac (pv 2) ae))) ae))) (pcF T.g__law_size (im T 90) hr (ac (pv 2) ae)) (aW _))))))))))),?_⟩
 try dsimp only [Ab,zL]
 refine ⟨_,rfl,a,ns,0,rfl,hS,by decide,fun c0=>?_⟩;refine ⟨aq (by show 2<=1000000;decide),fun ll Dw=>?_⟩;have s1:=ag Dw (.lst [.str (Vx "bdhk"),.str (Vx "npwz")]);refine ⟨_,rfl,a,ns,1,rfl,s1.seq hS,by decide,fun c1=>?_⟩
 obtain ⟨lt,zV,DS⟩:∃ lt,atI [V.str (Vx "bdhk"),.str (Vx "npwz")] (c1%2)=some (.str lt)/\pw lt:=by
  rcases (by omega:c1%2=0∨c1%2=1) with z | z <;> rw [z]
  · exact ⟨_,at0,v7⟩
  · exact ⟨_,at1,vW⟩
 refine ⟨_,_,rfl,rfl,(by show (0:Int)<2;decide),ll,_,_,.str lt,rfl,rfl,SqL.of ad,zV,?_⟩;refine ⟨c0,lt,rfl,DS,fun ka zN ks H1 Qg ek Aj g GF=>?_⟩;have Qh:=s1.trans Qg;clear s1 Qg Dw zV;have Ae:ks.length=zN.length:=VU Aj;have Pz:=g.le
 -- Bw tree
 refine ⟨_,rfl,_,rfl,a,_,rfl,Qh.seq hS,fun sc Qi=>?_⟩;have s2:=ag Qi (.lst (cG (ns.map V.int) (some 2) none))
 have C3:(cG (ns.map V.int) (some 2) none).length<=61:=by
  by_cases h3:2<=ns.length
  · rw [show (some (2:Int))=some ((2:Nat):Int) from rfl,i8 (by rw [Vt];exact h3),Wz,Vt];omega
  · have Aw:=dI (ns.map V.int) (some 2) none;rw [Vt] at Aw;omega
 refine ⟨_,rfl,sc,ka,_,zN,ks,rfl,ad,(fun v hv=>?_),C3,s2 _ _ ek,Aj.mono (Same.kt s2),g,fun t ta H3 s3 hA hF hT hZ=>?_⟩
 · obtain ⟨z,_,rfl⟩:=V4.mp (X8 (XA hv));exact ⟨z,rfl⟩
 have C0:=s2.trans s3;have EW:=C0 _ _ ek;have F1:=Aj.mono (Same.kt C0);clear Qh s2 s3 C0 C3 Qi ek Aj hS
 -- Bw row
 refine ⟨aq (by show 0<=1000000;decide),fun rw E4=>?_⟩;have s4:L2.Same H3 (upd H3 rw (.lst [])):=ag E4 _;have e4:(upd H3 rw (.lst [])) rw=some (.lst (([]:List Vy).map V.ref)):=ad;generalize (upd H3 rw (.lst []))=H4 at s4 e4 ⊢;refine ⟨_,rfl,ka,rfl,⟨_,SqT.of (s4 _ _ EW)⟩,?_⟩;refine oA (K:=K) (a:=ka) (xs:=zN.map V.ref) (fun i σ H5=>Ex3 fun (c4 c5:Option V) (as:List Vy)=>An4 (σ=[some (.ref a),some (.ref ka),some (.ref ta),some (.ref rw),c4,c5,none]) (L2.Same H3 H5) (H5 rw=some (.lst (as.map V.ref))) (Ats H5 ((bS ks).take i) as)) ⟨none,none,[],rfl,s4,e4,.nil⟩ (fun i σ H5 _ ⟨_,_,_,_,s5,_,_⟩=>SqT.of (s5 _ _ EW)) ?_ ?_
 · rintro i x σ H5 hx ⟨c4,c5,as,rfl,s5,erw,has⟩;obtain ⟨pa,rfl,Cc⟩:=aM hx;obtain ⟨kd,Cy,MI⟩:=P2.get' F1 Cc;have hm:=VD Cy;have DF:=g.num kd hm;have IS:H5 pa=some (.tup [.str kd.1,.int kd.2]):=s5 _ _ MI;have BH:=(Vz.mp Cy).1;have HN:=has.length;have Gr:(bS ks).length=ks.length:=by unfold bS;rw [Vt]
   rw [Wi,Gr] at HN;have hlen:(bV kd.2).length=((WT kd.2.toNat).map fun i=>V.int (i:Nat)).length:=by rw [b7,Vt,WK]
   refine ⟨_,rfl,pa,_,1,_,rfl,rfl,SqT.of IS,at1,kd.2,rfl,by omega,by omega,eV (F:=At) (xs:=(WT kd.2.toNat).map fun i=>V.int (i:Nat)) (bV kd.2) (fun H1 H2 z p kt h=>h.mono kt) hlen (by rw [Vt,WK];omega) (fun i Hx sx hi=>by rw [Vt,WK] at hi;exact hi) (fun Hx sx=>by rw [Vt,WK];exact VG _) (fun i Hx x Hy sx hi hy=>⟨hy.1,?_⟩) (fun i y z Hx R W' hy Bo sx hR=>?_) (fun D H6 cs hD s6 eD Bh=>?_)⟩
   · rw [Vt,WK] at hi;rw [VM,YU hi,hy.2];show some (V.int ((i:Nat):Int))=some (V.int (0+((i:Nat):Int)));rw [ZD]
   · have hi:i<kd.2.toNat:=by have:=(Vz.mp Bo).1;rwa [b7] at this
     rw [VM,YU hi] at hy;cases hy;have hz:=gW (m:=kd.2) (c:=(i:Nat)) (by omega) (by omega);rw [WL,Bo] at hz;cases hz;refine ⟨_,rfl,aq (by show 3<=1000000;decide),fun ca BV=>hR _ ca (ag BV _) ?_⟩;rw [At];exact ad
   have Ay:=VU Bh;rw [b7] at Ay;refine ⟨_,rfl,.inl ⟨rfl,_,SqL.of (s6 _ _ erw)⟩,_,rfl,pa,_,0,.str kd.1,rfl,rfl,SqT.of (s6 _ _ IS),at0,aq (by show 1<=1000000;decide),fun p1 CU=>?_⟩;dsimp only;have s7:L2.Same H6 (upd H6 p1 (.tup [.str kd.1])):=ag CU _;have e7:(upd H6 p1 (.tup [.str kd.1])) p1=some (.tup [.str kd.1]):=ad;generalize (upd H6 p1 (.tup [.str kd.1]))=H7 at s7 e7 ⊢;refine ⟨_,rfl,D,_,rfl,.inl ⟨SqL.of (s7 _ _ eD),fun tp BY=>?_⟩⟩;have s8:L2.Same H7 (upd H7 tp (.tup (cs.map V.ref))):=ag BY _;have e8:(upd H7 tp (.tup (cs.map V.ref))) tp=some (.tup (cs.map V.ref)):=ad;generalize (upd H7 tp (.tup (cs.map V.ref)))=H8 at s8 e8 ⊢;refine ud (s8 _ _ e7) e8 (by rw [Vt];show 1+cs.length<=1000000;omega) fun p H9 s9 e9=>?_;have E5:=s7.trans (s8.trans s9);have NC:=s6.trans E5;have BE:=NC _ _ erw;refine ⟨rw,_,_,rfl,rfl,BE,aI (by rw [Vt];omega),?_⟩;have kt:KT H9 (upd H9 rw (.lst (as.map V.ref++[.ref p]))):=bx BE;refine ⟨_,_,as++[p],rfl,aG (s5.trans NC) E4,by rw [ad,VN];rfl,?_⟩;rw [WY,cJ Cy];refine Ats.append (has.mono ((Same.kt NC).trans kt)) (.cons ?_ .nil);rw [At];exact ⟨m8 (g.low kd hm).1,cs,kt _ _ e9,(eQ Bh).mono ((Same.kt E5).trans kt)⟩
 rintro σ H5 ⟨c4,c5,as,rfl,s5,erw,has⟩;rw [Vt,<- Ae,W0 (by unfold bS;rw [Vt];exact VG _)] at has;have ND:=s5 _ _ EW;have F2:=F1.mono (Same.kt s5);have Qj:=hA.mono (Same.kt s5);clear s5 EW F1 hA s4 e4 E4
 -- Bw book
 refine ⟨_,rfl,ka,zN,ks,rfl,ND,F2,g,GF,fun fd H6 s6 bf=>?_⟩;refine hid fun ZZ kZ=>?_;obtain ⟨Vq,Vr,Qk,Vs,Um,Uo,Up,bF⟩:=bf;refine kZ ?_;have Kg:=s6 _ _ ND;have Ey:=F2.mono (Same.kt s6);have Ql:=Qj.mono (Same.kt s6);have F3:=s6 _ _ erw;have F4:=has.mono (Same.kt s6);clear s6 ND F2 Qj erw has
 have E6:bh (nL ks ks (.call 0 0) [bS ks])<=150:=WI (pE (m:=2) (by decide) (by rw [Th.tall];decide) fun row hr t ht=>by
  obtain ⟨j,hj⟩:=V8.mp ht;rw [VJ.mp hr] at hj;have CO:=(Vz.mp hj).1;unfold bS at CO;rw [Vt] at CO;rw [cJ (Vw CO)] at hj;cases hj;exact sk _ _) (by decide)
 dsimp only [aD,vc];refine cE (fun bb H'=>An2 (L2.Same H6 H') (bb=false)) (fun k2 Bl=>?_) (fun H' Az=>by cases Az.2) (fun H' Az=>?_)
 · refine ⟨_,rfl,_,_,_,rfl,.tup bF.bk,xT,_,rfl,kc ?_⟩;refine ⟨_,rfl,_,rfl,_,rfl,aq (by show 3<=1000000;decide),fun ca BV=>?_⟩;have s7:L2.Same H6 (upd H6 ca (.tup [.str (Vx "?"),.int 0,.int 0])):=ag BV _;have e7:At (upd H6 ca (.tup [.str (Vx "?"),.int 0,.int 0])) (.call 0 0) ca:=by rw [At];exact ad
   generalize (upd H6 ca (.tup [.str (Vx "?"),.int 0,.int 0]))=H7 at s7 e7 ⊢;refine ⟨_,rfl,rw,_,rfl,.inl ⟨SqL.of (s7 _ _ F3),fun tp BY=>?_⟩⟩;have s8:L2.Same H7 (upd H7 tp (.tup (as.map V.ref))):=ag BY _;have e8:(upd H7 tp (.tup (as.map V.ref))) tp=some (.tup (as.map V.ref)):=ad;generalize (upd H7 tp (.tup (as.map V.ref)))=H8 at s8 e8 ⊢;refine ⟨aq (by show 1<=1000000;decide),fun t1 Uq=>?_⟩;have s9:L2.Same H8 (upd H8 t1 (.tup [.ref tp])):=ag Uq _;have e9:(upd H8 t1 (.tup [.ref tp])) t1=some (.tup (([tp]:List Vy).map V.ref)):=ad;generalize (upd H8 t1 (.tup [.ref tp]))=H9 at s9 e9 ⊢;refine ⟨aq (by show 4<=1000000;decide),fun bb Kv=>?_⟩;have BG:L2.Same H9 (upd H9 bb (.tup [.ref ka,.ref ka,.ref ca,.ref t1])):=ag Kv _;have JL:(upd H9 bb (.tup [.ref ka,.ref ka,.ref ca,.ref t1])) bb=some (.tup [.ref ka,.ref ka,.ref ca,.ref t1]):=ad;generalize (upd H9 bb (.tup [.ref ka,.ref ka,.ref ca,.ref t1]))=BL at BG JL ⊢;have IT:=s8.trans (s9.trans BG);have Cn:=s7.trans IT;have IU:=bF.mono (Same.kt Cn);have Qm:BookAt BL ks ks (.call 0 0) [bS ks] bb ka ka ca t1 zN zN [tp]:=⟨JL,Cn _ _ Kg,Ey.mono (Same.kt Cn),Cn _ _ Kg,Ey.mono (Same.kt Cn),e7.mono (Same.kt IT),BG _ _ e9,.cons ⟨as,(s9.trans BG) _ _ e8,F4.mono (Same.kt Cn)⟩ .nil⟩;refine ⟨fd,bb,_,_,_,_,rfl,rfl,SqT.of IU.bk,SqT.of Qm.bk,kx IU,kx Qm,E6,fun b hb=>⟨_,rfl,Bl _ _ ⟨Cn,?_⟩⟩⟩;cases b with
   | false=>rfl
   | true=>exact absurd rfl (hb.mp rfl)
 obtain ⟨s7,_⟩:=Az;have IV:=bF.mono (Same.kt s7);have JU:=s7 _ _ Kg;have IW:=Ey.mono (Same.kt s7);have Kh:=Ql.mono (Same.kt s7);have IX:=s7 _ _ F3;have IY:=F4.mono (Same.kt s7);clear s7 Kg Ey Ql F3 F4 bF;generalize H'=H7 at *;have Bc:∀ nm:V2,Out ks [bS ks] (.call 0 0) (.knot nm [t]) t:=fun nm=>uR _ t (VG _) hF nm [t] 0 rfl;have hok:=wO g;dsimp only [aD,wy,vc];refine cE (fun bb H'=>An2 (L2.Same H7 H') (bb=false)) (fun k2 Bl=>?_) (fun H' Az=>by cases Az.2) (fun H' Az=>?_)
 · refine ⟨_,rfl,_,rfl,_,rfl,fd,_,2,.ref Qk,rfl,rfl,SqT.of IV.bk,at2,_,rfl,aq (by show 1<=1000000;decide),fun ru MJ=>?_⟩;have s8:L2.Same H7 (upd H7 ru (.lst [.ref rw])):=ag MJ _;have e8:(upd H7 ru (.lst [.ref rw])) ru=some (.lst (([rw]:List Vy).map V.ref)):=ad;generalize (upd H7 ru (.lst [.ref rw]))=H8 at s8 e8 ⊢;have hK:jj K H8 ks ka zN:=⟨.inr (SqT.of (s8 _ _ JU)),IW.mono (Same.kt s8),by omega,fun k hk=>WI (g.low k hk).2 (by decide)⟩;refine ⟨ka,ka,Qk,ru,zN,zN,[rw],ks,ks,.call 0 0,[bS ks],rfl,hK,GF,hK,GF,IV.hd.mono (Same.kt s8),by rw [Th.size];decide,e8,.cons ⟨as,s8 _ _ IX,IY.mono (Same.kt s8)⟩ .nil,(show 1<=1000 by decide),fun row hr t ht=>?_,hok,fun r H9 s9 bk=>?_⟩
   · obtain ⟨j,hj⟩:=V8.mp ht;obtain ⟨h1,h2⟩:=hok.2.2 row hr;have CO:=(Vz.mp hj).1;have:=(h2 j t _ hj (Vw (by omega))).1;have h3:=kj t;have h4:=this.kn;have h5:=this.cn;omega
   refine hid fun ZZ kZ=>?_;obtain ⟨ia,oa,ha,ra,Ac,Ap,AD,bM⟩:=bk;refine kZ ?_;have Ki:=s8.trans s9;have NF:=IV.mono (Same.kt Ki);refine ⟨_,rfl,r,fd,_,_,_,_,rfl,rfl,SqT.of bM.bk,SqT.of NF.bk,kx bM,kx NF,E6,fun b hb=>⟨_,rfl,?_⟩⟩
   have Ur:b=false:=by
    cases b with
    | false=>rfl
    | true=>exact absurd rfl (hb.mp rfl)
   subst Ur;refine kc ?_;refine ⟨_,rfl,_,rfl,fd,ta,ks,ks,.call 0 0,[bS ks],t,t,rfl,⟨_,_,_,_,_,_,_,NF⟩,g,g,Kh.mono (Same.kt Ki),Bc _,hF,⟨by omega,by omega⟩,fun o BL BG ho=>?_⟩;have IZ:=Kh.mono (Same.kt (Ki.trans BG));cases t with
   | call sn cn=>rw [Th.Fit] at hF;exact hF.elim
   | knot m ts =>
   rw [At] at ho IZ;refine hid fun ZZ kZ=>?_;obtain ⟨_,Ut,eo,NG⟩:=ho;obtain ⟨_,Ai,et,Ep⟩:=IZ;refine kZ ?_
   have Uu:bh (Dv.str m::dvs ts)<=150:=by
    have h1:=fW ts;rw [Th.tall] at hT;rw [bh,Dv.deep];omega
   refine ⟨_,rfl,o,ta,_,_,_,_,rfl,rfl,SqT.of eo,SqT.of et,DAts.cons (show DAt _ (.str m) (.str m) by rw [DAt]) NG.dvs,DAts.cons (show DAt _ (.str m) (.str m) by rw [DAt]) Ep.dvs,Uu,fun b hb=>⟨_,rfl,Bl _ _ ⟨Ki.trans BG,?_⟩⟩⟩;cases b with
   | false=>rfl
   | true=>exact absurd rfl (hb.mp rfl)
 obtain ⟨s8,_⟩:=Az;have Uv:=IV.mono (Same.kt s8);have Qn:=Kh.mono (Same.kt s8);clear s8 JU IW Kh IX IY IV;generalize H'=H8 at *;have bo:=sW g
 have I8:CntI H8 ks ks 1 1 (.call 0 0) [bS ks] t fd ta:=⟨⟨_,_,_,_,_,_,_,Uv⟩,g,⟨_,bo⟩,bo.hdf,by decide,fun row hr p hp=>by
  obtain ⟨j,hj⟩:=V8.mp hp;have Qo:=bo.row row hr;have CO:=(Vz.mp hj).1;obtain ⟨h1,h2⟩:=Qo.fit j p _ hj (Vw (by rw [<- Qo.len];exact CO));have h3:=(gf g p h1).1;have h4:3 ^ p.tall<=3 ^ 2:=Xy (by decide) (by omega);have h5:3 ^ 2=9:=rfl;exact rW g h1 (by omega) (by omega),rW g bo.hdf (by rw [Th.size];decide) (by rw [Th.tall];decide),Qn,hF,by omega,by omega⟩
 refine ⟨_,rfl,_,rfl,fd,ta,ks,ks,1,1,.call 0 0,[bS ks],t,rfl,I8,fun v H9 s9 hv=>?_⟩;have e1:=hv (.call 0 0) t (.inl ⟨rfl,rfl,t,rfl⟩) (Bc _);subst e1;refine ⟨_,rfl,_,rfl,fd,ta,ks,ks,1,1,.call 0 0,[bS ks],t,rfl,I8.same s9,fun v BL BG hv=>?_⟩;have e1:=hv (.call 0 0) t (.inl ⟨rfl,rfl,t,rfl⟩) (Bc _);subst e1;refine ⟨aq (by show 2<=1000000;decide),fun pr Bn=>?_⟩;have DN:L2.Same BL (upd BL pr (.tup [.int (t.size:Nat),.int (t.tall:Nat)])):=ag Bn _;have Qp:(upd BL pr (.tup [.int (t.size:Nat),.int (t.tall:Nat)])) pr=some (.tup [.int (t.size:Nat),.int (t.tall:Nat)]):=ad;generalize (upd BL pr (.tup [.int (t.size:Nat),.int (t.tall:Nat)]))=G8 at DN Qp ⊢;refine ⟨_,rfl,ta,ks,t,rfl,Qn.mono (Same.kt (s9.trans (BG.trans DN))),(by show t.tall<=90;omega),hF,g,fun r Uw CD Ja=>?_⟩;unfold u7 at Ja;have Qq:DAts Uw [Dv.int (t.size:Nat),Dv.int (t.tall:Nat)] [.int (t.size:Nat),.int (t.tall:Nat)]:=rq [((t.size:Nat):Int),((t.tall:Nat):Int)];refine ⟨pr,r,_,_,_,_,rfl,rfl,SqT.of (CD _ _ Qp),SqT.of Ja,Qq,Qq,(by show bh ([((t.size:Nat):Int),((t.tall:Nat):Int)].map Dv.int)<=150;rw [np];decide),fun b hb=>?_⟩;have Ux:b=true:=hb.mpr rfl;subst Ux;exact k _
end
set_option maxHeartbeats 8000000 in
theorem all_mk {l:PySem.W.OpenLaw} {w:Wg} {K:VB} {h:WR} {mg:V2->Option VC} {fa:Vy} (X:K.In h) (G:h.Ns V6 mg) (Uy:mg "law"=some (.ref fa))
 {zM:Vy} {zO:Vy} {Jb:Vy} {NH NI:Option Vy} {NJ:Array (Option VC)} {NK NL NM NN Jc NO:VC} {Jd:Vy} {NP NQ:Option Vy} {NR:Array (Option VC)} {NS NT NU NV Je NW:VC} {Jf:Vy} {NX NY:Option Vy} {NZ:Array (Option VC)} {N0 N1 N2 N3 Jg N4:VC} {Jh:Vy} {N5 N6:Option Vy} {N7:Array (Option VC)} {N8 N9 N' Oa Ji Ob:VC} {Jj:Vy} {Oc Jk:Option Vy} {Od:Array (Option VC)} {Oe Jl Jm Jn F5 Jo:VC} {Qr:Tok} {Gk:Tok} {Ld:Tok} {Qs:Tok} {Of:Vy} {Og:Option Vy} {Uz:Nat} {Oh:Array (Option VC)} {Jp:Tok} {Qt:Tok} {Qu:Tok} {Qv:Tok} {Qw:Tok} {Qx:Tok} {Jq:Tok} {Jr:Tok}
 (g_is_number:FX K mg "is_number" fB ["thing"])
 (g_is_below:FX K mg "is_below" gZ ["number","bound"])
 (g_is_name:FX K mg "is_name" jb ["thing"])
 (g_is_kind:FX K mg "is_kind" iX ["pair"])
 (g_are_kinds:FX K mg "are_kinds" fK ["kinds"])
 (g_kinds_of:FX K mg "kinds_of" gJ ["pairs"])
 (g_many_of:FX K mg "many_of" jt ["kinds","name"])
 (g_kids_of:FX K mg "kids_of" jn ["thing"])
 (g_walked:FX K mg "walked" lA ["thing"])
 (g_placed:FX K mg "placed" lw ["thing"])
 (g_built:FX K mg "built" oR ["tops"])
 (g_tall:FX K mg "tall" qz ["tree"])
 (g_is_call:FX K mg "is_call" jx ["thing"])
 (g_is_hole:FX K mg "is_hole" ji ["thing"])
 (g_is_knot:FX K mg "is_knot" iZ ["thing"])
 (g_called_by:FX K mg "called_by" fU ["call"])
 (g_fits_pattern:FX K mg "fits_pattern" di ["kinds","pattern","states","kids"])
 (g_knots_of:FX K mg "knots_of" gU ["pattern"])
 (g_tall_of:FX K mg "tall_of" jh ["pattern"])
 (g_calls_in:FX K mg "calls_in" gR ["pattern"])
 (g_is_small:FX K mg "is_small" gK ["pattern"])
 (g_check_pattern:FX K mg "check_pattern" cP ["outs","pattern","states","kids"])
 (g_check_state:FX K mg "check_state" dQ ["ins","outs","patterns","states"])
 (g_made_book:FX K mg "made_book" ft ["ins","outs","head","rules"])
 (g_ins_of:FX K mg "ins_of" lI ["book"])
 (g_head_of:FX K mg "head_of" jg ["book"])
 (g_rules_of:FX K mg "rules_of" gM ["book"])
 (g_pattern_of:FX K mg "pattern_of" eP ["book","state","name"])
 (g_above:FX K mg "above" ox ["tree"])
 (g_call_of:FX K mg "call_of" jq ["state"])
 (g_led_on:FX K mg "led_on" kE ["book","call","knot"])
 (g_resolved:FX K mg "resolved" gI ["book","part","knot"])
 (g_run:FX K mg "run" t9 ["book","head","tree"])
 (g_turned:FX K mg "turned" kU ["book","tree"])
 (g_same_knot:FX K mg "same_knot" fX ["name","many"])
 (g_same_book:FX K mg "same_book" fZ ["kinds"])
 (g_digests_of:FX K mg "digests_of" eh ["book","digest"])
 (g_hand_on:FX K mg "hand_on" jz ["digests","level","number","beneath"])
 (g_levels_of:FX K mg "levels_of" fm ["digests","head","tree"])
 (g_kid_worths:FX K mg "kid_worths" eG ["spots","beneath"])
 (g_folded:FX K mg "folded" lY ["book","head","tree","digest","worth"])
 (g_times_in:FX K mg "times_in" gQ ["pattern"])
 (g_count_worth:FX K mg "count_worth" dO ["pair","counts"])
 (g_depths_in:FX K mg "depths_in" fF ["pattern"])
 (g_height_worth:FX K mg "height_worth" dj ["pair","heights"])
 (g_count_of:FX K mg "count_of" gP ["book","tree"])
 (g_height_of:FX K mg "height_of" fA ["book","tree"])
 (g__law_cell:FX K mg "_law_cell" fH ["script","k"])
 (g__law_turn:FX K mg "_law_turn" fV ["cell","k"])
 (g__law_kinds:FX K mg "_law_kinds" eS ["cell","letters"])
 (g__law_leaf:FX K mg "_law_leaf" fJ ["kinds","cell"])
 (g__law_knot:FX K mg "_law_knot" fD ["kind","kids"])
 (g__law_tree:FX K mg "_law_tree" fI ["cells","ins"])
 (g__law_size:FX K mg "_law_size" fq ["tree"])
 (on_Measure:Wk K V6 "Measure"=some (some (.ref zM)))
 (pg_Measure:YK K zM XS=true)
 (hd_Measure:Y8 K zM=true)
 (po_Measure:ZM K zM=true)
 (sa_Measure:Wx K (.ref zM) "__setattr__"=some (some (.builtin "object.__setattr__")))
 (mk_Measure:PySem.W.makesIn K zM=true)
 (kc_Measure:Xc K (.ref zM)=true)
 (na_Measure_met_knots:Wx K (.ref zM) "met_knots"=some none)
 (na_Measure_met_calls:Wx K (.ref zM) "met_calls"=some none)
 (on_Level:Wk K V6 "Level"=some (some (.ref zO)))
 (pg_Level:YK K zO XS=true)
 (hd_Level:Y8 K zO=true)
 (po_Level:ZM K zO=true)
 (sa_Level:Wx K (.ref zO) "__setattr__"=some (some (.builtin "object.__setattr__")))
 (mk_Level:PySem.W.makesIn K zO=true)
 (kc_Level:Xc K (.ref zO)=true)
 (na_Level_trees:Wx K (.ref zO) "trees"=some none)
 (na_Level_asked:Wx K (.ref zO) "asked"=some none)
 (na_Level_kid_spots:Wx K (.ref zO) "kid_spots"=some none)
 (a20:Wx K (.ref zM) "__init__"=some (some (.ref Jb))) (i20:Y7 K (.ref Jb)=true) (l20:K.lookup Jb=some ⟨NK,NH,.func (Xv "__init__" "Measure.__init__" (br bL) (bj bL) (ao bL) .none NL NM NN NI Jc NO),NJ⟩) (c20:Yj K Jc "Measure.__init__"=true) (k20:Xc K (.ref Jb)=true)
 (a21:Wx K (.ref zM) "takes"=some (some (.ref Jd))) (i21:Y7 K (.ref Jd)=true) (l21:K.lookup Jd=some ⟨NS,NP,.func (Xv "takes" "Measure.takes" (br bH) (bj bH) (ao bH) .none NT NU NV NQ Je NW),NR⟩) (c21:Yj K Je "Measure.takes"=true) (k21:Xc K (.ref Jd)=true)
 (a38:Wx K (.ref zO) "__init__"=some (some (.ref Jf))) (i38:Y7 K (.ref Jf)=true) (l38:K.lookup Jf=some ⟨N0,NX,.func (Xv "__init__" "Level.__init__" (br b9) (bj b9) (ao b9) .none N1 N2 N3 NY Jg N4),NZ⟩) (c38:Yj K Jg "Level.__init__"=true) (k38:Xc K (.ref Jf)=true)
 (a39:Wx K (.ref zO) "spot_of"=some (some (.ref Jh))) (i39:Y7 K (.ref Jh)=true) (l39:K.lookup Jh=some ⟨N8,N5,.func (Xv "spot_of" "Level.spot_of" (br bG) (bj bG) (ao bG) .none N9 N' Oa N6 Ji Ob),N7⟩) (c39:Yj K Ji "Level.spot_of"=true) (k39:Xc K (.ref Jh)=true)
 (a58:Wk K V6 "law"=some (some (.ref Jj))) (l58:K.lookup Jj=some ⟨Oe,Oc,.func (Xv "law" "law" (br iz) (bj iz) (ao iz) .none Jl Jm Jn Jk F5 Jo),Od⟩) (c58:Yj K F5 "law"=true) (k58:Xc K (.ref Jj)=true)
 (z0:Wk K V6 "all"=some none)
 (z1:Wk K V6 "bool"=some none)
 (z2:Wk K V6 "dict"=some none)
 (z3:Wk K V6 "enumerate"=some none)
 (z4:Wk K V6 "int"=some none)
 (z5:Wk K V6 "isinstance"=some none)
 (z6:Wk K V6 "len"=some none)
 (z7:Wk K V6 "max"=some none)
 (z8:Wk K V6 "range"=some none)
 (z9:Wk K V6 "reversed"=some none)
 (z10:Wk K V6 "set"=some none)
 (z11:Wk K V6 "str"=some none)
 (z12:Wk K V6 "sum"=some none)
 (z13:Wk K V6 "tuple"=some none)
 (z14:Wk K V6 "zip"=some none)
 (y0:Wk K V6 "CALL_SIGN"=some (some (.str (Vx "?") Qr)))
 (y1:Wk K V6 "MOST_LETTERS"=some (some (.int (8) Gk)))
 (y2:Wk K V6 "MOST_KINDS"=some (some (.int (8) Ld)))
 (y3:Wk K V6 "MOST_KIDS"=some (some (.int (3) Qs)))
 (y4:Wk K V6 "HOLE"=some (some (.ref Of)))
 (w4:K.lookup Of=some ⟨.type "tuple",Og,.seq #[.str (Vx "*") Jp] Uz,Oh⟩)
 (y5:Wk K V6 "MOST_STATES"=some (some (.int (20) Qt)))
 (y6:Wk K V6 "MOST_ROWS"=some (some (.int (20) Qu)))
 (y7:Wk K V6 "MOST_KNOTS_books"=some (some (.int (400) Qv)))
 (y8:Wk K V6 "MOST_CALLS"=some (some (.int (200) Qw)))
 (y9:Wk K V6 "MOST_KNOTS_running"=some (some (.int (2000) Qx)))
 (y10:Wk K V6 "TALLEST"=some (some (.int (150) Jq)))
 (y11:Wk K V6 "HEAD"=some (some (.int (-1) Jr))) :
 ∃ fd:XQ,(∀ (s:VF) (v:VC),BindsTo s fd ⟨[v],[]⟩ [("script",v)])/\∀ base:WR,K.In base->base.Ns V6 mg->aP l.prog w K mg base CX0 120 fa fd ["script"] (nQ K):=by
 have e0:=Uy.symm.trans (WX X G a58);have e:Jj=fa:=(Value.ref.inj (VZ e0)).symm;subst e;have Qy:=cu (st:=bL) l20 c20 k20;have UA:=Qy.binds (ps:=["self"]) fun _ _ _ _ _ _ us hl=>by obtain ⟨y0,rfl⟩:=us1 hl;rfl
 have Qz:=cu (st:=bH) l21 c21 k21;have UB:=Qz.binds (ps:=["self","part","row"]) fun _ _ _ _ _ _ us hl=>by obtain ⟨y0,y1,y2,rfl⟩:=us3 hl;rfl
 have QA:=cu (st:=b9) l38 c38 k38;have UC:=QA.binds (ps:=["self"]) fun _ _ _ _ _ _ us hl=>by obtain ⟨y0,rfl⟩:=us1 hl;rfl
 have QB:=cu (st:=bG) l39 c39 k39;have UD:=QB.binds (ps:=["self","tree"]) fun _ _ _ _ _ _ us hl=>by obtain ⟨y0,y1,rfl⟩:=us2 hl;rfl
 have QC:=cu (st:=iz) l58 c58 k58;have UE:=QC.binds (ps:=["script"]) fun _ _ _ _ _ _ us hl=>by obtain ⟨y0,rfl⟩:=us1 hl;rfl
 let T:TX K mg:=⟨⟨Qr,WX X G y0⟩,⟨Gk,WX X G y1⟩,⟨Ld,WX X G y2⟩,⟨Qs,WX X G y3⟩,Of,WX X G y4,fun H=>.inr ⟨_,_,_,w4,rfl,rfl,(by show 1<=V1;decide),.cons ⟨_,rfl⟩ (.nil)⟩,⟨Qt,WX X G y5⟩,⟨Qu,WX X G y6⟩,⟨Qv,WX X G y7⟩,⟨Qw,WX X G y8⟩,⟨Qx,WX X G y9⟩,⟨Jq,WX X G y10⟩,⟨Jr,WX X G y11⟩,g_is_number,g_is_below,g_is_name,g_is_kind,g_are_kinds,g_kinds_of,g_many_of,g_kids_of,g_walked,g_placed,g_built,g_tall,g_is_call,g_is_hole,g_is_knot,g_called_by,g_fits_pattern,g_knots_of,g_tall_of,g_calls_in,Jb,_,Qy,UA,Jd,_,Qz,UB,g_is_small,g_check_pattern,g_check_state,g_made_book,g_ins_of,g_head_of,g_rules_of,g_pattern_of,g_above,g_call_of,g_led_on,g_resolved,g_run,g_turned,g_same_knot,g_same_book,Jf,_,QA,UC,Jh,_,QB,UD,g_digests_of,g_hand_on,g_levels_of,g_kid_worths,g_folded,g_times_in,g_count_worth,g_depths_in,g_height_worth,g_count_of,g_height_of,g__law_cell,g__law_turn,g__law_kinds,g__law_leaf,g__law_knot,g__law_tree,g__law_size,⟨Jj,_,QC,UE,WX X G a58⟩,zM,WX X G on_Measure,⟨pg_Measure,hd_Measure,po_Measure,sa_Measure⟩,⟨mk_Measure,a20,i20,kc_Measure⟩,na_Measure_met_knots,na_Measure_met_calls,⟨a21,i21,k21⟩,zO,WX X G on_Level,⟨pg_Level,hd_Level,po_Level,sa_Level⟩,⟨mk_Level,a38,i38,kc_Level⟩,na_Level_trees,na_Level_asked,na_Level_kid_spots,⟨a39,i39,k39⟩,WB X G z0,WB X G z1,WB X G z2,WB X G z3,WB X G z4,WB X G z5,WB X G z6,WB X G z7,WB X G z8,WB X G z9,WB X G z10,WB X G z11,WB X G z12,WB X G z13,WB X G z14⟩
 refine ⟨Xv "law" "law" (br iz) (bj iz) (ao iz) .none Jl Jm Jn Jk F5 Jo,fun s v=>.of_eq rfl,fun base _ _=>?_⟩;exact xK T
theorem walk {l:PySem.W.OpenLaw} {q:V3} {loose:List V2} {XP:(V2->Option VC)->WR->Prop} {YP:Wg->WR->Prop} {d:DefRec} {K:Params->VB} (hn:l.most=some 63) (hdf:d.params.defaults=[])
 (hY:∀ (w:Wg) (h:WR),YP w h->(K w.params).In h)
 (F:∀ (w:Wg) (mg:V2->Option VC) (fa:Vy) (h:WR),(K w.params).In h->h.Ns V6 mg->mg d.name=some (.ref fa) →
  ∃ fd:XQ,(∀ (s:VF) (u:VC),BindsTo s fd ⟨[u],[]⟩ [("script",u)])/\∀ base:WR,(K w.params).In base->base.Ns V6 mg->aP l.prog w (K w.params) mg base CX0 120 fa fd ["script"] (nQ (K w.params))) :
 PySem.W.WalkO q loose XP YP l.row.toRowW d [] (fun f vs=>PySem.call f vs) :=
 L2.vV (n:=63) (k:=120) (x:="script") (CX:=fun _=>CX0) (sp:=fun w=>nQ (K w.params)) hn (by decide) hdf ⟨rfl,by decide,by decide⟩ hY F (fun _ _ a ns hl _ hS=>⟨a,ns,rfl,hS,hl,fun _=>rfl⟩) fun _ _ _ _ _ z=>z
end LAW
open PySem PySem.W PyProof.Rows
set_option maxRecDepth 100000 in
set_option maxHeartbeats 0 in
theorem PySem.Challenge.cw_boughbook_k37_the_same_book_holds : PySem.Challenge.rw_boughbook_k37_the_same_book.Holds := by
 w_on;o_law;(refine holds_open (q:=LAW.vw) (N:=90000) (loose:=[]) (XP:=XL LAW.vw []) (Yf:=Hook.obs (kHook LAW.d0.heap_1 LAW.ks LAW.ke)) (Ya:=Hook.val (kHook LAW.d0.heap_1 LAW.ks LAW.ke)) (YP:=Hook.says (kHook LAW.d0.heap_1 LAW.ks LAW.ke)) (Xt:=LAW.xt) (HD.tf (by kernel_rfl) (by kernel_rfl) (fun _=>by kernel_rfl) LAW.lk0 LAW.lk1 LAW.lk2 LAW.lk3 LAW.lk4 LAW.lk5 (HD.Pc.k LAW.kp)) (Hook.of (kHook LAW.d0.heap_1 LAW.ks LAW.ke)) (Hook.keeps (kHook LAW.d0.heap_1 LAW.ks LAW.ke)) (fun s e=>xl_of s (Bool.and_eq_true_iff.mp e).1) XL.keeps (by rfl) (by rfl) (by rfl) (fun s e=>recFacts_of (Bool.and_eq_true_iff.mp e).2) (by rfl) (by assumption) (by decide +kernel) ⟨rfl,rfl,rfl,rfl,rfl,by decide +kernel⟩ ?_ ?_);w_witness2
 k_fill
 refine LAW.walk (l:=PySem.Challenge.rw_boughbook_k37_the_same_book) rfl rfl (fun w h Y=>PySem.W.kIn_of Y) ?F
 case F =>
  intro w mg fa h KX G G1;refine' LAW.all_mk KX G G1 (LAW.fx1 KX G) (LAW.fx2 KX G) (LAW.fx1 KX G) (LAW.fx1 KX G) (LAW.fx1 KX G) (LAW.fx1 KX G) (LAW.fx2 KX G) (LAW.fx1 KX G) (LAW.fx1 KX G) (LAW.fx1 KX G) (LAW.fx1 KX G) (LAW.fx1 KX G) (LAW.fx1 KX G) (LAW.fx1 KX G) (LAW.fx1 KX G) (LAW.fx1 KX G) (LAW.fx4 KX G) (LAW.fx1 KX G) (LAW.fx1 KX G) (LAW.fx1 KX G) (LAW.fx1 KX G) (LAW.fx4 KX G) (LAW.fx4 KX G) (LAW.fx4 KX G) (LAW.fx1 KX G) (LAW.fx1 KX G) (LAW.fx1 KX G) (LAW.fx3 KX G) (LAW.fx1 KX G) (LAW.fx1 KX G) (LAW.fx3 KX G) (LAW.fx3 KX G) (LAW.fx3 KX G) (LAW.fx2 KX G) (LAW.fx2 KX G) (LAW.fx1 KX G) (LAW.fx2 KX G) (LAW.fx4 KX G) (LAW.fx3 KX G) (LAW.fx2 KX G) (LAW.fx5 KX G) (LAW.fx1 KX G) (LAW.fx2 KX G) (LAW.fx1 KX G) (LAW.fx2 KX G) (LAW.fx2 KX G) (LAW.fx2 KX G) (LAW.fx2 KX G) (LAW.fx2 KX G) (LAW.fx2 KX G) (LAW.fx2 KX G) (LAW.fx2 KX G) (LAW.fx2 KX G) (LAW.fx1 KX G) ?on_Measure ?pg_Measure ?hd_Measure ?po_Measure ?sa_Measure ?mk_Measure ?kc_Measure ?na_Measure_met_knots ?na_Measure_met_calls ?on_Level ?pg_Level ?hd_Level ?po_Level ?sa_Level ?mk_Level ?kc_Level ?na_Level_trees ?na_Level_asked ?na_Level_kid_spots ?a20 ?i20 ?l20 ?c20 ?k20 ?a21 ?i21 ?l21 ?c21 ?k21 ?a38 ?i38 ?l38 ?c38 ?k38 ?a39 ?i39 ?l39 ?c39 ?k39 ?a58 ?l58 ?c58 ?k58 ?z0 ?z1 ?z2 ?z3 ?z4 ?z5 ?z6 ?z7 ?z8 ?z9 ?z10 ?z11 ?z12 ?z13 ?z14 ?y0 ?y1 ?y2 ?y3 ?y4 ?w4 ?y5 ?y6 ?y7 ?y8 ?y9 ?y10 ?y11
  (case on_Measure=>k_is)
  (case pg_Measure=>k_is)
  (case hd_Measure=>k_is)
  (case po_Measure=>k_is)
  (case sa_Measure=>k_is)
  (case mk_Measure=>k_is)
  (case kc_Measure=>k_is)
  (case na_Measure_met_knots=>k_is)
  (case na_Measure_met_calls=>k_is)
  (case on_Level=>k_is)
  (case pg_Level=>k_is)
  (case hd_Level=>k_is)
  (case po_Level=>k_is)
  (case sa_Level=>k_is)
  (case mk_Level=>k_is)
  (case kc_Level=>k_is)
  (case na_Level_trees=>k_is)
  (case na_Level_asked=>k_is)
  (case na_Level_kid_spots=>k_is)
  (case a20=>k_is)
  (case i20=>k_is)
  (case l20=>k_is)
  (case c20=>k_is)
  (case k20=>k_is)
  (case a21=>k_is)
  (case i21=>k_is)
  (case l21=>k_is)
  (case c21=>k_is)
  (case k21=>k_is)
  (case a38=>k_is)
  (case i38=>k_is)
  (case l38=>k_is)
  (case c38=>k_is)
  (case k38=>k_is)
  (case a39=>k_is)
  (case i39=>k_is)
  (case l39=>k_is)
  (case c39=>k_is)
  (case k39=>k_is)
  (case a58=>k_is)
  (case l58=>k_is)
  (case c58=>k_is)
  (case k58=>k_is)
  (case z0=>k_is)
  (case z1=>k_is)
  (case z2=>k_is)
  (case z3=>k_is)
  (case z4=>k_is)
  (case z5=>k_is)
  (case z6=>k_is)
  (case z7=>k_is)
  (case z8=>k_is)
  (case z9=>k_is)
  (case z10=>k_is)
  (case z11=>k_is)
  (case z12=>k_is)
  (case z13=>k_is)
  (case z14=>k_is)
  (case y0=>k_is)
  (case y1=>k_is)
  (case y2=>k_is)
  (case y3=>k_is)
  (case y4=>k_is)
  (case w4=>k_is)
  (case y5=>k_is)
  (case y6=>k_is)
  (case y7=>k_is)
  (case y8=>k_is)
  (case y9=>k_is)
  (case y10=>k_is)
  (case y11=>k_is)
