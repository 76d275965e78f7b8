import PyProof.Rows.All
import Wide.All
import OpenK.AllK
import Wide.FinOn
import Lean
import PyProof.EqAt
import PyProof.EqKinds
import PyProof.TupleCall
import KE.KRevIter
import PyProof.ListNew
import PyProof.Draws
import PyProof.EnumMake
import PyProof.Rows.EnumRows
import PyProof.ZipIter
import PyProof.ConsumeWalk
import KE.LcSums
import PyProof.AttrMissHeap
import KE.KDictOf
import PyProof.DictWalks
import PyProof.ListMulRoad
import PyProof.FactsAll.tuple
import PyProof.NeKinds
import KE.RegKTryMore
import KE.RegKIsAll
import PyProof.StrWalks
import PyProof.Rows.SetFrom
import PyProof.FString5
import Wide.Txt
import PyProof.Rows.SeqMore
import PyProof.StrOps2
import KE.KEqDict
import PyProof.CollectIter
import PyProof.JoinWalk
import PyProof.CallStr
import PyProof.DictRoadsH
import PyProof.MeetsDictList
import PyProof.DictTruth
import PyProof.StrLawsChain
import PyProof.StrCalls6
import PyProof.ToksMono
import PyProof.StrCalls2
import KE.KWords
import PyProof.MeetsStr2
import KE.KLam
import KE.KDictLaws
import PyProof.DictItems
import PyProof.DictValues
import PyProof.DictItemsLoops
import PySem.Challenge.RW_boughbook_k55_fronts_of_leaves
set_option Elab.async false
set_option linter.all false
set_option maxRecDepth 100000
set_option genInjectivity false
set_option genSizeOf false
local macro_rules | `(tactic| omega) => `(tactic| lia)
open List renaming length_map→Uc,getElem?_eq_getElem→Ue,mem_of_getElem?→Uh,getElem?_eq_some_iff→Uk,getElem?_map→Uo,length_cons→Ut,size_toArray→Uu,map_append→Ux,length_append→UE,mem_iff_getElem?→UG,mem_cons_self→UH,mem_cons_of_mem→UJ,mem_cons→UK,mem_singleton→UP,length_take→UQ,length_range→UY,range→U1,mem_map→U5,append_nil→U6,map_cons→U8,mem_append_right→Vc,mem_append→Ve,getElem?_cons_succ→Vf,mem_append_left→Vi,append_assoc→Vo,getElem?_range→Vp,getElem?_eq_none→Vq,take_add_one→Vs,reverse_cons→Vu,take_of_length_le→Vx,length_eq_zero_iff→VB,length_drop→VG,length_reverse→VJ,reverse_append→VR,getElem?_zip_eq_some→VX,mem_filter→V7,take_length→V9,filter_cons→Wa,replicate→Wf,nil_append→Wh,map_map→Wi,dropLast_concat_getLast→Wj,reverse_reverse→Wl,cons_append→Wm,map_nil→Wq,ext_getElem?→Wr,getElem?_append_left→Wu,mem_range→WD,drop_zero→WE,length_zip→WH,length_nil→WI,lookup_cons→WR,all_eq_true→WS,take_zero→WV,getElem?_append_right→WW,length_filter_le→WZ,find?_cons→W7,length→Xc,not_mem_nil→Xi,zip_cons_cons→Xp,of_mem_zip→Xs,length_replicate→Xv,getElem_mem→XN,drop_eq_getElem_cons→XQ,filterMap_cons→XS,getElem?_take_of_lt→XZ,forIn_cons→X5,filter_append→X6,nodup_cons→Yv,map_congr_left→Yy,zip_nil_right→YE,nodup_nil→YF,map_inj_right→YG,zip_nil_left→YJ,nodup_append→YK,map_reverse→Y0,getD→Y1,range_succ→Y9,length_set→Za,filter_nil→Zb,take_append_drop→Ze,getElem?_set_ne→Zk,forIn_nil→Zl,drop_succ_cons→Zq,map_drop→Zw,mem_filterMap→ZA,filterMap_map→ZC,getElem?_inj→ZM,foldl_append→ZN,flatMap_cons→ZO,findIdx_cons→ZP
open PySem renaming wpAny_bind→Ud,Addr→Ui,Value→Ul,wpAny_pure→Uq,Shared→Ur,Program→Uz,wpAny→UC,sizeLine→UD,World→UN,Str→US,boot_len→UT,Paired→UX,model→U0,Around→U9,mainGlobals→Va,wpAny_field→Vg,starEach→Vm,wpAny_callSpecial?_slot→Vr,wpAny_newObj_type→Vy,wpAny_call_entry→Vz,Expr→VC,Heap→VH,builtinLookup_eq_fast→VL,wpAny_seqItems→VO,wpAny_holding→VP,wpAny_specialOf→VW,wpAny_Call_Name_kw→V1,cLine→V3,wpAny_updateSeq→Wc,sysModules→Wg,Stmt→Wk,typeLookup_type→Wo,wpAny_mono→Ww,Obj→WA,IsPair→WB,rawInt→WM,eval→WN,NameKind→WU,wpAny_typeOf→W0,Builtin→W4,wpAny_isInstance→W5,wpAny_setField_rec→W9,wpAny_rule→Xa,wpAny_attempt→Xk,pyNext→Xl,plainId_quiet→Xm,isSubtype_type→Xq,compareOp→Xr,wpAny_typeNameOfWhole_keyiter→Xx,wpAny_of_eq→Xy,wpAny_pyIter_tuple→Xz,wpAny_passesOwn→XB,FuncData→XD,wpAny_truthy_bool→XO,mem_of_lookup→XR,wpAny_setField→XU,typeLookup→XW,atKey→XX,wpAny_typeNameOf_keyiter→X8,binaryOp→X9,codeAny_builtin→Yg,tupleKind_room_in1→Yh,sliceBounds→Yi,sizeLine_eq→Yj,Scope→Yk,Pos→Yl,tupleKeyHash→Yo,getItem→Yp,firstArgMember→Yq,codeAny→Yr,backTo→Ys,bootBuiltins→YM,OsState→YQ,updateSeq→YT,call_meets→YU,wpAny_pyIter_enum→Y4,wpAny_letGo→Y5,wpAny_dictEntries→Y6,storedH→Y7,atKey_none_of_get→Y8,behindInMarks→Zd,tupleKind→Zg,IsZip→Zm,assignEach→Zp,IsPart→Zr,wpAny_ite_split→Zs,wpAny_execs_nil→Zt,letOwnedTupleGo→Zu,importedModules→Zv,wpAny_notOrdered_dict→Zz,wpAny_updateSeq_pair→ZD,slicePicked→ZE,callType_codes→ZF,ZipApart→ZG
open PySem.W renaming Frag→Ug,mg_none_of→VY,kia_one→V6,nsIn→V8,boot_heap→Xb,kitOne→XC,fnOf→XH,mg_of→YN,keepIn→Zh,codeIn→Zi,methodObj→ZH
open Nat renaming le_refl→Uj,zero_le→UO,ne_of_lt→U2,lt_of_lt_of_le→Vn,lt_irrefl→VS,le_trans→V4,le_add_right→WQ,ne_of_gt→XI,lt_trans→XJ,le_of_lt→XM,not_lt_zero→X4,lt_succ_of_lt→Yc,min_eq_left→Yu,min_self→Yz,not_lt→YC,lt_of_le_of_lt→YD,add_assoc→YR,mul_le_mul_right→Zj,sub_zero→ZJ,sub_self→ZK,le_of_eq→ZL
open PySem.Str renaming ofString→Um
open PySem.Heap renaming get?_push_of_some→Up,get?_push_size→Uy,lt_size→UA,get?_update_self→U7,get?_update_other→Vd,size_push→VF,SameBut→We,size_update→YA,ExtBut→ZR
open PySem.Paired renaming length→Uv
open PySem.F renaming plainAttrs_list→Uw,type_list_append→UL,slot_list_append→UM,plain_extend_loop→VU,slot_dict_keyiterator_next→WT,type_list_pop→WX,slot_list_pop→WY,type_list_extend→Xd,slot_list_extend→Xe,slot_list_index→Xh,slot_dict_get→Xu,slot_zip_next→XF,slot_tuple_iterator_next→X0,slot_dict_setdefault→Yt,entry_extend_loop→YL,args_tuple_add_2→YO,type_list_index→YV,plainAttrs_dict→YW,entry_tuple_add→YX,args_dict_get_3→YY,slot_tuple_add→Y2,entry_dict_get→Y3,slot_tuple_hash→Zc,slot_list_getattribute→Zf
open Or renaming inl→UB,inr→Ym
open Bool renaming false_ne_true→UI,false_eq_true→VE,eq_false_iff→VT,and_eq_true→Wn,false_or→X3,and_false→Yd,not_true→Yn,eq_iff_iff→Yw,and_eq_true_iff→Zo,or_false→Zy
open Option.some renaming inj→UR
open Option renaming map_eq_some_iff→UU,map_some→W6,isSome_iff_exists→XY,getD_some→YZ,isSome_map→ZI
open PySem.PassesOwn renaming never→UW
open PySem.Value renaming ref→UZ,none→VQ,type→WO
open Array renaming length_toList→U3,getElem?_eq_getElem→Wv,getElem?_toList→Xw,toList_append→XT,forIn_toList→X7,getElem?_eq_none→Ye,getElem?_eq_some_iff→YI,toList→ZS
open Sum renaming inl→U4,inr→XG
open PyProof.Rows renaming slot_tuple_getitem→Vb,callWith_type1→Vj,boot_tuple→VI,boot_isinstance→VM,IsTup→Xo,boot_list→Yb
open Int renaming toNat_natCast→Vh,emod_lt_of_pos→Vw,emod_nonneg→VD,zero_add→VZ,toNat_of_nonneg→Xg,ediv_one→ZQ
open PySem.Builtin.SmallTypes renaming nextOf→Vk,ownedTupleIsFree→Vv
open PySem.Obj renaming mapSeq→VA,data_mapFields→WG,isFreed_of_fields→Yx
open PySem.NameKind renaming free→VN,cell→YB
open PySem.Builtin.Slice renaming slicePlaces→V0,sliceAdjust→Xf,sliceApplied→X2
open PySem.Calls renaming spliced_cons→V2,spliced_nil→Wx,callWith_builtin→XA,evalArgs_plain→YH
open PySem.Builtin.Tuple renaming tupleExact→V5,tupleHashOf→WC,tupleItemsOf→X1
open PySem.Value.type renaming inj→Wb
open Ne renaming symm→Wd
open PySem.Builtin.List renaming listExtendWith→Wt,listTooLong→WJ,listSameRef→WK,listLengthHint→W2,listItems→W3,listUpdate→Zn
open PySem.Heap.SameBut renaming update→Wy
open True renaming intro→Wz
open PySem.AutoSeq1 renaming wpAny_loadPart'→WL
open ForInStep renaming yield→W8
open PySem.Around renaming under_plainId→Xj
open Sum.inl renaming inj→Xn
open False renaming elim→XE
open PySem.Builtin.Str renaming strSliceIndices→YS
open List.cons renaming inj→Zx
namespace HD
open PySem PySem.W PySem.Calls PyProof.Rows
def jW (tb:String->Option W4) (p:Uz) (w:UN) (m:Nat) (ann:Option Ul):Nat->SharedT->Thread->Option SharedT
 | 0,_,_=>none
 | n+1,s,t=>match through t with
   | true=>some s
   | false=>match stepOk m ann t with
     | false=>none
     | true=>match stepT (denote tb) p w s t with
       | some (s',t')=>jW tb p w m ann n s' t'
       | none=>none
theorem kb {tb:String->Option W4} {p:Uz} {w:UN} {m:Nat} {ann:Option Ul}:∀ {n:Nat} {s s':SharedT} {t:Thread},jW tb p w m ann n s t=some s'->topRun tb p w m ann n s.abs t=some s'.abs
 | 0,_,_,_,h=>by cases h
 | n+1,s,s',t,h=>by
   unfold jW at h;unfold topRun;cases he:through t with
   | true=>rw [he] at h;cases h;rfl
   | false =>
     rw [he] at h;cases hk:stepOk m ann t with
     | false=>rw [hk] at h;cases h
     | true =>
       rw [hk] at h;cases hs:stepT (denote tb) p w s t with
       | none=>rw [hs] at h;cases h
       | some r =>
         obtain ⟨s2,t2⟩:=r;rw [hs] at h;rw [stepT_spec hs];exact kb h
def tQ:List WA->Nat->BT->BT
 | [],_,t=>t
 | o::l,n,t=>tQ l (n+1) (t.ins n o)
def u4:List WA->Nat->BT->Bool
 | [],_,_=>true
 | o::l,n,t=>((t.ins n o).get n).isSome && u4 l (n+1) (t.ins n o)
theorem mi:∀ (l:List WA) (n:Nat) (t:BT),u4 l n t=true->(tQ l n t).list (n+l.length)=t.list n++l
 | [],n,t,_=>by rw [U6];rfl
 | o::l,n,t,h=>by
   obtain ⟨h1,h2⟩:=Zo.mp h;have e:=absHeap_ins (life:=default) h1
   have e2:(t.ins n o).list (n+1)=t.list n++[o]:=by
    have:=congrArg (fun x:VH=>x.objs.toList) e;simpa [absHeap,Heap.push] using this
   have ih:=mi l (n+1) (t.ins n o) h2;rw [e2,Vo] at ih;rw [Ut,show n+(l.length+1)=n+1+l.length by omega];exact ih
theorem wb {h:VH} (ok:u4 h.objs.toList 0 .nil=true):absHeap (tQ h.objs.toList 0 .nil) h.objs.size h.life=h:=by
 have e:=mi _ _ _ ok;rw [Nat.zero_add] at e;unfold absHeap;rw [<- U3,e];rfl
noncomputable abbrev nR (p:Uz) (N:Nat) (w:UN) (os:YQ):Option SharedT :=
 jW treeTable p w 11 (some (.ref 6)) N ⟨tQ (Xb w.params).objs.toList 0 .nil,11,(Xb w.params).life,Array.mk [],boot_drawn,boot_toks,os⟩ (topStub p)
theorem uY (P:Params):(u4 (Xb P).objs.toList 0 .nil,(Xb P).isNs Va,(Xb P).objs.size,(Xb P).nsMap Va "__annotations__")=(true,true,11,some (.ref 6)):=by kernel_rfl
theorem map_some {α β:Type} {o:Option α} {a:α} {f:α->β} {b:β} (h:o=some a) (e:o.map f=some b):f a=b:=by rw [h] at e;exact UR e
abbrev Tr0 (p q:Uz) (loose:List US) (Xt:Ur->Bool) (N:Nat) (g0:Bool):Prop:=∀ (w:UN) (os:YQ),((nR p N w os).map fun s=>(staticsOk (Zv p.main.body) (Xb w.params) s.abs.heap && namesBound p s.abs.heap && gensDone s.abs && laidKept (Xb w.params) s.abs.heap,s.abs.heap.bltView,pinSeenD q (drecsOf q) s.abs,plainSeenD q loose s.abs,clsSeenW q loose s.abs,(s.abs.heap.accountedOkI (Zv p.main.body),s.abs.heap.isNs Va,s.abs.heap.isNs builtinsNs,tablesOk q s.abs.heap,Xt s.abs,(if g0 then s.abs.gens.size == 0 else !leftWithCleanup s.abs.gens))))=some (true,bltViewBooted,pinGoodD (drecsOf q),plainGoodD q loose,clsGoodW q loose,(true,true,true,true,true,true))
abbrev Tr1 (p q:Uz) (N:Nat):Prop:=∀ (w:UN) (os:YQ),((nR p N w os).map fun s=>seen ((recsOf q).map (·.name)) (ownsOf q) [] { s.abs with gens:=#[] })=some (expectedOf q)
abbrev Tr2 (p q:Uz) (loose:List US) (N:Nat):Prop:=∀ (w:UN) (os:YQ),((nR p N w os).map fun s=>s.abs.heap.keysOk (looseW q loose) ((recsOf q).map (·.name)) ((litsOf q).map (·.1)) ((clssOf q (looseW q loose)).map (·.name)))=some true
abbrev Tr3 (p q:Uz) (N:Nat):Prop:=∀ (w:UN) (os:YQ),((nR p N w os).map fun s=>tabsOk q s.abs)=some true
abbrev Tr4 (p q:Uz) (loose:List US) (N:Nat):Prop:=∀ (w:UN) (os:YQ),((nR p N w os).map fun s=>plainSeenE q (looseW q loose) s.abs)=some (plainGoodE q (looseW q loose))
abbrev Tr5 (p q:Uz) (N:Nat):Prop:=∀ (w:UN) (os:YQ),((nR p N w os).map fun s=>wideSeen q s.abs)=some (wideGood q)
theorem rW {p q:Uz} {loose:List US} {Xt:Ur->Bool} {α:Type} {Yf:Ur->α} {Ya:UN->α} {N:Nat} {g0:Bool}
 (e:opening p=plainProg p.main.scope.names) (hN:Nat.ble 600 N=true) (f:∀ s,fenceModules? p s=some s)
 (r0:Tr0 p q loose Xt N g0)
 (r1:Tr1 p q N)
 (r2:Tr2 p q loose N)
 (r3:Tr3 p q N)
 (r4:Tr4 p q loose N)
 (r5:Tr5 p q N)
 (rY:∀ (w:UN) (os:YQ),((nR p N w os).map fun s=>Yf s.abs)=some (Ya w)) :
 LeftO p q loose Xt Yf Ya N g0:=fun w=>by
 obtain ⟨⟨h,gs,d,k,os⟩,e1,e'⟩:=UU.mp (boot_open e hN f w);obtain ⟨rfl,rfl,rfl,rfl⟩:h=Xb w.params/\gs=Array.mk []/\d=boot_drawn/\k=boot_toks:=by simpa using e'
 have JC:=uY w.params;have z0:=congrArg Prod.fst JC;have z1:=congrArg (fun x=>x.2.1) JC;have z2:=congrArg (fun x=>x.2.2.1) JC;have z3:=congrArg (fun x=>x.2.2.2) JC;dsimp only at z0 z1 z2 z3;obtain ⟨s1,EN,hY⟩:=UU.mp (rY w os);have q0:=map_some EN (r0 w os);have q1:=map_some EN (r1 w os);have q2:=map_some EN (r2 w os);have q3:=map_some EN (r3 w os);have q4:=map_some EN (r4 w os);have q5:=map_some EN (r5 w os);have rr:=kb EN
 have Ko:SharedT.abs ⟨tQ (Xb w.params).objs.toList 0 .nil,11,(Xb w.params).life,Array.mk [],boot_drawn,boot_toks,os⟩=⟨Xb w.params,Array.mk [],boot_drawn,boot_toks,os⟩:=by
  unfold SharedT.abs;dsimp only;rw [<- z2,wb z0]
 rw [Ko] at rr;have a0:=congrArg Prod.fst q0;have a1:=congrArg (fun x=>x.2.1) q0;have a2:=congrArg (fun x=>x.2.2.1) q0;have a3:=congrArg (fun x=>x.2.2.2.1) q0;have a4:=congrArg (fun x=>x.2.2.2.2.1) q0;have b0:=congrArg (fun x=>x.2.2.2.2.2.1) q0;have b1:=congrArg (fun x=>x.2.2.2.2.2.2.1) q0;have b2:=congrArg (fun x=>x.2.2.2.2.2.2.2.1) q0;have b3:=congrArg (fun x=>x.2.2.2.2.2.2.2.2.1) q0;have b4:=congrArg (fun x=>x.2.2.2.2.2.2.2.2.2.1) q0;have b5:=congrArg (fun x=>x.2.2.2.2.2.2.2.2.2.2) q0;dsimp only at a0 a1 a2 a3 a4 b0 b1 b2 b3 b4 b5
 have l2:openSeen q loose (Zv p.main.body) Xt g0 s1.abs=openGood q loose:=by
  unfold openSeen openGood;rw [q1,a1,q2,b0,b1,b2,b3,b4,b5,q3,a2,q4,a3,q5,a4];rfl
 have t:topFrom treeTable p w N ⟨Xb w.params,Array.mk [],boot_drawn,boot_toks,os⟩=some s1.abs:=by
  unfold topFrom;dsimp only;rw [z1,z2,z3,rr];show (match staticsOk (Zv p.main.body) (Xb w.params) s1.abs.heap && namesBound p s1.abs.heap && gensDone s1.abs && laidKept (Xb w.params) s1.abs.heap with | true=>_ | false=>_)=_;rw [a0]
 unfold openEnds;rw [e1];show (topFrom treeTable p w N _).map _=_;rw [t];exact congrArg some (Prod.ext l2 hY)
def p0:Params:={ strHash:=fun _=>0,shareClass:=fun _=>0,mergeTok:=fun t=>t,idOf:=fun _=>0,idOfShared:=fun _ _=>0,followText:=fun _=>false,idOfImm:=fun _=>0 }
structure Pc (p:Uz) (N:Nat) (as:List Ui) (vs:UN->List (Option WA)):Prop where
 out:∀ (w:UN) (os:YQ),((nR p N w os).map fun s=>as.map s.abs.heap.get?)=some (vs w)
theorem Pc.k {p:Uz} {N:Nat} {as:List Ui} {K:Params->Frag} {e:∀ P,as=(K P).map (·.1)} (h:Pc p N as fun w=>(K w.params).map fun p=>some p.2):∀ (w:UN) (os:YQ),((nR p N w os).map fun s=>(kHook K as e).obs s.abs)=some ((kHook K as e).val w):=h.out
end HD
section
open PySem PySem.W PyProof.Rows
def LAW.vw:Uz:=PySem.W.view PySem.Challenge.pw_boughbook_k55_fronts_of_leaves [1,2,3,4,5,6,7,9,10,11,12,13,14,15,16,17,18,19,20,22,23,24,26,27,28,29,30,31,32,33,34,35,37,38,39,40,41,42,43,44,45,46,47,48,49,50,51,52,53]
def LAW.xt (s:Ur):Bool:=xlAt LAW.vw [] s && recOk (RowW.records (OpenRow.toRowW (OpenLaw.row PySem.Challenge.rw_boughbook_k55_fronts_of_leaves))) s
set_option maxHeartbeats 0 in
theorem LAW.lk0:HD.Tr0 PySem.Challenge.pw_boughbook_k55_fronts_of_leaves LAW.vw [] LAW.xt 90000 true:=fun _ _=>by kernel_rfl
set_option maxHeartbeats 0 in
theorem LAW.lk1:HD.Tr1 PySem.Challenge.pw_boughbook_k55_fronts_of_leaves LAW.vw 90000:=fun _ _=>by kernel_rfl
set_option maxHeartbeats 0 in
theorem LAW.lk2:HD.Tr2 PySem.Challenge.pw_boughbook_k55_fronts_of_leaves LAW.vw [] 90000:=fun _ _=>by kernel_rfl
set_option maxHeartbeats 0 in
theorem LAW.lk3:HD.Tr3 PySem.Challenge.pw_boughbook_k55_fronts_of_leaves LAW.vw 90000:=fun _ _=>by kernel_rfl
set_option maxHeartbeats 0 in
theorem LAW.lk4:HD.Tr4 PySem.Challenge.pw_boughbook_k55_fronts_of_leaves LAW.vw [] 90000:=fun _ _=>by kernel_rfl
set_option maxHeartbeats 0 in
theorem LAW.lk5:HD.Tr5 PySem.Challenge.pw_boughbook_k55_fronts_of_leaves LAW.vw 90000:=fun _ _=>by kernel_rfl
section
local macro_rules | `(tactic| o_head $_H) => `(tactic| assumption)
set_option maxHeartbeats 0 in
theorem LAW.d0 (h:OpenRow.Holds (OpenLaw.row PySem.Challenge.rw_boughbook_k55_fronts_of_leaves)):OpenRow.Holds (OpenLaw.row PySem.Challenge.rw_boughbook_k55_fronts_of_leaves):=by
 k_head
end
noncomputable def LAW.ks:List Ui:=(LAW.d0.heap_1 HD.p0).map (·.1)
theorem LAW.ke:∀ P,LAW.ks=(LAW.d0.heap_1 P).map (·.1):=fun _=>by kernel_rfl
set_option maxHeartbeats 0 in
theorem LAW.kp:HD.Pc PySem.Challenge.pw_boughbook_k55_fronts_of_leaves 90000 LAW.ks fun w=>(LAW.d0.heap_1 w.params).map fun p=>some p.2:=⟨fun _ _=>by kernel_rfl⟩
end
namespace L2
open PySem PySem.Spec PyProof.Rows
abbrev Key:=Sum Int US
def g7:Key->Ul->Bool
 | .inl k,v=>Value.isInt k v
 | .inr x,v=>Value.isStrOf x v
def xJ (w:UN):Key->Int
 | .inl k=>hashInt k
 | .inr x=>hashStr w x
theorem bg:∀ {k:Key} {v:Ul},g7 k v=true->(∃ i t,k=U4 i/\v=Value.int i t)∨(∃ x t,k=XG x/\v=Value.str x t)
 | .inl i,v,h=>by
   obtain ⟨t,e⟩:=Value.isInt_shape (k:=i) (v:=v) h;exact .inl ⟨i,t,rfl,e⟩
 | .inr x,v,h=>by
   obtain ⟨t,e⟩:=Value.isStrOf_shape (x:=x) (v:=v) h;exact .inr ⟨x,t,rfl,e⟩
theorem sw (i:Int) (t:Tok):g7 (.inl i) (.int i t)=true:=by simp [g7,Value.isInt]
theorem sM (x:US) (t:Tok):g7 (.inr x) (.str x t)=true:=by simp [g7,Value.isStrOf]
theorem wt (a b:Int):decide ((U4 a:Key)=U4 b)=(a == b):=by
 by_cases e:a=b
 · subst e;simp
 · have h:¬ (U4 a:Key)=U4 b:=fun q=>e (Xn q);rw [decide_eq_false h];exact (beq_eq_false_iff_ne.mpr e).symm
theorem v8 (a b:US):decide ((XG a:Key)=XG b)=decide (a=b):=by
 by_cases e:a=b
 · subst e;simp
 · have h:¬ (XG a:Key)=XG b:=fun q=>e (Sum.inr.inj q);rw [decide_eq_false h,decide_eq_false e]
theorem wk (a:Int) (b:US):decide ((U4 a:Key)=XG b)=false:=decide_eq_false (fun q=>nomatch q)
theorem wg (a:US) (b:Int):decide ((XG a:Key)=U4 b)=false:=decide_eq_false (fun q=>nomatch q)
def aG (prog:Uz) (w:UN):PySem.KeyKind prog w Key where
 is:=g7
 hash:=xJ w
 inj:=fun v a b ha hb=>by
  rcases bg ha with ⟨i,t,rfl,rfl⟩ | ⟨x,t,rfl,rfl⟩
  · rcases bg hb with ⟨j,u,rfl,e⟩ | ⟨y,u,rfl,e⟩
    · injection e with e1 _;rw [e1]
    · exact nomatch e
  · rcases bg hb with ⟨j,u,rfl,e⟩ | ⟨y,u,rfl,e⟩
    · exact nomatch e
    · injection e with e1 _;rw [e1]
 byValue:=fun k v h=>by
  rcases bg h with ⟨i,t,rfl,rfl⟩ | ⟨x,t,rfl,rfl⟩ <;> rfl
 pyHash:=fun hv h=>by
  rcases bg hv with ⟨i,t,rfl,rfl⟩ | ⟨x,t,rfl,rfl⟩
  · exact wpAny_pyHash_int h
  · exact wpAny_pyHash_str h
 eqBool:=fun hu hv h=>by
  rcases bg hu with ⟨i,t,rfl,rfl⟩ | ⟨x,t,rfl,rfl⟩
  · rcases bg hv with ⟨j,u,rfl,rfl⟩ | ⟨y,u,rfl,rfl⟩
    · rw [wt] at h;exact wpAny_eqBool_int h
    · rw [wk] at h;exact SeqAt.EqAt.int_str i t y u _ _ _ _ h
  · rcases bg hv with ⟨j,u,rfl,rfl⟩ | ⟨y,u,rfl,rfl⟩
    · rw [wg] at h;exact SeqAt.EqAt.str_int x t j u _ _ _ _ h
    · rw [v8] at h;exact wpAny_eqBool_str h
 «strs»:=fun k x t v h=>by
  rcases bg h with ⟨i,u,rfl,e⟩ | ⟨y,u,rfl,e⟩
  · exact nomatch e
  · injection e with e1 _;subst e1;cases v <;> rfl
theorem o5 (prog:Uz) (w:UN) (i:Int) (t:Tok):(aG prog w).is (.inl i) (.int i t)=true:=sw i t
theorem oT (prog:Uz) (w:UN) (x:US) (t:Tok):(aG prog w).is (.inr x) (.str x t)=true:=sM x t
end L2
namespace L2
open PySem PySem.Spec PyProof.Rows
set_option genInjectivity true in
inductive V where
 | non | bl (b:Bool) | int (i:Int) | str (x:US) | byt (b:Array UInt8) | flt (b:UInt64) | ref (a:Ui) | ty (n:String)
 deriving DecidableEq
def RelV:V->Ul->Prop
 | .non,u=>u=VQ
 | .bl b,u=>u=Value.bool b
 | .int i,u=>∃ t,u=Value.int i t
 | .str x,u=>∃ t,u=Value.str x t
 | .byt b,u=>∃ t,u=Value.bytes b t
 | .flt b,u=>∃ t,u=Value.float b t
 | .ref a,u=>u=UZ a
 | .ty n,u=>u=WO n
abbrev Vals:List V->List Ul->Prop:=UX RelV
theorem Vals.length {xs:List V} {us:List Ul} (r:Vals xs us):xs.length=us.length:=Uv r
theorem Vals.get:∀ {xs:List V} {us:List Ul} {i:Nat} {x:V},Vals xs us->xs[i]?=some x->∃ u,us[i]?=some u/\RelV x u
 | _,_,_,_,.nil,e=>by simp at e
 | _,_,0,_,.cons r _,e=>by simp at e;subst e;exact ⟨_,rfl,r⟩
 | _,_,i+1,x,.cons _ t,e=>by
   obtain ⟨u,h1,h2⟩:=Vals.get (i:=i) (x:=x) t (by simpa using e);exact ⟨u,by simpa using h1,h2⟩
theorem Vals.set {x:V} {u:Ul} (r:RelV x u):∀ {xs:List V} {us:List Ul} (i:Nat),Vals xs us->Vals (xs.set i x) (us.set i u)
 | _,_,_,.nil=>.nil
 | _,_,0,.cons _ t=>.cons r t
 | _,_,i+1,.cons q t=>.cons q (Vals.set r i t)
theorem Vals.append:∀ {xs ys:List V} {us ws:List Ul},Vals xs us->Vals ys ws->Vals (xs++ys) (us++ws)
 | _,_,_,_,.nil,s=>s
 | _,_,_,_,.cons r t,s=>.cons r (Vals.append t s)
theorem Vals.take:∀ {xs:List V} {us:List Ul} (n:Nat),Vals xs us->Vals (xs.take n) (us.take n)
 | _,_,0,_=>.nil
 | _,_,_+1,.nil=>.nil
 | _,_,n+1,.cons r t=>.cons r (Vals.take n t)
theorem Vals.drop:∀ {xs:List V} {us:List Ul} (n:Nat),Vals xs us->Vals (xs.drop n) (us.drop n)
 | _,_,0,r=>r
 | _,_,_+1,.nil=>.nil
 | _,_,n+1,.cons _ t=>Vals.drop n t
def RelO:Option V->Option Ul->Prop
 | some v,some u=>RelV v u
 | none,none=>True
 | _,_=>False
def KV {κ:Type}:List (κ×V)->List (κ×Ul)->Prop:=UX fun (p:κ×V) (q:κ×Ul)=>p.1=q.1/\RelV p.2 q.2
def kV:Key->V
 | .inl i=>.int i
 | .inr x=>.str x
inductive HO where
 /-- a list -/
 | lst (xs:List V)
 /-- a tuple (never changes) -/
 | tup (xs:List V)
 /-- a dict Gz keys are ints and texts;one Gz keys are tuples of ints and texts (AQ empty one is both) -/
 | dK (f':List (Key×V)) | dT (f':List (List Key×V))
 /-- a set of ints: its members,its size -/
 | set (S:Int->Bool) (n:Nat)
 /-- an instance of AQ class at C,its dict at dx,its attributes -/
 | ins (C dx:Ui) (fs:List (US×V))
 /-- AQ dict of AQ instance at x -/
 | own (x:Ui)
 /-- AQ dict of an exception -/
 | xd (fs:List (US×V))
 /-- a bound method,f of x -/
 | met (f x:Ui)
 /-- a range object lo,lo+1,.. below hi -/
 | rng (lo hi:Int)
 /-- a thing PL is known to AQ object (AQ script;a dict while a loop walks it): read,never written while it is so -/
 | frz (o:WA) (u:HO)
 /-- a code GA table -/
 | tbl (ps:Array Ul)
 /-- any other thing,by GB is true of its one object (a def of NQ own: PM a S n:=HO.ext fun h=>..) -/
 | ext (φ:VH->Prop)
abbrev Hp:=Ui->Option HO
def upd (H:Hp) (a:Ui) (o:HO):Hp:=fun b=>if b=a then some o else H b
theorem ab {H:Hp} {a:Ui} {o:HO}:upd H a o a=some o:=by unfold upd;rw [if_pos rfl]
theorem ak {H:Hp} {a b:Ui} {o:HO} (h:b≠a):upd H a o b=H b:=by unfold upd;rw [if_neg h]
theorem jY {H:Hp} {a:Ui} {o u:HO}:upd (upd H a o) a u=upd H a u:=by
 funext b;unfold upd;split <;> rfl
theorem fP {H:Hp} {a b:Ui} {o u:HO} (h:H a=some o) (h':H b=some u) (d:o≠u):a≠b:=by
 intro e;subst e;rw [h] at h';exact d (UR h')
theorem aJ {H:Hp} {a b:Ui} {o:HO} (h:H a=some o) (h':H b=none):a≠b:=by
 intro e;subst e;rw [h] at h';cases h'
section
variable (P:Uz) (w:UN)
def ObjOk (H:Hp) (h:VH) (a:Ui):HO->Prop
 | .lst xs=>xs.length<=UD/\∃ (its:List Ul) (n:Nat),Vals xs its/\h.get? a=some { cls:=.type "list",data:=.seq its.toArray n }
 | .tup xs=>xs.length<=UD/\∃ (its:List Ul) (n:Nat),Vals xs its/\h.get? a=some { cls:=.type "tuple",data:=.seq its.toArray n }
 | .dK f'=>f'.length<=UD/\(a == Wg)=false/\∃ vs,KV f' vs/\h.DictOf (aG P w) a vs
 | .dT f'=>f'.length<=UD/\(a == Wg)=false/\∃ xs:List (List Key×Ui×Ul),
  UX (fun (p:List Key×V) (q:List Key×Ui×Ul)=>p.1=q.1/\H q.2.1=some (.tup (p.1.map kV))/\RelV p.2 q.2.2) f' xs ∧
  ∃ o es ep,h.get? a=some o/\o.ExactDict/\o.data=.dict es ep/\es.toList=xs.map (entryOfKey (Zg (aG P w)))/\(xs.map (·.1)).Nodup
 | .set S n=>h.SetOf (intKind P w) a S n
 | .ins C dx fs=>H dx=some (.own a)/\fs.length<=1000/\dx≠a/\h.get? a=some (PySem.W.instObj C dx) ∧
  ∃ mA,h.Ns1 dx mA/\(∀ f,RelO (fs.lookup f) (mA f))/\PySem.Within mA (fs.map (·.1))
 | .own _=>∃ o,h.get? a=some o
 | .xd fs=>∃ mA,h.Ns1 a mA/\∀ f,RelO (fs.lookup f) (mA f)
 | .rng lo hi=>∃ t u v,h.get? a=some { cls:=.type "range",data:=.fields #[.int lo t,.int hi u,.int 1 v] }
 | .frz o u=>h.get? a=some o/\ObjOk H h a u
 | .tbl ps=>h.get? a=some { cls:=.none,data:=.fields ps }
 | .met f x=>h.get? a=some (ZH (.ref f) (.ref x))
 | .ext φ=>φ h/\(∃ o,h.get? a=some o)/\∀ h1 h2:VH,φ h1->(∀ o,h1.get? a=some o->h2.get? a=some o)->φ h2
def HOk (H:Hp) (h:VH):Prop:=∀ a o,H a=some o->ObjOk P w H h a o
end
section
variable {P:Uz} {w:UN} {H H':Hp} {h h':VH} {a:Ui} {o:HO}
theorem ObjOk.lt (x:ObjOk P w H h a o):a<h.objs.size:=by
 cases o with
 | lst xs=>obtain ⟨_,_,_,_,e⟩:=x;exact UA e
 | tup xs=>obtain ⟨_,_,_,_,e⟩:=x;exact UA e
 | dK f'=>obtain ⟨_,_,_,_,o,_,_,e,_⟩:=x;exact UA e
 | dT f'=>obtain ⟨_,_,_,_,o,_,_,e,_⟩:=x;exact UA e
 | set S n=>obtain ⟨o,_,_,_,e,_⟩:=x;exact UA e
 | ins C dx fs=>obtain ⟨_,_,_,e,_⟩:=x;exact UA e
 | own y=>obtain ⟨_,e⟩:=x;exact UA e
 | xd fs=>obtain ⟨_,⟨_,_,_,e,_⟩,_⟩:=x;exact UA e
 | rng lo hi=>obtain ⟨_,_,_,e⟩:=x;exact UA e
 | frz ob u=>obtain ⟨e,_⟩:=x;exact UA e
 | tbl ps=>exact UA (show h.get? a=some _ from x)
 | met f y=>exact UA (show h.get? a=some _ from x)
 | ext φ=>obtain ⟨_,⟨_,e⟩,_⟩:=x;exact UA e
theorem UX.mapP {α β:Type} {F G:α->β->Prop}:∀ {GC:List α} {GD:List β},UX F GC GD->(∀ a b,F a b->G a b)->UX G GC GD
 | _,_,.nil,_=>.nil
 | _,_,.cons r t,f=>.cons (f _ _ r) (UX.mapP t f)
theorem ObjOk.stay (x:ObjOk P w H h a o) (k:∀ b u,(b=a∨H b=some (.own a))->h.get? b=some u->h'.get? b=some u)
 (ho:∀ b,H b=some (.own a)->H' b=some (.own a)) (ht:∀ b xs,H b=some (.tup xs)->H' b=some (.tup xs)):ObjOk P w H' h' a o:=by
 induction o with
 | lst xs=>obtain ⟨z,its,n,r,e⟩:=x;exact ⟨z,its,n,r,k _ _ (.inl rfl) e⟩
 | tup xs=>obtain ⟨z,its,n,r,e⟩:=x;exact ⟨z,its,n,r,k _ _ (.inl rfl) e⟩
 | dK f'=>obtain ⟨z,y,vs,r,ob,es,ep,e,c⟩:=x;exact ⟨z,y,vs,r,ob,es,ep,k _ _ (.inl rfl) e,c⟩
 | dT f' =>
   obtain ⟨z,y,xs,r,ob,es,ep,e,c⟩:=x;exact ⟨z,y,xs,UX.mapP r fun p q z=>⟨z.1,ht _ _ z.2.1,z.2.2⟩,ob,es,ep,k _ _ (.inl rfl) e,c⟩
 | set S n=>obtain ⟨ob,es,ep,t,e,c⟩:=x;exact ⟨ob,es,ep,t,k _ _ (.inl rfl) e,c⟩
 | ins C dx fs =>
   obtain ⟨d,z,ne,e,mA,⟨od,es,ep,e2,c⟩,r⟩:=x;exact ⟨ho _ d,z,ne,k _ _ (.inl rfl) e,mA,⟨od,es,ep,k _ _ (.inr d) e2,c⟩,r⟩
 | own y=>obtain ⟨ob,e⟩:=x;exact ⟨ob,k _ _ (.inl rfl) e⟩
 | xd fs=>obtain ⟨mA,⟨od,es,ep,e,c⟩,r⟩:=x;exact ⟨mA,⟨od,es,ep,k _ _ (.inl rfl) e,c⟩,r⟩
 | rng lo hi=>obtain ⟨t,u,v,e⟩:=x;exact ⟨t,u,v,k _ _ (.inl rfl) e⟩
 | frz ob u ih=>obtain ⟨e,q⟩:=x;exact ⟨k _ _ (.inl rfl) e,ih q⟩
 | tbl ps =>
   have e:h.get? a=some { cls:=.none,data:=.fields ps }:=x;show h'.get? a=some { cls:=.none,data:=.fields ps };exact k a _ (.inl rfl) e
 | met f y =>
   have e:h.get? a=some (ZH (.ref f) (.ref y)):=x;show h'.get? a=some (ZH (.ref f) (.ref y));exact k a _ (.inl rfl) e
 | ext φ=>obtain ⟨p,⟨o,e⟩,st⟩:=x;exact ⟨st _ _ p fun o q=>k _ _ (.inl rfl) q,⟨o,k _ _ (.inl rfl) e⟩,st⟩
theorem HOk.lt (x:HOk P w H h) (e:H a=some o):a<h.objs.size:=(x a o e).lt
theorem HOk.fresh (x:HOk P w H h) (e:h.objs.size<=a):H a=none:=by
 cases q:H a with
 | none=>rfl
 | some u=>exact absurd (Vn (x.lt q) e) (VS _)
theorem HOk.kept (x:HOk P w H h) (k:∀ b u,h.get? b=some u->h'.get? b=some u):HOk P w H h':=fun a o e =>
 (x a o e).stay (fun b u _ q=>k b u q) (fun _ q=>q) fun _ _ q=>q
theorem HOk.laid (x:HOk P w H h) (k:∀ b u,h.get? b=some u->h'.get? b=some u) (hp:h.objs.size<=a) (new:ObjOk P w (upd H a o) h' a o):HOk P w (upd H a o) h':=fun b u e=>by
 have hn:=x.fresh hp;by_cases hb:b=a
 · subst hb;rw [ab] at e;cases e;exact new
 · rw [ak hb] at e;exact (x b u e).stay (fun c v _ q=>k c v q) (fun c q=>by rw [ak (aJ q hn)];exact q) fun c xs q=>by rw [ak (aJ q hn)];exact q
end
def Rd (H:Hp) (a:Ui) (u:HO):Prop:=H a=some u∨∃ o,H a=some (.frz o u)
theorem Rd.ok {P:Uz} {w:UN} {H:Hp} {h:VH} {a:Ui} {u:HO} (r:Rd H a u) (x:HOk P w H h):ObjOk P w H h a u:=by
 rcases r with r | ⟨o,r⟩
 · exact x a u r
 · obtain ⟨_,q⟩:=x a _ r;exact q
def Mut:Option HO->Prop
 | some (.lst _)=>True
 | some (.dK _)=>True
 | some (.dT _)=>True
 | some (.set _ _)=>True
 | some (.ins _ _ _)=>True
 | some (.ext _)=>True
 | _=>False
section
variable {P:Uz} {w:UN} {H:Hp} {h h':VH} {x e:Ui} {o':HO}
theorem HOk.write (ok:HOk P w H h) (mu:Mut (H x)) (he:e=x∨H e=some (.own x)) (k:∀ b u,b≠e->h.get? b=some u->h'.get? b=some u) (FY:∃ u,h'.get? e=some u)
 (new:ObjOk P w (upd H x o') h' x o'):HOk P w (upd H x o') h':=fun b u q=>by
 have GF:∀ c y,H c=some (.own y)->c≠x:=fun c y r z=>by subst z;rw [r] at mu;exact mu
 have Kp:∀ c xs,H c=some (.tup xs)->c≠x:=fun c xs r z=>by subst z;rw [r] at mu;exact mu
 by_cases hb:b=x
 · subst hb;rw [ab] at q;cases q;exact new
 · rw [ak hb] at q;by_cases BJ:b=e
   · have q':H b=some (.own x):=by
      rcases he with z | z
      · exact absurd (BJ.trans z) hb
      · rw [BJ];exact z
     rw [q] at q';cases q';obtain ⟨v,hv⟩:=FY;exact ⟨v,by rw [BJ];exact hv⟩
   · refine (ok b u q).stay (fun c v hc r=>k c v ?_ r) (fun c r=>by rw [ak (GF c b r)];exact r) fun c xs r=>by rw [ak (Kp c xs r)];exact r
     rcases hc with rfl | hc
     · exact BJ
     · rintro rfl;rcases he with z | z
       · exact GF c b hc z
       · rw [hc] at z;cases z;exact hb rfl
end
structure Un (fs ex:List Ui) (H H':Hp) (h h':VH):Prop where
 keep:∀ b o,h.get? b=some o->H b=none->b∉fs->b∉ex->h'.get? b=some o
 slot:∀ b o,h.get? b=some o->H b=none->b∈fs->b∉ex->∃ sl,h'.get? b=some { o with slots:=sl }
 free:∀ b o,h.get? b=some o->H b=none->b∉ex->H' b=none
 there:∀ b o,h.get? b=some o->b∉ex->∃ o',h'.get? b=some o'
 tups:∀ b xs,H b=some (.tup xs)->H' b=some (.tup xs)
 frzs:∀ b o u,H b=some (.frz o u)->H' b=some (.frz o u)
 tbls:∀ b ps,H b=some (.tbl ps)->∃ more,H' b=some (.tbl (ps++more))
section
variable {fs PN ex SU:List Ui} {H H1 H2:Hp} {h h1 h2 h':VH} {a x e:Ui} {o:HO}
theorem Un.any (u:Un fs ex H H1 h h1) {b:Ui} {ob:WA} (q:h.get? b=some ob) (n:H b=none) (hx:b∉ex):∃ sl,h1.get? b=some { ob with slots:=sl }:=by
 by_cases hb:b∈fs
 · exact u.slot b ob q n hb hx
 · exact ⟨ob.slots,u.keep b ob q n hb hx⟩
theorem Un.kept (k:∀ b u,h.get? b=some u->h'.get? b=some u):Un fs ex H H h h' :=
 ⟨fun b ob q _ _ _=>k b ob q,fun b ob q _ _ _=>⟨ob.slots,k b ob q⟩,fun _ _ _ n _=>n,fun b ob q _=>⟨ob,k b ob q⟩,fun _ _ q=>q,fun _ _ _ q=>q,fun _ ps q=>⟨#[],by rw [q];simp⟩⟩
theorem Un.refl:Un fs ex H H h h:=Un.kept fun _ _ q=>q
theorem Un.laid (k:∀ b u,h.get? b=some u->h'.get? b=some u) (hp:h.objs.size<=a) (hn:H a=none):Un fs ex H (upd H a o) h h' where
 keep:=fun b u q _ _ _=>k b u q
 slot:=fun b u q _ _ _=>⟨u.slots,k b u q⟩
 free:=fun b u q n _=>by rw [ak (U2 (Vn (UA q) hp))];exact n
 there:=fun b u q _=>⟨u,k b u q⟩
 tups:=fun b xs q=>by rw [ak (aJ q hn)];exact q
 frzs:=fun b u xs q=>by rw [ak (aJ q hn)];exact q
 tbls:=fun b ps q=>⟨#[],by rw [ak (aJ q hn),q];simp⟩
theorem Un.write (mu:Mut (H x)) (he:e=x∨H e=some (.own x)) (k:∀ b u,b≠e->h.get? b=some u->h'.get? b=some u) (FY:∃ u,h'.get? e=some u):Un fs ex H (upd H x o) h h':=by
 have hx:∀ b,H b=none->b≠x:=fun b n z=>by subst z;rw [n] at mu;exact mu
 have hb:∀ b,H b=none->b≠e:=fun b n z=>by
  subst z;rcases he with r | r
  · exact hx b n r
  · rw [n] at r;cases r
 have hm:∀ b u,H b=some u->¬ Mut (some u)->b≠x:=fun b u q nm z=>by subst z;rw [q] at mu;exact nm mu
 refine ⟨fun b u q n _ _=>k b u (hb b n) q,fun b u q n _ _=>⟨u.slots,k b u (hb b n) q⟩,fun b u q n _=>by rw [ak (hx b n)];exact n,fun b u q _=>?_,
  fun b xs q=>by rw [ak (hm b _ q fun z=>z)];exact q,fun b u xs q=>by rw [ak (hm b _ q fun z=>z)];exact q,fun b ps q=>⟨#[],by rw [ak (hm b _ q fun z=>z),q];simp⟩⟩
 by_cases BJ:b=e
 · subst BJ;exact FY
 · exact ⟨u,k b u BJ q⟩
end
def trk (h:VH) (H:Hp):List Ui:=(U1 h.objs.size).filter fun a=>(H a).isSome
def nV (h:VH) (H:Hp):VH:=PySem.W.hideAll h (trk h H)
theorem sD (h:VH) (H:Hp):(nV h H).objs.size=h.objs.size:=PySem.W.hideAll_size _ _
theorem ug {h:VH} {H:Hp} {b:Ui} {o:WA} (e:h.get? b=some o) (n:H b=none):(nV h H).get? b=some o :=
 PySem.W.hideAll_get _ e fun hm=>by
  have q:(H b).isSome=true:=(V7.mp hm).2;rw [n] at q;simp at q
theorem u9 {h:VH} {H:Hp} {b:Ui} {o:WA} (e:(nV h H).get? b=some o):h.get? b=some o/\H b=none:=by
 have e':h.get? b=some o:=PySem.W.of_hideAll (trk h H) e;refine ⟨e',?_⟩;cases q:H b with
 | none=>rfl
 | some x =>
   have hm:b∈trk h H:=V7.mpr ⟨WD.mpr (UA e'),by simp [q]⟩;have z:(nV h H).get? b=none:=PySem.W.hideAll_none (trk h H) hm;rw [z] at e;cases e
end L2
namespace L2
open PySem PySem.Spec PyProof.Rows
structure Mod (K:Ug) (mg:US->Option Ul) (base:VH):Prop where
 kin:K.In base
 glob:base.Ns Va mg
 blt:∃ mb,base.Ns builtinsNs mb/\∀ x:US,x≠"__name__"->mb x=YM x
 nolimit:base.NoLimit
set_option genInjectivity true in
structure Cx where
 prog:Uz
 w:UN
 K:Ug
 mg:US->Option Ul
 base:VH
 A:U9
 N:List US
 s₀:Ur
 H₀:Hp
 env:Env
 outer:List Env
 stack:List Env
 ex:List Ui
 fn:US->Bool
 calm:Bool
 pn:List (Ui×WA)
 xe:Ul->Ur->Prop
def frs (l:List Env):List Ui:=l.filterMap (·.frame)
abbrev Cx.fs (X:Cx):List Ui:=frs X.outer
def Vis (sc:Yk) (x:US):Prop:=sc.names.lookup x=some .local∨sc.names.lookup x=some .cell∨sc.names.lookup x=some .free
def Loc (sc:Yk) (x:US):Prop:=sc.names.lookup x=some .local∨sc.names.lookup x=some .cell
def Look (env:Env) (h:VH) (m:US->Option Ul) (x:US) (u:Ul):Prop :=
 (env.kindOf x=some .local/\m x=some u)∨((env.kindOf x=some .cell∨env.kindOf x=some .free)/\∃ c,env.cells.lookup x=some c/\h.IsCell c (some u))
structure Cx.Ok (X:Cx):Prop where
 mod:Mod X.K X.mg X.base
 kind:X.env.scope.kind=.function
 glob:X.env.globals=Va
 blt:X.env.builtins=builtinsNs
 above:X.s₀.heap.objs.size<=X.env.locals
 inj:∀ x y c,X.env.cells.lookup x=some c->X.env.cells.lookup y=some c->x=y
 has:∀ x,(X.env.kindOf x=some .cell∨X.env.kindOf x=some .free)->∃ c,X.env.cells.lookup x=some c
 cab:∀ x c,X.fn x=true->X.env.cells.lookup x=some c->X.s₀.heap.objs.size<=c
 hd:X.calm=true->X.A.handled=none
 frames:X.A.frames=some X.stack
 stk:X.stack=X.outer∨(X.stack=X.env::X.outer/\X.env.frame=some X.env.locals)
 exf:∀ b∈X.ex,b≠X.env.locals/\∀ x c,X.env.cells.lookup x=some c->c≠b
 bs:∀ b o,X.base.get? b=some o->X.s₀.heap.get? b=some o/\X.H₀ b=none
 bsz:X.base.objs.size<=X.s₀.heap.objs.size
 noex:∀ b o,X.base.get? b=some o->b∉X.ex
 exfs:∀ b∈X.ex,b∉X.fs
 funs:X.s₀.heap.FunFrames X.base X.outer
 frf:∀ b∈X.fs,X.H₀ b=none
structure Inv (X:Cx) (pins:List (Ui×WA)) (σ:List (Option V)) (H:Hp) (s:Ur):Prop where
 ok:X.Ok
 os:s.os=X.s₀.os
 bare:AllBare s.gens
 base:Un X.fs X.ex X.H₀ H X.s₀.heap s.heap
 loc:∃ m,s.heap.Ns X.env.locals m/\∀ (i:Nat) (x:US) (v:V),X.N[i]?=some x->σ[i]?=some (some v)->Vis X.env.scope x->∃ u,RelV v u/\Look X.env s.heap m x u
 cell:∀ x c,X.env.cells.lookup x=some c->∃ v,s.heap.IsCell c v
 free:H X.env.locals=none
 freeC:∀ x c,X.env.cells.lookup x=some c->H c=none
 pin:∀ p∈X.pn++pins,s.heap.get? p.1=some p.2/\H p.1=none/\p.1≠X.env.locals/\p.1∉X.fs/\∀ v,p.2.data≠.cell v
 hok:HOk X.prog X.w H s.heap
 len:σ.length=X.N.length
section
variable {X:Cx} {pins:List (Ui×WA)} {σ:List (Option V)} {H H':Hp} {s:Ur} {h':VH}
theorem Cx.Ok.nofr (ok:X.Ok) {b:Ui} {o:WA} (e:X.base.get? b=some o):b∉X.fs:=fun hb=>by
 have:=(ok.funs.mem hb).1;rw [e] at this;cases this
theorem Inv.bs (I:Inv X pins σ H s):∀ b o,X.base.get? b=some o->s.heap.get? b=some o/\H b=none:=fun b o e =>
 ⟨I.base.keep b o (I.ok.bs b o e).1 (I.ok.bs b o e).2 (I.ok.nofr e) (I.ok.noex b o e),I.base.free b o (I.ok.bs b o e).1 (I.ok.bs b o e).2 (I.ok.noex b o e)⟩
theorem Inv.bk (I:Inv X pins σ H s):∀ b o,X.base.get? b=some o->s.heap.get? b=some o:=fun b o e=>(I.bs b o e).1
theorem Inv.mod (I:Inv X pins σ H s):Mod X.K X.mg X.base:=I.ok.mod
theorem Inv.kIn (I:Inv X pins σ H s):X.K.In s.heap:=I.ok.mod.kin.keeps I.bk
theorem Inv.lt (I:Inv X pins σ H s):X.env.locals<s.heap.objs.size:=let ⟨_,hn,_⟩:=I.loc;hn.lt
theorem Inv.sz (I:Inv X pins σ H s):X.s₀.heap.objs.size<=s.heap.objs.size:=V4 I.ok.above (XM I.lt)
theorem Inv.nofs (I:Inv X pins σ H s) {a:Ui} (h:s.heap.objs.size<=a):a∉X.fs:=fun hb=>by
 obtain ⟨_,o,ho,_⟩:=I.ok.funs.mem hb;exact absurd (Vn (UA ho) (V4 I.sz h)) (VS _)
theorem Inv.cne (I:Inv X pins σ H s):∀ x c,X.env.cells.lookup x=some c->c≠X.env.locals:=fun x c e z=>by
 obtain ⟨v,o,ho,hd⟩:=I.cell x c e;obtain ⟨m,⟨o',es,ep,Ad,zK,_⟩,_⟩:=I.loc;rw [z,Ad] at ho;cases ho;rw [zK] at hd;cases hd
theorem Inv.funs (I:Inv X pins σ H s):s.heap.FunFrames X.base X.outer:=by
 have all:∀ (l:List Env),(∀ b∈frs l,b∈X.fs)->X.s₀.heap.FunFrames X.base l->s.heap.FunFrames X.base l:=by
  intro l;induction l with
  | nil=>intro _ _;trivial
  | cons env r ih =>
    intro hs hl;obtain ⟨hk,⟨L,o,hf,hn,ho,hd⟩,hr⟩:=hl;have hL:L∈X.fs:=hs L (by unfold frs;rw [XS,hf];exact UH);obtain ⟨sl,e⟩:=I.base.slot L o ho (I.ok.frf L hL) hL fun z=>I.ok.exfs L z hL;exact ⟨hk,⟨L,_,hf,hn,e,hd⟩,ih (fun b hb=>hs b (by unfold frs;rw [XS,hf];exact UJ _ hb)) hr⟩
 exact all X.outer (fun _ hb=>hb) I.ok.funs
theorem Inv.stack (I:Inv X pins σ H s):s.heap.FunFrames X.base X.stack:=by
 rcases I.ok.stk with e | ⟨e,hf⟩
 · rw [e];exact I.funs
 · rw [e];obtain ⟨m,hn,_⟩:=I.loc;refine .cons (by rw [I.ok.kind];decide) hf hn ?_ I.funs;exact Heap.get?_none_of_le (V4 I.ok.bsz I.ok.above)
theorem Inv.stkSub (I:Inv X pins σ H s):∀ b∈frs X.stack,b∈X.env.locals::X.fs:=fun b hb=>by
 rcases I.ok.stk with e | ⟨e,hf⟩
 · rw [e] at hb;exact UJ _ hb
 · rw [e] at hb;unfold frs at hb;rw [XS,hf] at hb;exact hb
theorem Inv.stkFree (I:Inv X pins σ H s):∀ b∈frs X.stack,H b=none:=fun b hb=>by
 rcases UK.mp (I.stkSub b hb) with e | hb
 · rw [e];exact I.free
 · obtain ⟨_,o,ho,_⟩:=I.ok.funs.mem hb;exact I.base.free b o ho (I.ok.frf b hb) fun z=>I.ok.exfs b z hb
theorem Inv.step {g':Array GenState} {t':Nat} {d':Drawn} {ch:List Ui} (I:Inv X pins σ H s)
 (Dc:∀ b∈ch,(b∈X.ex∨X.s₀.heap.objs.size<=b)/\b≠X.env.locals/\(∀ x c,X.env.cells.lookup x=some c->c≠b)/\∀ p∈X.pn++pins,p.1≠b)
 (keep:∀ b o,b≠X.env.locals->b∉X.fs->b∉ch->s.heap.get? b=some o->H b=none->h'.get? b=some o)
 (slot:∀ b o,b≠X.env.locals->b∈X.fs->b∉ch->s.heap.get? b=some o->H b=none->∃ sl,h'.get? b=some { o with slots:=sl }) (free:∀ b o,b∉ch->s.heap.get? b=some o->H b=none->H' b=none)
 (there:∀ b o,b∉ch->s.heap.get? b=some o->∃ o',h'.get? b=some o')
 (tups:∀ b xs,H b=some (.tup xs)->H' b=some (.tup xs)) (frzs:∀ b o u,H b=some (.frz o u)->H' b=some (.frz o u)) (tbls:∀ b ps,H b=some (.tbl ps)->∃ more,H' b=some (.tbl (ps++more)))
 (ns:∀ m,s.heap.Ns X.env.locals m->h'.Ns X.env.locals m) (hok:HOk X.prog X.w H' h') (hg:AllBare g') :
 Inv X pins σ H' { s with heap:=h',gens:=g',drawn:=d',toks:=t' }:=by
 have NR:∀ b o,X.s₀.heap.get? b=some o->b≠X.env.locals:=fun b o e=>U2 (Vn (UA e) I.ok.above)
 have JD:∀ b o,X.s₀.heap.get? b=some o->b∉X.ex->b∉ch:=fun b o e hx hb=>by
  rcases (Dc b hb).1 with z | z
  · exact hx z
  · exact absurd (Vn (UA e) z) (VS _)
 have cellK:∀ x c,X.env.cells.lookup x=some c->∀ v,s.heap.IsCell c v->h'.IsCell c v:=fun x c e v ⟨o,ho,hd⟩=>by
  have GG:c∉ch:=fun z=>(Dc c z).2.2.1 x c e rfl;by_cases hc:c∈X.fs
  · obtain ⟨sl,q⟩:=slot c o (I.cne x c e) hc GG ho (I.freeC x c e);exact ⟨_,q,hd⟩
  · exact ⟨o,keep c o (I.cne x c e) hc GG ho (I.freeC x c e),hd⟩
 refine ⟨I.ok,I.os,hg,⟨fun b o e n hb hx=>?_,fun b o e n hb hx=>?_,fun b o e n hx=>?_,fun b o e hx=>?_,fun b xs e=>tups b xs (I.base.tups b xs e),fun b o xs e=>frzs b o xs (I.base.frzs b o xs e),fun b ps e=>?_⟩,?_,fun x c e=>?_,?_,fun x c e=>?_,fun p hp=>?_,hok,I.len⟩
 · exact keep b o (NR b o e) hb (JD b o e hx) (I.base.keep b o e n hb hx) (I.base.free b o e n hx)
 · obtain ⟨sl,e1⟩:=I.base.slot b o e n hb hx;obtain ⟨PQ,e2⟩:=slot b _ (NR b o e) hb (JD b o e hx) e1 (I.base.free b o e n hx);exact ⟨PQ,e2⟩
 · obtain ⟨o',e1⟩:=I.base.there b o e hx;exact free b o' (JD b o e hx) e1 (I.base.free b o e n hx)
 · obtain ⟨o',e1⟩:=I.base.there b o e hx;exact there b o' (JD b o e hx) e1
 · obtain ⟨m1,e1⟩:=I.base.tbls b ps e;obtain ⟨m2,e2⟩:=tbls b _ e1;exact ⟨m1++m2,by rw [e2,Array.append_assoc]⟩
 · obtain ⟨m,hn,hl⟩:=I.loc;refine ⟨m,ns m hn,fun i x v e1 e2 e3=>?_⟩;obtain ⟨u,r,l⟩:=hl i x v e1 e2 e3;refine ⟨u,r,?_⟩;rcases l with l | ⟨k,c,e,z⟩
   · exact .inl l
   · exact .inr ⟨k,c,e,cellK x c e _ z⟩
 · obtain ⟨v,z⟩:=I.cell x c e;exact ⟨v,cellK x c e v z⟩
 · obtain ⟨m,⟨o,_,_,ho,_⟩,_⟩:=I.loc;exact free _ o (fun z=>(Dc _ z).2.1 rfl) ho I.free
 · obtain ⟨v,o,ho,hd⟩:=I.cell x c e;exact free c o (fun z=>(Dc c z).2.2.1 x c e rfl) ho (I.freeC x c e)
 · obtain ⟨e,n,ne,nf,d⟩:=I.pin p hp;have GG:p.1∉ch:=fun z=>(Dc p.1 z).2.2.2 p hp rfl;exact ⟨keep p.1 p.2 ne nf GG e n,free p.1 p.2 GG e n,ne,nf,d⟩
theorem Inv.un {t':Nat} (I:Inv X pins σ H s) (u:Un X.fs [] H H' s.heap h') (hok:HOk X.prog X.w H' h'):Inv X pins σ H' { s with heap:=h',toks:=t' }:=by
 obtain ⟨m,⟨o,es,ep,ho,r⟩,_⟩:=id I.loc;obtain ⟨sl,hL⟩:=u.any ho I.free (by simp)
 exact I.step (g':=s.gens) (d':=s.drawn) (ch:=[]) (fun _ z=>nomatch z) (fun b o _ hb _ e n=>u.keep b o e n hb (by simp)) (fun b o _ hb _ e n=>u.slot b o e n hb (by simp)) (fun b o _ e n=>u.free b o e n (by simp)) (fun b o _ e=>u.there b o e (by simp)) u.tups u.frzs u.tbls (fun m' hm=>by
  obtain ⟨o',Kq,Kr,Ad,r'⟩:=hm;rw [ho] at Ad;cases Ad;exact ⟨_,Kq,Kr,hL,r'⟩) hok I.bare
theorem Inv.call {g':Array GenState} {t':Nat} {d':Drawn} {ch:List Ui} (I:Inv X pins σ H s) (u:Un (frs X.stack) ch H H' s.heap h') (hok:HOk X.prog X.w H' h') (hg:AllBare g')
 (Dc:∀ b∈ch,(b∈X.ex∨X.s₀.heap.objs.size<=b)/\b≠X.env.locals/\(∀ x c,X.env.cells.lookup x=some c->c≠b)/\∀ p∈X.pn++pins,p.1≠b) :
 Inv X pins σ H' { s with heap:=h',gens:=g',drawn:=d',toks:=t' }:=by
 obtain ⟨m,⟨o,es,ep,ho,r⟩,_⟩:=id I.loc;obtain ⟨sl,hL⟩:=u.any ho I.free fun z=>(Dc _ z).2.1 rfl
 exact I.step (ch:=ch) Dc (fun b o hL hb hc e n=>u.keep b o e n (fun z=>(UK.mp (I.stkSub b z)).elim hL hb) hc) (fun b o _ _ hc e n=>u.any e n hc) (fun b o hc e n=>u.free b o e n hc) (fun b o hc e=>u.there b o e hc) u.tups u.frzs u.tbls (fun m' hm=>by
  obtain ⟨o',Kq,Kr,Ad,r'⟩:=hm;rw [ho] at Ad;cases Ad;exact ⟨_,Kq,Kr,hL,r'⟩) hok hg
theorem Inv.turned {t':Nat} {it:Ui} (I:Inv X pins σ H s) (k:∀ b o,b≠it->s.heap.get? b=some o->h'.get? b=some o) (hn:H it=none) (hL:it≠X.env.locals)
 (h1:it∈X.ex∨X.s₀.heap.objs.size<=it) (h2:∀ x c,X.env.cells.lookup x=some c->c≠it) (h3:∀ p∈X.pn++pins,p.1≠it):Inv X pins σ H { s with heap:=h',toks:=t' }:=by
 have GH:∀ b u,H b=some u->b≠it:=fun b u e z=>by rw [z,hn] at e;cases e
 refine I.step (g':=s.gens) (d':=s.drawn) (ch:=[it]) (fun b hb=>?_) (fun b o _ _ hc e _=>k b o (fun z=>hc (by simp [z])) e) (fun b o _ _ hc e _=>⟨o.slots,k b o (fun z=>hc (by simp [z])) e⟩) (fun _ _ _ _ n=>n)
  (fun b o hc e=>⟨o,k b o (fun z=>hc (by simp [z])) e⟩) (fun _ _ e=>e) (fun _ _ _ e=>e) (fun b ps e=>⟨#[],by rw [e];simp⟩) (fun m hm=>?_) (fun b u e=>?_) I.bare
 · have e:b=it:=by simpa using hb
   subst e;exact ⟨h1,hL,h2,h3⟩
 · obtain ⟨o,es,ep,ho,r⟩:=hm;exact ⟨o,es,ep,k _ o (Wd hL) ho,r⟩
 · refine (I.hok b u e).stay (fun c v hc q=>k c v ?_ q) (fun _ q=>q) fun _ _ q=>q;rcases hc with z | z
   · rw [z];exact GH b u e
   · exact GH c _ z
theorem Inv.tok (I:Inv X pins σ H s) (t:Nat):Inv X pins σ H { s with toks:=t }:=I.un (h':=s.heap) (t':=t) Un.refl I.hok
theorem Inv.kept {t':Nat} (I:Inv X pins σ H s) (k:∀ b u,s.heap.get? b=some u->h'.get? b=some u):Inv X pins σ H { s with heap:=h',toks:=t' }:=I.un (Un.kept k) (I.hok.kept k)
theorem Inv.laid {a:Ui} {o:HO} {t':Nat} (I:Inv X pins σ H s) (k:∀ b u,s.heap.get? b=some u->h'.get? b=some u) (hp:s.heap.objs.size<=a) (new:ObjOk X.prog X.w (upd H a o) h' a o) :
 Inv X pins σ (upd H a o) { s with heap:=h',toks:=t' }:=I.un (Un.laid k hp (I.hok.fresh hp)) (I.hok.laid k hp new)
theorem Inv.write {x e:Ui} {o:HO} {t':Nat} (I:Inv X pins σ H s) (mu:Mut (H x)) (he:e=x∨H e=some (.own x)) (k:∀ b u,b≠e->s.heap.get? b=some u->h'.get? b=some u) (FY:∃ u,h'.get? e=some u)
 (new:ObjOk X.prog X.w (upd H x o) h' x o):Inv X pins σ (upd H x o) { s with heap:=h',toks:=t' }:=I.un (Un.write mu he k FY) (I.hok.write mu he k FY new)
theorem Inv.weak {yd:List (Option V)} (I:Inv X pins σ H s) (hl:yd.length=σ.length) (w:∀ (i:Nat) v,yd[i]?=some (some v)->σ[i]?=some (some v)):Inv X pins yd H s :=
 ⟨I.ok,I.os,I.bare,I.base,let ⟨m,hn,Ks⟩:=I.loc;⟨m,hn,fun i x v e1 e2 e3=>Ks i x v e1 (w i v e2) e3⟩,I.cell,I.free,I.freeC,I.pin,I.hok,hl.trans I.len⟩
theorem Inv.pins_of {D4:List (Ui×WA)} (I:Inv X pins σ H s) (h:∀ p∈D4,s.heap.get? p.1=some p.2/\H p.1=none/\p.1≠X.env.locals/\p.1∉X.fs/\∀ v,p.2.data≠.cell v):Inv X D4 σ H s :=
 ⟨I.ok,I.os,I.bare,I.base,I.loc,I.cell,I.free,I.freeC,fun p hp=>(Ve.mp hp).elim (fun z=>I.pin p (Vi _ z)) (h p),I.hok,I.len⟩
theorem ox {N:List US} (hN:N.Nodup) {i j:Nat} {x:US} (a:N[i]?=some x) (b:N[j]?=some x):i=j:=by
 obtain ⟨h1,e1⟩:=Uk.mp a;obtain ⟨h2,e2⟩:=Uk.mp b;exact (List.getElem_inj hN).mp (e1.trans e2.symm)
theorem mG {M:Model} {A:U9} {E:Ul->Ur->Prop} {i:Nat} {x:US} {v:V} {u:Ul} {Q:Unit->Ur->Prop} (I:Inv X pins σ H s) (hN:X.N.Nodup) (hi:X.N[i]?=some x) (hx:Loc X.env.scope x) (r:RelV v u)
 (h:∀ s',Inv X pins (σ.set i (some v)) H s'->(∃ a,We a s.heap s'.heap/\(a=X.env.locals∨X.env.cells.lookup x=some a))->Q () s') (hf:X.fn x=true∨X.env.scope.names.lookup x=some .local:=by first | exact .inl rfl | exact .inr rfl | assumption):UC M A (storeName X.env x u) Q E s:=by
 obtain ⟨m,hn,hl⟩:=id I.loc;have Kt:(X.env.scope.kind == .class || (X.env.scope.kind == .module && X.env.locals != X.env.globals))=false:=by rw [I.ok.kind];rfl
 have GI:i<σ.length:=by rw [I.len];exact (Uk.mp hi).1
 have cne:=I.cne
 have tracked:∀ {a:Ui} {h':VH},(∃ o,s.heap.get? a=some o/\H a=none)->We a s.heap h'->HOk X.prog X.w H h':=fun {a h'} ha hs b ob e=>by
  obtain ⟨_,_,D5⟩:=ha;refine (I.hok b ob e).stay (fun c w' hc q=>(hs.2 c ?_).trans q) (fun _ q=>q) fun _ _ q=>q;rintro rfl;rcases hc with rfl | hc
  · rw [D5] at e;cases e
  · rw [D5] at hc;cases hc
 rcases hx with hk | hk
 · refine wpAny_storeName_local hk hn (fun h' PR hs=>?_) Kt;obtain ⟨oL,_,_,PU,_⟩:=id hn;refine h _ ⟨I.ok,I.os,I.bare,⟨fun b o e n hb hx=>?_,fun b o e n hb hx=>?_,I.base.free,fun b o e hx=>?_,I.base.tups,I.base.frzs,I.base.tbls⟩,⟨_,PR,fun j y v' e1 e2 e3=>?_⟩,fun y c e=>?_,I.free,I.freeC,fun p hp=>?_,tracked ⟨oL,PU,I.free⟩ hs,by simpa using I.len⟩ ⟨_,hs,.inl rfl⟩
   · exact (hs.2 b (U2 (Vn (UA e) I.ok.above))).trans (I.base.keep b o e n hb hx)
   · obtain ⟨sl,e1⟩:=I.base.slot b o e n hb hx;exact ⟨sl,(hs.2 b (U2 (Vn (UA e) I.ok.above))).trans e1⟩
   · obtain ⟨o',e1⟩:=I.base.there b o e hx;exact ⟨o',(hs.2 b (U2 (Vn (UA e) I.ok.above))).trans e1⟩
   · by_cases hj:j=i
     · subst hj;rw [hi] at e1;cases e1;rw [List.getElem?_set_self GI] at e2;cases e2;exact ⟨u,r,.inl ⟨hk,by simp⟩⟩
     · rw [Zk (Wd hj)] at e2;obtain ⟨u',r',q⟩:=hl j y v' e1 e2 e3;refine ⟨u',r',?_⟩;rcases q with ⟨k,e⟩ | ⟨k,c,e,z⟩
       · refine .inl ⟨k,?_⟩;have:y≠x:=fun e=>hj (ox hN e1 (e ▸ hi));simp [this,e]
       · exact .inr ⟨k,c,e,z.sameBut hs (cne y c e)⟩
   · obtain ⟨w',z⟩:=I.cell y c e;exact ⟨w',z.sameBut hs (cne y c e)⟩
   · obtain ⟨e,n,ne,nf,d⟩:=I.pin p hp;exact ⟨(hs.2 p.1 ne).trans e,n,ne,nf,d⟩
 · have Ku:X.fn x=true:=by
    rcases hf with z | z
    · exact z
    · rw [z] at hk;cases hk
   obtain ⟨c,hc⟩:=I.ok.has x (.inl hk);obtain ⟨w',z⟩:=I.cell x c hc;refine wpAny_storeName_cell I.ok.kind hk hc z (fun h' zw hs=>?_);obtain ⟨oc,NS,Kv⟩:=id z;refine h { s with heap:=h' } ⟨I.ok,I.os,I.bare,⟨fun b o e n hb hx=>?_,fun b o e n hb hx=>?_,I.base.free,fun b o e hx=>?_,I.base.tups,I.base.frzs,I.base.tbls⟩,⟨m,hn.sameBut hs (Wd (cne x c hc)),fun j y v' e1 e2 e3=>?_⟩,fun y c' e=>?_,I.free,I.freeC,fun p hp=>?_,tracked ⟨oc,NS,I.freeC x c hc⟩ hs,by simpa using I.len⟩ ⟨c,hs,.inr hc⟩
   · exact (hs.2 b (U2 (Vn (UA e) (I.ok.cab x c Ku hc)))).trans (I.base.keep b o e n hb hx)
   · obtain ⟨sl,e1⟩:=I.base.slot b o e n hb hx;exact ⟨sl,(hs.2 b (U2 (Vn (UA e) (I.ok.cab x c Ku hc)))).trans e1⟩
   · obtain ⟨o',e1⟩:=I.base.there b o e hx;exact ⟨o',(hs.2 b (U2 (Vn (UA e) (I.ok.cab x c Ku hc)))).trans e1⟩
   · by_cases hj:j=i
     · subst hj;rw [hi] at e1;cases e1;rw [List.getElem?_set_self GI] at e2;cases e2;exact ⟨u,r,.inr ⟨.inl hk,c,hc,zw⟩⟩
     · rw [Zk (Wd hj)] at e2;obtain ⟨u',r',q⟩:=hl j y v' e1 e2 e3;refine ⟨u',r',?_⟩;rcases q with q | ⟨k,c',e,z'⟩
       · exact .inl q
       · refine .inr ⟨k,c',e,z'.sameBut hs ?_⟩;rintro rfl;exact hj (ox hN e1 (I.ok.inj _ _ _ e hc ▸ hi))
   · by_cases NT:c'=c
     · subst NT;exact ⟨_,zw⟩
     · obtain ⟨w2,z2⟩:=I.cell y c' e;exact ⟨w2,z2.sameBut hs NT⟩
   · obtain ⟨e,n,ne,nf,d⟩:=I.pin p hp;refine ⟨(hs.2 p.1 ?_).trans e,n,ne,nf,d⟩;intro q;rw [q,NS] at e;have q':oc=p.2:=UR e;exact d w' (by rw [<- q'];exact Kv)
theorem li {M:Model} {A:U9} {E:Ul->Ur->Prop} {i:Nat} {x:US} {v:V} {u:Ul} {Q:Unit->Ur->Prop} (I:Inv X pins σ H s) (hN:X.N.Nodup) (hi:X.N[i]?=some x) (hx:Loc X.env.scope x) (r:RelV v u)
 (h:∀ s',Inv X pins (σ.set i (some v)) H s'->Q () s') (hf:X.fn x=true∨X.env.scope.names.lookup x=some .local:=by first | exact .inl rfl | exact .inr rfl | assumption):UC M A (storeName X.env x u) Q E s :=
 mG I hN hi hx r (fun s' I' _=>h s' I') hf
theorem Inv.call' {s':Ur} {ch:List Ui} (I:Inv X pins σ H s) (ho:s'.os=s.os) (u:Un (frs X.stack) ch H H' s.heap s'.heap) (hok:HOk X.prog X.w H' s'.heap) (hg:AllBare s'.gens)
 (Dc:∀ b∈ch,(b∈X.ex∨X.s₀.heap.objs.size<=b)/\b≠X.env.locals/\(∀ x c,X.env.cells.lookup x=some c->c≠b)/\∀ p∈X.pn++pins,p.1≠b):Inv X pins σ H' s':=by
 obtain ⟨h',g',d',t',o'⟩:=s';have e:o'=s.os:=ho;subst e;exact I.call (g':=g') (t':=t') (d':=d') u hok hg Dc
end
abbrev XK:=Ul->Option Ui->Hp->Prop
abbrev St:=List (Option V)
abbrev VK:=V->Hp->Prop
abbrev TE:=St->Hp->VK->Prop
abbrev TT:=St->Hp->(Bool->Hp->Prop)->Prop
abbrev TA:=St->Hp->(List V->Hp->Prop)->Prop
structure Ends where
 nx:St->Hp->Prop
 rt:VK
 bk:St->Hp->Prop:=fun _ _=>False
 ct:St->Hp->Prop:=fun _ _=>False
abbrev TS:=Ends->St->Hp->Prop
def EP (X:Cx) (pins:List (Ui×WA)) (σ:St) (Q:VK) (u:Ul) (s':Ur):Prop:=∃ v H',Inv X pins σ H' s'/\RelV v u/\Q v H'
def TP (X:Cx) (pins:List (Ui×WA)) (σ:St) (Q:Bool->Hp->Prop) (b:Bool) (s':Ur):Prop:=∃ H',Inv X pins σ H' s'/\Q b H'
def AP (X:Cx) (pins:List (Ui×WA)) (σ:St) (Q:List V->Hp->Prop) (us:List Ul) (s':Ur):Prop:=∃ vs H',Inv X pins σ H' s'/\Vals vs us/\Q vs H'
def SP (X:Cx) (pins:List (Ui×WA)) (D:Ends) (f:Flow) (s':Ur):Prop :=
 match f with
 | .next=>∃ yd H',Inv X pins yd H' s'/\D.nx yd H'
 | .brk=>∃ yd H',Inv X pins yd H' s'/\D.bk yd H'
 | .cont=>∃ yd H',Inv X pins yd H' s'/\D.ct yd H'
 | .ret u=>∃ v yd H',Inv X pins yd H' s'/\RelV v u/\D.rt v H'
def PE (X:Cx) (e:VC) (t:TE):Prop :=
 ∀ (pins:List (Ui×WA)) (s:Ur) (σ:St) (H:Hp) (Q:VK),Inv X pins σ H s->t σ H Q->UC (U0 X.prog X.w) X.A (WN e X.env) (EP X pins σ Q) X.xe s
def PT (X:Cx) (e:VC) (t:TT):Prop :=
 ∀ (pins:List (Ui×WA)) (s:Ur) (σ:St) (H:Hp) (Q:Bool->Hp->Prop),Inv X pins σ H s->t σ H Q->UC (U0 X.prog X.w) X.A (isTrue e X.env (WN e X.env)) (TP X pins σ Q) X.xe s
def PW (X:Cx) (e:VC) (t:TT):Prop :=
 ∀ (whole:Sem Ul) (pins:List (Ui×WA)) (s:Ur) (σ:St) (H:Hp) (Q:Bool->Hp->Prop),Inv X pins σ H s->t σ H Q->UC (U0 X.prog X.w) X.A (isTrue e X.env whole) (TP X pins σ Q) X.xe s
theorem PW.pt {X:Cx} {e:VC} {t:TT} (h:PW X e t):PT X e t:=h _
def PA (X:Cx) (es:List VC) (t:TA):Prop :=
 ∀ (pos:Yl) (pins:List (Ui×WA)) (s:Ur) (σ:St) (H:Hp) (Q:List V->Hp->Prop),Inv X pins σ H s->t σ H Q->UC (U0 X.prog X.w) X.A (spliced (Ys pos (Vm es X.env))) (AP X pins σ Q) X.xe s
def PS (X:Cx) (st:Wk) (t:TS):Prop :=
 ∀ (pins:List (Ui×WA)) (s:Ur) (σ:St) (H:Hp) (D:Ends),Inv X pins σ H s->t D σ H->UC (U0 X.prog X.w) X.A (exec st X.env) (SP X pins D) X.xe s
def PSs (X:Cx) (st:List Wk) (t:TS):Prop :=
 ∀ (pins:List (Ui×WA)) (s:Ur) (σ:St) (H:Hp) (D:Ends),Inv X pins σ H s->t D σ H->UC (U0 X.prog X.w) X.A (execs st X.env) (SP X pins D) X.xe s
theorem thn {α:Type} {t:Sem α} {Q Q':α->Ur->Prop} {M:Model} {A:U9} {E:Ul->Ur->Prop} {s:Ur} (h:UC M A t Q E s) (hQ:∀ a s,Q a s->Q' a s):UC M A t Q' E s:=Ww h hQ fun _ _ x=>x
end L2
namespace L2
open PySem PySem.Spec PyProof.Rows
section
variable {X:Cx}
inductive vI (i:Nat) (σ:St) (H:Hp) (Q:VK):Prop
 | mk (v:_) (yp:σ[i]?=some (some v)) (yq:Q v H):vI i σ H Q
def bn (i:Nat):TE:=vI i
def tC (v:V):TE:=fun _ H Q=>Q v H
theorem wv {i:Nat} {x:US} {pos:Yl} (hN:X.N[i]?=some x) (hv:Vis X.env.scope x) (hd:(x == ("__debug__":US))=false:=by decide) (Co:(x == ("__classdict__":US))=false:=by decide):PE X (.Name x pos) (bn i):=by
 intro pins s σ H Q I h;obtain ⟨v,e,h⟩:=h;obtain ⟨m,hn,hl⟩:=I.loc;obtain ⟨u,r,l⟩:=hl i x v hN e hv;have fin:EP X pins σ Q u s:=⟨v,H,I,r,h⟩;rcases l with ⟨hk,hm⟩ | ⟨hk,c,hc,Bw⟩
 · exact wpAny_Name (wpAny_loadName_local I.ok.kind hk hn hm fin) hd
 · rcases hk with hk | hk
   · exact wpAny_Name (wpAny_loadName_cell I.ok.kind hk hc Bw fin) hd
   · exact wpAny_Name (wpAny_loadName_free I.ok.kind hk hc Bw fin Co) hd
theorem af {i j pos}:PE X (.Constant (.int i) j pos) (tC (.int i)):=fun _ _ _ H _ I h=>wpAny_Constant_int ⟨.int i,H,I.tok _,⟨_,rfl⟩,h⟩
theorem fI {b j pos}:PE X (.Constant (.bool b) j pos) (tC (.bl b)):=fun _ _ _ H _ I h=>Constant_bool ⟨.bl b,H,I,rfl,h⟩
theorem uh {j pos}:PE X (.Constant .none j pos) (tC .non):=fun _ _ _ H _ I h=>Constant_none ⟨.non,H,I,rfl,h⟩
theorem eG {x j pos}:PE X (.Constant (.str x) j pos) (tC (.str x)):=fun _ _ _ H _ I h=>Calls.Constant_str ⟨.str x,H,I.tok _,⟨_,rfl⟩,h⟩
def Gl (X:Cx) (x:US):Prop:=X.env.kindOf x=some .globalImplicit
theorem rj {E:Ul->Ur->Prop} {pins:List (Ui×WA)} {s:Ur} {σ:St} {H:Hp} {x:US} {u:Ul} {pos:Yl} {Q:Ul->Ur->Prop} (I:Inv X pins σ H s) (hg:Gl X x) (hm:X.mg x=some u) (h:Q u s)
 (hd:(x == ("__debug__":US))=false:=by decide):UC (U0 X.prog X.w) X.A (WN (.Name x pos) X.env) Q E s :=
 Calls.Name_function_global I.ok.kind hg (Calls.loadGlobal_global (by rw [I.ok.glob];exact I.mod.glob.keeps I.bk) hm h) hd
theorem cS {E:Ul->Ur->Prop} {pins:List (Ui×WA)} {s:Ur} {σ:St} {H:Hp} {x:US} {u:Ul} {pos:Yl} {Q:Ul->Ur->Prop} (I:Inv X pins σ H s) (hg:Gl X x) (hm:X.mg x=none) (hv:YM x=some u) (h:Q u s)
 (hn:x≠"__name__":=by decide) (hd:(x == ("__debug__":US))=false:=by decide):UC (U0 X.prog X.w) X.A (WN (.Name x pos) X.env) Q E s:=by
 obtain ⟨mb,h1,h2⟩:=I.mod.blt;exact Calls.Name_function_global I.ok.kind hg (Calls.loadGlobal_builtin (by rw [I.ok.glob];exact I.mod.glob.keeps I.bk) hm (by rw [I.ok.blt];exact h1.keeps I.bk) ((h2 x hn).trans hv) h) hd
theorem gN {x:US} {v:V} {u:Ul} {pos:Yl} (hg:Gl X x) (hm:X.mg x=some u) (r:RelV v u) (hd:(x == ("__debug__":US))=false:=by decide):PE X (.Name x pos) (tC v) :=
 fun _ _ _ H _ I h=>rj I hg hm ⟨v,H,I,r,h⟩ hd
theorem ef {x:US} {v:V} {u:Ul} {pos:Yl} (hg:Gl X x) (hm:X.mg x=none) (hv:YM x=some u) (r:RelV v u) (hn:x≠"__name__":=by decide) (hd:(x == ("__debug__":US))=false:=by decide):PE X (.Name x pos) (tC v) :=
 fun _ _ _ H _ I h=>cS I hg hm hv ⟨v,H,I,r,h⟩ hn hd
variable {a b:VC} {ta tb:TE} {pos:Yl}
def PC (X:Cx) (op:CmpOp) (a b:VC) (t:TE):Prop :=
 ∀ (pins:List (Ui×WA)) (s:Ur) (σ:St) (H:Hp) (Q:VK),Inv X pins σ H s->t σ H Q →
   UC (U0 X.prog X.w) X.A (WN a X.env) (fun v ye=>UC (U0 X.prog X.w) X.A (WN b X.env) (fun u yP=>UC (U0 X.prog X.w) X.A (Xr op v u) (EP X pins σ Q) X.xe yP) X.xe ye) X.xe s
def tB (t:TE):TT:=fun σ H Q=>t σ H fun x H1=>∃ c,x=.bl c/\Q c H1
theorem qB {op:CmpOp} {t:TE} (h:PC X op a b t) (h1:Zd op b=false:=by first | exact GJ _ (by decide) (by decide) | rfl):PT X (.Compare a [op] [b] pos) (tB t):=by
 intro pins s σ H Q I hw;refine wpAny_isTrue_Compare1 (thn (h pins s σ H _ I hw) fun v s1 h1=>thn h1 fun u s2 h2=>thn h2 fun c s3 ⟨x,H1,I1,r1,q1⟩=>?_) h1;obtain ⟨d,rfl,q⟩:=q1;cases r1;exact XO ⟨H1,I1,q⟩
variable {tA JE:TT} {rest:List VC}
def xS (t u:TT):TT:=fun σ H Q=>t σ H fun c H1=>if c=true then u σ H1 Q else Q false H1
def tOr (t u:TT):TT:=fun σ H Q=>t σ H fun c H1=>if c=true then Q true H1 else u σ H1 Q
def xX (t:TT):TT:=fun σ H Q=>t σ H fun c H1=>Q (!c) H1
theorem u5 (ha:PT X a tA):PW X (.BoolOp .And [a] pos) tA:=by
 intro wh pins s σ H Q I h;refine isTrue_and (thn (ha pins s σ H Q I h) fun c s1 e=>?_);cases c with
 | true=>exact isTrue_and_nil e
 | false=>exact e
theorem dh (ha:PT X a tA):PW X (.BoolOp .Or [a] pos) tA:=by
 intro wh pins s σ H Q I h;refine isTrue_or (thn (ha pins s σ H Q I h) fun c s1 e=>?_);cases c with
 | false=>exact isTrue_or_nil e
 | true=>exact e
theorem um (ha:PT X a tA) (hb:PW X (.BoolOp .And (b::rest) pos) JE):PW X (.BoolOp .And (a::b::rest) pos) (xS tA JE):=by
 intro wh pins s σ H Q I h;refine isTrue_and (thn (ha pins s σ H _ I h) fun c s1 ⟨H1,I1,q1⟩=>?_);cases c with
 | true=>exact hb wh pins s1 σ H1 Q I1 q1
 | false=>exact ⟨H1,I1,q1⟩
theorem dj (ha:PT X a tA) (hb:PW X (.BoolOp .Or (b::rest) pos) JE):PW X (.BoolOp .Or (a::b::rest) pos) (tOr tA JE):=by
 intro wh pins s σ H Q I h;refine isTrue_or (thn (ha pins s σ H _ I h) fun c s1 ⟨H1,I1,q1⟩=>?_);cases c with
 | true=>exact ⟨H1,I1,q1⟩
 | false=>exact hb wh pins s1 σ H1 Q I1 q1
theorem dN (ha:PT X a tA):PT X (.UnaryOp .Not a pos) (xX tA):=by
 intro pins s σ H Q I h;exact isTrue_not (ha pins s σ H (fun c H1=>Q (!c) H1) I h)
def xo (ta tb:TE):TE:=fun σ H Q=>ta σ H fun x H1=>∃ c,x=.bl c/\if c=true then tb σ H1 Q else Q (.bl false) H1
def wS (ta:TE):TE:=fun σ H Q=>ta σ H fun x H1=>∃ c,x=.bl c/\Q (.bl (!c)) H1
theorem tz {op} {t:TE} (h:PE X a t):PE X (.BoolOp op [a] pos) t:=fun pins s σ H Q I hw=>BoolOp_one (h pins s σ H Q I hw)
theorem qk (ha:PE X a ta) (hb:PE X (.BoolOp .And (b::rest) pos) tb):PE X (.BoolOp .And (a::b::rest) pos) (xo ta tb):=by
 intro pins s σ H Q I h;refine BoolOp_and (thn (ha pins s σ H _ I h) fun v s1 ⟨x,H1,I1,r1,q1⟩=>?_);obtain ⟨c,rfl,q1⟩:=q1;cases r1;refine XO ?_;cases c with
 | true=>exact hb pins s1 σ H1 Q I1 q1
 | false=>exact ⟨.bl false,H1,I1,rfl,q1⟩
theorem tW (ha:PE X a ta):PE X (.UnaryOp .Not a pos) (wS ta):=by
 intro pins s σ H Q I h;refine UnaryOp_ (thn (ha pins s σ H _ I h) fun v s1 ⟨x,H1,I1,r1,q1⟩=>?_);obtain ⟨c,rfl,q1⟩:=q1;cases r1;exact not_of (XO ⟨.bl (!c),H1,I1,rfl,q1⟩)
def tIf (t:TT) (ta tb:TE):TE:=fun σ H Q=>t σ H fun c H1=>if c=true then ta σ H1 Q else tb σ H1 Q
theorem uc {c:VC} (hc:PT X c tA) (ha:PE X a ta) (hb:PE X b tb):PE X (.IfExp c a b pos) (tIf tA ta tb):=by
 intro pins s σ H Q I h;refine wpAny_IfExp (thn (hc pins s σ H _ I h) fun d s1 ⟨H1,I1,q1⟩=>?_);cases d with
 | true=>exact ha pins s1 σ H1 Q I1 q1
 | false=>exact hb pins s1 σ H1 Q I1 q1
end
end L2
namespace L2
open PySem PySem.Spec PyProof.Rows
def SqL (K:Ug) (H:Hp) (a:Ui) (xs:List V):Prop :=
 Rd H a (.lst xs) ∨
  ∃ (o:WA) (its:Array Ul) (n:Nat),K.lookup a=some o/\o.cls=.type "list"/\o.dict=none/\o.data=.seq its n/\its.size<=UD/\Vals xs its.toList
def SqT (K:Ug) (H:Hp) (a:Ui) (xs:List V):Prop :=
 Rd H a (.tup xs) ∨
  ∃ (o:WA) (its:Array Ul) (n:Nat),K.lookup a=some o/\o.cls=.type "tuple"/\o.data=.seq its n/\its.size<=UD/\Vals xs its.toList
def xR:Ul->Option V
 | .none=>some .non
 | .bool b=>some (.bl b)
 | .int i _=>some (.int i)
 | .str x _=>some (.str x)
 | .bytes b _=>some (.byt b)
 | .float b _=>some (.flt b)
 | .ref a=>some (.ref a)
 | .type n=>some (.ty n)
 | _=>none
theorem RelV.abs {x:V} {u:Ul} (r:RelV x u):xR u=some x:=by
 cases x with
 | non=>cases r;rfl
 | bl _=>cases r;rfl
 | int _=>obtain ⟨t,rfl⟩:=r;rfl
 | str _=>obtain ⟨t,rfl⟩:=r;rfl
 | byt _=>obtain ⟨t,rfl⟩:=r;rfl
 | flt _=>obtain ⟨t,rfl⟩:=r;rfl
 | ref _=>cases r;rfl
 | ty _=>cases r;rfl
theorem RelV.inj {x y:V} {u:Ul} (r:RelV x u) (q:RelV y u):x=y:=UR (r.abs.symm.trans q.abs)
theorem Vals.inj:∀ {xs ys:List V} {us:List Ul},Vals xs us->Vals ys us->xs=ys
 | _,_,_,.nil,.nil=>rfl
 | _,_,_,.cons r t,.cons r' t'=>by rw [r.inj r',Vals.inj t t']
section
variable {X:Cx} {pins:List (Ui×WA)} {σ:St} {H:Hp} {s:Ur} {a:Ui} {xs ys:List V}
theorem SqL.of {K:Ug} (h:H a=some (.lst xs)):SqL K H a xs:=.inl (.inl h)
theorem SqT.of {K:Ug} (h:H a=some (.tup xs)):SqT K H a xs:=.inl (.inl h)
theorem Inv.list (I:Inv X pins σ H s) (h:SqL X.K H a xs):∃ its:List Ul,Vals xs its/\PlainL s.heap a its.toArray/\xs.length<=UD:=by
 rcases h with h | ⟨o,its,n,hk,hc,hd,hs,hz,r⟩
 · obtain ⟨z,its,n,r,e⟩:=h.ok I.hok;exact ⟨its,r,⟨_,n,e,rfl,rfl,rfl⟩,z⟩
 · refine ⟨its.toList,r,⟨o,n,I.kIn a o hk,hc,hd,by simpa using hs⟩,?_⟩;have e:=r.length;simp only [U3] at e;omega
theorem Inv.tuple (I:Inv X pins σ H s) (h:SqT X.K H a xs):∃ its:List Ul,Vals xs its/\IsTup s.heap a its.toArray/\xs.length<=UD:=by
 rcases h with h | ⟨o,its,n,hk,hc,hs,hz,r⟩
 · obtain ⟨z,its,n,r,p⟩:=h.ok I.hok;exact ⟨its,r,⟨_,p,rfl,n,rfl⟩,z⟩
 · refine ⟨its.toList,r,⟨o,I.kIn a o hk,hc,n,by simpa using hs⟩,?_⟩;have e:=r.length;simp only [U3] at e;omega
theorem Inv.list_inj (I:Inv X pins σ H s) (h:SqL X.K H a xs) (h':SqL X.K H a ys):xs=ys:=by
 obtain ⟨its,r,⟨o,n,e,_,_,d⟩,_⟩:=I.list h;obtain ⟨its',r',⟨o',n',e',_,_,d'⟩,_⟩:=I.list h';rw [e] at e';cases e';rw [d] at d';injection d' with d1 _;have:its=its':=by simpa using congrArg ZS d1
 subst this;exact r.inj r'
theorem Inv.tuple_inj (I:Inv X pins σ H s) (h:SqT X.K H a xs) (h':SqT X.K H a ys):xs=ys:=by
 obtain ⟨its,r,⟨o,e,_,n,d⟩,_⟩:=I.tuple h;obtain ⟨its',r',⟨o',e',_,n',d'⟩,_⟩:=I.tuple h';rw [e] at e';cases e';rw [d] at d';injection d' with d1 _;have:its=its':=by simpa using congrArg ZS d1
 subst this;exact r.inj r'
end
abbrev Cx.wish (X:Cx) (E:Ul->Ur->Prop):Cx:={ X with xe:=E }
abbrev Cx.nox (X:Cx):Cx:=X.wish fun _ _=>False
theorem Cx.Ok.wish {X:Cx} (ok:X.Ok) (E:Ul->Ur->Prop):(X.wish E).Ok :=
 ⟨ok.mod,ok.kind,ok.glob,ok.blt,ok.above,ok.inj,ok.has,ok.cab,ok.hd,ok.frames,ok.stk,ok.exf,ok.bs,ok.bsz,ok.noex,ok.exfs,ok.funs,ok.frf⟩
theorem Cx.Ok.unwish {X:Cx} {E:Ul->Ur->Prop} (ok:(X.wish E).Ok):X.Ok :=
 ⟨ok.mod,ok.kind,ok.glob,ok.blt,ok.above,ok.inj,ok.has,ok.cab,ok.hd,ok.frames,ok.stk,ok.exf,ok.bs,ok.bsz,ok.noex,ok.exfs,ok.funs,ok.frf⟩
section
variable {X:Cx} {pins:List (Ui×WA)} {σ:St} {H:Hp} {s:Ur} {E:Ul->Ur->Prop}
theorem Inv.wish (I:Inv X pins σ H s) (E:Ul->Ur->Prop):Inv (X.wish E) pins σ H s:=⟨I.ok.wish E,I.os,I.bare,I.base,I.loc,I.cell,I.free,I.freeC,I.pin,I.hok,I.len⟩
theorem Inv.unwish (I:Inv (X.wish E) pins σ H s):Inv X pins σ H s:=⟨I.ok.unwish,I.os,I.bare,I.base,I.loc,I.cell,I.free,I.freeC,I.pin,I.hok,I.len⟩
theorem SP.unwish {D:Ends} {f:Flow} {s':Ur} (h:SP (X.wish E) pins D f s'):SP X pins D f s':=by
 cases f with
 | next=>obtain ⟨yd,H',I,q⟩:=h;exact ⟨yd,H',I.unwish,q⟩
 | brk=>obtain ⟨yd,H',I,q⟩:=h;exact ⟨yd,H',I.unwish,q⟩
 | cont=>obtain ⟨yd,H',I,q⟩:=h;exact ⟨yd,H',I.unwish,q⟩
 | ret u=>obtain ⟨v,yd,H',I,r,q⟩:=h;exact ⟨v,yd,H',I.unwish,r,q⟩
theorem PSs.nox {st:List Wk} {t:TS} (h:PSs X.nox st t):PSs X st t:=fun pins s σ H D I hw =>
 Ww (h pins s σ H D (I.wish _) hw) (fun _ _ q=>q.unwish) fun _ _ z=>XE z
end
section
variable {X:Cx} {st:Wk} {rest:List Wk} {t u:TS} {e:VC} {te:TE} {pos:Yl}
def j9:TS:=fun D σ H=>D.nx σ H
def wX (t u:TS):TS:=fun D σ H=>t { D with nx:=u D } σ H
theorem bi:PSs X [] j9:=fun _ _ σ H _ I h=>Zt ⟨σ,H,I,h⟩
theorem ae (h1:PS X st t) (h2:PSs X rest u):PSs X (st::rest) (wX t u):=by
 intro pins s σ H D I h;refine wpAny_execs_cons (thn (h1 pins s σ H { D with nx:=u D } I h) fun f s1 q=>?_);cases f with
 | next =>
   obtain ⟨yd,H',I',q⟩:=q;exact h2 pins s1 yd H' D I' q
 | ret v=>exact q
 | brk=>exact q
 | cont=>exact q
theorem ag (h1:PS X st t):PSs X [st] t:=by
 intro pins s σ H D I h;refine wpAny_execs_cons (thn (h1 pins s σ H D I h) fun f s1 q=>?_);cases f with
 | next=>exact Zt q
 | ret v=>exact q
 | brk=>exact q
 | cont=>exact q
theorem Inv.quiet {pins:List (Ui×WA)} {σ:St} {H:Hp} {s:Ur} (I:Inv X pins σ H s):interactive X.env=false:=by simp [interactive,I.ok.kind]
def wF (te:TE):TS:=fun D σ H=>te σ H fun _ H1=>D.nx σ H1
theorem aQ (he:PE X e te) (hs:swapsWith e none pos.line X.env=pure false:=by rfl):PS X (.Expr e pos) (wF te):=by
 intro pins s σ H D I h;exact wpAny_Expr_any (thn (he pins s σ H _ I h) fun v s1 ⟨x,H1,I1,r1,q1⟩=>⟨σ,H1,I1,q1⟩) I.quiet hs
def xC (te:TE):TS:=fun D σ H=>te σ H D.rt
theorem aE (he:PE X e te):PS X (.Return (some e) pos) (xC te):=by
 intro pins s σ H D I h;exact wpAny_Return_some (thn (he pins s σ H _ I h) fun v s1 ⟨x,H1,I1,r1,q1⟩=>⟨x,σ,H1,I1,r1,q1⟩)
def xi (c:TT) (t u:TS):TS:=fun D σ H=>c σ H fun b H1=>if b=true then t D σ H1 else u D σ H1
theorem bI {c:VC} {a b:List Wk} {tc:TT} (hc:PT X c tc) (ha:PSs X a t) (hb:PSs X b u):PS X (.If c a b pos) (xi tc t u):=by
 intro pins s σ H D I h;refine wpAny_If (thn (hc pins s σ H _ I h) fun d s1 ⟨H1,I1,q1⟩=>?_);cases d with
 | true=>exact ha pins s1 σ H1 D I1 q1
 | false=>exact hb pins s1 σ H1 D I1 q1
end
abbrev TG:=V->St->Hp->(St->Hp->Prop)->Prop
abbrev TGs:=List V->St->Hp->(St->Hp->Prop)->Prop
def PG (X:Cx) (target:VC) (t:TG):Prop :=
 ∀ (pins:List (Ui×WA)) (s:Ur) (σ:St) (H:Hp) (v:V) (u:Ul) (Q:St->Hp->Prop),Inv X pins σ H s->RelV v u->t v σ H Q →
   UC (U0 X.prog X.w) X.A (assign target X.env u) (fun _ s'=>∃ yd H',Inv X pins yd H' s'/\Q yd H') X.xe s
def PGs (X:Cx) (ts:List VC) (t:TGs):Prop :=
 ∀ (pins:List (Ui×WA)) (s:Ur) (σ:St) (H:Hp) (vs:List V) (us:List Ul) (Q:St->Hp->Prop),Inv X pins σ H s->Vals vs us->t vs σ H Q →
   UC (U0 X.prog X.w) X.A (assignInOrder ((Zp ts X.env).map (·.2)) us) (fun _ s'=>∃ yd H',Inv X pins yd H' s'/\Q yd H') X.xe s
abbrev wc:=V->V->V->Hp->(Hp->Prop)->Prop
def wV (X:Cx) (t:wc):Prop :=
 ∀ (pins:List (Ui×WA)) (s:Ur) (σ:St) (H:Hp) (o i v:V) (ov iv u:Ul) (Q:Hp->Prop),Inv X pins σ H s->RelV o ov->RelV i iv->RelV v u->t o i v H Q →
   UC (U0 X.prog X.w) X.A (setItem ov iv u) (fun _ s'=>∃ H',Inv X pins σ H' s'/\Q H') X.xe s
abbrev TIp:=V->V->Hp->VK->Prop
def PIp (X:Cx) (op:Operator) (t:TIp):Prop :=
 ∀ (pins:List (Ui×WA)) (s:Ur) (σ:St) (H:Hp) (x y:V) (v u:Ul) (Q:VK),Inv X pins σ H s->RelV x v->RelV y u->t x y H Q →
   UC (U0 X.prog X.w) X.A (inplaceOp op v u) (EP X pins σ Q) X.xe s
section
variable {X:Cx} {pos:Yl}
def aF (i:Nat):TG:=fun v σ H Q=>Q (σ.set i (some v)) H
theorem aj {i:Nat} {x:US} (hN:X.N.Nodup) (hi:X.N[i]?=some x) (hx:Loc X.env.scope x) (hf:X.fn x=true∨X.env.scope.names.lookup x=some .local:=by first | exact .inl rfl | exact .inr rfl | assumption):PG X (.Name x pos) (aF i):=by
 intro pins s σ H v u Q I r h;exact wpAny_assign_Name (li I hN hi hx r (fun s' I'=>⟨_,H,I',h⟩) hf)
def l6:TGs:=fun vs σ H Q=>vs=[]/\Q σ H
def cR (t:TG) (u:TGs):TGs:=fun vs σ H Q=>∃ v r,vs=v::r/\t v σ H fun yd H'=>u r yd H' Q
theorem aX:PGs X [] l6:=by
 intro pins s σ H vs us Q I r h;obtain ⟨e,h⟩:=h;subst e;cases r;exact assignInOrder_nil ⟨σ,H,I,h⟩
theorem av {e:VC} {es:List VC} {t:TG} {u:TGs} (h1:PG X e t) (h2:PGs X es u)
 (hs:(Zp (e::es) X.env).map (·.2)=assign e X.env::(Zp es X.env).map (·.2):=by rfl):PGs X (e::es) (cR t u):=by
 intro pins s σ H vs us Q I r h;obtain ⟨v,vr,e1,h⟩:=h;subst e1;cases r with
 | cons r rr =>
   rw [hs];refine assignInOrder_cons (thn (h1 pins s σ H _ _ _ I r h) fun _ s1 ⟨zZ,H1,I1,q1⟩=>?_);exact h2 pins s1 zZ H1 _ _ Q I1 rr q1
def lX (K:Ug) (n:Nat) (t:TGs):TG:=fun v σ H Q=>∃ a xs,v=.ref a/\SqT K H a xs/\xs.length=n/\t xs σ H Q
theorem bz {es:List VC} {k:Nat} {t:TGs} {n:Nat} (hc:X.calm=true) (h:PGs X es t)
 (hn:(Zp es X.env).length=n:=by rfl) (yM:(Zp es X.env).findIdx? (·.1)=none:=by rfl):PG X (.Tuple es k pos) (lX X.K n t):=by
 intro pins s σ H v u Q I r hw;obtain ⟨a,xs,e1,hq,hl,hw⟩:=hw;subst e1;cases r;obtain ⟨its,rv,ht,hz⟩:=I.tuple hq;refine assign_Tuple_tuple (I.ok.hd hc) ht (by simp [hn,<- hl,rv.length]) yM fun h' hx=>?_;have I1:Inv X pins σ H { s with heap:=h' }:=I.kept (t':=s.toks) fun b o e=>hx b o (U2 (UA e)) e;exact h pins _ σ H xs _ Q I1 (by simpa using rv) hw
def xH (to ti:TE) (t:wc):TG:=fun v σ H Q=>to σ H fun o H1=>ti σ H1 fun i H2=>t o i v H2 fun H3=>Q σ H3
theorem jv {o i:VC} {to ti:TE} {t:wc} (ho:PE X o to) (hi:PE X i ti) (hs:wV X t)
 (ha:∀ v,assign (.Subscript o i pos) X.env v=(do
  let ov ← holding [v] (WN o X.env)
  let iv ← holding [v,ov] (WN i X.env)
  standAt pos
  holding [v,ov,iv] (setItem ov iv v)
  release [v,ov,iv] []):=by intro _;rfl):PG X (.Subscript o i pos) (xH to ti t):=by
 intro pins s σ H v u Q I r h;rw [ha];refine Ud (VP (thn (ho pins s σ H _ I h) fun ov s1 ⟨x,H1,I1,r1,q1⟩=>?_));refine Ud (VP (thn (hi pins s1 σ H1 _ I1 q1) fun iv s2 ⟨y,H2,I2,r2,q2⟩=>?_));refine Ud (wpAny_standAt (Ud (VP (thn (hs pins s2 σ H2 x y v ov iv u _ I2 r1 r2 r q2) fun _ s3 ⟨H3,I3,q3⟩=>?_))));exact wpAny_release ⟨σ,H3,I3,q3⟩
def vY (te:TE) (g:TG):TS:=fun D σ H=>te σ H fun x H1=>g x σ H1 D.nx
theorem cO {tg e:VC} {te:TE} {g:TG} (he:PE X e te) (hg:PG X tg g) (hs:swapsWithSole [tg] e pos.line X.env=pure false:=by rfl) (hw:swappedStores [tg] e X.env=pure none:=by rfl)
 (h1:(Zp [tg] X.env).map (·.2)=[assign tg X.env]:=by rfl):PS X (.Assign [tg] e pos) (vY te g):=by
 intro pins s σ H D I h;refine wpAny_Assign_stores (thn (he pins s σ H _ I h) fun v s1 ⟨x,H1,I1,r1,q1⟩=>?_) hs hw;rw [h1];exact thn (hg pins s1 σ H1 x v _ I1 r1 q1) fun _ s2 q=>q
theorem au {i:Nat} {x:US} {e:VC} {te:TE} {pos':Yl} (hN:X.N.Nodup) (hi:X.N[i]?=some x) (hx:Loc X.env.scope x) (he:PE X e te) (hs:swapsWith e (some (.Name x pos')) pos.line X.env=pure false:=by rfl) (hf:X.fn x=true∨X.env.scope.names.lookup x=some .local:=by first | exact .inl rfl | exact .inr rfl | assumption) :
 PS X (.Assign [.Name x pos'] e pos) (vY te (aF i)):=by
 intro pins s σ H D I h;refine wpAny_Assign_Name (thn (he pins s σ H _ I h) fun v s1 ⟨y,H1,I1,r1,q1⟩=>?_) hs;exact li I1 hN hi hx r1 (fun s2 I2=>⟨_,H1,I2,q1⟩) hf
def xB (i:Nat) (te:TE) (ti:TIp):TS:=fun D σ H=>∃ x,σ[i]?=some (some x)/\te σ H fun y H1=>ti x y H1 fun z H2=>D.nx (σ.set i (some z)) H2
theorem vP {i:Nat} {x:US} {e:VC} {te:TE} {op:Operator} {ti:TIp} {pos':Yl} (hN:X.N.Nodup) (hi:X.N[i]?=some x) (hx:Loc X.env.scope x) (he:PE X e te) (ho:PIp X op ti) (hf:X.fn x=true∨X.env.scope.names.lookup x=some .local:=by first | exact .inl rfl | exact .inr rfl | assumption) :
 PS X (.AugAssign (.Name x pos') op e pos) (xB i te ti):=by
 intro pins s σ H D I h;obtain ⟨v,e1,h⟩:=h;obtain ⟨m,hn,hl⟩:=I.loc;have NU:Vis X.env.scope x:=by rcases hx with k | k;exact .inl k;exact .inr (.inl k)
 obtain ⟨u,r,l⟩:=hl i x v hi e1 NU;refine wpAny_AugAssign_Name ?_
 have go:UC (U0 X.prog X.w) X.A (WN e X.env) (fun w yP=>UC (U0 X.prog X.w) X.A (inplaceOp op u w) (fun r Ae=>UC (U0 X.prog X.w) X.A (storeName X.env x r) (fun _=>SP X pins D .next) X.xe Ae) X.xe yP) X.xe s:=by
  refine thn (he pins s σ H _ I h) fun w s1 ⟨y,H1,I1,r1,q1⟩=>?_;refine thn (ho pins s1 σ H1 v y u w _ I1 r r1 q1) fun z s2 ⟨zv,H2,I2,r2,q2⟩=>?_;exact li I2 hN hi hx r2 (fun s3 I3=>⟨_,H2,I3,q2⟩) hf
 rcases l with ⟨hk,hm⟩ | ⟨hk,c,hc,Bw⟩
 · exact wpAny_loadName_local I.ok.kind hk hn hm go
 · rcases hk with hk | hk
   · exact wpAny_loadName_cell I.ok.kind hk hc Bw go
   · rcases hx with k | k
     · have:X.env.scope.names.lookup x=some .free:=hk;rw [k] at this;cases this
     · have:X.env.scope.names.lookup x=some .free:=hk;rw [k] at this;cases this
def ipI (f:Int->Int->Int):TIp:=fun x y H Q=>∃ i j,x=.int i/\y=.int j/\Q (.int (f i j)) H
theorem wx:PIp X .Add (ipI fun i j=>i+j):=by
 intro pins s σ H x y v u Q I r1 r2 h;obtain ⟨i,j,e1,e2,q⟩:=h;subst e1;subst e2;obtain ⟨t,rfl⟩:=r1;obtain ⟨t',rfl⟩:=r2;exact iadd_int ⟨.int _,H,I.tok _,⟨_,rfl⟩,q⟩
end
section
variable {X:Cx} {pos:Yl}
def vQ (c:TT) (tb:TS):TS:=fun D σ H=>∃ W:Nat->St->Hp->Prop,(∃ m,W m σ H)/\∀ m σ H,W m σ H →
 c σ H fun b H1=>if b=true then ∃ N:St->Hp->Prop,(∀ yd H',N yd H'->∃ m',m'<m/\W m' yd H')/\tb { D with nx:=N,ct:=N,bk:=D.nx } σ H1 else D.nx σ H1
theorem dA {c:VC} {body:List Wk} {tc:TT} {tb:TS} (hp:PassesOwn (U0 X.prog X.w) X.A X.env X.xe) (hc:PT X c tc) (hb:PSs X body tb):PS X (.While c body [] pos) (vQ tc tb):=by
 intro pins s σ H D I h;obtain ⟨W,⟨m0,w0⟩,turn⟩:=h;refine wpAny_While (codeAny_whileLoop (fun n s'=>∃ yd H',Inv X pins yd H' s'/\W n yd H') ?_ m0 ⟨σ,H,I,w0⟩);rintro n s1 ⟨zZ,H1,I1,w1⟩;refine XB hp (thn (hc pins s1 zZ H1 _ I1 (turn n zZ H1 w1)) fun b s2 ⟨H2,I2,q2⟩=>?_);cases b with
 | true =>
   obtain ⟨N,hN,q2⟩:=q2;rw [if_pos rfl];refine XB hp (thn (hb pins s2 zZ H2 _ I2 q2) fun f s3 q3=>?_);cases f with
   | next =>
     obtain ⟨Cp,H3,I3,n3⟩:=q3;obtain ⟨m',hm,w3⟩:=hN Cp H3 n3;exact ⟨m',hm,Cp,H3,I3,w3⟩
   | cont =>
     obtain ⟨Cp,H3,I3,n3⟩:=q3;obtain ⟨m',hm,w3⟩:=hN Cp H3 n3;exact ⟨m',hm,Cp,H3,I3,w3⟩
   | brk=>exact q3
   | ret v=>exact q3
 | false =>
   rw [if_neg UI];exact Zt ⟨zZ,H2,I2,q2⟩
end
structure It where
 go:Nat->Hp->Prop
 yld:Nat->Hp->V->Hp->Prop
 stop:Nat->Hp->Prop
def jR (X:Cx) (pins:List (Ui×WA)) (H:Hp) (b:Ui):Prop :=
 H b=none/\b≠X.env.locals/\b∉X.fs/\(b∈X.ex∨X.s₀.heap.objs.size<=b)/\(∀ x c,X.env.cells.lookup x=some c->c≠b)/\∀ p∈X.pn++pins,p.1≠b
theorem Inv.fpOk {X:Cx} {pins:List (Ui×WA)} {σ:St} {H H':Hp} {s:Ur} {b:Ui} (I:Inv X pins σ H s) (hb:s.heap.objs.size<=b) (hn:H' b=none):jR X pins H' b:=by
 refine ⟨hn,XI (Vn I.lt hb),I.nofs hb,.inr (V4 I.sz hb),fun x c e z=>?_,fun p hp z=>?_⟩
 · obtain ⟨v,q⟩:=I.cell x c e;exact absurd (Vn q.lt (by rw [z];exact hb)) (VS _)
 · exact absurd (Vn (UA (I.pin p hp).1) (by rw [z];exact hb)) (VS _)
structure Turn (P:Uz) (w:UN) (K:Ug) (tg:VC) (J:It) (fp:List Ui) (it:Ui) (tn:Nat->VH->Prop):Prop where
 mem:it∈fp
 obj:∀ i h,tn i h->∀ b∈fp,∃ o,h.get? b=some o/\∀ v,o.data≠.cell v
 keep:∀ i h h',tn i h->(∀ b∈fp,∀ o,h.get? b=some o->h'.get? b=some o)->tn i h'
 item:∀ (X:Cx),X.prog=P->X.w=w->X.K=K->X.calm=true->∀ (i:Nat) (pins:List (Ui×WA)) (s:Ur) (σ:St) (H:Hp) (E:Ul->Ur->Prop),Inv X pins σ H s->(∀ b∈fp,jR X pins H b)->tn i s.heap->J.go i H →
  UC (U0 P w) X.A (Xl (.ref it)) (fun r s1=>∃ u,r=some u ∧
   UC (U0 P w) X.A (Zu tg (.ref it) u) (fun _ s2=>∃ x H',Inv X pins σ H' s2/\RelV x u/\J.yld i H x H'/\tn (i+1) s2.heap/\∀ b∈fp,H' b=none) E s1) E s
 done:∀ (X:Cx),X.prog=P->X.w=w->X.K=K->X.calm=true->∀ (i:Nat) (pins:List (Ui×WA)) (s:Ur) (σ:St) (H:Hp) (E:Ul->Ur->Prop),Inv X pins σ H s->(∀ b∈fp,jR X pins H b)->tn i s.heap->J.stop i H →
  UC (U0 P w) X.A (Xl (.ref it)) (fun r s1=>r=none/\Inv X pins σ H s1) E s
 self:∀ (A:U9) (i:Nat) (s:Ur) (Q:Ul->Ur->Prop) (E:Ul->Ur->Prop),tn i s.heap->Q (.ref it) s->UC (U0 P w) A (pyIter (.ref it)) Q E s
abbrev TI:=St->Hp->(It->Hp->Prop)->Prop
def PIE (X:Cx) (pins:List (Ui×WA)) (σ:St) (tg:VC) (R:It->Hp->Prop) (JF:Ul) (s2:Ur):Prop :=
 ∃ (it:Ui) (fp:List Ui) (tn:Nat->VH->Prop) (J:It) (H':Hp),JF=.ref it/\Inv X pins σ H' s2/\Turn X.prog X.w X.K tg J fp it tn/\tn 0 s2.heap/\(∀ b∈fp,jR X pins H' b)/\R J H'
def PI (X:Cx) (tg iter:VC) (wi:TI):Prop :=
 ∀ (pins:List (Ui×WA)) (s:Ur) (σ:St) (H:Hp) (R:It->Hp->Prop),Inv X pins σ H s->wi σ H R →
   UC (U0 X.prog X.w) X.A (WN iter X.env) (fun v s1=>UC (U0 X.prog X.w) X.A (pyIter v) (PIE X pins σ tg R) X.xe s1) X.xe s
theorem qX {M:Model} {A:U9} {E:Ul->Ur->Prop} {s:Ur} {tg:VC} {it:Ui} {u:Ul} {o:WA} {n:String} {vs:Array Ul} {Q:Unit->Ur->Prop} (ho:s.heap.get? it=some o) (hc:o.cls=.type n) (hd:o.data=.fields vs)
 (hn:["enumerate","zip","dict_itemiterator","dict_reverseitemiterator","odict_iterator","itertools.zip_longest","itertools.pairwise"].contains n=false) (hQ:Q () s):UC M A (Zu tg (.ref it) u) Q E s:=by
 unfold Zu
 cases tg <;> first
  | exact Uq hQ
  | (cases u <;> first
   | exact Uq hQ
   | (refine Ud (wpAny_load ho ?_)
      rw [hc,hd];show UC M A (if (["enumerate","zip","dict_itemiterator","dict_reverseitemiterator","odict_iterator","itertools.zip_longest","itertools.pairwise"].contains n && vs[0]? == some (WM _))=true then _ else _) Q E s;rw [if_neg (by intro h;rw [hn,Bool.false_and] at h;cases h)];exact Uq hQ))
def Itl (K:Ug) (a:Ui):It :=
 ⟨fun i H=>∃ xs x,SqL K H a xs/\xs[i]?=some x,fun i H x H'=>H'=H/\∀ xs,SqL K H a xs->xs[i]?=some x,fun i H=>∃ xs,SqL K H a xs/\xs.length<=i⟩
def Itt (K:Ug) (a:Ui):It :=
 ⟨fun i H=>∃ xs x,SqT K H a xs/\xs[i]?=some x,fun i H x H'=>H'=H/\∀ xs,SqT K H a xs->xs[i]?=some x,fun i H=>∃ xs,SqT K H a xs/\xs.length<=i⟩
def Itr (lo:Int) (n:Nat):It:=⟨fun i _=>i<n,fun i H x H'=>H'=H/\x=.int (lo+i),fun i _=>n<=i⟩
theorem sd {P:Uz} {w:UN} {K:Ug} {tg:VC} (a it:Ui):Turn P w K tg (Itl K a) [it] it (fun i h=>h.IsListIter it a i) where
 mem:=by simp
 obj:=fun i h st b hb=>by
  have e:b=it:=by simpa using hb
  subst e;obtain ⟨o,e,c,d⟩:=st;exact ⟨o,e,fun v z=>by rw [d] at z;cases z⟩
 keep:=fun i h h' st k=>st.at fun o e=>k it (by simp) o e
 item:=by
  intro X hP hw hK hc i pins s σ H E I hf st hg;subst hP hw hK;obtain ⟨xs,x,hq,hx⟩:=hg;obtain ⟨its,rv,p,hz⟩:=I.list hq;obtain ⟨u,hu,ru⟩:=rv.get hx;obtain ⟨f0,f1,f2,f3,f4,f5⟩:=hf it (by simp);refine wpAny_pyNext_list_item st p.isList (x:=u) (by simpa using hu) fun h' B6 sb=>?_;have I1:Inv X pins σ H { s with heap:=h' }:=I.turned (t':=s.toks) (fun b o hb e=>(sb.2 b hb).trans e) f0 f1 f3 f4 f5;obtain ⟨o,e,c,d⟩:=id B6;exact ⟨u,rfl,qX (s:={ s with heap:=h' }) e c d (by decide) ⟨x,H,I1,ru,⟨rfl,fun ys hy=>by rw [I.list_inj hy hq];exact hx⟩,B6,fun b hb=>(hf b hb).1⟩⟩
 done:=by
  intro X hP hw hK hc i pins s σ H E I hf st hg;subst hP hw hK;obtain ⟨xs,hq,hx⟩:=hg;obtain ⟨its,rv,p,hz⟩:=I.list hq;obtain ⟨f0,f1,f2,f3,f4,f5⟩:=hf it (by simp);have hl:=rv.length;exact wpAny_pyNext_list_end (I.ok.hd hc) st p.isList (by simp;omega) fun h' eb=>⟨rfl,I.turned (t':=s.toks) (fun b o hb e=>eb b o hb e) f0 f1 f3 f4 f5⟩
 self:=fun _ _ _ _ _ st h=>wpAny_pyIter_listiter st h
theorem qj {P:Uz} {w:UN} {K:Ug} {tg:VC} (a it:Ui):Turn P w K tg (Itt K a) [it] it (fun i h=>h.IsTupleIter it a i) where
 mem:=by simp
 obj:=fun i h st b hb=>by
  have e:b=it:=by simpa using hb
  subst e;obtain ⟨o,e,c,d⟩:=st;exact ⟨o,e,fun v z=>by rw [d] at z;cases z⟩
 keep:=fun i h h' st k=>st.at fun o e=>k it (by simp) o e
 item:=by
  intro X hP hw hK hc i pins s σ H E I hf st hg;subst hP hw hK;obtain ⟨xs,x,hq,hx⟩:=hg;obtain ⟨its,rv,p,hz⟩:=I.tuple hq;obtain ⟨u,hu,ru⟩:=rv.get hx;obtain ⟨f0,f1,f2,f3,f4,f5⟩:=hf it (by simp);refine wpAny_pyNext_tuple_item st (show s.heap.IsTuple a its.toArray from p) (x:=u) (by simpa using hu) fun h' B6 sb=>?_;have I1:Inv X pins σ H { s with heap:=h' }:=I.turned (t':=s.toks) (fun b o hb e=>(sb.2 b hb).trans e) f0 f1 f3 f4 f5;obtain ⟨o,e,c,d⟩:=id B6;exact ⟨u,rfl,qX (s:={ s with heap:=h' }) e c d (by decide) ⟨x,H,I1,ru,⟨rfl,fun ys hy=>by rw [I.tuple_inj hy hq];exact hx⟩,B6,fun b hb=>(hf b hb).1⟩⟩
 done:=by
  intro X hP hw hK hc i pins s σ H E I hf st hg;subst hP hw hK;obtain ⟨xs,hq,hx⟩:=hg;obtain ⟨its,rv,p,hz⟩:=I.tuple hq;obtain ⟨f0,f1,f2,f3,f4,f5⟩:=hf it (by simp);have hl:=rv.length;exact wpAny_pyNext_tuple_end (I.ok.hd hc) st (show s.heap.IsTuple a its.toArray from p) (by simp;omega) fun h' eb=>⟨rfl,I.turned (t':=s.toks) (fun b o hb e=>eb b o hb e) f0 f1 f3 f4 f5⟩
 self:=fun _ _ _ _ _ st h=>wpAny_pyIter_tupleiter st h
theorem pU {P:Uz} {w:UN} {K:Ug} {tg:VC} (it:Ui) (lo:Int) (n:Nat):Turn P w K tg (Itr lo n) [it] it (fun i h=>IsRangeIter h it (lo+(i:Nat) * 1) ((n:Int) - (i:Nat)) 1) where
 mem:=by simp
 obj:=fun i h st b hb=>by
  have e:b=it:=by simpa using hb
  subst e
  exact ⟨_,st,fun v z=>by
   have z':Data.fields _=Data.cell v:=z;cases z'⟩
 keep:=fun i h h' st k=>k it (by simp) _ st
 item:=by
  intro X hP hw hK hc i pins s σ H E I hf st hg;subst hP hw hK;obtain ⟨f0,f1,f2,f3,f4,f5⟩:=hf it (by simp);have W:=Walks.range (prog:=X.prog) (w:=X.w) (I.ok.hd hc) it lo 1 n;refine W.item i s _ _ hg st fun v h' tk hv B6 kk=>?_;obtain ⟨t,rfl⟩:=hv;have I1:Inv X pins σ H { s with heap:=h',toks:=tk }:=I.turned (fun b o hb e=>kk b o (by simpa using hb) e) f0 f1 f3 f4 f5;refine ⟨_,rfl,qX (s:={ s with heap:=h',toks:=tk }) (n:="range_iterator") B6 rfl rfl (by decide) ⟨.int (lo+i),H,I1,⟨t,?_⟩,⟨rfl,rfl⟩,B6,fun b hb=>(hf b hb).1⟩⟩;rw [Int.mul_one]
 done:=by
  intro X hP hw hK hc i pins s σ H E I hf st hg;subst hP hw hK;obtain ⟨f0,f1,f2,f3,f4,f5⟩:=hf it (by simp);exact wpAny_pyNext_range_end (I.ok.hd hc) st (by have:n<=i:=hg;omega) fun h' eb=>⟨rfl,I.turned (t':=s.toks) (fun b o hb e=>eb b o hb e) f0 f1 f3 f4 f5⟩
 self:=fun _ _ _ _ _ st h=>wpAny_pyIter_rangeiter st h
end L2
namespace L2
open PySem PySem.Spec PyProof.Rows
section
variable {X:Cx} {tg:VC}
def xg (K:Ug) (tl:TE):TI:=fun σ H R=>tl σ H fun x H1=>∃ a,x=.ref a/\(∃ xs,SqL K H1 a xs)/\R (Itl K a) H1
def xG (K:Ug) (tl:TE):TI:=fun σ H R=>tl σ H fun x H1=>∃ a,x=.ref a/\(∃ xs,SqT K H1 a xs)/\R (Itt K a) H1
theorem cz {l:VC} {tl:TE} (hl:PE X l tl):PI X tg l (xg X.K tl):=by
 intro pins s σ H R I h;refine thn (hl pins s σ H _ I h) fun v s1 ⟨x,H1,I1,r1,q1⟩=>?_;obtain ⟨a,e,⟨xs,hq⟩,q⟩:=q1;subst e;cases r1;obtain ⟨its,rv,p,hz⟩:=I1.list hq;refine wpAny_pyIter_list p.isList ?_;refine ⟨s1.heap.objs.size,[s1.heap.objs.size],_,_,H1,rfl,I1.kept (t':=s1.toks) fun b o e=>Up _ e,sd a _,⟨_,Uy _ rfl,rfl,rfl⟩,fun b hb=>?_,q⟩;have e:b=s1.heap.objs.size:=by simpa using hb
 subst e;exact I1.fpOk (Uj _) (I1.hok.fresh (Uj _))
theorem f6 {l:VC} {tl:TE} (hl:PE X l tl):PI X tg l (xG X.K tl):=by
 intro pins s σ H R I h;refine thn (hl pins s σ H _ I h) fun v s1 ⟨x,H1,I1,r1,q1⟩=>?_;obtain ⟨a,e,⟨xs,hq⟩,q⟩:=q1;subst e;cases r1;obtain ⟨its,rv,p,hz⟩:=I1.tuple hq;refine Xz (show s1.heap.IsTuple a its.toArray from p) ?_;refine ⟨s1.heap.objs.size,[s1.heap.objs.size],_,_,H1,rfl,I1.kept (t':=s1.toks) fun b o e=>Up _ e,qj a _,⟨_,Uy _ rfl,rfl,rfl⟩,fun b hb=>?_,q⟩;have e:b=s1.heap.objs.size:=by simpa using hb
 subst e;exact I1.fpOk (Uj _) (I1.hok.fresh (Uj _))
theorem oy {pins:List (Ui×WA)} {σ:St} {H:Hp} {s:Ur} {R:It->Hp->Prop} {E:Ul->Ur->Prop} {lo hi:Int} {t u v:Tok} {tk:Nat} (I:Inv X pins σ H s) (h1:-(2 ^ 62)<=lo) (h2:lo<2 ^ 62) (h3:-(2 ^ 62)<=hi) (h4:hi<2 ^ 62)
 (q:R (Itr lo (hi - lo).toNat) H):UC (U0 X.prog X.w) X.A (pyIter (.ref s.heap.objs.size)) (PIE X pins σ tg R) E { s with heap:=s.heap.push { cls:=.type "range",data:=.fields #[.int lo t,.int hi u,.int 1 v] },toks:=tk }:=by
 refine wpAny_pyIter_range (IsRange.new ..) (small_one h1 h2 h3 h4) ?_;have I1:Inv X pins σ H { s with heap:=s.heap.push { cls:=.type "range",data:=.fields #[.int lo t,.int hi u,.int 1 v] },toks:=tk }:=I.kept fun b o e=>Up _ e
 refine ⟨(s.heap.push { cls:=.type "range",data:=.fields #[.int lo t,.int hi u,.int 1 v] }).objs.size,[(s.heap.push { cls:=.type "range",data:=.fields #[.int lo t,.int hi u,.int 1 v] }).objs.size],_,_,H,rfl,
  I1.kept (t':=tk) fun b o e=>Up _ e,pU _ lo (hi - lo).toNat,?_,fun b hb=>?_,q⟩
 · have e1:lo+((0:Nat):Int) * 1=lo:=by simp
   have e2:(((hi - lo).toNat:Nat):Int) - ((0:Nat):Int)=Builtin.Range.rangeSize lo hi 1:=by rw [rangeSize_one];split <;> omega
   show IsRangeIter _ _ (lo+((0:Nat):Int) * 1) ((((hi - lo).toNat:Nat):Int) - ((0:Nat):Int)) 1;rw [e1,e2];exact Uy _ rfl
 · have e:b=(s.heap.push { cls:=.type "range",data:=.fields #[.int lo t,.int hi u,.int 1 v] }).objs.size:=by simpa using hb
   subst e;exact I1.fpOk (Uj _) (I1.hok.fresh (Uj _))
def xb (ta:TA):TI:=fun σ H R=>ta σ H fun vs H1=>∃ j:Int,vs=[.int j]/\-(2 ^ 62)<=j/\j<2 ^ 62/\R (Itr 0 j.toNat) H1
def wZ (ta:TA):TI:=fun σ H R=>ta σ H fun vs H1=>∃ i j:Int,vs=[.int i,.int j]/\(-(2 ^ 62)<=i/\i<2 ^ 62/\-(2 ^ 62)<=j/\j<2 ^ 62)/\R (Itr i (j - i).toNat) H1
theorem bC {a:VC} {ta:TA} {p pos:Yl} (hg:Gl X "range") (hm:X.mg "range"=none) (ha:PA X [a] ta) (hs:Vm [a] X.env=[(false,WN a X.env)]:=by rfl):PI X tg (.Call (.Name "range" p) [a] [] pos) (xb ta):=by
 intro pins s σ H R I h;refine Call_ (cS I hg hm boot_range (Vj (thn (ha pos pins s σ H _ I h) fun us s1 ⟨vs,H1,I1,r1,q1⟩=>?_) hs rfl));obtain ⟨j,e,q1,q2,q⟩:=q1;subst e;cases r1 with
 | cons r rr =>
   cases rr;obtain ⟨t,rfl⟩:=r;exact call_range_1 (oy I1 (by omega) (by omega) q1 q2 (by simpa using q))
theorem gJ {a b:VC} {ta:TA} {p pos:Yl} (hg:Gl X "range") (hm:X.mg "range"=none) (ha:PA X [a,b] ta) (hs:Vm [a,b] X.env=[(false,WN a X.env),(false,WN b X.env)]:=by rfl) (NV:Vm [b] X.env=[(false,WN b X.env)]:=by rfl) :
 PI X tg (.Call (.Name "range" p) [a,b] [] pos) (wZ ta):=by
 intro pins s σ H R I h;refine Call_ (cS I hg hm boot_range (Vj (thn (ha pos pins s σ H _ I h) fun us s1 ⟨vs,H1,I1,r1,q1⟩=>?_) (by rw [hs,NV]) (by rw [NV];rfl)));obtain ⟨i,j,e,⟨q1,q2,q3,q4⟩,q⟩:=q1;subst e;cases r1 with
 | cons r rr =>
   cases rr with
   | cons r' rr =>
     cases rr;obtain ⟨t,rfl⟩:=r;obtain ⟨t',rfl⟩:=r';exact call_range_2 (oy I1 q1 q2 q3 q4 q)
def xy (wi:TI) (g:TG) (tb:TS):TS:=fun D σ H=>wi σ H fun J H1=>∃ W:Nat->Nat->St->Hp->Prop,(∃ m,W 0 m σ H1)/\∀ i m σ H,W i m σ H →
 (J.stop i H/\D.nx σ H)∨(J.go i H/\∃ N:St->Hp->Prop,(∀ yd H',N yd H'->∃ m',m'<m/\W (i+1) m' yd H')/\∀ x H',J.yld i H x H'->g x σ H' fun yw H2=>tb { D with nx:=N,ct:=N,bk:=D.nx } yw H2)
def lH (fp:List Ui) (h:VH):List (Ui×WA):=fp.filterMap fun b=>(h.get? b).map fun o=>(b,o)
theorem fE {fp:List Ui} {h:VH} {b:Ui} {o:WA} (hb:b∈fp) (e:h.get? b=some o):(b,o)∈lH fp h:=ZA.mpr ⟨b,hb,by rw [e];rfl⟩
theorem sP {fp:List Ui} {h:VH} {p:Ui×WA} (hp:p∈lH fp h):p.1∈fp/\h.get? p.1=some p.2:=by
 obtain ⟨b,hb,e⟩:=ZA.mp hp;cases q:h.get? b with
 | none=>rw [q] at e;cases e
 | some o =>
   rw [q] at e;have e':(b,o)=p:=UR e;subst e';exact ⟨hb,q⟩
theorem Inv.pinned {pins:List (Ui×WA)} {σ:St} {H:Hp} {s:Ur} {fp:List Ui} (I:Inv X pins σ H s) (hf:∀ b∈fp,jR X pins H b) (ho:∀ b∈fp,∃ o,s.heap.get? b=some o/\∀ v,o.data≠.cell v):Inv X (pins++lH fp s.heap) σ H s :=
 I.pins_of fun p hp=>(Ve.mp hp).elim (fun z=>I.pin p (Vc _ z)) fun z=>by
  obtain ⟨hb,e⟩:=sP z;obtain ⟨f0,f1,f2,_⟩:=hf p.1 hb;obtain ⟨o,e',d⟩:=ho p.1 hb;rw [e] at e';cases e';exact ⟨e,f0,f1,f2,d⟩
theorem Inv.unpinned {pins pl:List (Ui×WA)} {σ:St} {H:Hp} {s:Ur} (I:Inv X (pins++pl) σ H s):Inv X pins σ H s:=I.pins_of fun p hp=>I.pin p (Vc _ (Vi _ hp))
theorem bx {iter:VC} {body:List Wk} {wi:TI} {g:TG} {tb:TS} {pos:Yl} (hp:PassesOwn (U0 X.prog X.w) X.A X.env X.xe) (hc:X.calm=true) (hi:PI X tg iter wi) (hg:PG X tg g) (hb:PSs X body tb)
 (hs:∀ x,foldedSetIterable iter X.env x=pure x:=by intro _;rfl):PS X (.For tg iter body [] pos) (xy wi g tb):=by
 intro pins s σ H D I h;refine wpAny_For (thn (hi pins s σ H _ I h) fun v s1 h1=>thn h1 fun JF s2 h2=>?_) hs;obtain ⟨it,fp,tn,J,H2,e,I2,T,A',f2,W,⟨m0,w0⟩,turn⟩:=h2;subst e
 -- GB stays true of AQ EO objects through AQ loop
 have Ba:∀ {H':Hp},(∀ b∈fp,H' b=none)->∀ b∈fp,jR X pins H' b:=fun hn b hb=>⟨hn b hb,(f2 b hb).2⟩;refine codeAny_forLoop_any (fun n s'=>∃ i yd H',Inv X pins yd H' s'/\tn i s'.heap/\(∀ b∈fp,H' b=none)/\W i n yd H') ?_ m0 ⟨0,σ,H2,I2,A',fun b hb=>(f2 b hb).1,w0⟩;rintro n s3 ⟨i,Cp,H3,I3,NW,NX,w3⟩;rcases turn i n Cp H3 w3 with ⟨stop,qn⟩ | ⟨go,N,hN,step⟩
 · refine XB hp (thn (T.done X rfl rfl rfl hc i pins s3 Cp H3 X.xe I3 (Ba NX) NW stop) fun r s4 ⟨hr,I4⟩=>?_);subst hr;exact Zt ⟨Cp,H3,I4,qn⟩
 · refine XB hp (thn (T.item X rfl rfl rfl hc i pins s3 Cp H3 X.xe I3 (Ba NX) NW go) fun r s4 ⟨u,hr,h4⟩=>?_);subst hr;refine XB hp (thn h4 fun _ s5 ⟨x,H5,I5,r5,y5,FZ,JG⟩=>?_);have PV:=I5.pinned (Ba JG) (T.obj _ _ FZ);refine XB hp (thn (hg _ s5 Cp H5 x u _ PV r5 (step x H5 y5)) fun _ s6 ⟨PX,H6,I6,q6⟩=>?_);refine XB hp (thn (hb _ s6 PX H6 _ I6 q6) fun f s7 q7=>?_)
   have again:∀ {Cq:St} {H7:Hp},Inv X (pins++lH fp s5.heap) Cq H7 s7->N Cq H7->∃ m,m<n/\∃ i yd H',Inv X pins yd H' s7/\tn i s7.heap/\(∀ b∈fp,H' b=none)/\W i m yd H':=fun {Cq H7} I7 n7=>by
    obtain ⟨m',hm,w7⟩:=hN Cq H7 n7;refine ⟨m',hm,i+1,Cq,H7,I7.unpinned,T.keep _ _ _ FZ fun b hb o e=>(I7.pin (b,o) (Vc _ (Vc _ (fE hb e)))).1,fun b hb=>?_,w7⟩;obtain ⟨o,e,d⟩:=T.obj _ _ FZ b hb;exact (I7.pin (b,o) (Vc _ (Vc _ (fE hb e)))).2.1
   cases f with
   | next=>obtain ⟨Cq,H7,I7,n7⟩:=q7;exact again I7 n7
   | cont=>obtain ⟨Cq,H7,I7,n7⟩:=q7;exact again I7 n7
   | brk=>obtain ⟨Cq,H7,I7,q7⟩:=q7;exact ⟨Cq,H7,I7.unpinned,q7⟩
   | ret v=>obtain ⟨x7,Cq,H7,I7,r7,q7⟩:=q7;exact ⟨x7,Cq,H7,I7.unpinned,r7,q7⟩
end
theorem eX {K:Ug} {a:Ui} {xs:List V} {g:TG} {tb:TS} {D:Ends} {σ:St} {H:Hp} (Pv:Nat->St->Hp->Prop) (h0:Pv 0 σ H) (hl:∀ i σ H,i<=xs.length->Pv i σ H->SqL K H a xs)
 (hs:∀ i x σ H,xs[i]?=some x->Pv i σ H->g x σ H fun yw H2=>tb { D with nx:=Pv (i+1),ct:=Pv (i+1),bk:=D.nx } yw H2) (hd:∀ σ H,Pv xs.length σ H->D.nx σ H) :
 ∃ W:Nat->Nat->St->Hp->Prop,(∃ m,W 0 m σ H)/\∀ i m σ H,W i m σ H →
   ((Itl K a).stop i H/\D.nx σ H)∨((Itl K a).go i H/\∃ N:St->Hp->Prop,(∀ yd H',N yd H'->∃ m',m'<m/\W (i+1) m' yd H')/\∀ x H',(Itl K a).yld i H x H'->g x σ H' fun yw H2=>tb { D with nx:=N,ct:=N,bk:=D.nx } yw H2):=by
 refine ⟨fun i m σ H=>m=xs.length - i/\i<=xs.length/\Pv i σ H,⟨xs.length,by simp,UO _,h0⟩,?_⟩;rintro i m σ H ⟨rfl,hi,p⟩;have q:=hl i σ H hi p;by_cases ym:i<xs.length
 · refine .inr ⟨⟨xs,xs[i],q,by simp [ym]⟩,Pv (i+1),fun yd H' p'=>⟨xs.length - (i+1),by omega,rfl,ym,p'⟩,fun x H' y=>?_⟩;obtain ⟨e,y⟩:=y;subst e;exact hs i x σ _ (y xs q) p
 · have e:i=xs.length:=by omega
   subst e;exact .inl ⟨⟨xs,q,Uj _⟩,hd σ H p⟩
theorem qZ {K:Ug} {a:Ui} {xs:List V} {g:TG} {tb:TS} {D:Ends} {σ:St} {H:Hp} (Pv:Nat->St->Hp->Prop) (h0:Pv 0 σ H) (hl:∀ i σ H,i<=xs.length->Pv i σ H->SqT K H a xs)
 (hs:∀ i x σ H,xs[i]?=some x->Pv i σ H->g x σ H fun yw H2=>tb { D with nx:=Pv (i+1),ct:=Pv (i+1),bk:=D.nx } yw H2) (hd:∀ σ H,Pv xs.length σ H->D.nx σ H) :
 ∃ W:Nat->Nat->St->Hp->Prop,(∃ m,W 0 m σ H)/\∀ i m σ H,W i m σ H →
   ((Itt K a).stop i H/\D.nx σ H)∨((Itt K a).go i H/\∃ N:St->Hp->Prop,(∀ yd H',N yd H'->∃ m',m'<m/\W (i+1) m' yd H')/\∀ x H',(Itt K a).yld i H x H'->g x σ H' fun yw H2=>tb { D with nx:=N,ct:=N,bk:=D.nx } yw H2):=by
 refine ⟨fun i m σ H=>m=xs.length - i/\i<=xs.length/\Pv i σ H,⟨xs.length,by simp,UO _,h0⟩,?_⟩;rintro i m σ H ⟨rfl,hi,p⟩;have q:=hl i σ H hi p;by_cases ym:i<xs.length
 · refine .inr ⟨⟨xs,xs[i],q,by simp [ym]⟩,Pv (i+1),fun yd H' p'=>⟨xs.length - (i+1),by omega,rfl,ym,p'⟩,fun x H' y=>?_⟩;obtain ⟨e,y⟩:=y;subst e;exact hs i x σ _ (y xs q) p
 · have e:i=xs.length:=by omega
   subst e;exact .inl ⟨⟨xs,q,Uj _⟩,hd σ H p⟩
theorem bP {lo:Int} {n:Nat} {g:TG} {tb:TS} {D:Ends} {σ:St} {H:Hp} (Pv:Nat->St->Hp->Prop) (h0:Pv 0 σ H)
 (hs:∀ i σ H,i<n->Pv i σ H->g (.int (lo+i)) σ H fun yw H2=>tb { D with nx:=Pv (i+1),ct:=Pv (i+1),bk:=D.nx } yw H2) (hd:∀ σ H,Pv n σ H->D.nx σ H) :
 ∃ W:Nat->Nat->St->Hp->Prop,(∃ m,W 0 m σ H)/\∀ i m σ H,W i m σ H →
   ((Itr lo n).stop i H/\D.nx σ H)∨((Itr lo n).go i H/\∃ N:St->Hp->Prop,(∀ yd H',N yd H'->∃ m',m'<m/\W (i+1) m' yd H')/\∀ x H',(Itr lo n).yld i H x H'->g x σ H' fun yw H2=>tb { D with nx:=N,ct:=N,bk:=D.nx } yw H2):=by
 refine ⟨fun i m σ H=>m=n - i/\i<=n/\Pv i σ H,⟨n,by simp,UO _,h0⟩,?_⟩;rintro i m σ H ⟨rfl,hi,p⟩;by_cases ym:i<n
 · refine .inr ⟨ym,Pv (i+1),fun yd H' p'=>⟨n - (i+1),by omega,rfl,ym,p'⟩,fun x H' y=>?_⟩;obtain ⟨e,y⟩:=y;subst e y;exact hs i σ _ ym p
 · have e:i=n:=by omega
   subst e;exact .inl ⟨Uj _,hd σ H p⟩
end L2
namespace L2
open PySem PySem.Spec PyProof.Rows
abbrev R2:=V->V->Hp->VK->Prop
def OpR (X:Cx) (f:Ul->Ul->Sem Ul) (r:R2):Prop :=
 ∀ (pins:List (Ui×WA)) (s:Ur) (σ:St) (H:Hp) (x y:V) (v u:Ul) (Q:VK),Inv X pins σ H s->RelV x v->RelV y u->r x y H Q →
   UC (U0 X.prog X.w) X.A (f v u) (EP X pins σ Q) X.xe s
def UnR (X:Cx) (f:Ul->Sem Ul) (r:V->Hp->VK->Prop):Prop :=
 ∀ (pins:List (Ui×WA)) (s:Ur) (σ:St) (H:Hp) (x:V) (v:Ul) (Q:VK),Inv X pins σ H s->RelV x v->r x H Q →
   UC (U0 X.prog X.w) X.A (f v) (EP X pins σ Q) X.xe s
def g9 (X:Cx) (f:Ul) (r:List V->Hp->VK->Prop):Prop :=
 ∀ (pins:List (Ui×WA)) (s:Ur) (σ:St) (H:Hp) (xs:List V) (us:List Ul) (Q:VK),Inv X pins σ H s->Vals xs us->r xs H Q →
   UC (U0 X.prog X.w) X.A (call f us) (EP X pins σ Q) X.xe s
def xZ (X:Cx) (r:V->Hp->(Bool->Hp->Prop)->Prop):Prop :=
 ∀ (pins:List (Ui×WA)) (s:Ur) (σ:St) (H:Hp) (x:V) (v:Ul) (Q:Bool->Hp->Prop),Inv X pins σ H s->RelV x v->r x H Q →
   UC (U0 X.prog X.w) X.A (truthy v) (TP X pins σ Q) X.xe s
def tOp (r:R2) (ta tb:TE):TE:=fun σ H Q=>ta σ H fun x H1=>tb σ H1 fun y H2=>r x y H2 Q
def tUn (r:V->Hp->VK->Prop) (ta:TE):TE:=fun σ H Q=>ta σ H fun x H1=>r x H1 Q
inductive IrI (C:Int->Int->Prop) (g:Int->Int->V) (x:V) (y:V) (H:Hp) (Q:VK):Prop
 | mk (i:_) (j:_) (yp:x=.int i) (yq:y=.int j) (yz:C i j) (yF:Q (g i j) H):IrI C g x y H Q
def rI (C:Int->Int->Prop) (g:Int->Int->V):R2:=IrI C g
inductive xc (g:Int->Int->V) (x:V) (y:V) (H:Hp) (Q:VK):Prop
 | mk (i:_) (j:_) (yp:x=.int i) (yq:y=.int j) (yz:Q (g i j) H):xc g x y H Q
def rI0 (g:Int->Int->V):R2:=xc g
inductive IrU (g:Int->V) (x:V) (H:Hp) (Q:VK):Prop
 | mk (i:_) (yp:x=.int i) (yq:Q (g i) H):IrU g x H Q
def rU (g:Int->V):V->Hp->VK->Prop:=IrU g
section
variable {X:Cx} {a b c:VC} {ta tb tc:TE} {pos:Yl}
theorem vZ (ha:PE X a ta) (hb:PE X b tb) {pins:List (Ui×WA)} {s:Ur} {σ:St} {H:Hp} {R:V->V->Hp->Prop} (I:Inv X pins σ H s)
 (h:ta σ H fun x H1=>tb σ H1 fun y H2=>R x y H2) {Q:Ul->Ur->Prop} {f:Ul->Ul->Sem Ul}
 (hf:∀ v u s2 x y H2,Inv X pins σ H2 s2->RelV x v->RelV y u->R x y H2->UC (U0 X.prog X.w) X.A (f v u) Q X.xe s2) :
 UC (U0 X.prog X.w) X.A (WN a X.env) (fun v ye=>UC (U0 X.prog X.w) X.A (WN b X.env) (fun u yP=>UC (U0 X.prog X.w) X.A (f v u) Q X.xe yP) X.xe ye) X.xe s:=by
 refine thn (ha pins s σ H _ I h) fun v s1 ⟨x,H1,I1,r1,q1⟩=>?_;refine thn (hb pins s1 σ H1 _ I1 q1) fun u s2 ⟨y,H2,I2,r2,q2⟩=>?_;exact hf v u s2 x y H2 I2 r1 r2 q2
theorem ax {op:Operator} {r:R2} (ho:OpR X (X9 op) r) (ha:PE X a ta) (hb:PE X b tb):PE X (.BinOp a op b pos) (tOp r ta tb):=by
 intro pins s σ H Q I h;exact wpAny_BinOp (vZ ha hb I h fun v u s2 x y H2 I2 rx ry q=>ho pins s2 σ H2 x y v u Q I2 rx ry q)
theorem xq {op:UnaryOp} {r:V->Hp->VK->Prop} (ho:UnR X (unaryOp op) r) (ha:PE X a ta):PE X (.UnaryOp op a pos) (tUn r ta):=by
 intro pins s σ H Q I h;exact UnaryOp_ (thn (ha pins s σ H _ I h) fun v s1 ⟨x,H1,I1,r1,q1⟩=>ho pins s1 σ H1 x v Q I1 r1 q1)
theorem opI {f:Ul->Ul->Sem Ul} {C:Int->Int->Prop} {g:Int->Int->Int}
 (rule:∀ (i j:Int) (t u:Tok) (s:Ur) (Q:Ul->Ur->Prop) (E:Ul->Ur->Prop),C i j->Q (.int (g i j) s.toks) { s with toks:=s.toks+1 }->UC (U0 X.prog X.w) X.A (f (.int i t) (.int j u)) Q E s) :
 OpR X f (rI C fun i j=>.int (g i j)):=by
 intro pins s σ H x y v u Q I rx ry h;obtain ⟨i,j,rfl,rfl,hc,q⟩:=h;obtain ⟨t,rfl⟩:=rx;obtain ⟨t',rfl⟩:=ry;exact rule i j t t' s _ _ hc ⟨.int (g i j),H,I.tok _,⟨_,rfl⟩,q⟩
theorem wP {f:Ul->Ul->Sem Ul} {g:Int->Int->Int}
 (rule:∀ (i j:Int) (t u:Tok) (s:Ur) (Q:Ul->Ur->Prop) (E:Ul->Ur->Prop),Q (.int (g i j) s.toks) { s with toks:=s.toks+1 }->UC (U0 X.prog X.w) X.A (f (.int i t) (.int j u)) Q E s) :
 OpR X f (rI0 fun i j=>.int (g i j)):=by
 intro pins s σ H x y v u Q I rx ry h;obtain ⟨i,j,rfl,rfl,q⟩:=h;obtain ⟨t,rfl⟩:=rx;obtain ⟨t',rfl⟩:=ry;exact rule i j t t' s _ _ ⟨.int (g i j),H,I.tok _,⟨_,rfl⟩,q⟩
theorem we {f:Ul->Ul->Sem Ul} {g:Int->Int->Bool}
 (rule:∀ (i j:Int) (t u:Tok) (s:Ur) (Q:Ul->Ur->Prop) (E:Ul->Ur->Prop),Q (.bool (g i j)) s->UC (U0 X.prog X.w) X.A (f (.int i t) (.int j u)) Q E s) :
 OpR X f (rI0 fun i j=>.bl (g i j)):=by
 intro pins s σ H x y v u Q I rx ry h;obtain ⟨i,j,rfl,rfl,q⟩:=h;obtain ⟨t,rfl⟩:=rx;obtain ⟨t',rfl⟩:=ry;exact rule i j t t' s _ _ ⟨.bl (g i j),H,I,rfl,q⟩
def yb (i j:Int):Prop:=0<j/\j<1073741824
def xI (i j:Int):Prop:=0<=j/\j<=1000000/\i.natAbs<2 ^ 64
def CMul (i j:Int):Prop:=(-(2 ^ 64)<i/\i<2 ^ 64)∨(-(2 ^ 64)<j/\j<2 ^ 64)
theorem CMul.ok {i j:Int} (h:CMul i j):IntMulOk i j:=by
 rcases h with ⟨h1,h2⟩ | ⟨h1,h2⟩
 · exact .of_left (intBits_le_64 h1 h2)
 · exact .of_right (intBits_le_64 h1 h2)
theorem bF:OpR X (X9 .Add) (rI0 fun i j=>.int (i+j)):=wP fun _ _ _ _ _ _ _ q=>add_int q
theorem f9:OpR X (X9 .Sub) (rI0 fun i j=>.int (i - j)):=wP fun _ _ _ _ _ _ _ q=>sub_int q
theorem cT:OpR X (X9 .Mult) (rI CMul fun i j=>.int (i * j)):=opI fun _ _ _ _ _ _ _ hc q=>mul_int q hc.ok
theorem b9:OpR X (X9 .FloorDiv) (rI yb fun i j=>.int (i / j)):=opI fun i j _ _ _ _ _ hc q=>by
 have h1:(0:Int)<j:=hc.1;have h2:j<1073741824:=hc.2;exact floordiv_int (by omega) (by rw [Int.fdiv_eq_ediv_of_nonneg i (by omega)];exact q) (.inl (PyProof.noPylong_small (by omega)))
theorem bH:OpR X (X9 .Mod) (rI (fun _ j=>0<j) fun i j=>.int (i%j)):=opI fun i j _ _ _ _ _ hc q=>by
 have h1:(0:Int)<j:=hc;exact mod_int' (by omega) (by rw [Int.fmod_eq_emod_of_nonneg i (by omega)];exact q)
theorem qy:OpR X (X9 .Pow) (rI xI fun i j=>.int (i ^ j.toNat)):=opI fun _ _ _ _ _ _ _ hc q=>pow_int_small hc.1 hc.2.1 hc.2.2 q
theorem unI {f:Ul->Sem Ul} {g:Int->Int}
 (rule:∀ (i:Int) (t:Tok) (s:Ur) (Q:Ul->Ur->Prop) (E:Ul->Ur->Prop),Q (.int (g i) s.toks) { s with toks:=s.toks+1 }->UC (U0 X.prog X.w) X.A (f (.int i t)) Q E s) :
 UnR X f (rU fun i=>.int (g i)):=by
 intro pins s σ H x v Q I rx h;obtain ⟨i,rfl,q⟩:=h;obtain ⟨t,rfl⟩:=rx;exact rule i t s _ _ ⟨.int (g i),H,I.tok _,⟨_,rfl⟩,q⟩
theorem vW:UnR X (unaryOp .USub) (rU fun i=>.int (-i)):=unI fun _ _ _ _ _ q=>neg_int q
end
def wO:V->V->Bool
 | .non,.non=>true | .non,.int _=>true | .int _,.non=>true | .non,.bl _=>true | .bl _,.non=>true | .non,.str _=>true | .str _,.non=>true
 | .int _,.int _=>true | .bl _,.bl _=>true | .str _,.str _=>true | .byt _,.byt _=>true
 | .int _,.str _=>true | .str _,.int _=>true | .bl _,.str _=>true | .str _,.bl _=>true
 | _,_=>false
inductive w6 (x:V) (y:V) (H:Hp) (Q:VK):Prop
 | mk  (yp:wO x y=true) (yq:Q (.bl (decide (x=y))) H):w6  x y H Q
def rEq:R2:=w6
inductive wE (x:V) (y:V) (H:Hp) (Q:VK):Prop
 | mk  (yp:wO x y=true) (yq:Q (.bl (!decide (x=y))) H):wE  x y H Q
def rNe:R2:=wE
theorem rB {i j:Int}:decide (V.int i=V.int j)=(i == j):=by
 rw [Yw];simp
theorem uf {i j:Bool}:decide (V.bl i=V.bl j)=(i == j):=by
 rw [Yw];simp
theorem qV {i j:US}:decide (V.str i=V.str j)=(i == j):=by
 rw [Yw];simp
theorem qU {i j:Array UInt8}:decide (V.byt i=V.byt j)=(i.toList == j.toList):=by
 rw [Yw];cases i;cases j;simp
section
variable {X:Cx} {a b c:VC} {ta tb tc:TE} {pos:Yl}
theorem aZ {pins:List (Ui×WA)} {σ:St} {H:Hp} {s:Ur} {Q:VK} {k k':Bool} (I:Inv X pins σ H s) (q:Q (.bl k) H) (e:k=k'):EP X pins σ Q (.bool k') s:=by
 subst e;exact ⟨.bl k,H,I,rfl,q⟩
theorem cG:OpR X (Xr .Eq) rEq:=by
 intro pins s σ H x y v u Q I rx ry h;obtain ⟨hs,q⟩:=h;cases x with
 | non =>
   cases rx;cases y with
   | non=>cases ry;exact PySem.EqNone.eq_none_none (aZ I q (by simp))
   | bl j=>cases ry;exact PySem.EqNone.eq_none_bool (aZ I q (by simp))
   | int j=>obtain ⟨t',rfl⟩:=ry;exact PySem.EqNone.eq_none_int (aZ I q (by simp))
   | str j=>obtain ⟨t',rfl⟩:=ry;exact PySem.EqNone.eq_none_str (aZ I q (by simp))
   | _=>exact absurd (show false=true from hs) UI
 | bl i =>
   cases rx;cases y with
   | non=>cases ry;exact PySem.EqNone.eq_bool_none (aZ I q (by simp))
   | bl j=>cases ry;exact eq_bool (aZ I q uf)
   | str j=>obtain ⟨t',rfl⟩:=ry;exact PySem.EqMixed.eq_bool_str (aZ I q (by simp))
   | _=>exact absurd (show false=true from hs) UI
 | int i =>
   obtain ⟨t,rfl⟩:=rx;cases y with
   | non=>cases ry;exact PySem.EqNone.eq_int_none (aZ I q (by simp))
   | int j=>obtain ⟨t',rfl⟩:=ry;exact eq_int (aZ I q rB)
   | str j=>obtain ⟨t',rfl⟩:=ry;exact PySem.EqMixed.eq_int_str (aZ I q (by simp))
   | _=>exact absurd (show false=true from hs) UI
 | str i =>
   obtain ⟨t,rfl⟩:=rx;cases y with
   | non=>cases ry;exact PySem.EqNone.eq_str_none (aZ I q (by simp))
   | bl j=>cases ry;exact PySem.EqMixed.eq_str_bool (aZ I q (by simp))
   | int j=>obtain ⟨t',rfl⟩:=ry;exact PySem.EqMixed.eq_str_int (aZ I q (by simp))
   | str j=>obtain ⟨t',rfl⟩:=ry;exact eq_str (aZ I q qV)
   | _=>exact absurd (show false=true from hs) UI
 | byt i =>
   obtain ⟨t,rfl⟩:=rx;cases y with
   | byt j=>obtain ⟨t',rfl⟩:=ry;exact PySem.W.eq_bytes (aZ I q qU)
   | _=>exact absurd (show false=true from hs) UI
 | _=>cases y <;> exact absurd (show false=true from hs) UI
theorem oM:OpR X (Xr .NotEq) rNe:=by
 intro pins s σ H x y v u Q I rx ry h;obtain ⟨hs,q⟩:=h;cases x with
 | non =>
   cases rx;cases y with
   | non=>cases ry;exact PySem.EqNone.ne_none_none (aZ I q (by simp))
   | bl j=>cases ry;exact PySem.EqNone.ne_none_bool (aZ I q (by simp))
   | int j=>obtain ⟨t',rfl⟩:=ry;exact PySem.EqNone.ne_none_int (aZ I q (by simp))
   | str j=>obtain ⟨t',rfl⟩:=ry;exact PySem.EqNone.ne_none_str (aZ I q (by simp))
   | _=>exact absurd (show false=true from hs) UI
 | bl i =>
   cases rx;cases y with
   | non=>cases ry;exact PySem.EqNone.ne_bool_none (aZ I q (by simp))
   | bl j=>cases ry;exact ne_bool (aZ I q (congrArg not uf))
   | str j=>obtain ⟨t',rfl⟩:=ry;exact PySem.EqMixed.ne_bool_str (aZ I q (by simp))
   | _=>exact absurd (show false=true from hs) UI
 | int i =>
   obtain ⟨t,rfl⟩:=rx;cases y with
   | non=>cases ry;exact PySem.EqNone.ne_int_none (aZ I q (by simp))
   | int j=>obtain ⟨t',rfl⟩:=ry;exact ne_int (aZ I q (congrArg not rB))
   | str j=>obtain ⟨t',rfl⟩:=ry;exact PySem.EqMixed.ne_int_str (aZ I q (by simp))
   | _=>exact absurd (show false=true from hs) UI
 | str i =>
   obtain ⟨t,rfl⟩:=rx;cases y with
   | non=>cases ry;exact PySem.EqNone.ne_str_none (aZ I q (by simp))
   | bl j=>cases ry;exact PySem.EqMixed.ne_str_bool (aZ I q (by simp))
   | int j=>obtain ⟨t',rfl⟩:=ry;exact PySem.EqMixed.ne_str_int (aZ I q (by simp))
   | str j=>obtain ⟨t',rfl⟩:=ry;exact ne_str (aZ I q (congrArg not qV))
   | _=>exact absurd (show false=true from hs) UI
 | byt i =>
   obtain ⟨t,rfl⟩:=rx;cases y with
   | byt j=>obtain ⟨t',rfl⟩:=ry;exact PySem.W.ne_bytes (aZ I q (congrArg not qU))
   | _=>exact absurd (show false=true from hs) UI
 | _=>cases y <;> exact absurd (show false=true from hs) UI
theorem mJ:OpR X (Xr .Lt) (rI0 fun i j=>.bl (decide (i<j))):=we fun _ _ _ _ _ _ _ q=>lt_int q
theorem xm:OpR X (Xr .LtE) (rI0 fun i j=>.bl (decide (i<=j))):=we fun _ _ _ _ _ _ _ q=>le_int q
theorem mB:OpR X (Xr .Gt) (rI0 fun i j=>.bl (decide (j<i))):=we fun _ _ _ _ _ _ _ q=>gt_int q
theorem vV:OpR X (Xr .Is) (fun x y H Q=>y=.non/\Q (.bl (decide (x=.non))) H):=by
 intro pins s σ H x y v u Q I rx ry h;obtain ⟨rfl,q⟩:=h;cases ry;refine is_none_gen (aZ I q ?_)
 cases x <;> first
  | (cases rx;rfl)
  | (obtain ⟨t,rfl⟩:=rx;rfl)
theorem aO (b:VC) {op:CmpOp} (h:op≠.In:=by decide) (h2:op≠.NotIn:=by decide):Zd op b=false:=by
 have e1:(op == CmpOp.In)=false:=by cases op <;> first | rfl | exact absurd rfl h
 have e2:(op == CmpOp.NotIn)=false:=by cases op <;> first | rfl | exact absurd rfl h2
 cases b <;> simp [Zd,e1,e2]
theorem i7 {op:CmpOp} {r:R2} (ho:OpR X (Xr op) r) (ha:PE X a ta) (hb:PE X b tb) (hm:Zd op b=false):PE X (.Compare a [op] [b] pos) (tOp r ta tb):=by
 intro pins s σ H Q I h;exact wpAny_Compare1 (vZ ha hb I h fun v u s2 x y H2 I2 rx ry q=>ho pins s2 σ H2 x y v u Q I2 rx ry q) hm
inductive vH (x:V) (Q:Bool->Hp->Prop) (H':Hp):Prop
 | mk (k:Bool) (yp:x=.bl k) (yq:Q k H'):vH x Q H'
def qL (t:TE):TT:=fun σ H Q=>t σ H fun x H'=>vH x Q H'
theorem aK {op:CmpOp} {r:R2} (ho:OpR X (Xr op) r) (ha:PE X a ta) (hb:PE X b tb) (hm:Zd op b=false):PT X (.Compare a [op] [b] pos) (qL (tOp r ta tb)):=by
 intro pins s σ H Q I h
 refine wpAny_isTrue_Compare1 (thn (ha pins s σ H _ I h) fun v s1 ⟨x,H1,I1,r1,q1⟩=>thn (hb pins s1 σ H1 _ I1 q1) fun u s2 ⟨y,H2,I2,r2,q2⟩ =>
  thn (ho pins s2 σ H2 x y v u _ I2 r1 r2 q2) fun c s3 ⟨z,H3,I3,r3,k,e,q3⟩=>?_) hm
 subst e;cases r3;exact XO ⟨H3,I3,q3⟩
def uI (K:Ug) (x:V) (H:Hp) (k:Bool):Prop :=
 match x with
 | .non=>k=false
 | .bl b=>k=b
 | .int i=>k=(i != 0)
 | .str y=>y.length<=UD/\k=((y.length:Int) != 0)
 | .byt y=>y.size<=UD/\k=((y.size:Int) != 0)
 | .ref p=>(∃ xs,SqL K H p xs/\k=!xs.isEmpty)∨(∃ xs,SqT K H p xs/\k=!xs.isEmpty)∨∃ f',H p=some (.dK f')/\k=!f'.isEmpty
 | _=>False
theorem pL {κ:Type} {f':List (κ×V)} {vs:List (κ×Ul)} (r:KV f' vs):(!vs.isEmpty)=!f'.isEmpty:=by
 cases r <;> rfl
theorem kQ {xs:List V} {its:List Ul} (r:Vals xs its):(!its.toArray.isEmpty)=!xs.isEmpty:=by
 cases r <;> simp
theorem fk:(UD:Nat)<2 ^ 63:=by rw [Yj];decide
theorem vT:xZ X (fun x H Q=>∃ k,uI X.K x H k/\Q k H):=by
 intro pins s σ H x v Q I rx h;obtain ⟨k,e,q⟩:=h;have hl:=fk;have hs:UD=16777216:=Yj;cases x with
 | non =>
   cases rx;have e':k=false:=e;subst e';exact truthy_none ⟨H,I,q⟩
 | bl b =>
   cases rx;have e':k=b:=e;subst e';exact XO ⟨H,I,q⟩
 | int i =>
   obtain ⟨t,rfl⟩:=rx;have e':k=(i != 0):=e;subst e';exact PySem.P.truthy_int ⟨H,I,q⟩
 | str y =>
   obtain ⟨t,rfl⟩:=rx;obtain ⟨hy,e'⟩:y.length<=UD/\k=((y.length:Int) != 0):=e;subst e';exact PySem.P.truthy_str (by omega) ⟨H,I.tok _,q⟩
 | byt y =>
   obtain ⟨t,rfl⟩:=rx;obtain ⟨hy,e'⟩:y.size<=UD/\k=((y.size:Int) != 0):=e;subst e';exact PySem.W.truthy_bytes (by omega) ⟨H,I.tok _,q⟩
 | ref p =>
   cases rx;have e':(∃ xs,SqL X.K H p xs/\k=!xs.isEmpty)∨(∃ xs,SqT X.K H p xs/\k=!xs.isEmpty)∨∃ f',H p=some (.dK f')/\k=!f'.isEmpty:=e;rcases e' with ⟨xs,hx,e'⟩ | ⟨xs,hx,e'⟩ | ⟨f',hx,e'⟩
   · subst e';obtain ⟨its,r,pl,hz⟩:=I.list hx;have hlen:=r.length;exact wpAny_truthy_list pl.isList (by simp only [Uu];omega) ⟨H,I.tok _,by rw [kQ r];exact q⟩
   · subst e';obtain ⟨its,r,pl,hz⟩:=I.tuple hx;have hlen:=r.length;exact truthy_tuple pl (by simp only [Uu];omega) ⟨H,I.tok _,by rw [kQ r];exact q⟩
   · subst e';obtain ⟨hz,hS,vs,r,m⟩:f'.length<=UD/\(p == Wg)=false/\∃ vs,KV f' vs/\s.heap.DictOf (aG X.prog X.w) p vs:=I.hok p _ hx;have hlen:f'.length=vs.length:=Uv r;exact wpAny_truthy_dict hS m (by omega) ⟨H,I.tok _,by rw [pL r];exact q⟩
 | _=>exact (show False from e).elim
theorem aY (ha:PE X a ta) (he:∀ whole,isTrue a X.env whole=(do let v ← whole;standAt a.pos;holding [v] (truthy v))) :
 PT X a (fun σ H Q=>ta σ H fun x H'=>∃ k,uI X.K x H' k/\Q k H'):=by
 intro pins s σ H Q I h;exact isTrue_plain (thn (ha pins s σ H _ I h) fun v s1 ⟨x,H1,I1,r1,q1⟩=>vT pins s1 σ H1 x v Q I1 r1 q1) (he _)
theorem iC:OpR X (X9 .Add) (fun x y H Q=>∃ i j,x=.str i/\y=.str j/\i.length+j.length<=UD/\Q (.str (i++j)) H):=by
 intro pins s σ H x y v u Q I rx ry h;obtain ⟨i,j,rfl,rfl,hz,q⟩:=h;obtain ⟨t,rfl⟩:=rx;obtain ⟨t',rfl⟩:=ry;exact add_str (fun t' tk=>⟨.str (i++j),H,I.tok _,⟨_,rfl⟩,q⟩) hz
theorem vals1 {x:V} {us:List Ul} (r:Vals [x] us):∃ u,us=[u]/\RelV x u:=by
 cases r with
 | cons r1 r2=>cases r2;exact ⟨_,rfl,r1⟩
theorem vals2 {x y:V} {us:List Ul} (r:Vals [x,y] us):∃ u w',us=[u,w']/\RelV x u/\RelV y w':=by
 cases r with
 | cons r1 r2 =>
   cases r2 with
   | cons r3 r4=>cases r4;exact ⟨_,_,rfl,r1,r3⟩
end
end L2
namespace L2
open PySem PySem.Spec PyProof.Rows
structure ObjM (h:VH) (x dx C:Ui) (mA:US->Option Ul):Prop where
 obj:h.get? x=some (PySem.W.instObj C dx)
 ns:h.Ns1 dx mA
 ne:dx≠x
theorem r6 {h:VH} {dx:Ui} {mA:US->Option Ul} (n:h.Ns1 dx mA):∃ od,h.get? dx=some od/\∀ name,PySem.W.lookIn name od=some (mA name):=by
 obtain ⟨o,es,ep,ho,hd,hk,_,hm⟩:=n;refine ⟨o,ho,fun name=>?_⟩;have e:=hm name;unfold nsFind findBy at e;rw [<- Array.find?_toList] at e;unfold PySem.W.lookIn;rw [hd];dsimp only;split
 · rename_i y q
   rw [q] at e;exact congrArg some e
 · rename_i q
   rw [q] at e
   have a:es.toList.any (·.refKey)=false:=by
    rw [List.any_eq_false];intro y hy;obtain ⟨z,t,zP⟩:=hk y (Array.mem_toList_iff.mp hy);simp [DictEntry.refKey,zP]
   have a':¬ es.toList.any (·.refKey)=true:=by rw [a];exact UI
   rw [if_neg a'];exact congrArg some e
theorem ObjM.look {h:VH} {x dx C:Ui} {mA:US->Option Ul} (I:ObjM h x dx C mA):∃ od,PySem.W.InstAt h x (PySem.W.instObj C dx) C (some od)/\∀ name,PySem.W.lookIn name od=some (mA name) :=
 let ⟨od,ho,hl⟩:=r6 I.ns
 ⟨od,⟨I.obj,rfl,rfl,ho⟩,hl⟩
section
variable {prog:Uz} {w:UN} {A:U9} {E:Ul->Ur->Prop} {s:Ur} {K:Ug} {x dx C f:Ui} {mA:US->Option Ul} {name:US} {v:Ul}
end
theorem RelO.some_of {v:V} {o:Option Ul} (r:RelO (some v) o):∃ u,o=some u/\RelV v u:=by
 cases o with
 | none=>exact (show False from r).elim
 | some u=>exact ⟨u,rfl,r⟩
section
variable {P:Uz} {w:UN} {H H':Hp} {h h':VH} {a C dx:Ui} {fs PN:List (US×V)}
theorem uC (hok:HOk P w H h) (e:H a=some (.ins C dx fs)):∃ mA,ObjM h a dx C mA/\(∀ f,RelO (fs.lookup f) (mA f))/\PySem.Within mA (fs.map (·.1))/\fs.length<=1000/\H dx=some (.own a):=by
 obtain ⟨d,z,ne,ob,mA,n,r,q⟩:=(show ObjOk P w H h a (.ins C dx fs) from hok a _ e);exact ⟨mA,⟨ob,n,ne⟩,r,q,z,d⟩
end
structure Cls (K:Ug) (C:Ui):Prop where
 pg:PySem.W.plainGet K C Str.empty=true
 hd:PySem.W.hasDictIn K C=true
 po:PySem.W.plainOver K C=true
 sa:PySem.W.findIn K (.ref C) "__setattr__"=some (some (.builtin "object.__setattr__"))
theorem Cls.get {K:Ug} {C:Ui} (c:Cls K C) (f:US):PySem.W.plainGet K C f=true:=c.pg
section
variable {X:Cx} {pins:List (Ui×WA)} {σ:St} {H:Hp} {s:Ur} {a C dx:Ui} {fs:List (US×V)} {f:US} {v:V} {A:U9} {E:Ul->Ur->Prop}
end
section
variable {X:Cx} {o e value:VC} {f:US} {pos pos' Kw:Yl} {ta tv:TE}
end
section
variable {X:Cx} {pins:List (Ui×WA)} {σ:St} {H:Hp} {s:Ur} {A:U9} {E:Ul->Ur->Prop} {Q:Ul->Ur->Prop} {c:Ul} {b:Bool}
inductive iN (K:Ug) (H:Hp):V->Ul->Prop where
 | non:iN K H .non (.type "NoneType")
 | bl (x:Bool):iN K H (.bl x) (.type "bool")
 | int (i:Int):iN K H (.int i) (.type "int")
 | str (x:US):iN K H (.str x) (.type "str")
 | flt (x:UInt64):iN K H (.flt x) (.type "float")
 | lst {a:Ui} {xs:List V} (e:H a=some (.lst xs)):iN K H (.ref a) (.type "list")
 | frz {a:Ui} {o:WA} {xs:List V} (e:H a=some (.frz o (.lst xs))):iN K H (.ref a) (.type "list")
 | tup {a:Ui} {xs:List V} (e:H a=some (.tup xs)):iN K H (.ref a) (.type "tuple")
 | dK {a:Ui} {f':List (Key×V)} (e:H a=some (.dK f')):iN K H (.ref a) (.type "dict")
 | dT {a:Ui} {f':List (List Key×V)} (e:H a=some (.dT f')):iN K H (.ref a) (.type "dict")
 | ins {a C dx:Ui} {fs:List (US×V)} (e:H a=some (.ins C dx fs)) (cl:Cls K C) (ha:PySem.W.findIn K (.ref C) "__class__"=some (some (.builtin "object.__class__")))
  (hn:PySem.W.specialIn K (.builtin "object.__class__") "__get__"=some (some (.builtin "getset_descriptor.__get__"))) (Af:PySem.W.takesIn K (.builtin "object.__class__")=some true)
  (hm:PySem.W.mroIn K C (.type "object")=some true):iN K H (.ref a) (.ref C)
theorem sE {x:V} {u t:Ul} (I:Inv X pins σ H s) (rx:RelV x u) (ty:iN X.K H x t) (e:XC X.K t c=some b) (h:∀ tk,Q (.bool b) { s with toks:=tk }) :
 UC (U0 X.prog X.w) A (call (.builtin "isinstance") [u,c]) Q E s:=by
 cases ty with
 | non=>cases (show u=VQ from rx);exact V6 PySem.W.kitx_none I.kIn Wz e (fun z=>nomatch z) h
 | bl y=>cases (show u=Value.bool y from rx);exact V6 PySem.W.kitx_bool I.kIn Wz e (fun z=>nomatch z) h
 | int i=>obtain ⟨t,q⟩:=(show ∃ t,u=Value.int i t from rx);cases q;exact V6 PySem.W.kitx_int I.kIn Wz e (fun z=>nomatch z) h
 | str y=>obtain ⟨t,q⟩:=(show ∃ t,u=Value.str y t from rx);cases q;exact V6 PySem.W.kitx_str I.kIn Wz e (fun z=>nomatch z) h
 | flt y=>obtain ⟨t,q⟩:=(show ∃ t,u=Value.float y t from rx);cases q;exact V6 PySem.W.kitx_float I.kIn Wz e (fun z=>nomatch z) h
 | @lst a xs ea =>
   cases (show u=UZ a from rx);obtain ⟨_,_,n,_,h1⟩:=(show ObjOk X.prog X.w H s.heap a (.lst xs) from I.hok a _ ea);exact V6 PySem.W.kitx_list I.kIn ⟨_,h1,rfl⟩ e (fun z=>nomatch z) h
 | @frz a ob xs ea =>
   cases (show u=UZ a from rx);obtain ⟨_,_,_,n,_,h1⟩:=(show ObjOk X.prog X.w H s.heap a (.frz ob (.lst xs)) from I.hok a _ ea);exact V6 PySem.W.kitx_list I.kIn ⟨_,h1,rfl⟩ e (fun z=>nomatch z) h
 | @tup a xs ea =>
   cases (show u=UZ a from rx);obtain ⟨_,_,_,_,h1⟩:=(show ObjOk X.prog X.w H s.heap a (.tup xs) from I.hok a _ ea);exact V6 PySem.W.kitx_tuple I.kIn ⟨_,h1,rfl⟩ e (fun z=>nomatch z) h
 | @dK a f' ea =>
   cases (show u=UZ a from rx);obtain ⟨_,_,vs,_,p⟩:=(show ObjOk X.prog X.w H s.heap a (.dK f') from I.hok a _ ea);obtain ⟨o,es,ep,h1,h2,_⟩:=p;exact V6 PySem.W.kitx_dict I.kIn ⟨o,h1,h2.1⟩ e (fun z=>nomatch z) h
 | @dT a f' ea =>
   cases (show u=UZ a from rx);obtain ⟨_,_,xs,_,o,es,ep,h1,h2,_⟩:=(show ObjOk X.prog X.w H s.heap a (.dT f') from I.hok a _ ea);exact V6 PySem.W.kitx_dict I.kIn ⟨o,h1,h2.1⟩ e (fun z=>nomatch z) h
 | @ins a C dx fs ea cl ha hn Af hm =>
   cases (show u=UZ a from rx);obtain ⟨mA,O,_⟩:=uC I.hok ea;obtain ⟨od,J,_⟩:=O.look;exact V6 (PySem.W.kitx_own (cl.get _) cl.hd ha hn Af hm) I.kIn J e (fun z=>nomatch z) h
end
end L2
namespace L2
open PySem PySem.Spec PyProof.Rows
structure Room (k:Nat) (A:U9):Prop where
 hd:A.handled=none
 dp:A.depth+3 * k+5<recursionLimit
 un:A.units+16 * k+200<V3
theorem Room.mono {j k:Nat} {A:U9} (r:Room k A) (h:j<=k):Room j A:=⟨r.hd,by have:=r.dp;omega,by have:=r.un;omega⟩
theorem Room.deeper {k:Nat} {A:U9} (r:Room (k+1) A) (env:Env):Room k (A.deeper env) :=
 ⟨r.hd,by have:=r.dp;show A.depth+1+3 * k+5<_;omega,by have:=r.un;show A.units+3+16 * k+200<_;omega⟩
theorem Room.depth {k:Nat} {A:U9} (r:Room k A):A.depth<recursionLimit:=by have:=r.dp;omega
theorem Room.units {k:Nat} {A:U9} (r:Room k A):A.units+64<V3:=by have:=r.un;omega
def dk:TA:=fun _ H Q=>Q [] H
def bm (ta:TE) (tr:TA):TA:=fun σ H Q=>ta σ H fun x H1=>tr σ H1 fun xs H2=>Q (x::xs) H2
section
variable {X:Cx} {e:VC} {es:List VC} {te:TE} {t:TA} {pos:Yl}
theorem ac:PA X [] dk:=fun _ _ _ _ H Q I h=>Wx ⟨[],H,I,.nil,h⟩
theorem aa (ha:PE X e te) (hr:PA X es t) (hs:Vm (e::es) X.env=(false,WN e X.env)::Vm es X.env:=by rfl):PA X (e::es) (bm te t):=by
 intro pos pins s σ H Q I h;rw [hs];show UC _ _ (spliced ((false,WN e X.env)::Ys pos (Vm es X.env))) _ _ s;refine V2 (thn (ha pins s σ H _ I h) fun u s1 ⟨x,H1,I1,r1,q1⟩=>?_);exact thn (hr pos pins s1 σ H1 _ I1 q1) fun us s2 ⟨xs,H2,I2,r2,q2⟩=>⟨x::xs,H2,I2,.cons r1 r2,q2⟩
def ji (t:TA):TE:=fun σ H Q=>t σ H fun xs H1=>xs.length<=UD/\∀ p,H1 p=none->Q (.ref p) (upd H1 p (.tup xs))
def xK (t:TA):TE:=fun σ H Q=>t σ H fun xs H1=>xs.length<=UD/\∀ p,H1 p=none->Q (.ref p) (upd H1 p (.lst xs))
theorem aI {x1} (h:PA X es t):PE X (.Tuple es x1 pos) (ji t):=by
 intro pins s σ H Q I hq;refine wpAny_Tuple_spliced (thn (h pos pins s σ H _ I hq) fun us s1 ⟨xs,H1,I1,r,z,q⟩=>⟨by rw [<- r.length];exact z,?_⟩);have hf:H1 s1.heap.objs.size=none:=I1.hok.fresh (Uj _);refine ⟨.ref s1.heap.objs.size,upd H1 s1.heap.objs.size (.tup xs),I1.laid (t':=s1.toks) (fun b u e=>Up _ e) (Uj _) ?_,rfl,q _ hf⟩;exact ⟨z,us,0,r,Uy _ rfl⟩
theorem bo (h:PA X es t):PE X (.List es pos) (xK t):=by
 intro pins s σ H Q I hq;refine wpAny_List_spliced (thn (h pos pins s σ H _ I hq) fun us s1 ⟨xs,H1,I1,r,z,q⟩=>⟨by rw [<- r.length];exact z,?_⟩);have hf:H1 s1.heap.objs.size=none:=I1.hok.fresh (Uj _);refine ⟨.ref s1.heap.objs.size,upd H1 s1.heap.objs.size (.lst xs),I1.laid (t':=s1.toks) (fun b u e=>Up _ e) (Uj _) ?_,rfl,q _ hf⟩;exact ⟨z,us,0,r,Uy _ rfl⟩
end
abbrev Sp:=List V->Hp->VK->XK->Prop
abbrev CXT:=List Env->Hp->Ur->XK->Ul->Ur->Prop
structure u6 (P:Uz) (w:UN) (K:Ug) (mg:US->Option Ul) (base:VH) (A:U9) (outer:List Env) (s:Ur) (H:Hp):Prop where
 frames:A.frames=some outer
 mod:Mod K mg base
 bs:∀ b o,base.get? b=some o->s.heap.get? b=some o/\H b=none
 bsz:base.objs.size<=s.heap.objs.size
 funs:s.heap.FunFrames base outer
 frf:∀ b∈frs outer,H b=none
 hok:HOk P w H s.heap
 bare:AllBare s.gens
def CE (outer:List Env) (P:Uz) (w:UN) (H:Hp) (s:Ur) (Q:VK) (u:Ul) (s':Ur):Prop :=
 ∃ v H',s'.os=s.os/\AllBare s'.gens/\Un (frs outer) [] H H' s.heap s'.heap/\HOk P w H' s'.heap/\RelV v u/\Q v H'
def CR (CX:CXT) (outer:List Env) (P:Uz) (w:UN) (H:Hp) (s:Ur) (Q:VK) (E:XK) (r:Result) (s':Ur):Prop :=
 match r with
 | .ok (.ret u)=>CE outer P w H s Q u s'
 | .ok _=>False
 | .error e=>CX outer H s E e s'
structure bp (P:Uz) (w:UN) (K:Ug) (mg:US->Option Ul) (base:VH) (CX:CXT) (k:Nat) (f:Ui) (fd:XD) (ps:List US) (sp:Sp):Prop where
 len:∀ vs H Q E,sp vs H Q E->vs.length=ps.length
 run:∀ (A:U9) (outer:List Env) (s:Ur) (H:Hp) (args:Args) (us:List Ul) (vs:List V) (Q:VK) (E:XK),Room k A->u6 P w K mg base A outer s H->BindsTo s fd args (ps.zip us)->Vals vs us->sp vs H Q E →
  Yr (U0 P w) A (.call (.ref f) args) (CR CX outer P w H s Q E) s
section
variable {X:Cx} {pins:List (Ui×WA)} {σ:St} {H:Hp} {s s':Ur}
theorem Inv.env0 (I:Inv X pins σ H s):u6 X.prog X.w X.K X.mg X.base X.A X.stack s H :=
 ⟨I.ok.frames,I.ok.mod,I.bs,V4 I.ok.bsz I.sz,I.stack,I.stkFree,I.hok,I.bare⟩
theorem Inv.after {Q:VK} {u:Ul} (I:Inv X pins σ H s) (h:CE X.stack X.prog X.w H s Q u s'):EP X pins σ Q u s':=by
 obtain ⟨v,H',os,bare,un,hok,r,q⟩:=h;obtain ⟨hh,g,d,t,PY⟩:=s';obtain rfl:PY=s.os:=os;exact ⟨v,H',I.call (h':=hh) (g':=g) (d':=d) (t':=t) (ch:=[]) un hok bare (fun b z=>absurd z (by simp)),r,q⟩
end
def fR (sp:Sp) (dvs:List V) (E:XK) (t:TA):TE:=fun σ H Q=>t σ H fun vs H1=>sp (vs++dvs) H1 Q E
def Binds (K:Ug) (fd:XD) (ps:List US) (ds:List Ul):Prop :=
 ∀ (s:Ur) (us:List Ul),K.In s.heap->(us++ds).length=ps.length->BindsTo s fd ⟨us,[]⟩ (ps.zip (us++ds))
theorem Binds.all {K:Ug} {fd:XD} {ps:List US} (h:∀ us:List Ul,us.length=ps.length->bindArgs fd ⟨us,[]⟩=pure (ps.zip us)):Binds K fd ps []:=fun s us _ hl=>by
 rw [U6] at hl ⊢;exact .of_eq (h us hl)
def Passes (CX:CXT) (X:Cx) (E:XK):Prop:=∀ (pins:List (Ui×WA)) (σ:St) (H:Hp) (s:Ur) (e:Ul) (s':Ur),Inv X pins σ H s->CX X.stack H s E e s'->X.xe e s'
section
variable {X:Cx} {CX:CXT} {k:Nat} {f C:Ui} {fd:XD} {ps:List US} {sp:Sp} {dvs:List V} {ds:List Ul} {E:XK} {x m:US} {p pos apos:Yl} {e o:VC} {es:List VC} {ta:TE} {t:TA}
theorem wz {pins:List (Ui×WA)} {σ:St} {H:Hp} {s:Ur} {Q:VK} {us:List Ul} {vs:List V} (F:bp X.prog X.w X.K X.mg X.base CX k f fd ps sp) (hr:Room k X.A) (hb:Binds X.K fd ps ds) (hd:Vals dvs ds) (hx:Passes CX X E)
 (I:Inv X pins σ H s) (r:Vals vs us) (h:sp (vs++dvs) H Q E):UC (U0 X.prog X.w) X.A (call (.ref f) us) (EP X pins σ Q) X.xe s:=by
 have r2:Vals (vs++dvs) (us++ds):=r.append hd;have hl:(us++ds).length=ps.length:=by rw [<- r2.length];exact F.len _ _ _ _ h
 refine wpAny_call (codeAny_mono (F.run X.A X.stack s H ⟨us,[]⟩ (us++ds) (vs++dvs) Q E hr I.env0 (hb s us I.kIn hl) r2 h) fun r s' hq=>?_);cases r with
 | error e=>exact hx pins σ H s e s' I hq
 | ok fl =>
   cases fl with
   | ret u=>exact I.after hq
   | next=>exact XE hq
   | brk=>exact XE hq
   | cont=>exact XE hq
theorem fB (F:bp X.prog X.w X.K X.mg X.base CX k f fd ps sp) (hr:Room k X.A) (hg:Gl X x) (hm:X.mg x=some (.ref f)) (hk:Zh X.K (.ref f)=true) (hb:Binds X.K fd ps ds) (hd:Vals dvs ds) (hx:Passes CX X E)
 (ha:PA X (e::es) t) (ER:(x == ("__debug__":US))=false:=by decide) (he:Vm (e::es) X.env=(false,WN e X.env)::Vm es X.env:=by rfl) (y8:(Ys pos (Vm es X.env)).any (·.1)=false:=by rfl) :
 PE X (.Call (.Name x p) (e::es) [] pos) (fR sp dvs E t):=by
 intro pins s σ H Q I h;refine V1 (rj I hg hm ?_ ER);refine PySem.W.callWith_K (h₀:=X.base) I.ok.mod.kin hk (thn (ha pos pins s σ H _ I h) fun us s1 ⟨vs,H1,I1,r,q⟩=>⟨I1.kIn,?_⟩) he y8;exact wz F hr hb hd hx I1 r q
end
section
variable {X:Cx} {CX:CXT} {k:Nat} {f C:Ui} {fd:XD} {ps ks:List US} {sp:Sp} {E:XK} {x m:US} {p pos apos PZ:Yl} {e o:VC} {es:List VC} {SV:List Keyword} {te ta:TE} {t tk:TA} {nm:Option US}
variable {g:List Ul->List Ul->List Ul} {gV:List V->List V->List V}
end
structure aD (N P:List US) (sc:Yk):Prop where
 kind:sc.kind=.function
 co:sc.isCoroutine=false
 gen:sc.isGenerator=false
 nd:N.Nodup
 pre:N.take P.length=P
 par:∀ x∈P,sc.names.lookup x=some .local∨sc.names.lookup x=some .cell
 nofree:∀ y∈sc.names,y.2≠.free
theorem mF {kindOf:US->Option WU} {x:US}:∀ {binds:List (US×Ul)} {m:US->Option Ul},(∀ v,(x,v)∉binds)->bindL kindOf binds m x=m x
 | [],_,_=>rfl
 | (n,v)::r,m,h=>by
   unfold bindL;rw [mF fun w hw=>h w (UJ _ hw)];split
   · have:x≠n:=by rintro rfl;exact h v UH
     simp [this]
   · rfl
theorem mO {kindOf:US->Option WU} {x:US}:∀ {binds:List (US×Ul)} {m:US->Option Ul},(∀ v,(x,v)∉binds)->bindC kindOf binds m x=m x
 | [],_,_=>rfl
 | (n,v)::r,m,h=>by
   unfold bindC;rw [mO fun w hw=>h w (UJ _ hw)];split
   · rfl
   · have:x≠n:=by rintro rfl;exact h v UH
     simp [this]
theorem mD {kindOf:US->Option WU} {x:US} {v:Ul}:∀ {P:List US} {vs:List Ul} {i:Nat} {m:US->Option Ul},P.Nodup->P[i]?=some x->vs[i]?=some v->kindOf x=some .local →
 bindL kindOf (P.zip vs) m x=some v
 | [],_,_,_,_,h,_,_=>by simp at h
 | _::_,[],_,_,_,_,h,_=>by simp at h
 | p::P,w::vs,0,m,nd,h1,h2,hk=>by
   simp at h1 h2;subst h1;subst h2;show bindL kindOf ((p,w)::P.zip vs) m p=_;unfold bindL;rw [mF fun v hv=>(Yv.mp nd).1 (Xs hv).1,if_pos hk];simp
 | p::P,w::vs,i+1,m,nd,h1,h2,hk=>by
   show bindL kindOf ((p,w)::P.zip vs) m x=_;unfold bindL;exact mD (i:=i) (Yv.mp nd).2 (by simpa using h1) (by simpa using h2) hk
theorem me {kindOf:US->Option WU} {x:US} {v:Ul}:∀ {P:List US} {vs:List Ul} {i:Nat} {m:US->Option Ul},P.Nodup->P[i]?=some x->vs[i]?=some v->kindOf x≠some .local →
 bindC kindOf (P.zip vs) m x=some v
 | [],_,_,_,_,h,_,_=>by simp at h
 | _::_,[],_,_,_,_,h,_=>by simp at h
 | p::P,w::vs,0,m,nd,h1,h2,hk=>by
   simp at h1 h2;subst h1;subst h2;show bindC kindOf ((p,w)::P.zip vs) m p=_;unfold bindC;rw [mO fun v hv=>(Yv.mp nd).1 (Xs hv).1,if_neg hk];simp
 | p::P,w::vs,i+1,m,nd,h1,h2,hk=>by
   show bindC kindOf ((p,w)::P.zip vs) m x=_;unfold bindC;exact me (i:=i) (Yv.mp nd).2 (by simpa using h1) (by simpa using h2) hk
def start (N:List US) (vs:List V):St:=vs.map some++Wf (N.length - vs.length) none
def rL (CX:CXT) (P:Uz) (w:UN) (K:Ug) (mg:US->Option Ul) (base:VH) (N:List US) (qual:US) (scope:Yk) (f:Ui) (cd:Ul) (A:U9) (outer:List Env) (s:Ur) (H:Hp) (E:XK):Cx where
 prog:=P
 w:=w
 K:=K
 mg:=mg
 base:=base
 A:=A.deeper (envOfC qual scope s.heap.objs.size f cd)
 N:=N
 s₀:=s
 H₀:=H
 env:=envOfC qual scope s.heap.objs.size f cd
 outer:=outer
 stack:=envOfC qual scope s.heap.objs.size f cd::outer
 ex:=[]
 calm:=true
 fn:=fun _=>true
 pn:=[]
 xe:=fun e s'=>UC (U0 P w) (A.deeper (envOfC qual scope s.heap.objs.size f cd)) (leaving (envOfC qual scope s.heap.objs.size f cd) e) (fun _ Kx=>CX outer H s E e Kx) (fun e' Kx=>CX outer H s E e' Kx) s'
theorem ou {sc:Yk} {n:Nat} {x:US} (h:sc.names.lookup x=some .cell):∃ c,(cellsFrom n sc.names []).lookup x=some c:=by
 have q:=PySem.W.cellsFrom_some sc.names n [] (.inl h);exact XY.mp q
theorem rT {CX:CXT} {P:Uz} {w:UN} {K:Ug} {mg:US->Option Ul} {base:VH} {N ps:List US} {qual:US} {scope:Yk} {f:Ui} {cd:Ul} {A:U9} {outer:List Env} {s s1:Ur} {H:Hp} {E:XK} {us:List Ul} {vs:List V}
 (S:aD N ps scope) (hd:A.handled=none) (e0:u6 P w K mg base A outer s H) (hl:vs.length=ps.length) (r:Vals vs us)
 (x:InCallC s s.heap.objs.size (bindL (envOfC qual scope s.heap.objs.size f cd).kindOf (ps.zip us) fun _=>none) (cellsFrom (s.heap.objs.size+1) scope.names []) (bindC (envOfC qual scope s.heap.objs.size f cd).kindOf (ps.zip us) fun _=>none) s1) :
 Inv (rL CX P w K mg base N qual scope f cd A outer s H E) [] (start N vs) H s1:=by
 have y8:ps.length<=N.length:=by have:=congrArg Xc S.pre;rw [UQ] at this;omega
 obtain ⟨h1,tk,rfl,hk⟩:=x.done;have GK:∀ b:Ui,b∉(rL CX P w K mg base N qual scope f cd A outer s H E).ex:=fun b z=>absurd (show b∈([]:List Ui) from z) (by simp)
 refine ⟨⟨e0.mod,S.kind,rfl,rfl,Uj _,fun y z c h1 h2=>?_,fun y hy=>?_,fun y c _ h=>?_,fun _=>hd,Around.frames_deeper e0.frames,.inr ⟨rfl,rfl⟩,fun b z=>absurd z (GK b),e0.bs,e0.bsz,fun b _ _=>GK b,fun b z=>absurd z (GK b),e0.funs,e0.frf⟩,
  rfl,e0.bare,Un.kept hk,⟨_,x.toInCall.ns,fun i y v h1 h2 h3=>?_⟩,fun y c h=>⟨_,x.cell y c h⟩,e0.hok.fresh (Uj _),fun y c h=>?_,fun p hp=>absurd (show p∈([]:List (Ui×WA)) from hp) (by simp),e0.hok.kept hk,?_⟩
 · exact name_of_addr x.apart (XR h1) (XR h2)
 · have hy:scope.names.lookup y=some .cell∨scope.names.lookup y=some .free:=hy;rcases hy with hy | hy
   · exact ou hy
   · exact absurd rfl (S.nofree _ (XR hy))
 · exact XM (x.above y c (XR h))
 · have hi:i<vs.length:=by
    unfold start at h2;by_cases hi:i<vs.length
    · exact hi
    · rw [WW (by simpa using hi)] at h2;rw [List.getElem?_replicate] at h2;split at h2 <;> cases h2
   have ha:vs[i]?=some v:=by
    unfold start at h2;rw [Wu (by simpa using hi),Uo] at h2;cases e:vs[i]? with
    | none=>rw [e] at h2;cases h2
    | some a=>rw [e] at h2;cases h2;rfl
   obtain ⟨u,hu,rv⟩:=r.get ha
   have hp:ps[i]?=some y:=by
    rw [<- S.pre,XZ (by omega)];exact h1
   have NY:ps.Nodup:=by rw [<- S.pre];exact S.nd.sublist (List.take_sublist _ _)
   refine ⟨u,rv,?_⟩;rcases S.par y (Uh hp) with k | k
   · exact .inl ⟨k,mD NY hp hu k⟩
   · obtain ⟨c,e⟩:=ou (n:=s.heap.objs.size+1) k;refine .inr ⟨.inl k,c,e,?_⟩;have q:=x.cell y c e;rw [me NY hp hu (by show scope.names.lookup y≠_;rw [k];decide)] at q;exact q
 · exact e0.hok.fresh (XM (x.above y c (XR h)))
 · unfold start;show _=N.length;rw [UE,Uc,Xv];omega
theorem xn {CX:CXT} {P:Uz} {w:UN} {K:Ug} {mg:US->Option Ul} {base:VH} {k:Nat} {f:Ui} {name qual:US} {params:Arguments} {body:List Wk} {scope:Yk} {dV kV doc pm yl ct oc:Ul} {an od:Option Ui}
 {D6:Array (Option Ul)} {N ps:List US} {sp:Sp} (lk:K.lookup f=some ⟨oc,od,.func (XH name qual params body scope dV kV doc pm an yl ct),D6⟩) (Co:Zi K yl qual=true) (S:aD N ps scope)
 (len:∀ vs H Q E,sp vs H Q E->vs.length=ps.length)
 (Cr:∀ (A:U9) (outer:List Env) (s:Ur) (H:Hp) (vs:List V) (Q:VK) (E:XK),Room k (A.deeper (envOfC qual scope s.heap.objs.size f yl))->sp vs H Q E →
  ∃ t,PSs (rL CX P w K mg base N qual scope f yl A outer s H E) body t/\t { nx:=fun _ H'=>Q .non H',rt:=Q } (start N vs) H) :
 bp P w K mg base CX (k+1) f (XH name qual params body scope dV kV doc pm an yl ct) ps sp:=by
 refine ⟨len,fun A outer s H args us vs Q E hr e0 hb r D7=>?_⟩;have hl:=len _ _ _ _ D7;have KX:K.In s.heap:=e0.mod.kin.keeps fun b o e=>(e0.bs b o e).1;have lim:s.heap.NoLimit:=e0.mod.nolimit.keeps fun b o e=>(e0.bs b o e).1
 have GL:∀ y∈ps.zip us,scope.names.lookup y.1=some .local∨(scope.names.lookup y.1=some .cell/\((cellsFrom (s.heap.objs.size+1) scope.names []).lookup y.1).isSome=true):=fun ⟨n,v⟩ hy=>by
  rcases S.par n (Xs hy).1 with q | q
  · exact .inl q
  · exact .inr ⟨q,PySem.W.cellsFrom_some _ _ _ (.inl q)⟩
 refine codeAny_call_function hr.depth (KX _ _ lk) rfl S.co S.gen rfl (PySem.W.codeRec_of KX Co) (hb _ _ _ _ ?_);refine wpAny_newFunctionEnv_cells S.kind GL fun env he s1 x=>?_;subst he;refine ⟨lim.keeps x.toInCall.keep,codeAny_func ?_⟩;obtain ⟨t,ht,hq⟩:=Cr A outer s H vs Q E (hr.deeper _) D7;have I:Inv (rL CX P w K mg base N qual scope f yl A outer s H E) [] (start N vs) H s1:=rT S hr.hd e0 hl r x;refine Ww (ht [] s1 (start N vs) H _ I hq) (fun fl s' hs=>?_) fun e s' hs=>hs
 have fin:∀ {yd:St} {H':Hp} {v:V} {u:Ul},Inv (rL CX P w K mg base N qual scope f yl A outer s H E) [] yd H' s'->RelV v u->Q v H'->CE outer P w H s Q u s' :=
  fun {yd H' v u} J rv q=>⟨v,H',J.os,J.bare,J.base,J.hok,rv,q⟩
 cases fl with
 | ret u =>
   obtain ⟨v,yd,H',J,rv,q⟩:=hs;exact fin J rv q
 | next =>
   obtain ⟨yd,H',J,q⟩:=hs;exact fin (v:=V.non) (u:=VQ) J rfl q
 | brk =>
   obtain ⟨_,_,_,q⟩:=hs;exact XE q
 | cont =>
   obtain ⟨_,_,_,q⟩:=hs;exact XE q
end L2
namespace L2
open PySem PySem.Spec PyProof.Rows
section
variable {X:Cx} {x:US} {p pos:Yl} {e:VC} {es:List VC} {t:TA} {id T:String} {r:List V->Hp->VK->Prop}
def tCB (r:List V->Hp->VK->Prop) (t:TA):TE:=fun σ H Q=>t σ H fun vs H1=>r vs H1 Q
theorem az (hc:g9 X (.builtin id) r) (hg:Gl X x) (hm:X.mg x=none) (hv:YM x=some (.builtin id)) (ha:PA X (e::es) t) (hn:x≠"__name__":=by decide) (ER:(x == ("__debug__":US))=false:=by decide)
 (he:Vm (e::es) X.env=(false,WN e X.env)::Vm es X.env:=by rfl) (y8:(Ys pos (Vm es X.env)).any (·.1)=false:=by rfl):PE X (.Call (.Name x p) (e::es) [] pos) (tCB r t):=by
 intro pins s σ H Q I h;refine V1 (cS I hg hm hv ?_ hn ER);exact PyProof.Rows.callWith_builtin1 (thn (ha pos pins s σ H _ I h) fun us s1 ⟨vs,H1,I1,r1,q1⟩=>hc pins s1 σ H1 vs us Q I1 r1 q1) he y8
theorem cy (hc:g9 X (.type T) r) (hg:Gl X x) (hm:X.mg x=none) (hv:YM x=some (.type T)) (ha:PA X (e::es) t) (hn:x≠"__name__":=by decide) (ER:(x == ("__debug__":US))=false:=by decide)
 (he:Vm (e::es) X.env=(false,WN e X.env)::Vm es X.env:=by rfl) (y8:(Ys pos (Vm es X.env)).any (·.1)=false:=by rfl):PE X (.Call (.Name x p) (e::es) [] pos) (tCB r t):=by
 intro pins s σ H Q I h;refine V1 (cS I hg hm hv ?_ hn ER);exact Vj (thn (ha pos pins s σ H _ I h) fun us s1 ⟨vs,H1,I1,r1,q1⟩=>hc pins s1 σ H1 vs us Q I1 r1 q1) he y8
end
end L2
namespace HT
open PySem PyProof.Rows
section
open PySem.SeqAt
open PySem.AutoSeq1 (wpAny_loadPart')
open PySem.MeetsSeq PySem.MeetsSeq2 PySem.MeetsSeq3
end
section
variable {prog:Uz} {w:UN} {A:U9} {E:Ul->Ur->Prop} {s:Ur}
theorem cat_tup {t b:Ui} {vs ws:List Ul} {Q:Ul->Ur->Prop} (ht:IsTup s.heap t vs.toArray) (hb:IsTup s.heap b ws.toArray) (hv:vs≠[])
 (h1:ws=[]->Q (.ref t) s) (h2:ws≠[]->Q (.ref s.heap.objs.size) { s with heap:=s.heap.push { cls:=.type "tuple",data:=.seq (vs++ws).toArray } })
 (hsz:vs.length+ws.length<=UD):UC (U0 prog w) A (X9 .Add (.ref t) (.ref b)) Q E s:=by
 obtain ⟨⟨cls,dd,data,sl⟩,ho,hc,n,hd⟩:=id ht;obtain ⟨⟨GN,F0,data2,F1⟩,Dr,B7,n2,hd2⟩:=id hb;simp only at hc hd B7 hd2;subst hc hd B7 hd2;have e:vs.toArray++ws.toArray=(vs++ws).toArray:=by simp
 by_cases hw:ws=[]
 · exact concat_meets ⟨_,ho,rfl⟩ ⟨_,Dr,rfl⟩ noFill_tuple_add seq_tuple_add Y2 YX (YO _ _)
    (tuple_addW1 t b vs.toArray ws.toArray n n2 dd F0 sl F1 (by simpa using hv) (by simp [hw])) ⟨ho,Dr,h1 hw⟩
 · refine concat_meets ⟨_,ho,rfl⟩ ⟨_,Dr,rfl⟩ noFill_tuple_add seq_tuple_add Y2 YX (YO _ _)
    (tuple_addW2 t b vs.toArray ws.toArray n n2 dd F0 sl F1 (by simpa using hv) (by simpa using hw) (by rw [Uu,Uu];exact hsz)) ⟨ho,Dr,?_⟩
   rw [e];exact h2 hw
def sIx (n d:Nat):Option Int->Nat
 | none=>d
 | some v=>if v<0 then (v+(n:Int)).toNat else min v.toNat n
theorem sIx_none (n d:Nat):sIx n d none=d:=rfl
theorem sIx_nat (n d k:Nat):sIx n d (some (k:Int))=min k n:=by
 show (if (k:Int)<0 then ((k:Int)+(n:Int)).toNat else min (k:Int).toNat n)=min k n;rw [if_neg (by omega),Vh]
theorem sIx_le (n d:Nat) (hd:d<=n) (o:Option Int):sIx n d o<=n:=by
 cases o with
 | none=>exact hd
 | some v =>
   show (if v<0 then (v+(n:Int)).toNat else min v.toNat n)<=n;by_cases hv:v<0
   · rw [if_pos hv];omega
   · rw [if_neg hv];exact Nat.min_le_right _ _
theorem clip_eq (v:Int) (n d:Nat):(if v<0 then max (v+(n:Int)) 0 else min v (n:Int))=((sIx n d (some v):Nat):Int):=by
 show (if v<0 then max (v+(n:Int)) 0 else min v (n:Int))=(((if v<0 then (v+(n:Int)).toNat else min v.toNat n):Nat):Int);by_cases hv:v<0
 · simp only [if_pos hv];omega
 · simp only [if_neg hv];omega
theorem adjust_gen (lo hi:Option Int) (n:Nat):Xf lo hi 1 (n:Int)=(((sIx n 0 lo:Nat):Int),((sIx n n hi:Nat):Int)):=by
 have h1:¬ ((1:Int)<0):=by omega
 unfold Xf;simp only [h1,if_false];refine Prod.ext ?_ ?_
 · cases lo with
   | none=>rfl
   | some v=>exact clip_eq v n 0
 · cases hi with
   | none=>rfl
   | some v=>exact clip_eq v n n
theorem places_gen (i j:Nat):V0 (i:Int) (j:Int) 1=j - i:=by
 unfold V0;have h1:(1:Int) > 0:=by omega
 simp only [h1,if_true,ZQ];split <;> omega
theorem slicePart_ {v:Ul} {o:Option Int} {Q:Option Int->Ur->Prop} (p:Zr v o) (h:Q o s):UC (U0 prog w) A (Builtin.Slice.slicePartIndex v) Q E s:=by
 cases p with
 | none=>exact slicePart_none h
 | int i t=>exact slicePart_int h
theorem sliceApplied_gen {sl:Ui} {vl vu:Ul} {lo hi:Option Int} {n:Nat} {Q:Int×Int×Nat->Ur->Prop} (hs:s.heap.IsSliceOf sl vl vu .none) (pl:Zr vl lo) (pu:Zr vu hi)
 (h:Q (((sIx n 0 lo:Nat):Int),1,sIx n n hi - sIx n 0 lo) s):UC (U0 prog w) A (X2 (.ref sl) (pure (n:Int))) Q E s:=by
 obtain ⟨os,Az,B8,Ar⟩:=id hs;unfold X2 Builtin.Slice.sliceFields;refine Ud (Ud (Vg Az Ar (x:=vl) rfl (Ud (Vg Az Ar (x:=vu) rfl (Ud (Vg Az Ar (x:=.none) rfl (Uq ?_)))))));refine Ud (slicePart_none ?_);show UC _ _ (if ((1:Int) == 0)=true then _ else _) _ _ s;rw [if_neg (by decide)];refine Ud (slicePart_ pl (Ud (slicePart_ pu (Ud (Uq ?_)))));show UC _ _ (match Xf lo hi 1 (n:Int) with | (lo,hi)=>pure (lo,(1:Int),V0 lo hi 1)) _ _ s;rw [adjust_gen lo hi n];show UC _ _ (pure (((sIx n 0 lo:Nat):Int),(1:Int),V0 ((sIx n 0 lo:Nat):Int) ((sIx n n hi:Nat):Int) 1)) _ _ s;rw [places_gen];exact Uq h
theorem pick_gen (xs:Array Ul) (i k:Nat):((U1 k).filterMap fun (m:Nat)=>xs[((i:Int)+(m:Int) * 1).toNat]?).toArray=((xs.toList.drop i).take k).toArray:=by
 have e:(fun (m:Nat)=>xs[((i:Int)+(m:Int) * 1).toNat]?)=fun m=>xs[i+m]?:=by
  funext m;have:((i:Int)+(m:Int) * 1).toNat=i+m:=by omega
  rw [this]
 rw [e];have:=pick_run xs i k;rw [ZC] at this;have e2:((fun x=>xs[x]?) ∘ fun x=>i+x)=fun m=>xs[i+m]?:=rfl;rw [e2] at this;rw [this]
theorem getItem_tuple_cut {t sl:Ui} {items:Array Ul} {vl vu:Ul} {lo hi:Option Int} {Q:Ul->Ur->Prop} (ht:IsTup s.heap t items) (hs:s.heap.IsSliceOf sl vl vu .none) (pl:Zr vl lo) (pu:Zr vu hi)
 (hw:¬ (sIx items.size 0 lo=0/\sIx items.size items.size hi=items.size))
 (h:Q (.ref s.heap.objs.size) { s with heap:=s.heap.push { cls:=.type "tuple",data:=.seq ((items.toList.drop (sIx items.size 0 lo)).take (sIx items.size items.size hi - sIx items.size 0 lo)).toArray } })
 (hsz:items.size<=UD):UC (U0 prog w) A (Yp (.ref t) (.ref sl)) Q E s:=by
 have zc:sizeOk (.seq ((items.toList.drop (sIx items.size 0 lo)).take (sIx items.size items.size hi - sIx items.size 0 lo)).toArray):=by
  show ((items.toList.drop (sIx items.size 0 lo)).take (sIx items.size items.size hi - sIx items.size 0 lo)).toArray.size<=UD;rw [Uu,UQ,VG,U3];omega
 have hj:sIx items.size items.size hi<=items.size:=sIx_le _ _ (Uj _) hi;obtain ⟨os,Az,B8,Ar⟩:=id hs;have GO:s.TypeIs (.ref sl) "slice":=⟨os,Az,B8⟩;unfold Yp
 try with_reducible refine VP ?_
 first | refine Ud (Uq ?_) | skip
 refine Ud (wpAny_sequenceKey ht.typeIs (by decide) ?_)
 refine Ud (Vr (name:=Um "__getitem__") ht.typeIs Vb
  (Vz Vb ht.typeIs entry_tuple_getitem ?_ (args_tuple_getitem _ _)))
 show UC _ _ (X1 (.ref t) >>= _) _ _ s;refine Ud (tupleItemsOf_ ht ?_);refine Ud (W0 GO ?_);rw [if_pos (by decide)];refine Ud (sliceApplied_gen hs pl pu ?_)
 have Bb:¬ ((((sIx items.size 0 lo:Nat):Int) == 0 && (1:Int) == 1 && (sIx items.size items.size hi - sIx items.size 0 lo) == items.size)=true):=by
  intro q;rw [Wn,Wn] at q;have q1:((sIx items.size 0 lo:Nat):Int)=0:=eq_of_beq q.1.1;have q2:sIx items.size items.size hi - sIx items.size 0 lo=items.size:=eq_of_beq q.2;exact hw ⟨by omega,by omega⟩
 show UC _ _ (if (((sIx items.size 0 lo:Nat):Int) == 0 && (1:Int) == 1 && (sIx items.size items.size hi - sIx items.size 0 lo) == items.size)=true then _ else _) _ _ s;rw [if_neg Bb,pick_gen]
 first
  | exact Ud (m:=V5 _) (Vy (Uq ⟨_,rfl,Uq h⟩) zc)
  | exact Ud (m:=V5 _) (Vy (Ud (Uq (Uq ⟨_,rfl,Uq h⟩))) zc)
  | exact Ud (Ud (m:=V5 _) (Vy (Uq (Uq ⟨_,rfl,Uq h⟩)) zc))
  | exact Ud (Ud (m:=V5 _) (Vy (Uq ⟨_,rfl,Uq h⟩) zc))
end
end HT
namespace L2
open PySem PySem.Spec PyProof.Rows
abbrev TO:=St->Hp->(Option Int->Hp->Prop)->Prop
def PO (X:Cx) (e:Option VC) (t:TO):Prop :=
 ∀ (pins:List (Ui×WA)) (s:Ur) (σ:St) (H:Hp) (Q:Option Int->Hp->Prop),Inv X pins σ H s->t σ H Q →
   UC (U0 X.prog X.w) X.A (evalPart e X.env) (fun u s'=>∃ o H',Inv X pins σ H' s'/\Zr u o/\Q o H') X.xe s
def ve:TO:=fun _ H Q=>Q none H
inductive vE (x:V) (Q:Option Int->Hp->Prop) (H1:Hp):Prop
 | mk (i:Int) (yp:x=.int i) (yq:Q (some i) H1):vE x Q H1
def vy (t:TE):TO:=fun σ H Q=>t σ H fun x H1=>vE x Q H1
section
variable {X:Cx} {e:VC} {te:TE} {lo hi:Option VC} {tl th:TO} {pos p2:Yl}
theorem bR:PO X none ve:=by
 intro pins s σ H Q I h;rw [evalPart_none];exact Uq ⟨none,H,I,.none,h⟩
theorem bA (h:PE X e te):PO X (some e) (vy te):=by
 intro pins s σ H Q I hw;rw [evalPart_some];refine thn (h pins s σ H _ I hw) fun u s1 ⟨x,H1,I1,r1,q1⟩=>?_;obtain ⟨i,rfl,q⟩:=q1;obtain ⟨t,rfl⟩:=r1;exact ⟨some i,H1,I1,.int i t,q⟩
def SlR (X:Cx) (r:V->Option Int->Option Int->Hp->VK->Prop):Prop :=
 ∀ (pins:List (Ui×WA)) (s:Ur) (σ:St) (H:Hp) (x:V) (v vl vu:Ul) (lo hi:Option Int) (sl:Ui) (Q:VK),Inv X pins σ H s->RelV x v->s.heap.IsSliceOf sl vl vu .none->Zr vl lo->Zr vu hi->r x lo hi H Q →
   ∃ T id,XW (.type T) "__getitem__"=pure (some (.builtin id))/\s.TypeIs v T/\UC (U0 X.prog X.w) X.A (Yp v (.ref sl)) (EP X pins σ Q) X.xe s
def tSl (r:V->Option Int->Option Int->Hp->VK->Prop) (te:TE) (tl th:TO):TE:=fun σ H Q=>te σ H fun x H1=>tl σ H1 fun l H2=>th σ H2 fun u H3=>r x l u H3 Q
theorem bj {r:V->Option Int->Option Int->Hp->VK->Prop} (hr:SlR X r) (he:PE X e te) (hl:PO X lo tl) (hu:PO X hi th):PE X (.Subscript e (.Slice lo hi none p2) pos) (tSl r te tl th):=by
 intro pins s σ H Q I h;refine Subscript_ (thn (he pins s σ H _ I h) fun v s1 ⟨x,H1,I1,r1,q1⟩=>?_);refine wpAny_Slice (thn (hl pins s1 σ H1 _ I1 q1) fun vl s2 ⟨l,H2,I2,pl,q2⟩=>thn (hu pins s2 σ H2 _ I2 q2) fun vu s3 ⟨u,H3,I3,pu,q3⟩=>?_);rw [evalPart_none];refine Uq ?_;have I4:Inv X pins σ H3 { s3 with heap:=s3.heap.push { cls:=.type "slice",data:=.fields #[vl,vu,.none] } }:=I3.kept (t':=s3.toks) fun b ob q=>Up _ q;obtain ⟨T,id,hT,ht,hg⟩:=hr pins { s3 with heap:=s3.heap.push { cls:=.type "slice",data:=.fields #[vl,vu,.none] } } σ H3 x v vl vu l u s3.heap.objs.size Q I4 r1 (Heap.IsSliceOf.new ..) pl pu q3;show UC (U0 X.prog X.w) X.A (subscriptTail e (.Slice lo hi none p2) v (.ref s3.heap.objs.size)) (EP X pins σ Q) X.xe { s3 with heap:=s3.heap.push { cls:=.type "slice",data:=.fields #[vl,vu,.none] } };exact tail_any (ops:=[.ref s3.heap.objs.size,v]) ht hT hg (by with_unfolding_all rfl)
def du (xs:List V) (lo hi:Option Int):List V:=(xs.drop (HT.sIx xs.length 0 lo)).take (HT.sIx xs.length xs.length hi - HT.sIx xs.length 0 lo)
theorem jK (xs:List V) (lo hi:Option Int):(du xs lo hi).length<=xs.length:=by
 unfold du;rw [UQ,VG];omega
inductive vG (K:Ug) (x:V) (lo:Option Int) (hi:Option Int) (H:Hp) (Q:VK):Prop
 | mk (a:_) (xs:_) (yp:x=.ref a) (yq:SqT K H a xs) (yz:¬ (HT.sIx xs.length 0 lo=0/\HT.sIx xs.length xs.length hi=xs.length)) (yF:∀ p,H p=none->Q (.ref p) (upd H p (.tup (du xs lo hi)))):vG K x lo hi H Q
def xv (K:Ug):V->Option Int->Option Int->Hp->VK->Prop:=vG K
theorem dF:SlR X (xv X.K):=by
 intro pins s σ H x v vl vu lo hi sl Q I rx hs pl pu h;obtain ⟨a,xs,rfl,hx,hw,q⟩:=h;cases rx;obtain ⟨its,r,ht,hz⟩:=I.tuple hx;have hlen:its.toArray.size=xs.length:=by rw [Uu];exact r.length.symm
 refine ⟨"tuple",_,Vb.lookup,ht.typeIs,?_⟩;refine HT.getItem_tuple_cut ht hs pl pu (by rw [hlen];exact hw) ?_ (by rw [hlen];exact hz);rw [hlen];refine ⟨.ref s.heap.objs.size,_,I.laid (t':=s.toks) (o:=.tup (du xs lo hi)) (fun b ob q=>Up _ q) (Uj _) ?_,rfl,q _ (I.hok.fresh (Uj _))⟩;exact ⟨V4 (jK xs lo hi) hz,_,0,(r.drop (HT.sIx xs.length 0 lo)).take (HT.sIx xs.length xs.length hi - HT.sIx xs.length 0 lo),Uy _ rfl⟩
def wA (K:Ug):R2:=fun x y H Q=>∃ a b xs ys,x=.ref a/\y=.ref b/\SqT K H a xs/\SqT K H b ys/\xs≠[]/\xs.length+ys.length<=UD ∧
 (ys=[]->Q (.ref a) H)/\(ys≠[]->∀ p,H p=none->Q (.ref p) (upd H p (.tup (xs++ys))))
theorem Vals.nil_iff {xs:List V} {us:List Ul} (r:Vals xs us):us=[]↔xs=[]:=by
 cases r with
 | nil=>simp
 | cons _ _=>simp
theorem uz:OpR X (X9 .Add) (wA X.K):=by
 intro pins s σ H x y v u Q I rx ry h;obtain ⟨a,b,xs,ys,rfl,rfl,ha,hb,hx,hz,q1,q2⟩:=h;cases rx;cases ry;obtain ⟨its,r1,p1,_⟩:=I.tuple ha;obtain ⟨yf,r2,p2,_⟩:=I.tuple hb;refine HT.cat_tup p1 p2 (fun z=>hx (r1.nil_iff.mp z)) (fun z=>⟨.ref a,H,I,rfl,q1 (r2.nil_iff.mp z)⟩) (fun z=>?_) (by rw [<- r1.length,<- r2.length];exact hz);refine ⟨.ref s.heap.objs.size,_,I.laid (t':=s.toks) (o:=.tup (xs++ys)) (fun b ob q=>Up _ q) (Uj _) ?_,rfl,q2 (fun w=>z (r2.nil_iff.mpr w)) _ (I.hok.fresh (Uj _))⟩;exact ⟨by rw [UE];exact hz,_,0,r1.append r2,Uy _ rfl⟩
end
end L2
namespace L2
open PySem PySem.Spec PyProof.Rows
def ixN (n:Nat) (i:Int):Option Nat:=if 0<=i then (if i<n then some i.toNat else none) else if -(n:Int)<=i then some (i+n).toNat else none
def atI {α:Type} (xs:List α) (i:Int):Option α:=(ixN xs.length i).bind fun j=>xs[j]?
theorem np {n:Nat} {i:Int} {j:Nat} (h:ixN n i=some j):seqIndex? i n=some j/\j<n/\-(n:Int)<=i/\i<n:=by
 unfold ixN at h;by_cases h0:0<=i
 · rw [if_pos h0] at h;by_cases h1:i<n
   · rw [if_pos h1] at h;have e:i.toNat=j:=UR h;exact ⟨by rw [seqIndex_of h0 h1,e],by omega,by omega,h1⟩
   · rw [if_neg h1] at h;cases h
 · rw [if_neg h0] at h;by_cases h1:-(n:Int)<=i
   · rw [if_pos h1] at h;have e:(i+n).toNat=j:=UR h;exact ⟨by rw [seqIndex_neg (by omega) h1,e],by omega,h1,by omega⟩
   · rw [if_neg h1] at h;cases h
theorem nT {α:Type} {xs:List α} {i:Int} {v:α} (h:atI xs i=some v):∃ j,seqIndex? i xs.length=some j/\xs[j]?=some v/\j<xs.length/\-(xs.length:Int)<=i/\i<xs.length:=by
 unfold atI at h;cases e:ixN xs.length i with
 | none=>rw [e] at h;cases h
 | some j =>
   rw [e] at h;obtain ⟨h1,h2,h3,h4⟩:=np e;exact ⟨j,h1,h,h2,h3,h4⟩
theorem ce {α:Type} {xs:List α} {j:Nat} {v:α} (h:xs[j]?=some v):atI xs (j:Int)=some v:=by
 have hj:j<xs.length:=(Uk.mp h).1
 have e:ixN xs.length (j:Int)=some j:=by
  unfold ixN;rw [if_pos (by omega),if_pos (by omega)];simp
 unfold atI;rw [e];exact h
def u8 (b:VC):Prop:=∀ o i,subscripted b false o i=operate [o,i] (Yp o i)
def IxR (X:Cx) (r:R2):Prop :=
 ∀ (value slice:VC) (pins:List (Ui×WA)) (s:Ur) (σ:St) (H:Hp) (x y:V) (v u:Ul) (Q:VK),Inv X pins σ H s->RelV x v->RelV y u->r x y H Q →
   subscripted slice false v u=operate [v,u] (Yp v u)->UC (U0 X.prog X.w) X.A (subscriptTail value slice v u) (EP X pins σ Q) X.xe s
def MtR (X:Cx) (id:String) (r:V->List V->Hp->VK->Prop):Prop :=
 ∀ (pins:List (Ui×WA)) (s:Ur) (σ:St) (H:Hp) (x:V) (xs:List V) (v:Ul) (us:List Ul) (Q:VK),Inv X pins σ H s->RelV x v->Vals xs us->r x xs H Q →
   UC (U0 X.prog X.w) X.A (call (.builtin id) (v::us)) (EP X pins σ Q) X.xe s
section
variable {X:Cx} {a b:VC} {ta tb:TE} {pos:Yl}
theorem ay {r:R2} (hr:IxR X r) (ha:PE X a ta) (hb:PE X b tb) (hs:u8 b):PE X (.Subscript a b pos) (tOp r ta tb):=by
 intro pins s σ H Q I h;exact Subscript_ (vZ ha hb I h fun v u s2 x y H2 I2 rx ry q=>hr a b pins s2 σ H2 x y v u Q I2 rx ry q (hs _ _))
inductive vB (K:Ug) (x:V) (y:V) (H:Hp) (Q:VK):Prop
 | mk (p:_) (xs:_) (i:_) (v:_) (yp:x=.ref p) (yq:y=.int i) (yz:SqL K H p xs) (yF:atI xs i=some v) (yW:Q v H):vB K x y H Q
def vb (K:Ug):R2:=vB K
inductive vF (K:Ug) (x:V) (y:V) (H:Hp) (Q:VK):Prop
 | mk (p:_) (xs:_) (i:_) (v:_) (yp:x=.ref p) (yq:y=.int i) (yz:SqT K H p xs) (yF:atI xs i=some v) (yW:Q v H):vF K x y H Q
def rN (K:Ug):R2:=vF K
inductive vk (x:V) (y:V) (H:Hp) (Q:VK):Prop
 | mk (z:_) (i:_) (c:_) (yp:x=.str z) (yq:y=.int i) (yz:z.length<=UD) (yF:atI z.cps.toList i=some c) (yW:Q (.str ⟨#[c]⟩) H):vk  x y H Q
def xM:R2:=vk
theorem aP:IxR X (vb X.K):=by
 intro value slice pins s σ H x y v u Q I rx ry h hs;obtain ⟨p,xs,i,z,rfl,rfl,hq,he,q⟩:=h;cases rx;obtain ⟨t,rfl⟩:=ry;obtain ⟨its,r,pl,hz⟩:=I.list hq;obtain ⟨j,h1,h2,h3,h4,h5⟩:=nT he;obtain ⟨w,ew,BK⟩:=r.get h2;have hl:=r.length;have hn:=fk;have fin:EP X pins σ Q w s:=⟨z,H,I,BK,q⟩;by_cases h0:0<=i
 · have hj:i.toNat=j:=by
    rw [seqIndex_of h0 h5] at h1;exact UR h1
   exact item_listR pl.isList h0 (by omega) (by rw [hj];simpa using ew) fin hs
 · have hj:(i+(its.toArray.size:Int)).toNat=j:=by
    rw [seqIndex_neg (by omega) h4] at h1;rw [Uu,<- hl];exact UR h1
   exact subscriptTail_builtinR (x:=w) pl.isList.typeIs slot_list_getitem.lookup
    (wpAny_getItem_list_neg (Q:=fun r s'=>r=w/\EP X pins σ Q r s') pl.isList (by omega) (by rw [Uu] <;> omega) (by omega) (by rw [hj];simpa using ew) ⟨rfl,fin⟩) hs
theorem aB:IxR X (rN X.K):=by
 intro value slice pins s σ H x y v u Q I rx ry h hs;obtain ⟨p,xs,i,z,rfl,rfl,hq,he,q⟩:=h;cases rx;obtain ⟨t,rfl⟩:=ry;obtain ⟨its,r,pl,hz⟩:=I.tuple hq;obtain ⟨j,h1,h2,h3,h4,h5⟩:=nT he;obtain ⟨w,ew,BK⟩:=r.get h2;have hl:=r.length;have hn:=fk;have fin:EP X pins σ Q w s:=⟨z,H,I,BK,q⟩
 exact subscriptTail_builtinR (x:=w) pl.typeIs slot_tuple_getitem.lookup
  (getItem_tuple (j:=j) (Q:=fun r s'=>r=w/\EP X pins σ Q r s') pl (by omega) (by omega) (by rw [Uu,<- hl];exact h1) (by simpa using ew) ⟨rfl,fin⟩) hs
theorem tY:IxR X xM:=by
 intro value slice pins s σ H x y v u Q I rx ry h hs;obtain ⟨z,i,c,rfl,rfl,hz,he,q⟩:=h;obtain ⟨t,rfl⟩:=rx;obtain ⟨t',rfl⟩:=ry;obtain ⟨j,h1,h2,h3,h4,h5⟩:=nT he;have hl:z.cps.toList.length=z.length:=by simp [Str.length]
 rw [hl] at h1 h4 h5;have hn:=fk
 exact tail_any (typeIs_str s z t) slot_str_getitem.lookup (getItem_str (c:=c) (by
  have e1:decide (i < -(2 ^ 63:Int))=false:=decide_eq_false (by omega);have e2:decide (i ≥ 2 ^ 63)=false:=decide_eq_false (by omega);rw [e1,e2,Zy]) (by rw [h1];simpa using h2) ⟨.str ⟨#[c]⟩,H,I.tok _,⟨_,rfl⟩,q⟩) hs
theorem qh (its:List Ul) (n j:Nat) (u:Ul):VA (·.setIfInBounds j u) { cls:=.type "list",data:=.seq its.toArray n }={ cls:=.type "list",data:=.seq (its.set j u).toArray n }:=by
 simp [VA]
theorem Inv.lst {pins:List (Ui×WA)} {σ:St} {H:Hp} {s:Ur} {p:Ui} {xs:List V} (I:Inv X pins σ H s) (h:H p=some (.lst xs)) :
 ∃ (its:List Ul) (n:Nat),Vals xs its/\s.heap.get? p=some { cls:=.type "list",data:=.seq its.toArray n }/\xs.length<=UD:=by
 obtain ⟨z,its,n,r,e⟩:=I.hok p _ h;exact ⟨its,n,r,e,z⟩
theorem Inv.lstUpd {pins:List (Ui×WA)} {σ:St} {H:Hp} {s:Ur} {p:Ui} {xs ys:List V} {its its':List Ul} {n n':Nat} {f:WA->WA} (I:Inv X pins σ H s) (h:H p=some (.lst xs))
 (ho:s.heap.get? p=some { cls:=.type "list",data:=.seq its.toArray n }) (hf:f { cls:=.type "list",data:=.seq its.toArray n }={ cls:=.type "list",data:=.seq its'.toArray n' }) (r:Vals ys its') (hz:ys.length<=UD) (t:Nat) :
 Inv X pins σ (upd H p (.lst ys)) { s with heap:=s.heap.update p f,toks:=t }:=by
 have e:(s.heap.update p f).get? p=some { cls:=.type "list",data:=.seq its'.toArray n' }:=by
  rw [U7 f ho (by rw [hf] <;> rfl),hf]
 refine I.write (x:=p) (e:=p) (by rw [h];trivial) (.inl rfl) (fun b u hb q=>(Vd _ _ (Wd hb)).trans q) ⟨_,e⟩ ?_;exact ⟨hz,its',n',r,e⟩
def xh:V->V->V->Hp->(Hp->Prop)->Prop:=fun o i v H Q=>∃ p xs k j,o=.ref p/\i=.int k/\H p=some (.lst xs)/\ixN xs.length k=some j/\Q (upd H p (.lst (xs.set j v)))
theorem set_list:wV X xh:=by
 intro pins s σ H o i v ov iv u Q I ro ri rv h;obtain ⟨p,xs,k,j,rfl,rfl,hp,hj,q⟩:=h;cases ro;obtain ⟨t,rfl⟩:=ri;obtain ⟨its,n,r,ho,hz⟩:=I.lst hp;obtain ⟨h1,h2,h3,h4⟩:=np hj;have hl:=r.length;have hn:=fk
 have I':Inv X pins σ (upd H p (.lst (xs.set j v))) { s with heap:=s.heap.update p (VA (·.setIfInBounds j u)) } :=
  I.lstUpd hp ho (qh its n j u) (r.set rv j) (by rw [Za];exact hz) s.toks
 by_cases h0:0<=k
 · have hk:k.toNat=j:=by
    rw [seqIndex_of h0 h4] at h1;exact UR h1
   exact PySem.W.ki_setAt ho h0 (by omega) (by rw [Uu,<- hl];exact h4) (by rw [hk];exact ⟨_,I',q⟩)
 · have hk:(k+(its.toArray.size:Int)).toNat=j:=by
    rw [seqIndex_neg (by omega) h3] at h1;rw [Uu,<- hl];exact UR h1
   exact PySem.W.ki_setBack ho (by omega) (by rw [Uu,<- hl];exact h3) (by omega) (by rw [hk];exact ⟨_,I',q⟩)
theorem nn (lo hi:Option Int) (n:Nat):(Yi lo hi none n).1=((HT.sIx n 0 lo:Nat):Int)/\(Yi lo hi none n).2.1=((HT.sIx n n hi:Nat):Int)/\(Yi lo hi none n).2.2=1:=by
 refine ⟨?_,?_,rfl⟩
 · cases lo with
   | none=>simp [Yi,HT.sIx]
   | some i =>
     simp only [Yi,HT.sIx,Option.getD_none,show (1:Int) > 0 by decide,if_true];by_cases h:i<0
     · simp only [h,if_true] <;> omega
     · simp only [h,if_false] <;> omega
 · cases hi with
   | none=>simp [Yi,HT.sIx]
   | some i =>
     simp only [Yi,HT.sIx,Option.getD_none,show (1:Int) > 0 by decide,if_true];by_cases h:i<0
     · simp only [h,if_true] <;> omega
     · simp only [h,if_false] <;> omega
theorem lZ (its:List Ul) (lo hi:Option Int):slicePick its.toArray lo hi none=((its.drop (HT.sIx its.length 0 lo)).take (HT.sIx its.length its.length hi - HT.sIx its.length 0 lo)).toArray:=by
 obtain ⟨h1,h2,h3⟩:=nn lo hi its.toArray.size;unfold slicePick;rw [h1,h2,h3];simp only [sliceRange_one,pick_run,Uu] <;> rfl
inductive vx (K:Ug) (x:V) (lo:Option Int) (hi:Option Int) (H:Hp) (Q:VK):Prop
 | mk (a:_) (xs:_) (yp:x=.ref a) (yq:SqL K H a xs) (yz:∀ p,H p=none->Q (.ref p) (upd H p (.lst (du xs lo hi)))):vx K x lo hi H Q
def ya (K:Ug):V->Option Int->Option Int->Hp->VK->Prop:=vx K
theorem m8:SlR X (ya X.K):=by
 intro pins s σ H x v vl vu lo hi sl Q I rx hs pl pu h;obtain ⟨a,xs,rfl,hx,q⟩:=h;cases rx;obtain ⟨its,r,ht,hz⟩:=I.list hx;have hlen:=r.length;refine ⟨"list",_,slot_list_getitem.lookup,ht.isList.typeIs,?_⟩;refine wpAny_getItem_list_slice ht.isList hs pl pu .none (by simp) ?_ (by rw [Uu] <;> omega);rw [lZ,<- hlen];refine ⟨.ref s.heap.objs.size,_,I.laid (t':=s.toks) (o:=.lst (du xs lo hi)) (fun b ob q=>Up _ q) (Uj _) ?_,rfl,q _ (I.hok.fresh (Uj _))⟩;exact ⟨V4 (jK xs lo hi) hz,_,0,(r.drop (HT.sIx xs.length 0 lo)).take (HT.sIx xs.length xs.length hi - HT.sIx xs.length 0 lo),Uy _ rfl⟩
inductive uq (K:Ug) (xs:List V) (H:Hp) (Q:VK):Prop
 | mk (p:Ui) (ys:List V) (yp:xs=[.ref p]) (yq:SqL K H p ys∨SqT K H p ys) (yz:Q (.int ys.length) H):uq K xs H Q
theorem ao:g9 X (.builtin "len") (uq X.K):=by
 intro pins s σ H xs us Q I r h;obtain ⟨p,ys,rfl,hq,q⟩:=h;obtain ⟨u,rfl,rx⟩:=vals1 r;cases rx;have hn:=fk;rcases hq with hq | hq
 · obtain ⟨its,r',pl,hz⟩:=I.list hq;have hlen:=r'.length;exact Calls.call_len_list pl.isList (by simp only [Uu] <;> omega) ⟨.int ys.length,H,I.tok _,⟨s.toks+1,by rw [Uu,hlen]⟩,q⟩
 · obtain ⟨its,r',pl,hz⟩:=I.tuple hq;have hlen:=r'.length;exact len_tuple pl (by simp only [Uu] <;> omega) ⟨.int ys.length,H,I.tok _,⟨s.toks+1,by rw [Uu,hlen]⟩,q⟩
theorem bV:g9 X (.type "tuple") (fun xs H Q=>∃ p ys,xs=[.ref p]/\((SqL X.K H p ys/\∀ l,H l=none->Q (.ref l) (upd H l (.tup ys)))∨(SqT X.K H p ys/\Q (.ref p) H))):=by
 intro pins s σ H xs us Q I r h;obtain ⟨p,ys,rfl,h⟩:=h;obtain ⟨u,rfl,rx⟩:=vals1 r;cases rx;rcases h with ⟨hq,q⟩ | ⟨hq,q⟩
 · obtain ⟨its,r',pl,hz⟩:=I.list hq;have hlen:=r'.length;refine call_tuple_list pl.isList (fun h' kp=>?_) (by simp only [Uu] <;> omega);have I1:Inv X pins σ H { s with heap:=h' }:=I.kept (t':=s.toks) kp
   have I2:Inv X pins σ (upd H h'.objs.size (.tup ys)) { s with heap:=h'.push { cls:=.type "tuple",data:=.seq its.toArray } } :=
    I1.laid (t':=s.toks) (fun b o e=>Up _ e) (Uj _) (show ObjOk X.prog X.w _ _ _ (.tup ys) from ⟨hz,its,0,r',Uy _ rfl⟩)
   exact ⟨.ref h'.objs.size,_,I2,rfl,q _ (I1.hok.fresh (Uj _))⟩
 · obtain ⟨its,r',pl,hz⟩:=I.tuple hq;exact call_tuple_same pl ⟨.ref p,H,I,rfl,q⟩
def tyV (K:Ug) (T:String) (x:V) (H:Hp):Prop:=match x with
 | .str _=>T="str"
 | .int _=>T="int"
 | .ref p=>(T="list"/\∃ xs,SqL K H p xs)∨(T="tuple"/\∃ o,K.lookup p=some o/\o.cls=.type "tuple"/\o.dict=none) ∨
  (T="dict"/\((∃ f',H p=some (.dK f'))∨∃ f',H p=some (.dT f')))∨(T="set"/\∃ S n,H p=some (.set S n))
 | _=>False
theorem tN {pins:List (Ui×WA)} {σ:St} {H:Hp} {s:Ur} {T:String} {x:V} {v:Ul} (I:Inv X pins σ H s) (r:RelV x v) (ty:tyV X.K T x H) :
 s.TypeIs v T/\∀ a,v=.ref a->∃ ob,s.heap.get? a=some ob/\ob.dict=none:=by
 cases x with
 | str z =>
   obtain ⟨t,rfl⟩:=r;cases (show T="str" from ty);exact ⟨typeIs_str s z t,fun _ e=>nomatch e⟩
 | int i =>
   obtain ⟨t,rfl⟩:=r;cases (show T="int" from ty);exact ⟨typeIs_int s i t,fun _ e=>nomatch e⟩
 | ref p =>
   cases r;rcases ty with ⟨rfl,xs,hq⟩ | ⟨rfl,o,hk,hc,hd⟩ | ⟨rfl,hk⟩ | ⟨rfl,S,n,hk⟩
   · obtain ⟨its,_,pl,_⟩:=I.list hq;refine ⟨pl.isList.typeIs,fun a e=>?_⟩;cases e;obtain ⟨o,n,e,c,hd,_⟩:=pl;exact ⟨o,e,hd⟩
   · refine ⟨⟨o,I.kIn p o hk,hc⟩,fun a e=>?_⟩;cases e;exact ⟨o,I.kIn _ o hk,hd⟩
   · have z:∃ o,s.heap.get? p=some o/\o.ExactDict:=by
      rcases hk with ⟨f',hk⟩ | ⟨f',hk⟩
      · obtain ⟨_,_,_,_,o,_,_,e,ex,_⟩:=I.hok p _ hk;exact ⟨o,e,ex⟩
      · obtain ⟨_,_,_,_,o,_,_,e,ex,_⟩:=I.hok p _ hk;exact ⟨o,e,ex⟩
     obtain ⟨o,e,ex⟩:=z;refine ⟨⟨o,e,ex.1⟩,fun a e2=>?_⟩;cases e2;exact ⟨o,e,ex.2.1⟩
   · obtain ⟨o,_,_,_,e,ex,_⟩:=I.hok p _ hk;refine ⟨⟨o,e,ex.1⟩,fun a e2=>?_⟩;cases e2;exact ⟨o,e,ex.2.1⟩
 | _=>exact XE ty
def wG (K:Ug) (T:String) (r:V->List V->Hp->VK->Prop) (to:TE):TE:=fun σ H Q=>to σ H fun x H1=>tyV K T x H1/\r x [] H1 Q
def tBM (K:Ug) (T:String) (r:V->List V->Hp->VK->Prop) (to:TE) (t:TA):TE:=fun σ H Q=>to σ H fun x H1=>tyV K T x H1/\t σ H1 fun xs H2=>r x xs H2 Q
variable {o e:VC} {es:List VC} {to:TE} {t:TA} {name:US} {apos yt:Yl} {T id:String} {r:V->List V->Hp->VK->Prop}
theorem jm (pa:PlainAttrs T) (slot:Slot T name id) (GP:typeOf (.builtin id)=pure (.type "method_descriptor")) (hm:MtR X id r) (ho:PE X o to)
 (AA:attributeBase o name X.env (WN o X.env)=WN o X.env:=by rfl) (AB:(apos.endLine == yt.line)=true:=by rfl):PE X (.Call (.Attribute o name apos) [] [] yt) (wG X.K T r to):=by
 intro pins s σ H Q I h;refine wpAny_Call_method0_late AA AB (thn (ho pins s σ H _ I h) fun v s1 ⟨x,H1,I1,r1,ty,q1⟩=>?_);obtain ⟨h1,h2⟩:=tN I1 r1 ty;exact ⟨T,id,pa,slot,GP,h1,h2,XA rfl (PySem.evalArgs_none (hm pins s1 σ H1 x [] v [] Q I1 r1 .nil q1))⟩
theorem bL (pa:PlainAttrs T) (slot:Slot T name id) (GP:typeOf (.builtin id)=pure (.type "method_descriptor")) (hm:MtR X id r) (ho:PE X o to) (ha:PA X (e::es) t)
 (AA:attributeBase o name X.env (WN o X.env)=WN o X.env:=by rfl)
 (ES:((Ys yt (Vm (e::es) X.env)).all (fun x=>!x.1) && (backToKw yt (keywordEach [] X.env)).all (fun x=>x.1.isSome)
  && decide ((e::es).length+([]:List Keyword).length+(if ([]:List Keyword).isEmpty then 0 else 1)<30))=true:=by rfl)
 (AB:(apos.endLine == yt.line)=true:=by rfl) (hs:Vm (e::es) X.env=(false,WN e X.env)::Vm es X.env:=by rfl) (Bc:(Ys yt (Vm es X.env)).any (·.1)=false:=by rfl) :
 PE X (.Call (.Attribute o name apos) (e::es) [] yt) (tBM X.K T r to t):=by
 intro pins s σ H Q I h;refine wpAny_Call_method_late AA ES AB rfl (thn (ho pins s σ H _ I h) fun v s1 ⟨x,H1,I1,r1,ty,q1⟩=>?_);obtain ⟨h1,h2⟩:=tN I1 r1 ty;refine ⟨T,id,pa,slot,GP,h1,h2,?_⟩;have hA:=ha yt pins s1 σ H1 _ I1 q1;rw [hs] at hA ⊢;refine XA (by show (false || (Ys yt (Vm es X.env)).any (·.1))=false;rw [Bc] <;> rfl) (YH ?_);exact thn hA fun us s2 ⟨vs,H2,I2,r2,q2⟩=>hm pins s2 σ H2 x vs v us Q I2 r1 r2 q2
end
end L2
namespace L2
open PySem PySem.Spec PyProof.Rows
def MtM (X:Cx) (id:String) (r:V->List V->Hp->VK->Prop):Prop :=
 ∀ (pins:List (Ui×WA)) (s:Ur) (σ:St) (H:Hp) (x:V) (xs:List V) (v:Ul) (us:List Ul) (Q:VK),Inv X pins σ H s->RelV x v->Vals xs us->r x xs H Q →
   UC (U0 X.prog X.w) X.A (call (.builtin id) (v::us)) (EP X pins σ Q) X.xe s
theorem Vals.one:∀ {x:V} {us:List Ul},Vals [x] us->∃ u,us=[u]/\RelV x u
 | _,_,.cons r .nil=>⟨_,rfl,r⟩
theorem Vals.zero:∀ {us:List Ul},Vals [] us->us=[]
 | _,.nil=>rfl
theorem Vals.dropLast {xs:List V} {us:List Ul} (h:Vals xs us):Vals xs.dropLast us.dropLast:=by
 induction h with
 | nil=>exact .nil
 | cons r t ih =>
   cases t with
   | nil=>exact .nil
   | cons q t'=>exact .cons r ih
theorem Vals.reverse {xs:List V} {us:List Ul} (h:Vals xs us):Vals xs.reverse us.reverse:=by
 induction h with
 | nil=>exact .nil
 | cons r t ih=>rw [Vu,Vu];exact Vals.append ih (.cons r .nil)
theorem p8 {α:Type} (l:List α):l.eraseIdx (l.length - 1)=l.dropLast:=by
 induction l with
 | nil=>rfl
 | cons a r ih =>
   cases r with
   | nil=>rfl
   | cons b r =>
     have e:(a::b::r).length - 1=((b::r).length - 1)+1:=by
      have h1:(a::b::r).length=r.length+2:=rfl;have h2:(b::r).length=r.length+1:=rfl;omega
     rw [e,List.eraseIdx_cons_succ,ih]
     all_goals rfl
section
variable {X:Cx} {pins:List (Ui×WA)} {σ:St} {H:Hp} {s:Ur} {l b:Ui} {xs ys zs:List V}
theorem Inv.lset {its its':List Ul} {n:Nat} {f:Array Ul->Array Ul} {t':Nat} (I:Inv X pins σ H s) (hH:H l=some (.lst xs))
 (e:s.heap.get? l=some { cls:=.type "list",data:=.seq its.toArray n }) (hf:f its.toArray=its'.toArray) (hv:Vals ys its') (hz:ys.length<=UD) :
 Inv X pins σ (upd H l (.lst ys)) { s with heap:=s.heap.update l (VA f),toks:=t' }:=by
 have q:=PySem.IsL.update e f;rw [hf] at q;refine I.write (x:=l) (e:=l) (by rw [hH];exact trivial) (.inl rfl) (fun b' u hb hu=>(Vd s.heap (VA f) (Wd hb)).trans hu) ⟨_,q⟩ ?_;exact ⟨hz,its',_,hv,q⟩
theorem Inv.lnew {its:List Ul} {t':Nat} (I:Inv X pins σ H s) (hv:Vals ys its) (hz:ys.length<=UD) :
 Inv X pins σ (upd H s.heap.objs.size (.lst ys)) { s with heap:=s.heap.push { cls:=.type "list",data:=.seq its.toArray },toks:=t' } :=
 I.laid (fun _ _ q=>Up _ q) (Uj _) ⟨hz,its,0,hv,Uy _ rfl⟩
theorem Inv.fresh (I:Inv X pins σ H s):H s.heap.objs.size=none:=I.hok.fresh (Uj _)
theorem Inv.lstM (I:Inv X pins σ H s) (hH:H l=some (.lst xs)):xs.length<=UD/\∃ (its:List Ul) (n:Nat),Vals xs its/\xs.length=its.length/\s.heap.get? l=some { cls:=.type "list",data:=.seq its.toArray n }:=by
 obtain ⟨z,its,n,r,e⟩:=I.hok l _ hH;exact ⟨z,its,n,r,r.length,e⟩
theorem lu {n:Nat} (h:n<=UD):WJ n=false:=by
 unfold WJ;exact decide_eq_false (by omega)
end
section
variable {X:Cx}
inductive px (x:V) (vs:List V) (H:Hp) (Q:VK):Prop
 | mk (l:_) (xs:_) (y:_) (yp:x=.ref l) (yq:vs=[y]) (yz:H l=some (.lst xs)) (yF:xs.length<UD) (yW:Q .non (upd H l (.lst (xs++[y])))):px  x vs H Q
def rh:V->List V->Hp->VK->Prop:=px
theorem aL:MtM X "list.append" rh:=by
 intro pins s σ H x vs v us Q I rx rv h;obtain ⟨l,xs,y,rfl,rfl,hH,hz,q⟩:=h;cases rx;obtain ⟨u,rfl,ru⟩:=rv.one;obtain ⟨z,its,n,r,hl,e⟩:=I.lstM hH;refine YU F.slot_list_append ⟨_,e,rfl⟩ F.entry_list_append (F.args_list_append_2 _ _) (PySem.list_append l its.toArray n u (by rw [Uu];omega)) ⟨e,?_⟩;refine ⟨.non,_,I.lset (its':=its++[u]) hH e (by simp) (r.append (.cons ru .nil)) ?_,rfl,q⟩;rw [UE,List.length_singleton];omega
inductive ph (x:V) (vs:List V) (H:Hp) (Q:VK):Prop
 | mk (l:_) (b:_) (xs:_) (zs:_) (yp:x=.ref l) (yq:vs=[.ref b]) (yz:H l=some (.lst xs)) (yF:H b=some (.lst zs)) (yW:xs.length+zs.length<=UD) (Aa:Q .non (upd H l (.lst (xs++zs)))):ph  x vs H Q
def uJ:V->List V->Hp->VK->Prop:=ph
theorem gF:MtM X "list.extend" uJ:=by
 intro pins s σ H x vs v us Q I rx rv h;obtain ⟨l,b,xs,zs,rfl,rfl,hH,hB,hz,q⟩:=h;cases rx;obtain ⟨u,rfl,ru⟩:=rv.one;cases ru;obtain ⟨z,its,n,r,hl,e⟩:=I.lstM hH;obtain ⟨z2,yf,n2,r2,y4,e2⟩:=I.lstM hB;have hsz:its.toArray.size+yf.toArray.size<=UD:=by rw [Uu,Uu];omega
 have Cs:¬ (!its.toArray.isEmpty && WJ (its.toArray.size+yf.toArray.size))=true:=by
  rw [lu hsz,Yd];exact UI
 refine YU F.slot_list_extend ⟨_,e,rfl⟩ F.entry_list_extend (F.args_list_extend_2 _ _)
  (AutoSeq1.list_extend_list_list_0 l its.toArray n b yf.toArray n2 Cs (by rw [Uu];omega) (by omega)) ⟨e,e2,?_⟩
 refine ⟨.non,_,I.lset (its':=its++yf) hH e (by simp) (r.append r2) ?_,rfl,q⟩;rw [UE];omega
inductive vh (x:V) (vs:List V) (H:Hp) (Q:VK):Prop
 | mk (l:_) (xs:_) (y:_) (yp:x=.ref l) (yq:vs=[]) (yz:H l=some (.lst xs)) (yF:xs[xs.length - 1]?=some y) (yW:Q y (upd H l (.lst xs.dropLast))):vh  x vs H Q
def xf:V->List V->Hp->VK->Prop:=vh
theorem jd:MtM X "list.pop" xf:=by
 intro pins s σ H x vs v us Q I rx rv h;obtain ⟨l,xs,y,rfl,rfl,hH,hy,q⟩:=h;cases rx;have GQ:=rv.zero;subst GQ;obtain ⟨z,its,n,r,hl,e⟩:=I.lstM hH;obtain ⟨u,hu,ru⟩:=r.get hy
 have AD:its.toArray[its.toArray.size - 1]?=some u:=by
  show its.toArray[its.length - 1]?=some u;rw [<- Xw,<- hl];exact hu
 refine YU F.slot_list_pop ⟨_,e,rfl⟩ F.entry_list_pop (F.args_list_pop_1 _) (MeetsSeq.list_pop_last l its.toArray n u AD (by rw [Uu];omega)) ⟨e,?_⟩;refine ⟨y,_,I.lset (its':=its.dropLast) hH e ?_ r.dropLast ?_,ru,q⟩
 · show its.toArray.eraseIdxIfInBounds (its.toArray.size - 1)=its.dropLast.toArray;rw [Uu,List.eraseIdxIfInBounds_toArray,p8]
 · rw [List.length_dropLast];omega
inductive vD (x:V) (y:V) (H:Hp) (Q:VK):Prop
 | mk (l:_) (b:_) (xs:_) (zs:_) (yp:x=.ref l) (yq:y=.ref b) (yz:H l=some (.lst xs)) (yF:H b=some (.lst zs)) (yW:xs.length+zs.length<=UD) (Aa:∀ p,H p=none->Q (.ref p) (upd H p (.lst (xs++zs)))):vD  x y H Q
def xT:R2:=vD
theorem tS:OpR X (X9 .Add) xT:=by
 intro pins s σ H x y v u Q I rx ry h;obtain ⟨l,b,xs,zs,rfl,rfl,hH,hB,hz,q⟩:=h;cases rx;cases ry;obtain ⟨z,its,n,r,hl,e⟩:=I.lstM hH;obtain ⟨z2,yf,n2,r2,y4,e2⟩:=I.lstM hB;refine PySem.P.add_list e e2 ?_ (by rw [Uu,Uu];omega);have ea:its.toArray++yf.toArray=(its++yf).toArray:=by simp
 rw [ea];exact ⟨.ref _,_,I.lnew (t':=s.toks) (r.append r2) (by rw [UE];omega),rfl,q _ I.fresh⟩
end
section
variable {prog:Uz} {w:UN} {A:U9} {E:Ul->Ur->Prop} {s:Ur}
end
section
variable {X:Cx}
end
end L2
namespace Att
open PySem PySem.W PySem.Calls PyProof.Rows
theorem ints_of_wellAll {P:Params} {h:VH}:∀ (ns:List Int) (vs:List Ul),WellAll P h vs (ns.map WData.int)->IntsAre vs ns:=by
 intro ns;induction ns with
 | nil =>
   intro vs w;rw [Wq] at w;cases w;exact .nil
 | cons n ns ih =>
   intro vs w;rw [U8] at w;cases w with
   | cons a b =>
     cases a;exact .cons _ _ (ih _ b)
theorem script_of {l:OpenLaw} {n:Nat} (hn:l.most=some n) {P:Params} {h:VH} {args:List WData} {vals:List Ul}
 (Ds:l.row.toRowW.claim.pre args=true) (AR:WellAll P h vals args) :
 ∃ a vs ns,vals=[UZ a]/\args=[WData.list (ns.map WData.int)]/\h.get? a=some { cls:=.type "list",data:=.seq vs.toArray }/\IntsAre vs ns/\ns.length<=n:=by
 have P0:WShape.hasAll [] args [.list .int]=true:=(pre_splitW Ds).1;have hc:l.pre.holds [] { args:=args }=true:=(pre_splitW Ds).2;obtain ⟨d,r,rfl,h1,h2⟩:=hasAllW_cons P0;obtain rfl:=hasAllW_nil h2;obtain ⟨xs,rfl,h3⟩:=hasW_list h1;obtain ⟨ns,rfl⟩:=items_int h3
 have hlen:ns.length<=n:=by
  unfold OpenLaw.pre at hc
  have h4:(WTm.not (.lt (.lit (.int (n:Int))) (.len (.arg 0)))).holds [] { args:=[.list (ns.map .int)] }=true:=by
   have h4:=(holds_andW hc).1;rw [hn] at h4;exact h4
  have h5:=condW_of h4 (w_not (w_lt w_lit (w_len_list (w_arg rfl))));rw [Uc] at h5;refine Nat.le_of_not_lt fun q=>?_;have q':(n:Int)<((ns.length:Nat):Int):=by omega
  first
   | (rw [decide_eq_true q'] at h5;exact absurd h5 (by decide))
   | (simp at h5;omega)
 cases AR with
 | cons w1 w2 =>
   cases w2;cases w1 with
   | list ho yi=>exact ⟨_,_,ns,rfl,rfl,ho,ints_of_wellAll ns _ yi,hlen⟩
theorem post_true (l:OpenLaw) (args:List WData):l.row.toRowW.claim.post args (.bool true) args=true :=
 postW_of (r:=l.row.toRowW) (X:=(true == true))
  (show WShape.has [] (.bool true) .bool=true by first | rfl | decide | simp [WShape.has,WShape.arms,WShape.armsAll])
  (show (WTm.eq .res (.lit (.bool true))).value [] { args:=args,res:=some (.bool true),after:=args }=some (.bool (true == true)) from w_eq_bool (w_res rfl) w_lit) rfl
theorem attach_call {l:OpenLaw} {n:Nat} {q:Uz} {loose:List US} {XP:(US->Option Ul)->VH->Prop} {YP:UN->VH->Prop} {d:DefRec}
 (hn:l.most=some n) (hdf:d.params.defaults=[])
 (call:∀ (w:UN) (s₀ ye:Ur) (mg mb:US->Option Ul) (fa:Ui) (o:WA) (pm cd doc:Ul) (a:Ui) (vs:List Ul) (ns:List Int),
  Ground q loose [] XP w s₀ mg mb ye.heap->YP w ye.heap →
  ye.heap.get? fa=some o->o.data=.func (docDef d.name d.params d.body d.scope pm cd doc)->ye.heap.CodeRec cd d.name->mg d.name=some (.ref fa) →
  ye.heap.get? a=some { cls:=.type "list",data:=.seq vs.toArray }->IntsAre vs ns->ns.length<=n->ye.gens=#[] →
  Yr (U0 l.prog w) callerA (.call (.ref fa) ⟨[.ref a],[]⟩) (fun r s'=>r=.ok (.ret (.bool true))/\OldK ye.heap s'.heap/\s'.os=ye.os/\AllBare s'.gens) ye) :
 WalkO q loose XP YP l.row.toRowW d [] (fun f vs=>PySem.call f vs):=by
 intro w s₀ ye mg mb G Y fa o pm cd doc dV kV ho hd Co hD GR hg args vals as Ds P1 NZ AR P4;obtain rfl:dV=.none:=Dflts.none hD hdf;obtain rfl:kV=.none:=Dflts.noKw hD;obtain ⟨a,vs,ns,rfl,rfl,ET,hints,hlen⟩:=script_of hn Ds AR;refine enter_call (codeAny_mono (call w s₀ ye mg mb fa o pm cd doc a vs ns G Y ho (fd_plain hd) Co GR ET hints hlen hg) fun r s' hq=>?_);obtain ⟨rfl,h2,h3,h4⟩:=hq;exact ⟨.inl ⟨.bool true,.bool true,[],rfl,fun _=>rfl,.bool true,post_true l _,fun _=>⟨List.Pairwise.nil,fun _ hm=>(nomatch hm)⟩⟩,h2,h3,h4⟩
section
variable {prog:Uz} {w:UN} {A:U9} {E:Ul->Ur->Prop} {s:Ur} {K:Frag}
end
end Att
namespace L2
open PySem PySem.Spec PyProof.Rows
theorem my:∀ {vs:List Ul} {ns:List Int},IntsAre vs ns->Vals (ns.map V.int) vs
 | _,_,.nil=>.nil
 | _,_,.cons n t h=>.cons ⟨t,rfl⟩ (my h)
def wq (H:Hp):Prop:=∀ b,H b=none∨∃ o xs,H b=some (.frz o (.lst xs))
theorem sW {P:Uz} {w:UN} {K:Ug} {mg mb:US->Option Ul} {CX:CXT} {k:Nat} {fa a:Ui} {fd:XD} {x:US} {sp:Sp} {ye:Ur} {vs:List Ul} {ns:List Int}
 (KX:K.In ye.heap) (BL:ye.heap.Ns Va mg) (hb:ye.heap.Ns builtinsNs mb) (Ky:∀ x:US,x≠"__name__"->mb x=YM x) (Kz:ye.heap.NoLimit) (hg:ye.gens=#[])
 (ha:ye.heap.get? a=some { cls:=.type "list",data:=.seq vs.toArray }) (hi:IntsAre vs ns) (hl:ns.length<=UD) (hr:Room k callerA)
 (F:∀ base:VH,K.In base->base.Ns Va mg->bp P w K mg base CX k fa fd [x] sp) (GS:∀ (s:Ur) (u:Ul),BindsTo s fd ⟨[u],[]⟩ [(x,u)])
 (D7:∀ H:Hp,wq H->SqL K H a (ns.map V.int)->sp [.ref a] H (fun v _=>v=.bl true) fun _ _ _=>False)
 (KA:∀ H e s',CX [] H ye (fun _ _ _=>False) e s'->False) :
 Yr (U0 P w) callerA (.call (.ref fa) ⟨[.ref a],[]⟩) (fun r s'=>r=.ok (.ret (.bool true))/\OldK ye.heap s'.heap/\s'.os=ye.os/\AllBare s'.gens) ye:=by
 have rv:=my hi;have KC:=hi.length
 -- from an abstract heap in N0 nothing but AQ script may be tracked
 have core:∀ H:Hp,wq H->SqL K H a (ns.map V.int)->HOk P w H ye.heap->(∀ b,H b≠none->b=a)->(H a≠none->K.lookup a=none) →
  Yr (U0 P w) callerA (.call (.ref fa) ⟨[.ref a],[]⟩) (fun r s'=>r=.ok (.ret (.bool true))/\OldK ye.heap s'.heap/\s'.os=ye.os/\AllBare s'.gens) ye:=by
  intro H hO hS hok hA hK;have Bx:∀ {b:Ui} {o:WA},ye.heap.get? b=some o->H b=none->(nV ye.heap H).get? b=some o:=fun e n=>ug e n
  have GK:∀ {b:Ui} {o:WA} {es:Array DictEntry} {ep:Nat},ye.heap.get? b=some o->o.data=.dict es ep->H b=none:=fun {b o es ep} e d=>by
   cases q:H b with
   | none=>rfl
   | some u =>
     have e':b=a:=hA b (by rw [q];simp);subst e';rw [ha] at e;cases e;have d':Data.seq vs.toArray _=Data.dict es ep:=d;cases d'
  have JH:∀ {b:Ui} {m:US->Option Ul},ye.heap.Ns b m->(nV ye.heap H).Ns b m:=fun {b m} ⟨o,es,ep,e,d,r⟩=>⟨o,es,ep,Bx e (GK e d),d,r⟩
  have N1:K.In (nV ye.heap H):=fun b o e=>Bx (KX b o e) (by
   cases q:H b with
   | none=>rfl
   | some u =>
     have e':b=a:=hA b (by rw [q];simp);subst e';rw [hK (by rw [q];simp)] at e;cases e)
  have hM:Mod K mg (nV ye.heap H):=⟨N1,JH BL,⟨mb,JH hb,Ky⟩,let ⟨mc,h1,h2⟩:=Kz;⟨mc,JH h1,h2⟩⟩;have e0:u6 P w K mg (nV ye.heap H) callerA [] ye H:=⟨rfl,hM,fun b o e=>u9 e,ZL (sD _ _),trivial,fun b hb=>absurd (show b∈([]:List Ui) from hb) (by simp),hok,.of_eq hg⟩;refine codeAny_mono ((F _ N1 (JH BL)).run callerA [] ye H ⟨[.ref a],[]⟩ [.ref a] [.ref a] _ _ hr e0 (GS ye (.ref a)) (.cons rfl .nil) (D7 H hO hS)) fun r s' h=>?_;cases r with
  | error e=>exact (KA H e s' h).elim
  | ok fl =>
    cases fl with
    | next=>exact XE h
    | brk=>exact XE h
    | cont=>exact XE h
    | ret u =>
      obtain ⟨v,H',os,bare,un,KD,r',q⟩:=h;have q':v=.bl true:=q;subst q';obtain rfl:u=Value.bool true:=r';refine ⟨rfl,OldK.of_keep fun b o e=>?_,os,bare⟩;cases q:H b with
      | none=>exact un.keep b o e q (by intro z;exact absurd (show b∈([]:List Ui) from z) (by simp)) (by simp)
      | some u =>
        rcases hO b with z | ⟨ob,xs,z⟩
        · rw [q] at z;cases z
        · have z2:=un.frzs b ob _ z;obtain ⟨e1,_⟩:=hok b _ z;obtain ⟨e2,_⟩:=KD b _ z2;rw [e] at e1;cases e1;exact e2
 cases hk:K.lookup a with
 | some o =>
   -- AQ script is one of AQ GU own objects
   have e:=KX a o hk;rw [ha] at e;cases e;refine core (fun _=>none) (fun _=>.inl rfl) (.inr ⟨_,vs.toArray,_,hk,rfl,rfl,rfl,by rw [Uu,KC];exact hl,by simpa using rv⟩) (fun b u z=>by have z':(none:Option HO)=some u:=z;cases z') (fun b z=>absurd rfl z) fun z=>absurd rfl z
 | none =>
   refine core (fun b=>if b=a then some (.frz { cls:=.type "list",data:=.seq vs.toArray } (.lst (ns.map V.int))) else none) (fun b=>?_) (.inl (.inr ⟨{ cls:=.type "list",data:=.seq vs.toArray },if_pos rfl⟩)) (fun b u z=>?_) (fun b z=>?_) fun _=>hk
   · by_cases hb:b=a
     · exact .inr ⟨_,_,if_pos hb⟩
     · exact .inl (if_neg hb)
   · by_cases hb:b=a
     · have z':=(if_pos hb).symm.trans z;cases z';subst hb;exact ⟨ha,by rw [Uc];exact hl,vs,_,rv,ha⟩
     · have z':=(if_neg hb).symm.trans z;cases z'
   · by_cases hb:b=a
     · exact hb
     · exact absurd (if_neg hb) z
end L2
namespace L2
open PySem PySem.Spec PyProof.Rows
theorem uR {l:PySem.W.OpenLaw} {n k:Nat} {q:Uz} {loose:List US} {XP:(US->Option Ul)->VH->Prop} {YP:UN->VH->Prop} {d:DefRec} {K:Params->Ug} {CX:UN->CXT} {sp:UN->Sp} {x:US}
 (hn:l.most=some n) (N2:n<=UD) (hdf:d.params.defaults=[]) (hr:Room k callerA)
 (hY:∀ (w:UN) (h:VH),YP w h->(K w.params).In h)
 (F:∀ (w:UN) (mg:US->Option Ul) (fa:Ui) (h:VH),(K w.params).In h->h.Ns Va mg->mg d.name=some (.ref fa) →
  ∃ fd:XD,(∀ (s:Ur) (u:Ul),BindsTo s fd ⟨[u],[]⟩ [(x,u)]) ∧
    ∀ base:VH,(K w.params).In base->base.Ns Va mg->bp l.prog w (K w.params) mg base (CX w) k fa fd [x] (sp w))
 (D7:∀ (w:UN) (H:Hp) (a:Ui) (ns:List Int),ns.length<=n->wq H->SqL (K w.params) H a (ns.map V.int)->sp w [.ref a] H (fun v _=>v=.bl true) fun _ _ _=>False)
 (KA:∀ (w:UN) (H:Hp) (s:Ur) (e:Ul) (s':Ur),CX w [] H s (fun _ _ _=>False) e s'->False) :
 PySem.W.WalkO q loose XP YP l.row.toRowW d [] (fun f vs=>PySem.call f vs):=by
 refine Att.attach_call hn hdf fun w s₀ ye mg mb fa o pm cd doc a vs ns G Y ho hd Co GR ET hints hlen hg=>?_;have KX:=hY w _ Y;obtain ⟨fd,hb,hF⟩:=F w mg fa _ KX G.T.g GR;exact sW KX G.T.g G.T.b G.T.builtins G.T.nolimit hg ET hints (V4 hlen N2) hr hF hb (fun H hO hS=>D7 w H a ns hlen hO hS) fun H e s'=>KA w H ye e s'
end L2
namespace L2
open PySem PySem.Spec PyProof.Rows
def cp (s:Wk):Arguments:=match s with
 | .FunctionDef _ a _ _ _ _ _ _ _ _=>a
 | _=>{ posonlyargs:=[],args:=[],vararg:=none,kwonlyargs:=[],kw_defaults:=[],kwarg:=none,defaults:=[] }
def cg (s:Wk):List Wk:=match s with
 | .FunctionDef _ _ b _ _ _ _ _ _ _=>b
 | _=>[]
def am (s:Wk):Yk:=match s with
 | .FunctionDef _ _ _ _ _ _ sc _ _ _=>sc
 | _=>{ kind:=.function,names:=[],isGenerator:=false,isCoroutine:=false }
abbrev CX0:CXT:=fun _ _ _ _ _ _=>False
abbrev E0:XK:=fun _ _ _=>False
theorem lB {X:Cx}:Passes CX0 X E0:=fun _ _ _ _ _ _ _ h=>h.elim
structure Fun (K:Ug) (x qual:US) (st:Wk) (f:Ui) (fd:XD):Prop where
 ex:∃ (oc:Ul) (od:Option Ui) (kV doc pm:Ul) (an:Option Ui) (yl ct:Ul) (D6:Array (Option Ul)),
  fd=XH x qual (cp st) (cg st) (am st) .none kV doc pm an yl ct/\K.lookup f=some ⟨oc,od,.func fd,D6⟩/\Zi K yl qual=true
 kp:Zh K (.ref f)=true
section
variable {P:Uz} {w:UN} {K:Ug} {mg:US->Option Ul} {base:VH}
theorem Fun.ok {x qual:US} {st:Wk} {f:Ui} {fd:XD} {N ps:List US} {k:Nat} {sp:Sp} (F:Fun K x qual st f fd) (S:aD N ps (am st)) (len:∀ vs H Q E,sp vs H Q E->vs.length=ps.length)
 (Cr:∀ (yl:Ul) (A:U9) (outer:List Env) (s:Ur) (H:Hp) (vs:List V) (Q:VK) (E:XK),Room k (A.deeper (envOfC qual (am st) s.heap.objs.size f yl))->sp vs H Q E →
  ∃ t,PSs (rL CX0 P w K mg base N qual (am st) f yl A outer s H E).nox (cg st) t/\t { nx:=fun _ H'=>Q .non H',rt:=Q } (start N vs) H):bp P w K mg base CX0 (k+1) f fd ps sp:=by
 obtain ⟨oc,od,kV,doc,pm,an,yl,ct,D6,rfl,lk,Co⟩:=F.ex;refine xn lk Co S len fun A outer s H vs Q E hr D7=>?_;obtain ⟨t,h,q⟩:=Cr yl A outer s H vs Q E hr D7;exact ⟨t,h.nox,q⟩
theorem Fun.binds {x qual:US} {st:Wk} {f:Ui} {fd:XD} {ps:List US} (F:Fun K x qual st f fd)
 (h:∀ (kV doc pm:Ul) (an:Option Ui) (yl ct:Ul) (us:List Ul),us.length=ps.length->bindArgs (XH x qual (cp st) (cg st) (am st) .none kV doc pm an yl ct) ⟨us,[]⟩=pure (ps.zip us)):Binds K fd ps []:=by
 obtain ⟨oc,od,kV,doc,pm,an,yl,ct,D6,rfl,lk,Co⟩:=F.ex;exact .all (h kV doc pm an yl ct)
theorem fA {x qual:US} {st:Wk} {f:Ui} {oc:Ul} {od an:Option Ui} {D6:Array (Option Ul)} {kV doc pm yl ct:Ul} (l:K.lookup f=some ⟨oc,od,.func (XH x qual (cp st) (cg st) (am st) .none kV doc pm an yl ct),D6⟩)
 (c:Zi K yl qual=true) (k:Zh K (.ref f)=true):Fun K x qual st f (XH x qual (cp st) (cg st) (am st) .none kV doc pm an yl ct):=⟨⟨oc,od,kV,doc,pm,an,yl,ct,D6,rfl,l,c⟩,k⟩
end
theorem mx {A:U9} {k:Nat} (hr:Room k A):A.units+1<V3:=YD (Nat.add_le_add_left (by decide:1<=64) _) hr.units
section
variable {X:Cx}
theorem pv (i:Nat) {x:US} {pos:Yl} (hN:X.N[i]?=some x:=by rfl) (hv:Vis X.env.scope x:=by first | exact UB rfl | exact Ym (UB rfl) | exact Ym (Ym rfl)) (hd:(x == ("__debug__":US))=false:=by decide)
 (Co:(x == ("__classdict__":US))=false:=by decide):PE X (.Name x pos) (bn i):=wv hN hv hd Co
end
theorem cP {A B:Prop} (h:B):if false=true then A else B:=by
 rw [if_neg UI];exact h
theorem oZ {A B:Prop} (h:A):if true=true then A else B:=by
 rw [if_pos rfl];exact h
theorem cX {c A B:Prop} [Decidable c] (h1:c->A) (h2:¬ c->B):if c then A else B:=by
 by_cases h:c
 · rw [if_pos h];exact h1 h
 · rw [if_neg h];exact h2 h
def Same (H H':Hp):Prop:=∀ b o,H b=some o->H' b=some o
theorem Same.refl (H:Hp):Same H H:=fun _ _ h=>h
theorem Same.trans {H H1 H2:Hp} (a:Same H H1) (b:Same H1 H2):Same H H2:=fun c o h=>b c o (a c o h)
theorem Same.free {H H':Hp} (e:Same H H') {l:Ui} (h:H' l=Option.none):H l=Option.none:=by
 cases q:H l with
 | none=>rfl
 | some o =>
   rw [e l o q] at h;cases h
theorem Same.seq {K:Ug} {H H':Hp} {a:Ui} {xs:List V} (e:Same H H') (h:SqL K H a xs):SqL K H' a xs:=by
 rcases h with (h | ⟨o,h⟩) | h
 · exact .inl (.inl (e _ _ h))
 · exact .inl (.inr ⟨o,e _ _ h⟩)
 · exact .inr h
end L2
namespace L2
open PySem PySem.Spec PyProof.Rows
theorem iw (env:Env):∀ (ns:List (US×WU)) (acc:List (US×Ui)),(∀ n,(n,VN)∈ns->∃ c,env.cells.lookup n=some c) →
 (∀ x c,acc.lookup x=some c->env.cells.lookup x=some c) →
 ∃ cl,(forIn ns acc fun (x:US×WU) (cs:List (US×Ui))=>(if (x.2 == VN)=true then (do let a ← cellOf env x.1;pure (W8 ((x.1,a)::cs))) else pure (W8 cs):Sem _))=pure cl ∧
   (∀ x c,cl.lookup x=some c->env.cells.lookup x=some c)/\(∀ n,(n,VN)∈ns->∃ c,cl.lookup n=some c)/\∀ n c,acc.lookup n=some c->cl.lookup n=some c
 | [],acc,_,ha=>⟨acc,rfl,ha,fun _ h=>by simp at h,fun _ _ h=>h⟩
 | (n,k)::r,acc,hf,ha=>by
   by_cases hk:k=VN
   · subst hk;obtain ⟨c,hc⟩:=hf n UH
     have BM:∀ x c',((n,c)::acc).lookup x=some c'->env.cells.lookup x=some c':=fun x c' e=>by
      rw [WR] at e;cases hx:x == n with
      | true =>
        rw [hx] at e;have e1:x=n:=by simpa using hx
        cases e;rw [e1];exact hc
      | false=>rw [hx] at e;exact ha x c' e
     obtain ⟨cl,h1,h2,h3,h4⟩:=iw env r ((n,c)::acc) (fun m hm=>hf m (UJ _ hm)) BM;have up:∀ m c',((n,c)::acc).lookup m=some c'->cl.lookup m=some c':=h4;refine ⟨cl,?_,h2,?_,?_⟩
     · rw [X5];have e0:cellOf env n=pure c:=by unfold cellOf;rw [hc]
       simp only [beq_self_eq_true,if_true,e0,pure_bind];exact h1
     · intro m hm;rcases UK.mp hm with e | e
       · have:m=n:=by simpa using (Prod.mk.inj e).1
         subst this;exact ⟨c,up m c (by rw [WR];simp)⟩
       · exact h3 m e
     · intro m c' e;by_cases hm:m=n
       · subst hm;have:=ha m c' e;rw [hc] at this;cases this;exact up m c (by rw [WR];simp)
       · have GV:(m == n)=false:=by simpa using hm
         exact up m c' (by rw [WR,GV];exact e)
   · have hb:(k == VN)=false:=by simpa using hk
     obtain ⟨cl,h1,h2,h3,h4⟩:=iw env r acc (fun m hm=>hf m (UJ _ hm)) ha;refine ⟨cl,?_,h2,?_,h4⟩
     · rw [X5];simp only [hb,VE,if_false,pure_bind];exact h1
     · intro m hm;rcases UK.mp hm with e | e
       · exact absurd (Prod.mk.inj e).2.symm hk
       · exact h3 m e
theorem lE {env:Env} {sc:Yk} (hf:∀ n,(n,VN)∈sc.names->∃ c,env.cells.lookup n=some c) :
 ∃ cl,closureFor sc env=pure cl/\(∀ x c,cl.lookup x=some c->env.cells.lookup x=some c)/\∀ n,(n,VN)∈sc.names->∃ c,cl.lookup n=some c:=by
 obtain ⟨cl,h1,h2,h3,_⟩:=iw env sc.names [] hf (fun x c e=>by simp at e);refine ⟨cl,?_,h2,h3⟩;unfold closureFor;have e:(forIn sc.names ([]:List (US×Ui)) fun (x:US×WU) (cs:List (US×Ui))=>(do if (x.2 == VN)=true then (do let a ← cellOf env x.1;pure (W8 ((x.1,a)::cs))) else pure (W8 cs):Sem _))=pure cl:=h1
 first
  | (rw [show (forIn sc.names ([]:List (US×Ui)) _:Sem _)=pure cl from h1];rfl)
  | (simp only [h1,pure_bind])
theorem lp {f:US×WU->US×WU} (hf:∀ p,(f p).1=p.1):∀ {l:List (US×WU)} {x:US} {k:WU},l.lookup x=some k->(l.map f).lookup x=some (f (x,k)).2
 | [],_,_,h=>by simp at h
 | (n,k0)::r,x,k,h=>by
   have ih:=@lp f hf r x k;rw [U8];obtain ⟨a,b,e⟩:∃ a b,f (n,k0)=(a,b):=⟨_,_,rfl⟩;have ea:a=n:=by have:=hf (n,k0);rw [e] at this;exact this
   subst ea;rw [e,WR];cases hx:x == a with
   | true =>
     rw [WR,hx] at h;cases h;have:x=a:=by simpa using hx
     subst this;rw [e]
   | false=>rw [WR,hx] at h;exact ih h
theorem eI {f:US×WU->US×WU} (hf:∀ p,(f p).1=p.1):∀ {l:List (US×WU)} {x:US} {k:WU},(l.map f).lookup x=some k->∃ k0,(x,k0)∈l/\(f (x,k0)).2=k
 | [],_,_,h=>by simp at h
 | (n,k0)::r,x,k,h=>by
   have ih:=@eI f hf r x k;rw [U8] at h;obtain ⟨a,b,e⟩:∃ a b,f (n,k0)=(a,b):=⟨_,_,rfl⟩;have ea:a=n:=by have:=hf (n,k0);rw [e] at this;exact this
   subst ea;rw [e,WR] at h;cases hx:x == a with
   | true =>
     rw [hx] at h;cases h;have:x=a:=by simpa using hx
     subst this;exact ⟨k0,UH,by rw [e]⟩
   | false =>
     rw [hx] at h;obtain ⟨k1,h1,h2⟩:=ih h;exact ⟨k1,UJ _ h1,h2⟩
def rlb (env:Env) (p:US×WU):US×WU:=if (p.2 == VN && env.scope.kind == .function && env.kindOf p.1 == some .cell) then (p.1,YB) else (p.1,p.2)
theorem n6 (env:Env) (p:US×WU):(rlb env p).1=p.1:=by unfold rlb;split <;> rfl
theorem gZ (sc:Yk) (env:Env):(relabel sc env).names=sc.names.map (rlb env):=rfl
theorem iX {sc:Yk} {env:Env} {x:US} (h:sc.names.lookup x=some .free):(relabel sc env).names.lookup x=some .cell∨(relabel sc env).names.lookup x=some .free:=by
 rw [gZ,lp (n6 env) h];unfold rlb;split
 · exact .inl rfl
 · exact .inr rfl
theorem kY {sc:Yk} {env:Env} {x:US} (hn:∀ y∈sc.names,y.2≠YB) (h:(relabel sc env).names.lookup x=some .cell∨(relabel sc env).names.lookup x=some .free):(x,VN)∈sc.names:=by
 rw [gZ] at h
 have:∃ k0,(x,k0)∈sc.names/\((rlb env (x,k0)).2=.cell∨(rlb env (x,k0)).2=.free):=by
  rcases h with h | h
  · obtain ⟨k0,a,b⟩:=eI (n6 env) h;exact ⟨k0,a,.inl b⟩
  · obtain ⟨k0,a,b⟩:=eI (n6 env) h;exact ⟨k0,a,.inr b⟩
 obtain ⟨k0,hm,hk⟩:=this;have nc:=hn _ hm;cases k0 with
 | free=>exact hm
 | cell=>exact absurd rfl nc
 | _=>simp [rlb] at hk
def b8 (X:Cx) (N:List US) (sc:Yk) (cl:List (US×Ui)) (C:Ui) (s:Ur) (H:Hp) (fp:List Ui) (pins:List (Ui×WA)):Cx :=
 { X with N:=N,s₀:=s,H₀:=H,env:=compEnvC sc cl C X.env,outer:=X.stack,ex:=fp,fn:=fun _=>false,pn:=X.pn++pins,xe:=fun _ _=>False }
def cσ (js:List (Option Nat)) (σ:St):St:=js.map fun o=>o.bind fun j=>(σ[j]?).join
structure eY (X:Cx) (sc:Yk) (N:List US) (js:List (Option Nat)):Prop where
 kind:sc.kind=.function
 nocell:∀ y∈sc.names,y.2≠YB
 names:∀ y∈sc.names,y.2=NameKind.local->sc.names.lookup y.1=some .local
 frees:∀ y∈sc.names,y.2=VN->X.env.kindOf y.1=some .cell∨X.env.kindOf y.1=some .free
 len:js.length=N.length
 slots:∀ (i j:Nat) (x:US),js[i]?=some (some j)->N[i]?=some x->X.N[j]?=some x/\sc.names.lookup x=some .free/\(X.env.kindOf x=some .cell∨X.env.kindOf x=some .free)
theorem cB {X:Cx} {sc:Yk} {N:List US} {js:List (Option Nat)} (k:sc.kind=.function) (nc:∀ y∈sc.names,y.2≠YB) (nm:∀ y∈sc.names,y.2=NameKind.local->sc.names.lookup y.1=some .local)
 (fr:(sc.names.all fun y=>y.2 != VN || X.env.kindOf y.1 == some YB || X.env.kindOf y.1 == some VN)=true) (ln:js.length=N.length)
 (sl:((js.zip N).all fun p=>match p.1 with | none=>true | some j=>X.N[j]? == some p.2 && sc.names.lookup p.2 == some VN && (X.env.kindOf p.2 == some YB || X.env.kindOf p.2 == some VN))=true):eY X sc N js:=by
 refine ⟨k,nc,nm,fun y hy hf=>?_,ln,fun i j x e1 e2=>?_⟩
 · have h:=WS.mp fr y hy;rw [hf] at h;simpa using h
 · have hm:(some j,x)∈js.zip N:=by
    have:(js.zip N)[i]?=some (some j,x):=by rw [VX];exact ⟨e1,e2⟩
    exact Uh this
   have h:=WS.mp sl _ hm;simp at h;exact ⟨h.1.1,h.1.2,h.2⟩
def PTs (X:Cx) (ifs:List VC) (t:TT):Prop :=
 ∀ (pins:List (Ui×WA)) (s:Ur) (σ:St) (H:Hp) (Q:Bool->Hp->Prop),Inv X pins σ H s->t σ H Q →
   UC (U0 X.prog X.w) X.A (forIn ifs true fun c r=>if r=true then do let ok ← isTrue c X.env (WN c X.env);pure (W8 ok) else pure (W8 r)) (TP X pins σ Q) X.xe s
def bG:TT:=fun _ H Q=>Q true H
theorem bM {X:Cx}:PTs X [] bG:=fun _ _ _ H _ I h=>wpAny_tests_nil ⟨H,I,h⟩
theorem j0 {X:Cx} {c:VC} {t:TT} (h:PT X c t):PTs X [c] t:=fun pins s σ H Q I q=>wpAny_tests_one (h pins s σ H Q I q)
def Keep (σ yd:St):Prop:=σ.length=yd.length/\∀ (i:Nat) (v:V),σ[i]?=some (some v)->yd[i]?=some (some v)
def mP (js:List (Option Nat)) (g:TG):Prop:=∀ (σ zZ:St) (x:V) (H:Hp) (Q:St->Hp->Prop),Keep (cσ js σ) zZ->g x zZ H Q->g x zZ H fun yw H2=>Keep (cσ js σ) yw/\Q yw H2
def nY (js:List (Option Nat)) (g:TGs):Prop:=∀ (σ zZ:St) (x:List V) (H:Hp) (Q:St->Hp->Prop),Keep (cσ js σ) zZ->g x zZ H Q->g x zZ H fun yw H2=>Keep (cσ js σ) yw/\Q yw H2
theorem Keep.refl (σ:St):Keep σ σ:=⟨rfl,fun _ _ h=>h⟩
theorem uL {js:List (Option Nat)} {σ:St} {i:Nat} (h:js[i]?=some none):(cσ js σ)[i]?=some none:=by
 unfold cσ;rw [Uo,h];rfl
theorem aR {js:List (Option Nat)} {i:Nat} (h:js[i]?=some none):mP js (aF i):=fun σ zZ x H Q k q=>by
 refine ⟨⟨by rw [Za];exact k.1,fun j v e=>?_⟩,q⟩;by_cases hj:i=j
 · subst hj;rw [uL h] at e;cases e
 · rw [Zk hj];exact k.2 j v e
theorem gx {js:List (Option Nat)}:nY js l6:=fun σ zZ x H Q k ⟨e,q⟩=>⟨e,k,q⟩
theorem bW {js:List (Option Nat)} {t:TG} {u:TGs} (mono:∀ x σ H (Q Q':St->Hp->Prop),(∀ a b,Q a b->Q' a b)->t x σ H Q->t x σ H Q') (h1:mP js t) (h2:nY js u):nY js (cR t u):=fun σ zZ x H Q k ⟨v,r,e,q⟩ =>
 ⟨v,r,e,mono _ _ _ _ _ (fun a b ⟨k',q'⟩=>h2 σ a r b Q k' q') (h1 σ zZ v H _ k q)⟩
theorem aW {i:Nat}:∀ x σ H (Q Q':St->Hp->Prop),(∀ a b,Q a b->Q' a b)->aF i x σ H Q->aF i x σ H Q':=fun _ _ _ _ _ h q=>h _ _ q
theorem fY {js:List (Option Nat)} {K:Ug} {n:Nat} {t:TGs} (h:nY js t):mP js (lX K n t):=fun σ zZ x H Q k ⟨a,xs,e,hs,hl,q⟩=>⟨a,xs,e,hs,hl,h σ zZ xs H Q k q⟩
def fO (js:List (Option Nat)) (g:TG) (tt:TT) (te:TE) (σ:St) (J:It) (D:Ui) (n:Nat) (W:Nat->Hp->Prop) (fin:Hp->Prop):Prop :=
 ∀ i H,W i H->(J.stop i H/\fin H)∨(i<n/\J.go i H/\∀ x H1,J.yld i H x H1->g x (cσ js σ) H1 fun yw H2=>tt yw H2 fun b H3 =>
   if b=true then te yw H3 fun v H4=>∃ ys,H4 D=some (.lst ys)/\ys.length<UD/\W (i+1) (upd H4 D (.lst (ys++[v]))) else W (i+1) H3)
def vj (js:List (Option Nat)) (wi:TI) (g:TG) (tt:TT) (te:TE):TE:=fun σ H Q=>wi σ H fun J H1=>∀ D,H1 D=none →
 ∃ (n:Nat) (W:Nat->Hp->Prop),W 0 (upd H1 D (.lst []))/\fO js g tt te σ J D n W fun H'=>Q (.ref D) H'
section
variable {X:Cx} {pins:List (Ui×WA)} {σ:St} {s:Ur} {H:Hp}
theorem uw {sc:Yk} {N:List US} {js:List (Option Nat)} {cl:List (US×Ui)} {fp:List Ui} {h1:VH} {t':Nat} (S:eY X sc N js) (I:Inv X pins σ H s)
 (AS:∀ x c,cl.lookup x=some c->X.env.cells.lookup x=some c) (Bd:∀ n,(n,VN)∈sc.names->∃ c,cl.lookup n=some c)
 (hf:∀ b∈fp,jR X pins H b) (ym:∀ b∈fp,b<s.heap.objs.size) (BL:h1.Ns s.heap.objs.size fun x=>List.lookup x ([]:List (US×Ul)))
 (D8:∀ b o,s.heap.get? b=some o->h1.get? b=some o) :
 Inv (b8 X N sc cl s.heap.objs.size s H fp pins) [] (cσ js σ) H { s with heap:=h1,toks:=t' }:=by
 have hok:(b8 X N sc cl s.heap.objs.size s H fp pins).Ok :=
  { mod:=I.ok.mod
    kind:=S.kind
    glob:=I.ok.glob
    blt:=I.ok.blt
    above:=Uj _
    inj:=fun x y c a b=>I.ok.inj x y c (AS x c a) (AS y c b)
    has:=fun x h=>Bd x (kY S.nocell h)
    cab:=fun x c h=>by cases h
    hd:=I.ok.hd
    frames:=I.ok.frames
    stk:=.inl rfl
    exf:=fun b hb=>⟨fun e=>absurd (ym b hb) (by rw [e];exact VS _),fun x c e z=>(hf b hb).2.2.2.2.1 x c (AS x c e) z⟩
    bs:=I.bs
    bsz:=V4 I.ok.bsz I.sz
    noex:=fun b o e hb=>by
     rcases (hf b hb).2.2.2.1 with h | h
     · exact I.ok.noex b o e h
     · exact absurd (Vn (Vn (UA e) I.ok.bsz) h) (VS _)
    exfs:=fun b hb hm=>by
     rcases UK.mp (I.stkSub b hm) with e | e
     · exact (hf b hb).2.1 e
     · exact (hf b hb).2.2.1 e
    funs:=I.stack
    frf:=I.stkFree }
 have hC:H s.heap.objs.size=none:=I.hok.fresh (Uj _);obtain ⟨m0,KG,B9⟩:=I.loc
 exact
  { ok:=hok
    os:=rfl
    bare:=I.bare
    base:=Un.kept D8
    loc:=⟨_,BL,fun i x v e1 e2 NU=>by
     have Au:∃ j,js[i]?=some (some j)/\σ[j]?=some (some v):=by
      unfold cσ at e2;rw [Uo] at e2;cases q:js[i]? with
      | none=>rw [q] at e2;cases e2
      | some o =>
        rw [q] at e2;cases o with
        | none=>cases e2
        | some j =>
          refine ⟨j,rfl,?_⟩;have e3:(σ[j]?).join=some v:=UR e2;cases r:σ[j]? with
          | none=>rw [r] at e3;cases e3
          | some z=>rw [r] at e3;exact congrArg some e3
     obtain ⟨j,q1,q2⟩:=Au;obtain ⟨n1,n2,n3⟩:=S.slots i j x q1 e1;obtain ⟨u,ru,look⟩:=B9 j x v n1 q2 (by rcases n3 with z | z;exact .inr (.inl z);exact .inr (.inr z));refine ⟨u,ru,.inr ⟨iX n2,?_⟩⟩;have hm:(x,VN)∈sc.names:=kY (env:=X.env) S.nocell (iX n2);obtain ⟨c,hc⟩:=Bd x hm;refine ⟨c,hc,?_⟩;rcases look with ⟨k1,_⟩ | ⟨_,c',zw,ic⟩
     · rcases n3 with z | z <;> (rw [k1] at z;cases z)
     · have:=AS x c hc;rw [zw] at this;cases this;exact ic.keeps D8⟩
    cell:=fun x c e=>by
     obtain ⟨v,q⟩:=I.cell x c (AS x c e);exact ⟨v,q.keeps D8⟩
    free:=hC
    freeC:=fun x c e=>I.freeC x c (AS x c e)
    pin:=fun p hp=>by
     have zh:p∈X.pn++pins:=by simpa [b8] using hp
     obtain ⟨a1,a2,a3,a4,a5⟩:=I.pin p zh;refine ⟨D8 _ _ a1,a2,fun e=>?_,fun hm=>?_,a5⟩
     · have e':p.1=s.heap.objs.size:=e;exact absurd (UA a1) (by rw [e'];exact VS _)
     · rcases UK.mp (I.stkSub p.1 hm) with e | e
       · exact a3 e
       · exact a4 e
    hok:=I.hok.kept D8
    len:=by
     show (cσ js σ).length=N.length;unfold cσ;rw [Uc];exact S.len }
theorem rP {prog:Uz} {w:UN} {A:U9} {R:Result->Ur->Prop} {elt target iter:VC} {ifs:List VC} {scope:Yk} {pos:Yl} {it acc:Ul} {env:Env} (J:Nat->Ur->Prop)
 (turn:∀ n s,J n s->UC (U0 prog w) A (Xl it) (fun r ye=>(r=none/\R (.ok .next) ye)∨∃ v,r=some v ∧
  UC (U0 prog w) A (Zu target it v) (fun _ yP=>UC (U0 prog w) A (assign target env v) (fun _ Ae =>
   UC (U0 prog w) A (forIn ifs true fun c r=>if r=true then do let ok ← isTrue c env (WN c env);pure (W8 ok) else pure (W8 r)) (fun ok Ct =>
    (ok=false/\∃ m,m<n/\J m Ct)∨(ok=true/\UC (U0 prog w) A (WN elt env) (fun x GW=>UC (U0 prog w) A (call (.builtin "list.append") [acc,x]) (fun _ GX=>∃ m,m<n/\J m GX) (fun _ _=>False) GW) (fun _ _=>False) Ct))
    (fun _ _=>False) Ae) (fun _ _=>False) yP) (fun _ _=>False) ye) (fun _ _=>False) s)
 {s:Ur} (n:Nat) (h:J n s):Yr (U0 prog w) A (.compLoop (.ListComp elt [⟨target,iter,ifs,0⟩] scope pos) 0 it acc env) R s:=by
 refine codeAny_loop rfl J (fun n s hJ=>?_) n h;show UC _ A ((compTurn (.ListComp elt [⟨target,iter,ifs,0⟩] scope pos) 0 it acc env).onRaise _) _ _ s;refine wpAny_noted ?_;rw [compTurn_list];have up:∀ {α:Type} {m:Sem α} {Q:α->Ur->Prop} {E:Ul->Ur->Prop} {s:Ur},UC (U0 prog w) A m Q (fun _ _=>False) s->UC (U0 prog w) A m Q E s:=fun q=>Ww q (fun _ _ z=>z) fun _ _ z=>z.elim;refine Ud (wpAny_standAt (Ud (Ww (up (turn n s hJ)) (fun r ye yu=>?_) fun _ _ z=>z)));rcases yu with ⟨rfl,yu⟩ | ⟨v,rfl,yu⟩
 · exact Uq yu
 · refine Ud (Ww (up yu) (fun _ yP y9=>?_) fun _ _ z=>z);refine Ud (Ww (up y9) (fun _ Ae AE=>?_) fun _ _ z=>z);refine Ud (Ww (up AE) (fun ok Ct yQ=>?_) fun _ _ z=>z);rcases yQ with ⟨rfl,yQ⟩ | ⟨rfl,yQ⟩
   · exact Uq ⟨rfl,yQ⟩
   · exact Ud (Ud (Ww (up yQ) (fun x GW yR=>Ud (Ww (up yR) (fun _ GX KH=>Uq (Uq ⟨rfl,KH⟩)) fun _ _ z=>z)) fun _ _ z=>z))
theorem lD {elt tg iter:VC} {ifs:List VC} {sc:Yk} {pos:Yl} {N:List US} {js:List (Option Nat)} {g:TG} {tt:TT} {te:TE} {cl:List (US×Ui)} {fp:List Ui} {it:Ui} {tn:Nat->VH->Prop} {J:It} {n:Nat} {W:Nat->Hp->Prop} {fin:Hp->Prop}
 {R:Ul->Ui->Result->Ur->Prop} (hc:X.calm=true) (S:eY X sc N js) (I:Inv X pins σ H s) (T:Turn X.prog X.w X.K tg J fp it tn) (st:tn 0 s.heap) (hf:∀ b∈fp,jR X pins H b)
 (AS:∀ x c,cl.lookup x=some c->X.env.cells.lookup x=some c) (Bd:∀ n,(n,VN)∈sc.names->∃ c,cl.lookup n=some c)
 (hg:∀ cl C s H fp pins,PG (b8 X N sc cl C s H fp pins) tg g) (gk:mP js g) (ht:∀ cl C s H fp pins,PTs (b8 X N sc cl C s H fp pins) ifs tt) (he:∀ cl C s H fp pins,PE (b8 X N sc cl C s H fp pins) elt te)
 (w0:W 0 (upd H s.heap.objs.size (.lst []))) (turn:fO js g tt te σ J s.heap.objs.size n W fin)
 (hR:∀ C H' s',C≠X.env.locals->s.heap.objs.size<C->(∃ m,s'.heap.Ns C m)->H' C=none->(∀ h' t',We C s'.heap h'->Inv X pins σ H' { s' with heap:=h',toks:=t' })->fin H'->R (.ref s.heap.objs.size) C (.ok .next) s') {E:Ul->Ur->Prop} :
 UC (U0 X.prog X.w) X.A (newList []) (fun acc Ae=>UC (U0 X.prog X.w) X.A (newFunctionEnv sc X.env.globals cl [] X.env.qual none .none (some X.env)) (fun GY Ct =>
  Yr (U0 X.prog X.w) X.A (.compStart (.ListComp elt [⟨tg,iter,ifs,0⟩] sc pos) 0 (.ref it) acc { GY with scope:=relabel sc X.env }) (R acc GY.locals) Ct) E Ae) E s:=by
 refine Vy (wpAny_newFunctionEnv S.nocell (by intro y hy;simp at hy) (fun yu Be Bf=>?_) S.kind);dsimp only at Be Bf ⊢;have I3:Inv X pins σ (upd H s.heap.objs.size (.lst [])) { s with heap:=s.heap.push { cls:=.type "list",dict:=none,data:=.seq ([]:List Ul).toArray } }:=I.lnew (t':=s.toks) (its:=[]) .nil (by decide)
 have ym:∀ b∈fp,b<s.heap.objs.size:=fun b hb=>by
  obtain ⟨o,ho,_⟩:=T.obj _ _ st b hb;exact UA ho
 have D9:∀ b o,s.heap.get? b=some o->(s.heap.push { cls:=.type "list",dict:=none,data:=.seq ([]:List Ul).toArray }).get? b=some o:=fun b o e=>Up _ e;have hsz:(s.heap.push { cls:=.type "list",dict:=none,data:=.seq ([]:List Ul).toArray }).objs.size=s.heap.objs.size+1:=VF ..;generalize N3:({ s with heap:=s.heap.push { cls:=.type "list",dict:=none,data:=.seq ([]:List Ul).toArray } }:Ur)=s3 at I3;have GZ:s.heap.push { cls:=.type "list",dict:=none,data:=.seq ([]:List Ul).toArray }=s3.heap:=by rw [<- N3]
 rw [GZ] at Be Bf D9 hsz;rw [GZ];have KI:∀ t',({ s with heap:=yu,toks:=t' }:Ur)={ s3 with heap:=yu,toks:=t' }:=fun t'=>by rw [<- N3]
 rw [KI];have D8:∀ b o,s3.heap.get? b=some o->yu.get? b=some o:=fun b o e=>Bf.extBut b o (U2 (UA e)) (Up _ e);have KJ:∀ b∈fp,jR X pins (upd H s.heap.objs.size (.lst [])) b:=fun b hb=>⟨by rw [ak (U2 (ym b hb))];exact (hf b hb).1,(hf b hb).2⟩;have I4:=uw (t':=s.toks+([]:List (US×Ul)).length) S I3 AS Bd KJ (fun b hb=>by rw [hsz];exact Yc (ym b hb)) Be D8;generalize SW:upd H s.heap.objs.size (.lst [])=H3 at I3 I4 KJ w0;have yM:tn 0 yu:=T.keep _ _ _ st fun b hb o e=>D8 _ _ (D9 _ _ e)
 have Ba:∀ {H':Hp},(∀ b∈fp,H' b=none)->∀ b∈fp,jR (b8 X N sc cl s3.heap.objs.size s3 H3 fp pins) [] H' b:=fun {H'} hn b hb=>by
  obtain ⟨f0,f1,f2,f3,f4,f5⟩:=hf b hb;refine ⟨hn b hb,fun e=>?_,fun hm=>?_,.inl hb,fun x c e=>f4 x c (AS x c e),fun p hp=>f5 p (by simpa [b8] using hp)⟩
  · have e':b=s3.heap.objs.size:=e;have h9:b<s.heap.objs.size:=ym b hb;rw [e',hsz] at h9;exact absurd h9 (YC.mpr (Nat.le_succ _))
  · rcases UK.mp (I.stkSub b hm) with e | e
    · exact f1 e
    · exact f2 e
 have loop:Yr (U0 X.prog X.w) X.A (.compLoop (.ListComp elt [⟨tg,iter,ifs,0⟩] sc pos) 0 (.ref it) (.ref s.heap.objs.size) (compEnvC sc cl s3.heap.objs.size X.env)) (R (.ref s.heap.objs.size) s3.heap.objs.size)
  { s3 with heap:=yu,toks:=s.toks+([]:List (US×Ul)).length }:=by
  refine rP (fun k s'=>∃ i H',Inv (b8 X N sc cl s3.heap.objs.size s3 H3 fp pins) [] (cσ js σ) H' s'/\tn i s'.heap/\(∀ b∈fp,H' b=none)/\W i H'/\k=n - i) ?_ n ⟨0,H3,I4,yM,fun b hb=>(KJ b hb).1,w0,rfl⟩;rintro k s5 ⟨i,H5,I5,FZ,JG,w5,rfl⟩;rcases turn i H5 w5 with ⟨stop,qn⟩ | ⟨By,go,step⟩
  · refine thn (T.done (b8 X N sc cl s3.heap.objs.size s3 H3 fp pins) rfl rfl rfl hc i [] s5 (cσ js σ) H5 _ I5 (Ba JG) FZ stop) fun r s6 ⟨hr,I6⟩=>.inl ⟨hr,?_⟩;have I7:Inv X pins σ H5 s6:=I3.call' (ch:=fp) (I6.os.trans rfl) I6.base I6.hok I6.bare fun b hb=>⟨(hf b hb).2.2.2.1,(hf b hb).2.1,(hf b hb).2.2.2.2.1,(hf b hb).2.2.2.2.2⟩;have N4:H5 s3.heap.objs.size=none:=I6.free;have N5:s3.heap.objs.size≠X.env.locals:=XI I3.lt;obtain ⟨m6,P5,_⟩:=I6.loc;refine hR s3.heap.objs.size H5 s6 N5 (by omega) ⟨m6,P5⟩ N4 (fun h' t' sb=>?_) qn;refine I7.turned (it:=s3.heap.objs.size) (fun b o hb e=>sb.extBut b o hb e) N4 N5 (.inr I3.sz) (fun x c e z=>?_) fun p hp z=>?_
    · obtain ⟨v,q⟩:=I3.cell x c e;exact absurd q.lt (by rw [z];exact VS _)
    · exact absurd (UA (I3.pin p hp).1) (by rw [z];exact VS _)
  · refine thn (T.item (b8 X N sc cl s3.heap.objs.size s3 H3 fp pins) rfl rfl rfl hc i [] s5 (cσ js σ) H5 _ I5 (Ba JG) FZ go) fun r s6 ⟨u,hr,h6⟩=>.inr ⟨u,hr,?_⟩;refine thn h6 fun _ s7 ⟨x,H7,I7,r7,y7,KL,P6⟩=>?_;have P7:=I7.pinned (Ba P6) (T.obj _ _ KL);refine thn (hg cl s3.heap.objs.size s3 H3 fp pins _ s7 (cσ js σ) H7 x u _ P7 r7 (gk σ (cσ js σ) x H7 _ (.refl _) (step x H7 y7))) fun _ s8 ⟨KN,H8,I8,k8,q8⟩=>?_;refine thn (ht cl s3.heap.objs.size s3 H3 fp pins _ s8 KN H8 _ I8 q8) fun ok s9 ⟨H9,I9,q9⟩=>?_
    have again:∀ {s':Ur} {yd:St} {H':Hp},Keep (cσ js σ) yd->Inv (b8 X N sc cl s3.heap.objs.size s3 H3 fp pins) ([]++lH fp s7.heap) yd H' s'->W (i+1) H'->∃ m,m<n - i/\∃ i H',Inv (b8 X N sc cl s3.heap.objs.size s3 H3 fp pins) [] (cσ js σ) H' s'/\tn i s'.heap/\(∀ b∈fp,H' b=none)/\W i H'/\m=n - i:=fun {s' yd H'} kp I' w'=>by
     refine ⟨n - (i+1),by omega,i+1,H',(I'.unpinned).weak kp.1 kp.2,T.keep _ _ _ KL fun b hb o e=>(I'.pin (b,o) (Vc _ (Vc _ (fE hb e)))).1,fun b hb=>?_,w',rfl⟩;obtain ⟨o,e,d⟩:=T.obj _ _ KL b hb;exact (I'.pin (b,o) (Vc _ (Vc _ (fE hb e)))).2.1
    cases ok with
    | false =>
      refine .inl ⟨rfl,again k8 I9 ?_⟩;have N6:if false=true then _ else W (i+1) H9:=q9
      rw [if_neg UI] at N6;exact N6
    | true =>
      refine .inr ⟨rfl,?_⟩;rw [if_pos rfl] at q9;refine thn (he cl s3.heap.objs.size s3 H3 fp pins _ s9 KN H9 _ I9 q9) fun vv yJ ⟨v,yZ,P8,rv,ys,hD,G0,P9⟩=>?_;refine thn (aL _ yJ KN yZ (.ref s.heap.objs.size) [v] (.ref s.heap.objs.size) [vv] (fun _ H'=>W (i+1) H') P8 rfl (.cons rv .nil) ⟨_,ys,v,rfl,rfl,hD,G0,P9⟩) fun _ zi ⟨_,zm,P',_,Qa⟩=>?_;exact again k8 P' Qa
 exact codeAny_compStart_list loop (T.self X.A 0 _ _ _ yM loop)
theorem cf {elt tg iter:VC} {ifs:List VC} {sc:Yk} {pos:Yl} {N:List US} {js:List (Option Nat)} {wi:TI} {g:TG} {tt:TT} {te:TE} (hc:X.calm=true) (S:eY X sc N js) (hi:PI X tg iter wi)
 (hg:∀ cl C s H fp pins,PG (b8 X N sc cl C s H fp pins) tg g) (gk:mP js g) (ht:∀ cl C s H fp pins,PTs (b8 X N sc cl C s H fp pins) ifs tt) (he:∀ cl C s H fp pins,PE (b8 X N sc cl C s H fp pins) elt te)
 (hs:∀ x,foldedSetIterable iter X.env x=pure x:=by intro _;rfl):PE X (.ListComp elt [⟨tg,iter,ifs,0⟩] sc pos) (vj js wi g tt te):=by
 intro pins s σ H Q I h;obtain ⟨cl,e1,e2,e3⟩:=lE (env:=X.env) (sc:=sc) fun n hn=>I.ok.has n (S.frees _ hn rfl);rw [eval_ListComp];refine wpAny_comprehension_free (use:=none) rfl hs e1 S.kind S.names (thn (hi pins s σ H _ I h) fun v s1 h1=>thn h1 fun JF s2 h2=>?_);obtain ⟨it,fp,tn,J,H2,rfl,I2,T,A',f2,R2⟩:=h2;obtain ⟨n,W,w0,turn⟩:=R2 s2.heap.objs.size I2.fresh;refine lD (R:=fun acc C=>compPost (U0 X.prog X.w) X.A X.xe none (EP X pins σ Q) acc C) hc S I2 T A' f2 e2 e3 hg gk ht he w0 turn fun C H' s' _ _ hn _ inv fi=>?_;obtain ⟨m,hm⟩:=hn;exact ⟨m,hm,fun h' sb=>⟨.ref s2.heap.objs.size,H',inv h' s'.toks sb,rfl,fi⟩⟩
theorem fD {i:Nat} {y:US} {elt tg iter:VC} {ifs:List VC} {sc:Yk} {pos G1 py:Yl} {N:List US} {js:List (Option Nat)} {wi:TI} {g:TG} {tt:TT} {te:TE} (hN:X.N.Nodup) (hy:X.N[i]?=some y) (Qb:Loc X.env.scope y) (hc:X.calm=true) (S:eY X sc N js) (hi:PI X tg iter wi)
 (hg:∀ cl C s H fp pins,PG (b8 X N sc cl C s H fp pins) tg g) (gk:mP js g) (ht:∀ cl C s H fp pins,PTs (b8 X N sc cl C s H fp pins) ifs tt) (he:∀ cl C s H fp pins,PE (b8 X N sc cl C s H fp pins) elt te)
 (Qc:swapsWith (.ListComp elt [⟨tg,iter,ifs,0⟩] sc pos) (some (.Name y py)) G1.line X.env=pure true:=by rfl)
 (hs:∀ x,foldedSetIterable iter X.env x=pure x:=by intro _;rfl) (hf:X.fn y=true∨X.env.scope.names.lookup y=some .local:=by first | exact .inl rfl | exact .inr rfl | assumption) :
 PS X (.Assign [.Name y py] (.ListComp elt [⟨tg,iter,ifs,0⟩] sc pos) G1) (vY (vj js wi g tt te) (aF i)):=by
 intro pins s σ H D I h;obtain ⟨cl,e1,e2,e3⟩:=lE (env:=X.env) (sc:=sc) fun n hn=>I.ok.has n (S.frees _ hn rfl);rw [exec_Assign_Name_used _ _ _ _ Qc];refine Ud (wpAny_standAt (Ud ?_));show UC _ X.A (do let _ ← comprehension (.ListComp elt [⟨tg,iter,ifs,0⟩] sc pos) sc X.env _ (newList []) false (WN iter X.env) (some (assign (.Name y py) X.env))) _ _ s;refine Ud (Ww (wpAny_comprehension_free (use:=some (assign (.Name y py) X.env)) (Q:=fun _ s'=>SP X pins D .next s') rfl hs e1 S.kind S.names (thn (hi pins s σ H _ I h) fun v s1 h1=>thn h1 fun JF s2 h2=>?_)) (fun _ s' hq=>Uq (Uq hq)) fun _ _ z=>z);obtain ⟨it,fp,tn,J,H2,rfl,I2,T,A',f2,R2⟩:=h2;obtain ⟨n,W,w0,turn⟩:=R2 s2.heap.objs.size I2.fresh;refine lD (R:=fun acc C=>compPost (U0 X.prog X.w) X.A X.xe (some (assign (.Name y py) X.env)) (fun _ s'=>SP X pins D .next s') acc C) hc S I2 T A' f2 e2 e3 hg gk ht he w0 turn fun C H' s' N7 hC hn Qd inv fi=>?_;obtain ⟨m,hm⟩:=hn
 have I5:Inv X pins σ H' s':=by
  have q:=inv s'.heap s'.toks (.refl ..);exact q
 refine wpAny_assign_Name (mG (v:=.ref s2.heap.objs.size) I5 hN hy Qb rfl (fun s6 I6 ⟨a,sb,ha⟩=>?_) hf)
 have Qe:C≠a:=by
  rcases ha with ha | ha
  · rw [ha];exact N7
  · intro z;obtain ⟨v,q⟩:=I2.cell y a ha;exact absurd (XJ q.lt hC) (by rw [z];exact VS _)
 refine ⟨m,hm.sameBut sb Qe,fun h' Qf=>⟨_,H',I6.turned (it:=C) (t':=s6.toks) (fun b o hb e=>Qf.extBut b o hb e) Qd N7 (.inr (V4 I2.sz (XM hC))) (fun x c e z=>?_) fun p hp z=>?_,fi⟩⟩
 · obtain ⟨v,q⟩:=I2.cell x c e;exact absurd (XJ q.lt hC) (by rw [z];exact VS _)
 · exact absurd (XJ (UA (I2.pin p hp).1) hC) (by rw [z];exact VS _)
end
end L2
namespace L2
open PySem PySem.Spec PyProof.Rows
def jS {α:Type} (xs:List α) (lo hi:Option Int):List α:=(xs.drop (HT.sIx xs.length 0 lo)).take (HT.sIx xs.length xs.length hi - HT.sIx xs.length 0 lo)
def dU (z:US) (lo hi:Option Int):US:=⟨(jS z.cps.toList lo hi).toArray⟩
theorem ud {α:Type} (xs:List α) (a n:Nat):((U1 n).map fun (k:Nat)=>a+k).filterMap (xs[·]?)=(xs.drop a).take n:=by
 induction n with
 | zero=>simp
 | succ n ih =>
   rw [Y9,Ux,List.filterMap_append,ih,Vs];congr 1;rw [List.getElem?_drop];cases h:xs[a+n]? <;> simp [h]
theorem rG (n d:Nat) (i:Int):max 0 (min (if i<0 then i+(n:Int) else i) (n:Int))=((HT.sIx n d (some i):Nat):Int):=by
 show max 0 (min (if i<0 then i+(n:Int) else i) (n:Int))=(((if i<0 then (i+(n:Int)).toNat else min i.toNat n):Nat):Int);by_cases h:i<0
 · rw [if_pos h,if_pos h];omega
 · rw [if_neg h,if_neg h];omega
theorem tM (A B:Int) (a b:Nat) (hA:A=(a:Int)) (hB:B=(b:Int)):sliceRange A B 1=(U1 (b - a)).map fun (k:Nat)=>a+k:=by
 subst hA;subst hB;unfold sliceRange;simp only [show (1:Int) > 0 by decide,if_true]
 have c:(if (a:Int)<(b:Int) then ((b:Int) - a+1 - 1) / 1 else 0).toNat=b - a:=by
  split
  · rw [ZQ];omega
  · omega
 rw [c];refine Yy fun k _=>?_;omega
theorem qJ (lo hi:Option Int) (n:Nat):YS lo hi 1 n=(U1 (HT.sIx n n hi - HT.sIx n 0 lo)).map fun (k:Nat)=>HT.sIx n 0 lo+k:=by
 unfold YS;simp only [show (1:Int) > 0 by decide,if_true];cases lo <;> cases hi <;> refine tM _ _ _ _ ?_ ?_ <;> first | rfl | exact rG _ _ _
theorem oS (z:US) (lo hi:Option Int):(dU z lo hi).length<=z.length:=by
 show (jS z.cps.toList lo hi).toArray.size<=z.cps.size;unfold jS;rw [Uu,UQ,VG,U3];omega
theorem lQ (x:US) (t:Tok) (l u:Option (Int×Tok)) {Q:Ul->Ur->Prop} {s:Ur} (hz:x.length<=UD) (h:∀ t' k,Q (.str (dU x (l.map (·.1)) (u.map (·.1))) t') { s with toks:=k }):(sliceMade x t l u none).post Q s:=by
 have e:(ZE x l u none).filterMap (x.cps[·]?)=jS x.cps.toList (l.map (·.1)) (u.map (·.1)):=by
  unfold ZE jS;show (YS (l.map (·.1)) (u.map (·.1)) 1 x.length).filterMap (x.cps[·]?)=_;rw [qJ,show (x.cps[·]?)=(x.cps.toList[·]?) from funext fun i=>(Xw ..).symm,ud,U3];rfl
 unfold sliceMade;split
 · rename_i hc
   have hl:(ZE x l u none).length=x.length:=by
    have:=(Wn _ _ ▸ hc).2;simpa using this
   have hw:dU x (l.map (·.1)) (u.map (·.1))=x:=by
    have e2:(jS x.cps.toList (l.map (·.1)) (u.map (·.1)))=x.cps.toList:=by
     have hp:ZE x l u none=(U1 (HT.sIx x.length x.length (u.map (·.1)) - HT.sIx x.length 0 (l.map (·.1)))).map fun (k:Nat)=>HT.sIx x.length 0 (l.map (·.1))+k:=qJ _ _ _;rw [hp,Uc,UY] at hl;have b1:=HT.sIx_le x.length x.length (Uj _) (u.map (·.1));have hx:x.cps.toList.length=x.length:=U3;unfold jS;rw [hx,hl];have BN:HT.sIx x.length 0 (l.map (·.1))=0∨x.length=0:=by omega
     rcases BN with h0 | h0
     · rw [h0,WE,Vx (by rw [hx];exact Uj _)]
     · have:x.cps.toList=[]:=VB.mp (by rw [hx];exact h0);rw [this];simp
    unfold dU;rw [e2]
   have:=h t s.toks;rw [hw] at this;exact this
 · show (⟨((ZE x l u none).filterMap (x.cps[·]?)).toArray⟩:US).length<=UD/\Q _ _;rw [e];exact ⟨V4 (oS x _ _) hz,h s.toks (s.toks+1)⟩
section
variable {X:Cx}
inductive vA (x:V) (lo:Option Int) (hi:Option Int) (H:Hp) (Q:VK):Prop
 | mk (z:_) (yp:x=.str z) (yq:z.length<=UD) (yz:Q (.str (dU z lo hi)) H):vA  x lo hi H Q
def xw:V->Option Int->Option Int->Hp->VK->Prop:=vA
theorem part_of {v:Ul} {o:Option Int} (h:Zr v o):∃ l:Option (Int×Tok),v=partValue l/\l.map (·.1)=o:=by
 cases h with
 | none=>exact ⟨none,rfl,rfl⟩
 | int i t=>exact ⟨some (i,t),rfl,rfl⟩
theorem qo:SlR X xw:=by
 intro pins s σ H x v vl vu lo hi sl Q I rx hs pl pu h;obtain ⟨z,rfl,hz,q⟩:=h;obtain ⟨t,rfl⟩:=rx;obtain ⟨l,rfl,rfl⟩:=part_of pl;obtain ⟨u,rfl,rfl⟩:=part_of pu;refine ⟨"str",_,F.slot_str_getitem.lookup,typeIs_str s z t,wpAny_getItem_str_slice (l:=l) (u:=u) (st:=none) ?_ rfl (lQ z t l u hz fun t' k=>?_)⟩
 · obtain ⟨o,ho,hc,hd⟩:=hs;exact ⟨o,ho,hc,hd⟩
 · exact ⟨.str (dU z (l.map (·.1)) (u.map (·.1))),H,I.tok k,⟨_,rfl⟩,q⟩
theorem tJ {T:String} {b:Bool} {t:Ul}:g9 X (.builtin "isinstance") (fun xs H Q=>∃ x,xs=[x,.ty T]/\iN X.K H x t/\XC X.K t (.type T)=some b/\Q (.bl b) H):=by
 intro pins s σ H xs us Q I r h;obtain ⟨x,rfl,ty,k,q⟩:=h;obtain ⟨u,w',rfl,r1,r2⟩:=vals2 r;cases r2;exact sE I r1 ty k fun tk=>⟨.bl b,H,I.tok tk,rfl,q⟩
end
end L2
namespace PySem
namespace F
theorem bb_owner_rev:Manifest.owners.lookup (String.ofList ['d','e','s','r','e','v','e','r'].reverse)=some Manifest.sig_reversed:=by kernel_rfl
theorem bb_slot_rev_next:Slot "reversed" "__next__" "reversed.__next__" :=
 .of (owner:="reversed") (n:="__next__") (by rw [Wo,VL];kernel_rfl) (by decide +kernel) (by decide +kernel) (by decide +kernel)
  (by first | exact .inl (by decide +kernel) | exact .inr (by decide +kernel)) (by rw [Xq];kernel_rfl)
theorem bb_entry_rev_next:entryFor table "reversed.__next__"=some W4.«reversed.__next__»:=entryFor_of_tree (by kernel_rfl)
theorem bb_args_rev_next (a:Ul):argsOk "reversed.__next__" ⟨[a],[]⟩:=by
 unfold argsOk;rw [signature?_of (id:="reversed.__next__") (n:=['_','_','t','x','e','n','_','_']) (o:=['d','e','s','r','e','v','e','r']) (by kernel_rfl) bb_owner_rev];kernel_rfl
theorem bb_slot_rev_iter:Slot "reversed" "__iter__" "reversed.__iter__" :=
 .of (owner:="reversed") (n:="__iter__") (by rw [Wo,VL];kernel_rfl) (by decide +kernel) (by decide +kernel) (by decide +kernel)
  (by first | exact .inl (by decide +kernel) | exact .inr (by decide +kernel)) (by rw [Xq];kernel_rfl)
theorem bb_args_rev_iter (a:Ul):argsOk "reversed.__iter__" ⟨[a],[]⟩:=by
 unfold argsOk;rw [signature?_of (id:="reversed.__iter__") (n:=['_','_','r','e','t','i','_','_']) (o:=['d','e','s','r','e','v','e','r']) (by kernel_rfl) bb_owner_rev];kernel_rfl
theorem bb_entry_rev_iter:entryFor table "reversed.__iter__"=some W4.«dict_keyiterator.__iter__» :=
 entryFor_alias (id':="dict_keyiterator.__iter__") (by kernel_rfl) (by first | rfl | decide +kernel | (unfold String.splitOn;simp +decide [String.splitOnAux])) (by decide +kernel) (by kernel_rfl)
theorem bb_slot_rev_hint:Slot "reversed" "__length_hint__" "reversed.__length_hint__" :=
 .of (owner:="reversed") (n:="__length_hint__") (by rw [Wo,VL];kernel_rfl) (by decide +kernel) (by decide +kernel) (by decide +kernel)
  (by first | exact .inl (by decide +kernel) | exact .inr (by decide +kernel)) (by rw [Xq];kernel_rfl)
theorem bb_entry_rev_hint:entryFor table "reversed.__length_hint__"=some W4.«reversed.__length_hint__»:=entryFor_of_tree (by kernel_rfl)
theorem bb_args_rev_hint (a:Ul):argsOk "reversed.__length_hint__" ⟨[a],[]⟩:=by
 unfold argsOk;rw [signature?_of (id:="reversed.__length_hint__") (n:=['_','_','t','n','i','h','_','h','t','g','n','e','l','_','_']) (o:=['d','e','s','r','e','v','e','r']) (by kernel_rfl) bb_owner_rev];kernel_rfl
theorem bb_nolen_rev:XW (.type "reversed") "__len__"=pure none:=by rw [Wo,VL];kernel_rfl
theorem bb_nolen_lri:XW (.type "list_reverseiterator") "__len__"=pure none:=by rw [Wo,VL];kernel_rfl
theorem bb_hint_lri:XW (.type "list_reverseiterator") "__length_hint__"=pure (some (.builtin "list_reverseiterator.__length_hint__")):=by rw [Wo,VL];kernel_rfl
theorem bb_tuple_norev:XW (.type "tuple") "__reversed__"=pure none:=by rw [Wo,VL];kernel_rfl
theorem bb_sub_rev_rev:isSubtype (.type "reversed") (.type "reversed")=pure true:=by rw [Xq];kernel_rfl
theorem bb_sub_tuple_dict:isSubtype (.type "tuple") (.type "dict")=pure false:=by rw [Xq];kernel_rfl
end F
end PySem
namespace PySem
open Sem (wp)
section
variable {prog:Uz} {w:UN} {A:U9} {E:Ul->Ur->Prop} {s:Ur}
theorem bb_slot_rev_init:Slot "reversed" "__init__" "object.__init__" :=
 .of (owner:="object") (n:="__init__") (by rw [Wo,VL];kernel_rfl) (by decide +kernel) (by decide +kernel) (by decide +kernel)
  (by first | exact .inl (by decide +kernel) | exact .inr (by decide +kernel)) (by rw [Xq];kernel_rfl)
theorem bb_called_rev:TypeCalled "reversed" "reversed.__new__" "object.__init__" :=
 ⟨by decide +kernel,by decide +kernel,⟨_,_,F.mro_reversed⟩,F.made_reversed,by decide +kernel,F.bb_sub_rev_rev,bb_slot_rev_init⟩
def revTup (t:Ui) (i:Int):WA:={ cls:=.type "reversed",data:=.fields #[.ref t,WM i] }
theorem bb_meets_rev_tuple (t:Ui) (items:Array Ul) (hz:(items.size:Int)<2 ^ 63) :
 Meets (W4.«reversed.__new__» ⟨[.type "reversed",.ref t],[]⟩) (fun _ R s=>Xo s.heap t items/\∀ tk,R (.ok (.ret (.ref s.heap.objs.size))) { s with heap:=s.heap.push (revTup t ((items.size:Int) - 1)),toks:=tk }):=by
 refine .of_wp fun prog w A R s h=>?_;obtain ⟨ht,h⟩:=h;unfold W4.«reversed.__new__»;refine Ud (Xy (newClass_reversed _) ?_)
 try dsimp only
 refine Ud (Xy (a:=()) (by first | rfl | kernel_rfl) ?_);refine Ud (Xy (a:=()) (by first | rfl | kernel_rfl) ?_)
 try dsimp only
 refine Ud (VW ht.typeIs F.bb_tuple_norev ?_)
 try dsimp only
 have SX:=F.bb_sub_tuple_dict;have SY:=Vb.lookup;have hT:s.TypeIs (.ref t) "tuple":=ht.typeIs
 wp_walk using PyProof.Rows.len_tuple ht hz,W0 hT
 exact ⟨_,rfl,h _⟩
theorem bb_call_rev_tuple {t:Ui} {items:Array Ul} {Q:Ul->Ur->Prop} (ht:Xo s.heap t items) (hz:(items.size:Int)<2 ^ 63)
 (h:∀ tk,Q (.ref s.heap.objs.size) { s with heap:=s.heap.push (revTup t ((items.size:Int) - 1)),toks:=tk }):UC (U0 prog w) A (call (.type "reversed") [.ref t]) Q E s :=
 callType_new bb_called_rev (by decide) (F.typeCall_reversed_1 _) (F.newCall_reversed_1 _) (fun obj=>F.args_object_init_2 obj _) F.entry_reversed_new (bb_meets_rev_tuple t items hz)
  ⟨ht,fun tk=>⟨⟨_,Uy _ rfl,rfl⟩,h tk⟩⟩
def IsRevT (h:VH) (a t:Ui) (i:Int):Prop:=∃ o,h.get? a=some o/\o.cls=.type "reversed"/\o.data=.fields #[.ref t,WM i]
theorem IsRevT.typeIs {a t:Ui} {i:Int} (x:IsRevT s.heap a t i):s.TypeIs (.ref a) "reversed":=let ⟨o,ho,hc,_⟩:=x;⟨o,ho,hc⟩
theorem IsRevT.at {h h':VH} {a t:Ui} {i:Int} (x:IsRevT h a t i) (e:∀ o,h.get? a=some o->h'.get? a=some o):IsRevT h' a t i:=let ⟨o,ho,r⟩:=x;⟨o,e _ ho,r⟩
theorem bb_rev_iter {it t:Ui} {i:Int} {Q:Ul->Ur->Prop} (hit:IsRevT s.heap it t i) (h:Q (.ref it) s):UC (U0 prog w) A (pyIter (.ref it)) Q E s:=by
 refine wpAny_pyIter_slot hit.typeIs F.bb_slot_rev_iter (Vz F.bb_slot_rev_iter hit.typeIs F.bb_entry_rev_iter ?_ (F.bb_args_rev_iter _));show UC _ _ (ret (.ref it)) _ _ s;exact Uq ⟨_,rfl,"reversed",_,hit.typeIs,F.bb_slot_rev_next.lookup,h⟩
theorem bb_rev_next {it t:Ui} {i:Nat} {items:Array Ul} {x:Ul} {Q:Option Ul->Ur->Prop} (hit:IsRevT s.heap it t (i:Int)) (ht:Xo s.heap t items) (hx:items[i]?=some x) (hz:(items.size:Int)<2 ^ 63)
 (hQ:∀ h' tk,IsRevT h' it t ((i:Int) - 1)->We it s.heap h'->Q (some x) { s with heap:=h',toks:=tk }):UC (U0 prog w) A (Xl (.ref it)) Q E s:=by
 obtain ⟨o,ho,hc,hd⟩:=id hit;have hi:i<items.size:=(YI.mp hx).1;unfold Xl
 refine Ud (Xk (Vr (name:=Um "__next__") hit.typeIs F.bb_slot_rev_next
  (Vz F.bb_slot_rev_next hit.typeIs F.bb_entry_rev_next ?_ (F.bb_args_rev_next _))))
 unfold W4.«reversed.__next__»;refine Ud (Xy (a:=(UZ it,[])) rfl ?_)
 try dsimp only
 refine Ud (Vg ho hd (x:=.ref t) rfl ?_);refine Ud (Vg ho hd (x:=WM (i:Int)) rfl ?_);show UC _ _ (if (i:Int)<0 then _ else _) _ _ s;rw [if_neg (by omega)];refine Ud (VW ht.typeIs Vb.lookup ?_)
 try dsimp only
 rw [if_neg (by decide)];refine Ud (m:=mkInt (i:Int)) (wpAny_mkInt ?_);refine Ud (Xk (PyProof.Rows.getItem_tuple (j:=i) (x:=x) ht (by omega) (by omega) ?_ hx ?_))
 · refine (L2.np (n:=items.size) (i:=(i:Int)) (j:=i) ?_).1;unfold L2.ixN;rw [if_pos (by omega),if_pos (by omega)];simp
 · try dsimp only
   refine Ud (Vg ho hd (x:=WM (i:Int)) rfl ?_)
   try dsimp only
   refine Ud (XU ho hd (by simp) ?_);refine Uq ⟨x,rfl,Uq (hQ _ _ ?_ (Wy ..))⟩;exact ⟨_,U7 _ ho (Yx (WG hd _)),(Obj.cls_mapFields ..).trans hc,by rw [WG hd];simp⟩
theorem bb_rev_end {it t:Ui} {Q:Option Ul->Ur->Prop} (hh:A.handled=none) (hit:IsRevT s.heap it t (-1))
 (hQ:∀ h' tk,ZR it s.heap h'->Q none { s with heap:=h',toks:=tk }):UC (U0 prog w) A (Xl (.ref it)) Q E s:=by
 obtain ⟨o,ho,hc,hd⟩:=id hit;unfold Xl
 refine Ud (Xk (Vr (name:=Um "__next__") hit.typeIs F.bb_slot_rev_next
  (Vz F.bb_slot_rev_next hit.typeIs F.bb_entry_rev_next ?_ (F.bb_args_rev_next _))))
 unfold W4.«reversed.__next__»;refine Ud (Xy (a:=(UZ it,[])) rfl ?_)
 try dsimp only
 refine Ud (Vg ho hd (x:=.ref t) rfl ?_);refine Ud (Vg ho hd (x:=WM (-1)) rfl ?_);show UC _ _ (if (-1:Int)<0 then _ else _) _ _ s;rw [if_pos (by decide)];refine Ud (Xa ?_);refine Ud ?_
 wp_delta
 refine Ud (XU ho hd (by simp) ?_);have Dr:=U7 (Obj.mapFields (·.setIfInBounds 1 (WM (-1)))) ho (Yx (WG hd _));refine XU Dr (WG hd _) (by simp) ?_;refine Ud ?_
 wp_delta
 refine Ud ?_;simp only [newExc,newTuple];refine Ud (Vy ?_ (by size_fits));refine Ud (m:=Yq _ _) (Xy (a:=VQ) (by first | rfl | (simp only [Yq];rfl)) ?_);refine Vy ?_ (by size_fits);simp only [raiseNew];refine Ud (wpAny_handled ?_)
 first | rw [show A.in1.handled=none from hh] | rw [hh]
 refine Ud (Uq (wpAny_throw ?_));refine Ud (W5 (T:="StopIteration") (b:=true) ⟨_,Uy _ rfl,rfl⟩ isSubtype_stop ?_);refine Uq (hQ _ _ ?_);refine Heap.ExtBut.push (Heap.ExtBut.push ?_ _) _;intro b o' hb e;rw [Vd _ _ (Wd hb),Vd _ _ (Wd hb)];exact e
theorem bb_walk_revT (hh:A.handled=none) (I t:Ui) (yx:t≠I) (items:Array Ul) (hz:(items.size:Int)<2 ^ 63) :
 Walks prog w A I [I,t] [I] items.size (fun i v=>items[items.size - 1 - i]?=some v) (fun i h=>i<=items.size/\IsRevT h I t ((items.size:Int) - 1 - (i:Int))/\Xo h t items) where
 sub:=fun b hb=>by simp at hb;simp [hb]
 frame:=fun _ _ _ x hk=>⟨x.1,x.2.1.at fun o e=>hk I (by simp) o e,by obtain ⟨o,e,r⟩:=x.2.2;exact ⟨o,hk t (by simp) o e,r⟩⟩
 item:=fun i s Q E hi x hQ=>by
  have e:(items.size:Int) - 1 - (i:Int)=((items.size - 1 - i:Nat):Int):=by omega
  have hit:=x.2.1;rw [e] at hit;have hx:items[items.size - 1 - i]?=some (items[items.size - 1 - i]'(by omega)):=Wv (by omega);refine bb_rev_next hit x.2.2 hx hz fun h' tk Dt zo=>?_;have e2:((items.size - 1 - i:Nat):Int) - 1=(items.size:Int) - 1 - ((i+1:Nat):Int):=by omega
  rw [e2] at Dt;exact hQ _ h' tk hx ⟨hi,Dt,by obtain ⟨o,e,r⟩:=x.2.2;exact ⟨o,(zo.2 t yx).trans e,r⟩⟩ fun b o hb eo=>zo.extBut b o (fun h=>hb (by simp [h])) eo
 done:=fun s Q E x hQ=>by
  have e:(items.size:Int) - 1 - (items.size:Int)=-1:=by omega
  have hit:=x.2.1;rw [e] at hit;exact bb_rev_end hh hit fun h' tk Qg=>hQ h' tk fun b o hb eo=>Qg b o (fun h=>hb (by simp [h])) eo
 self:=fun _ _ _ _ x hQ=>bb_rev_iter x.2.1 hQ
def HintOk (prog:Uz) (w:UN) (A:U9) (I:Ui) (St:Nat->VH->Prop):Prop :=
 ∀ (s:Ur) (Q:Bool->Ur->Prop) (E:Ul->Ur->Prop),St 0 s.heap->(∀ b tk,s.toks<=tk->Q b { s with toks:=tk })->UC (U0 prog w) A (W2 (.ref I)) Q E s
theorem bb_hint_lri {I l:Ui} {items:Array Ul}:HintOk prog w A I (fun i h=>i<=items.size/\h.IsRevIter I l ((items.size:Int) - 1 - (i:Int))/\h.IsList l items):=by
 intro s Q E st h;unfold W2;refine Ud (VW st.2.1.typeIs F.bb_nolen_lri ?_);show UC _ A (specialOf (UZ I) (Um "__length_hint__") >>= _) _ _ _;refine Ud (VW st.2.1.typeIs F.bb_hint_lri ?_)
 (generalize hid:("list_reverseiterator.__length_hint__":String)=EU;(fail_if_success (clear hid EU));wp_delta;rw [show splitId EU=some ("list_reverseiterator","__length_hint__") from by subst hid;decide +kernel];subst hid)
 refine Ud (W5 (b:=true) st.2.1.typeIs (by rw [Xq];kernel_rfl) ?_);exact Uq (h _ _ (Uj _))
theorem bb_len_hint {I t:Ui} {items:Array Ul} {Q:Ul->Ur->Prop} (hit:IsRevT s.heap I t ((items.size:Int) - 1)) (ht:Xo s.heap t items) (hz:(items.size:Int)<2 ^ 63)
 (h:∀ u tk,s.toks<=tk->Q (.int (items.size:Int) u) { s with toks:=tk }):UC (U0 prog w) A (call (.builtin "reversed.__length_hint__") [.ref I]) Q E s:=by
 obtain ⟨o,ho,hc,hd⟩:=id hit;refine Vz F.bb_slot_rev_hint hit.typeIs F.bb_entry_rev_hint ?_ (F.bb_args_rev_hint _);unfold W4.«reversed.__length_hint__»;refine Ud (Xy (a:=UZ I) rfl ?_)
 try dsimp only
 refine Ud (Vg ho hd (x:=.ref t) rfl ?_);rw [if_neg (show ¬ ((UZ t == VQ)=true) from UI)];refine Ud (PyProof.Rows.len_tuple ht hz ?_);refine Ud (m:=asInt? _) (Uq ?_)
 try dsimp only
 refine Ud (Vg ho hd (x:=WM ((items.size:Int) - 1)) rfl ?_);show UC _ _ (if (items.size:Int)<((items.size:Int) - 1)+1 then _ else _) _ _ _;rw [if_neg (by omega)];have e:((items.size:Int) - 1)+1=(items.size:Int):=by omega
 rw [e];refine Ud (wpAny_mkInt (Uq ⟨_,rfl,h _ _ ?_⟩));show s.toks<=s.toks+1+1+1;omega
theorem bb_hint_rev {I t:Ui} {items:Array Ul} (hz:items.size<=UD):HintOk prog w A I (fun i h=>i<=items.size/\IsRevT h I t ((items.size:Int) - 1 - (i:Int))/\Xo h t items):=by
 intro s Q E st h;unfold W2;refine Ud (VW st.2.1.typeIs F.bb_nolen_rev ?_);show UC _ A (specialOf (UZ I) (Um "__length_hint__") >>= _) _ _ _;refine Ud (VW st.2.1.typeIs F.bb_slot_rev_hint.lookup ?_)
 (generalize hid:("reversed.__length_hint__":String)=EU;(fail_if_success (clear hid EU));wp_delta;rw [show splitId EU=some ("reversed","__length_hint__") from by subst hid;decide +kernel];subst hid)
 refine Ud (W5 (b:=true) st.2.1.typeIs F.bb_sub_rev_rev ?_)
 have N8:(items.size:Int)<2 ^ 63:=by
  have:=L2.fk;omega
 rw [if_neg (by decide)]
 try dsimp only
 rw [if_neg (by decide +kernel)];refine Ud (Xa ?_);refine Ud (Xy (F.bb_slot_rev_hint.bind _) ?_)
 try dsimp only
 have hit:=st.2.1;rw [show (items.size:Int) - 1 - ((0:Nat):Int)=(items.size:Int) - 1 by omega] at hit;refine Ud (Xk (bb_len_hint hit st.2.2 N8 fun u tk Af=>?_));have f1:Builtin.List.listFitsIndex (items.size:Int)=true:=fitsIndex_of (Int.natCast_nonneg _) N8;have f2:WJ (items.size:Int).toNat=false:=L2.lu (V4 (ZL (Vh _)) hz);have f3:¬ (items.size:Int)<0:=Int.not_lt.mpr (Int.natCast_nonneg _);generalize (items.size:Int)=k at f1 f2 f3 ⊢;have fin:UC (U0 prog w) A (pure (k != 0):Sem Bool) Q E { s with toks:=tk }:=Uq (h _ _ Af);simp only [asInt?,pure_bind,f1,f2,f3,Yn,VE,if_false];exact fin
theorem bb_list_walk {T:String} {I:Ui} {fp wr:List Ui} {n:Nat} {P:Nat->Ul->Prop} {St:Nat->VH->Prop} {Q:Ul->Ur->Prop} (W:Walks prog w A.in1.in1 I fp wr n P St)
 (hT:∀ i (s:Ur),St i s.heap->s.TypeIs (.ref I) T) (h2:(WO T == WO "list")=false) (h3:(WO T == WO "tuple")=false) (hint:HintOk prog w A.in1.in1 I St)
 (yM:St 0 s.heap) (Qh:∀ b∈fp,b<s.heap.objs.size) (hI:I∈fp) (hn:n<=UD)
 (hQ:∀ h' tk acc c,(∀ b o,b∉wr->s.heap.get? b=some o->h'.get? b=some o)->h'.get? s.heap.objs.size=some { cls:=.type "list",dict:=none,data:=.seq acc c,slots:=#[] }->ItemsOf P acc n->Q (.ref s.heap.objs.size) { s with heap:=h',toks:=tk }) :
 UC (U0 prog w) A (call (.type "list") [.ref I]) Q E s:=by
 have F2:s.heap.objs.size∉fp:=fun hm=>VS _ (Qh _ hm)
 refine ZF (Q₁:=fun obj ye=>obj=.ref s.heap.objs.size/\ye={ s with heap:=s.heap.push { cls:=.type "list",data:=.seq #[] } }) F.called_list (F.typeCall_list_1 _) F.entry_list_init
  (code_list_new _ ⟨rfl,rfl⟩) fun obj ye yu=>?_
 obtain ⟨rfl,rfl⟩:=yu;have hS:(s.heap.push { cls:=.type "list",data:=.seq #[] }).get? s.heap.objs.size=some { cls:=.type "list",data:=.seq #[] }:=Uy _ rfl;have KO:s.heap.objs.size≠I:=fun e=>F2 (e ▸ hI);refine ⟨⟨_,hS,rfl⟩,F.args_list_init_2 _ _,?_⟩;show UC _ A.in1.in1 (do let old ← W3 (.ref s.heap.objs.size);Zn (.ref s.heap.objs.size) (fun _=>#[]);letGo old.toList.reverse;Wt (.ref s.heap.objs.size) (.ref I) .none) _ _ _;refine Ud ?_;unfold W3;refine Ud (VO hS rfl (Uq ?_));refine Ud (Wc hS rfl ?_);have zp:=U7 (VA (fun _=>(#[]:Array Ul))) hS rfl;refine Ud (Y5 ?_);generalize hH:(s.heap.push { cls:=.type "list",data:=.seq #[] }).update s.heap.objs.size (VA (fun _=>(#[]:Array Ul)))=H2 at zp ⊢
 have old:∀ b o,s.heap.get? b=some o->H2.get? b=some o:=fun b o e=>by
  rw [<- hH,Vd _ _ (Wd (U2 (UA e)))];exact Up _ e
 obtain ⟨c2,Du⟩:∃ c,H2.get? s.heap.objs.size=some { cls:=.type "list",data:=.seq #[] c }:=⟨_,zp⟩;have A':St 0 H2:=W.frame 0 _ _ yM fun b _ o e=>old b o e;unfold Wt;refine Ud (W0 (hT 0 _ A') ?_);have h1:WK (.ref s.heap.objs.size) (.ref I)=false:=by simp [WK,KO]
 simp only [h1,h2,h3,Zy,VE,if_false];refine Ud (W.self 0 _ _ _ A' ?_);refine Ud (VP (hint _ _ _ A' fun b tk _=>?_))
 have key:∀ (h:VH) (c₁ tk:Nat),St 0 h->(∀ b o,b≠s.heap.objs.size->H2.get? b=some o->h.get? b=some o)->h.get? s.heap.objs.size=some { cls:=.type "list",data:=.seq #[] c₁ } →
  Yr (U0 prog w) A.in1 (.builtin "list.extend.loop" ⟨[.ref s.heap.objs.size,.ref I,.none],[]⟩) (wants (fun r yP=>r=.none/\Q (.ref s.heap.objs.size) yP) E) { s with heap:=h,toks:=tk }:=by
  intro h c₁ tk hs hk AF;refine codeAny_extend_loopS W.toS hn _ F2 .none n 0 _ #[] c₁ rfl (UO _) hs AF (ItemsOf.nil _) fun s' za c' hm Ca yn=>?_;rw [Moved.eq_with hm];refine ⟨rfl,hQ s'.heap s'.toks za c' (fun b o hb e=>hm.heap b o (fun zj=>?_) (hk b o (U2 (UA e)) (old b o e))) Ca yn⟩;rcases UK.mp zj with e' | zj
  · exact absurd (UA e) (by rw [e'];exact VS _)
  · exact hb zj
 refine Zs (fun _=>?_) (fun _=>Uq ⟨Xm VU _,key _ c2 _ A' (fun b o _ e=>e) Du⟩);refine Ud (Xa ?_);refine Ud ?_;show UC _ _ (YT s.heap.objs.size (·.push .none) >>= fun _=>YT s.heap.objs.size (·.pop)) _ _ _;refine Ud (Wc Du rfl ?_);have zq:=U7 (VA (·.push VQ)) Du rfl;refine Wc (hz:=by seq_fits) zq rfl ?_;have AG:=U7 (VA (·.pop)) zq rfl
 have AH:∀ b o,b≠s.heap.objs.size->H2.get? b=some o->((H2.update s.heap.objs.size (VA (·.push VQ))).update s.heap.objs.size (VA (·.pop))).get? b=some o :=
  fun b o hb e=>(Vd _ _ (Wd hb)).trans ((Vd _ _ (Wd hb)).trans e)
 exact Uq ⟨Xm VU _,key _ _ _ (W.frame 0 _ _ A' fun b hb o e=>AH b o (fun z=>F2 (z ▸ hb)) e) AH AG⟩
end
end PySem
namespace L2
open PySem PySem.Spec PyProof.Rows
def SqB (b:Bool) (K:Ug) (H:Hp) (a:Ui) (xs:List V):Prop:=if b=true then SqL K H a xs else SqT K H a xs
theorem SqB.l {K:Ug} {H:Hp} {a:Ui} {xs:List V} (h:SqL K H a xs):SqB true K H a xs:=h
theorem tj {ys:List V} {its:List Ul} {acc:Array Ul} (rv:Vals ys its) (yn:ItemsOf (fun i v=>its.toArray[its.toArray.size - 1 - i]?=some v) acc its.toArray.size):Vals ys.reverse acc.toList:=by
 have e:acc.toList=its.reverse:=by
  apply Wr;intro i;have hs:acc.size=its.length:=by rw [yn.1,Uu]
  by_cases hi:i<acc.size
  · have h1:acc[i]?=some acc[i]:=Wv hi;have h2:=yn.2 i _ h1;rw [Uu] at h2;rw [Xw,h1,List.getElem?_reverse (by omega),<- h2];simp
  · rw [Xw,Ye (by omega),Vq (by rw [VJ];omega)]
 rw [e];exact rv.reverse
section
variable {X:Cx} {e:VC} {te:TE} {p p2 pos yD:Yl}
def sQ (K:Ug) (te:TE):TE:=fun σ H Q=>te σ H fun x H1=>∃ b a ys,x=.ref a/\SqB b K H1 a ys/\∀ l,H1 l=none->Q (.ref l) (upd H1 l (.lst ys.reverse))
theorem nq {pins:List (Ui×WA)} {σ:St} {H:Hp} {s:Ur} {Q:VK} {b:Bool} {a:Ui} {ys:List V} (hc:X.calm=true) (I:Inv X pins σ H s) (hq:SqB b X.K H a ys) (q:∀ l,H l=none->Q (.ref l) (upd H l (.lst ys.reverse))) :
 UC (U0 X.prog X.w) X.A (call (.type "reversed") [.ref a]) (fun u s1=>UC (U0 X.prog X.w) X.A (call (.type "list") [u]) (EP X pins σ Q) X.xe s1) X.xe s:=by
 have hn:=fk;have hh:X.A.in1.in1.handled=none:=I.ok.hd hc
 have fin:∀ {its:List Ul} {s1:Ur} {h':VH} {tk:Nat} {acc:Array Ul} {c:Nat},Vals ys its->ys.length<=UD->s1.heap.objs.size=s.heap.objs.size+1->s1.os=s.os->s1.gens=s.gens->s1.drawn=s.drawn->(∀ b o,s.heap.get? b=some o->s1.heap.get? b=some o) →
  (∀ b o,b∉[s.heap.objs.size]->s1.heap.get? b=some o->h'.get? b=some o)->h'.get? s1.heap.objs.size=some { cls:=.type "list",dict:=none,data:=.seq acc c,slots:=#[] }->ItemsOf (fun i v=>its.toArray[its.toArray.size - 1 - i]?=some v) acc its.toArray.size →
  EP X pins σ Q (.ref s1.heap.objs.size) { s1 with heap:=h',toks:=tk }:=fun {its s1 h' tk acc c} rv hz es eo eg ed k1 kp hS yn=>by
  have KI:({ s1 with heap:=h',toks:=tk }:Ur)={ s with heap:=h',toks:=tk }:=by
   obtain ⟨a1,a2,a3,a4,a5⟩:=s1;have e1:a5=s.os:=eo;have e2:a2=s.gens:=eg;have e3:a3=s.drawn:=ed;subst e1;subst e2;subst e3;rfl
  have hp:s.heap.objs.size<=s1.heap.objs.size:=by rw [es];exact Nat.le_succ _
  refine ⟨.ref s1.heap.objs.size,upd H s1.heap.objs.size (.lst ys.reverse),?_,rfl,q _ (I.hok.fresh hp)⟩;rw [KI];refine I.laid (t':=tk) (fun b o e=>kp b o (fun z=>?_) (k1 b o e)) hp ⟨by rw [VJ];exact hz,acc.toList,c,tj rv yn,hS⟩;exact absurd (UA e) (by rw [UP.mp z];exact VS _)
 cases b
 · have KP:SqT X.K H a ys:=hq;obtain ⟨its,rv,p,hz⟩:=I.tuple KP;have hl:=rv.length;refine bb_call_rev_tuple p (by rw [Uu];omega) fun tk=>?_;obtain ⟨oa,AI,ca,da⟩:=id p;have yx:a≠s.heap.objs.size:=U2 (UA AI)
   refine bb_list_walk (T:="reversed") (bb_walk_revT hh s.heap.objs.size a yx its.toArray (by rw [Uu];omega)) (fun i s st=>st.2.1.typeIs) (by decide) (by decide) (bb_hint_rev (by rw [Uu];omega))
    ⟨UO _,?_,⟨oa,Up _ AI,ca,da⟩⟩ (fun b hb=>?_) (by simp) (by rw [Uu];omega) fun h' tk acc c kp hS yn=>fin rv hz (VF ..) rfl rfl rfl (fun b o e=>Up _ e) kp hS yn
   · rw [show (its.toArray.size:Int) - 1 - ((0:Nat):Int)=(its.toArray.size:Int) - 1 by omega];exact ⟨_,Uy _ rfl,rfl,rfl⟩
   · show b<(s.heap.push _).objs.size;rw [VF];rcases UK.mp hb with e | e
     · rw [e];exact Nat.lt_succ_self _
     · rw [UP.mp e];exact Yc (UA AI)
 · have KP:SqL X.K H a ys:=hq;obtain ⟨its,rv,p,hz⟩:=I.list KP;have hl:=rv.length;refine call_reversed_list p.isList ?_;obtain ⟨oa,AI,ca,na,da⟩:=id p.isList;have yx:a≠s.heap.objs.size:=U2 (UA AI)
   refine bb_list_walk (T:="list_reverseiterator") (Walks.listRev hh s.heap.objs.size a yx its.toArray) (fun i s st=>st.2.1.typeIs) (by decide) (by decide) bb_hint_lri
    ⟨UO _,?_,⟨oa,Up _ AI,ca,na,da⟩⟩ (fun b hb=>?_) (by simp) (by rw [Uu];omega) fun h' tk acc c kp hS yn=>fin rv hz (VF ..) rfl rfl rfl (fun b o e=>Up _ e) kp hS yn
   · rw [show (its.toArray.size:Int) - 1 - ((0:Nat):Int)=(its.toArray.size:Int) - 1 by omega];exact ⟨_,Uy _ rfl,rfl,rfl⟩
   · show b<(s.heap.push _).objs.size;rw [VF];rcases UK.mp hb with e | e
     · rw [e];exact Nat.lt_succ_self _
     · rw [UP.mp e];exact Yc (UA AI)
theorem lm (hc:X.calm=true) (g1:Gl X "list") (m1:X.mg "list"=none) (g2:Gl X "reversed") (m2:X.mg "reversed"=none) (he:PE X e te)
 (h1:Vm [.Call (.Name "reversed" p2) [e] [] yD] X.env=[(false,WN (.Call (.Name "reversed" p2) [e] [] yD) X.env)]:=by rfl) (h2:Vm [e] X.env=[(false,WN e X.env)]:=by rfl) :
 PE X (.Call (.Name "list" p) [.Call (.Name "reversed" p2) [e] [] yD] [] pos) (sQ X.K te):=by
 intro pins s σ H Q I h;refine V1 (cS I g1 m1 boot_list (Vj ?_ h1 rfl));rw [h1];show UC _ _ (spliced ((false,WN (.Call (.Name "reversed" p2) [e] [] yD) X.env)::[])) _ _ s;refine V2 ?_;refine V1 (cS I g2 m2 boot_reversed (Vj ?_ h2 rfl));rw [h2];show UC _ _ (spliced ((false,WN e X.env)::[])) _ _ s;refine V2 (thn (he pins s σ H _ I h) fun u s1 ⟨x,H1,I1,r1,b,a,ys,ex,hq,q⟩=>?_);subst ex;cases r1;refine Wx ?_;refine thn (nq hc I1 hq q) fun v s2 h2=>Wx ?_;exact h2
def Itv (K:Ug) (a:Ui) (n:Nat):It:=⟨fun i H=>i<n/\∃ xs,SqL K H a xs/\xs.length=n,fun i H x H'=>H'=H/\∀ xs,SqL K H a xs->xs[n - 1 - i]?=some x,fun i _=>i=n⟩
theorem tD {P:Uz} {w:UN} {K:Ug} {tg:VC} (a it:Ui) (n:Nat):Turn P w K tg (Itv K a n) [it] it (fun i h=>h.IsRevIter it a ((n:Int) - 1 - (i:Nat))) where
 mem:=by simp
 obj:=fun i h st b hb=>by
  have e:b=it:=by simpa using hb
  subst e;obtain ⟨o,e,c,d⟩:=st;exact ⟨o,e,fun v z=>by rw [d] at z;cases z⟩
 keep:=fun i h h' st k=>st.at fun o e=>k it (by simp) o e
 item:=by
  intro X hP hw hK hc i pins s σ H E I hf st hg;subst hP hw hK;obtain ⟨hi,xs,hq,hx⟩:=hg;obtain ⟨its,rv,p,hz⟩:=I.list hq;have hl:=rv.length;obtain ⟨x,Cu⟩:∃ x,xs[n - 1 - i]?=some x:=⟨_,Ue (by omega)⟩;obtain ⟨u,hu,ru⟩:=rv.get Cu;obtain ⟨f0,f1,f2,f3,f4,f5⟩:=hf it (by simp);have e1:(n:Int) - 1 - (i:Nat)=((n - 1 - i:Nat):Int):=by omega
  rw [e1] at st;refine wpAny_pyNext_rev_item st p.isList (x:=u) (by simpa using hu) fun h' B6 sb=>?_;have I1:Inv X pins σ H { s with heap:=h' }:=I.turned (t':=s.toks) (fun b o hb e=>(sb.2 b hb).trans e) f0 f1 f3 f4 f5;have e2:((n - 1 - i:Nat):Int) - 1=(n:Int) - 1 - ((i+1:Nat):Int):=by omega
  rw [e2] at B6;obtain ⟨o,e,c,d⟩:=id B6;exact ⟨u,rfl,qX (s:={ s with heap:=h' }) e c d (by decide) ⟨x,H,I1,ru,⟨rfl,fun ys hy=>by rw [I.list_inj hy hq];exact Cu⟩,B6,fun b hb=>(hf b hb).1⟩⟩
 done:=by
  intro X hP hw hK hc i pins s σ H E I hf st hg;subst hP hw hK;have KQ:i=n:=hg;subst KQ;obtain ⟨f0,f1,f2,f3,f4,f5⟩:=hf it (by simp);rw [show (i:Int) - 1 - (i:Nat)=-1 by omega] at st;exact wpAny_pyNext_rev_end (I.ok.hd hc) st fun h' eb=>⟨rfl,I.turned (t':=s.toks) (fun b o hb e=>eb b o hb e) f0 f1 f3 f4 f5⟩
 self:=fun _ _ _ _ _ st h=>wpAny_pyIter_revIter st h
def xz (K:Ug) (tl:TE):TI:=fun σ H R=>tl σ H fun x H1=>∃ a xs,x=.ref a/\SqL K H1 a xs/\R (Itv K a xs.length) H1
theorem ww {tg:VC} (g2:Gl X "reversed") (m2:X.mg "reversed"=none) (he:PE X e te) (h2:Vm [e] X.env=[(false,WN e X.env)]:=by rfl):PI X tg (.Call (.Name "reversed" p2) [e] [] yD) (xz X.K te):=by
 intro pins s σ H R I h;refine V1 (cS I g2 m2 boot_reversed (Vj ?_ h2 rfl));rw [h2];show UC _ _ (spliced ((false,WN e X.env)::[])) _ _ s;refine V2 (thn (he pins s σ H _ I h) fun u s1 ⟨x,H1,I1,r1,a,ys,ex,hq,q⟩=>Wx ?_);subst ex;cases r1;obtain ⟨its,rv,p,hz⟩:=I1.list hq;have hl:=rv.length;refine call_reversed_list p.isList ?_
 have hit:(s1.heap.push (revObj a ((its.toArray.size:Int) - 1))).IsRevIter s1.heap.objs.size a ((ys.length:Int) - 1 - ((0:Nat):Int)):=by
  rw [hl,show (its.length:Int) - 1 - ((0:Nat):Int)=(its.toArray.size:Int) - 1 by rw [Uu];omega];exact ⟨_,Uy _ rfl,rfl,rfl⟩
 refine wpAny_pyIter_revIter (s:={ s1 with heap:=s1.heap.push (revObj a ((its.toArray.size:Int) - 1)) }) hit ?_;refine ⟨s1.heap.objs.size,[s1.heap.objs.size],_,_,H1,rfl,I1.kept (t':=s1.toks) fun b o e=>Up _ e,tD a _ ys.length,hit,fun b hb=>?_,q⟩;have e:b=s1.heap.objs.size:=by simpa using hb
 subst e;exact I1.fpOk (Uj _) (I1.hok.fresh (Uj _))
theorem uF {K:Ug} {a:Ui} {xs:List V} {g:TG} {tb:TS} {D:Ends} {σ:St} {H:Hp} (Pv:Nat->St->Hp->Prop) (h0:Pv 0 σ H) (hl:∀ i σ H,i<=xs.length->Pv i σ H->SqL K H a xs)
 (hs:∀ i x σ H,i<xs.length->xs[xs.length - 1 - i]?=some x->Pv i σ H->g x σ H fun yw H2=>tb { D with nx:=Pv (i+1),ct:=Pv (i+1),bk:=D.nx } yw H2) (hd:∀ σ H,Pv xs.length σ H->D.nx σ H) :
 ∃ W:Nat->Nat->St->Hp->Prop,(∃ m,W 0 m σ H)/\∀ i m σ H,W i m σ H →
   ((Itv K a xs.length).stop i H/\D.nx σ H)∨((Itv K a xs.length).go i H/\∃ N:St->Hp->Prop,(∀ yd H',N yd H'->∃ m',m'<m/\W (i+1) m' yd H')/\∀ x H',(Itv K a xs.length).yld i H x H'->g x σ H' fun yw H2=>tb { D with nx:=N,ct:=N,bk:=D.nx } yw H2):=by
 refine ⟨fun i m σ H=>i<=xs.length/\m=xs.length - i/\Pv i σ H,⟨xs.length,UO _,rfl,h0⟩,?_⟩;rintro i m σ H ⟨hi,rfl,p⟩;by_cases h:i=xs.length
 · left;exact ⟨h,hd σ H (by rw [<- h];exact p)⟩
 · right;have yX:i<xs.length:=by omega
   refine ⟨⟨yX,xs,hl i σ H hi p,rfl⟩,Pv (i+1),fun yd H' q=>⟨xs.length - (i+1),by omega,by omega,rfl,q⟩,?_⟩;rintro x H' ⟨rfl,hx⟩;exact hs i x σ H' yX (hx xs (hl i σ H' hi p)) p
end
end L2
namespace BB
open PySem L2
inductive Th where
 | knot (n:US) (ks:List Th)
 | call (s k:Int)
def q:US:=Um "?"
def Th.kids:Th->List Th
 | .knot _ ks=>ks
 | .call _ _=>[]
mutual
def Th.size:Th->Nat
 | .knot _ ks=>aq ks+1
 | .call _ _=>1
def aq:List Th->Nat
 | []=>0
 | t::ts=>t.size+aq ts
end
mutual
def Th.tall:Th->Nat
 | .knot _ ks=>bE ks+1
 | .call _ _=>1
def bE:List Th->Nat
 | []=>0
 | t::ts=>max t.tall (bE ts)
end
mutual
/-- by places F3 -/
def Th.walk:Th->List Th
 | .knot n ks=>.knot n ks::walks ks
 | .call s k=>[.call s k]
def walks:List Th->List Th
 | []=>[]
 | t::ts=>t.walk++walks ts
end
theorem Th.walk_eq (t:Th):t.walk=t::walks t.kids:=by
 cases t with
 | knot n ks=>rw [Th.walk];rfl
 | call s k=>rw [Th.walk];simp [Th.kids,walks]
theorem Th.size_eq (t:Th):t.size=aq t.kids+1:=by
 cases t with
 | knot n ks=>rw [Th.size];rfl
 | call s k=>rw [Th.size];simp [Th.kids,aq]
theorem Th.tall_eq (t:Th):t.tall=bE t.kids+1:=by
 cases t with
 | knot n ks=>rw [Th.tall];rfl
 | call s k=>rw [Th.tall];simp [Th.kids,bE]
theorem iK:∀ a b:List Th,walks (a++b)=walks a++walks b
 | [],b=>by simp [walks]
 | t::a,b=>by rw [Wm,walks,walks,iK a b,Vo]
theorem bd:∀ a b:List Th,aq (a++b)=aq a+aq b
 | [],b=>by simp [aq]
 | t::a,b=>by rw [Wm,aq,aq,bd a b,YR]
mutual
theorem Th.walk_len:∀ t:Th,t.walk.length=t.size
 | .knot n ks=>by rw [Th.walk,Th.size,Ut,jq ks]
 | .call s k=>by rw [Th.walk,Th.size];rfl
theorem jq:∀ ts:List Th,(walks ts).length=aq ts
 | []=>rfl
 | t::ts=>by rw [walks,aq,UE,t.walk_len,jq ts]
end
theorem Th.size_pos (t:Th):1<=t.size:=by rw [t.size_eq];omega
mutual
def At (H:Hp):Th->Ui->Prop
 | .knot n ks,a=>n≠q/\∃ as:List Ui,H a=some (.tup (.str n::as.map V.ref))/\Ats H ks as
 | .call s k,a=>H a=some (.tup [.str q,.int s,.int k])
def Ats (H:Hp):List Th->List Ui->Prop
 | [],as=>as=[]
 | t::ts,as=>∃ a r,as=a::r/\At H t a/\Ats H ts r
end
def KT (H H':Hp):Prop:=∀ b xs,H b=some (.tup xs)->H' b=some (.tup xs)
theorem KT.trans {H H1 H2:Hp} (a:KT H H1) (b:KT H1 H2):KT H H2:=fun c o h=>b c o (a c o h)
theorem Same.kt {H H':Hp} (h:L2.Same H H'):KT H H':=fun b xs e=>h b _ e
theorem dM {H:Hp} {l:Ui} {o:HO} (h:H l=none):KT H (upd H l o):=fun b xs e=>by rw [ak (aJ e h)];exact e
theorem aS {H:Hp} {l:Ui} {o:HO} {xs:List V} (h:H l=some (.lst xs)):KT H (upd H l o):=fun b ys e=>by rw [ak (fP e h (by intro z;cases z))];exact e
mutual
theorem At.mono {H H':Hp} (k:KT H H'):∀ {t:Th} {a:Ui},At H t a->At H' t a
 | .knot n ks,a,h=>by
   rw [At] at h ⊢;obtain ⟨h0,as,h1,h2⟩:=h;exact ⟨h0,as,k _ _ h1,Ats.mono k h2⟩
 | .call s c,a,h=>by
   rw [At] at h ⊢;exact k _ _ h
theorem Ats.mono {H H':Hp} (k:KT H H'):∀ {ts:List Th} {as:List Ui},Ats H ts as->Ats H' ts as
 | [],as,h=>by rw [Ats] at h ⊢;exact h
 | t::ts,as,h=>by
   rw [Ats] at h ⊢;obtain ⟨a,r,e,h1,h2⟩:=h;exact ⟨a,r,e,At.mono k h1,Ats.mono k h2⟩
end
theorem Ats.nil {H:Hp}:Ats H [] []:=by rw [Ats]
theorem Ats.cons {H:Hp} {t:Th} {ts:List Th} {a:Ui} {as:List Ui} (h1:At H t a) (h2:Ats H ts as):Ats H (t::ts) (a::as):=by rw [Ats];exact ⟨a,as,rfl,h1,h2⟩
theorem Ats.append {H:Hp}:∀ {ts us:List Th} {as bs:List Ui},Ats H ts as->Ats H us bs->Ats H (ts++us) (as++bs)
 | [],us,as,bs,h,g=>by rw [Ats] at h;subst h;exact g
 | t::ts,us,as,bs,h,g=>by
   rw [Ats] at h;obtain ⟨a,r,rfl,h1,h2⟩:=h;exact .cons h1 (h2.append g)
theorem Ats.length {H:Hp}:∀ {ts:List Th} {as:List Ui},Ats H ts as->as.length=ts.length
 | [],as,h=>by rw [Ats] at h;subst h;rfl
 | t::ts,as,h=>by
   rw [Ats] at h;obtain ⟨a,r,rfl,h1,h2⟩:=h;rw [Ut,Ut,h2.length]
theorem Ats.get {H:Hp}:∀ {ts:List Th} {as:List Ui} {i:Nat} {a:Ui},Ats H ts as->as[i]?=some a->∃ t,ts[i]?=some t/\At H t a
 | [],as,i,a,h,e=>by rw [Ats] at h;subst h;simp at e
 | t::ts,as,i,a,h,e=>by
   rw [Ats] at h;obtain ⟨b,r,rfl,h1,h2⟩:=h;cases i with
   | zero=>simp at e;subst e;exact ⟨t,rfl,h1⟩
   | succ i=>exact h2.get (i:=i) (by simpa using e)
theorem Ats.at {H:Hp}:∀ {ts:List Th} {as:List Ui} {i:Nat} {t:Th},Ats H ts as->ts[i]?=some t->∃ a,as[i]?=some a/\At H t a
 | [],as,i,a,h,e=>by simp at e
 | t::ts,as,i,a,h,e=>by
   rw [Ats] at h;obtain ⟨b,r,rfl,h1,h2⟩:=h;cases i with
   | zero=>simp at e;subst e;exact ⟨b,rfl,h1⟩
   | succ i=>exact h2.at (i:=i) (by simpa using e)
end BB
namespace BB
open PySem L2
def Th.nm:Th->US
 | .knot n _=>n
 | .call _ _=>q
end BB
namespace BB
open PySem L2
def dq:US:=Um "abcdefghijklmnopqrstuvwxyz"
theorem qe:dq.cps.toList=(U1 26).map (97+·):=by decide +kernel
theorem jI:dq.length=26:=by decide +kernel
theorem at_nonneg {α:Type} {xs:List α} {i:Int} {v:α} (h0:0<=i) (h:xs[i.toNat]?=some v):atI xs i=some v:=by
 have e:i=((i.toNat:Nat):Int):=by omega
 rw [e];exact ce h
theorem mq {i:Int} (h0:0<=i) (h1:i<26):atI dq.cps.toList i=some (97+i.toNat):=by
 refine at_nonneg h0 ?_;rw [qe,Uo,Vp (by omega)];rfl
def Low (x:US):Prop:=∀ c∈x.cps.toList,97<=c/\c<=122
theorem nS {x:US} (h:Low x) (lo hi:Option Int):Low (dU x lo hi):=by
 intro c hc;have zw:c∈jS x.cps.toList lo hi:=by simpa [dU] using hc
 exact h c (List.mem_of_mem_drop (List.mem_of_mem_take zw))
theorem nB {x y:US} (hx:Low x) (hy:Low y):Low (x++y):=by
 intro c hc;have zw:c∈(x.cps++y.cps).toList:=hc;rw [XT,Ve] at zw;rcases zw with h | h
 · exact hx c h
 · exact hy c h
theorem jX {c:Nat} (h1:97<=c) (h2:c<=122):Low ⟨#[c]⟩:=by
 intro d hd;have:d=c:=by simpa using hd
 omega
theorem rE {x:US} (h:Low x):x≠q:=by
 intro e;subst e;have:=h 63 (by decide +kernel);omega
end BB
namespace L2
open PySem PySem.Spec PyProof.Rows
theorem Same.seqT {K:Ug} {H H':Hp} {a:Ui} {xs:List V} (e:Same H H') (h:SqT K H a xs):SqT K H' a xs:=by
 rcases h with (h | ⟨o,h⟩) | h
 · exact .inl (.inl (e _ _ h))
 · exact .inl (.inr ⟨o,e _ _ h⟩)
 · exact .inr h
theorem ad {H:Hp} {p:Ui} (h:H p=none) (o:HO):Same H (upd H p o):=fun b u q=>by rw [ak (aJ q h)];exact q
theorem aw {H H1:Hp} {l:Ui} {o:HO} (h:Same H H1) (n:H l=none):Same H (upd H1 l o):=fun b u e=>by rw [ak (aJ e n)];exact h b u e
theorem vf {α:Type} {js:List (Option Nat)} {tt:TT} {te:TE} {σ:St} {J:It} {H:Hp} {xs:List V} {fin:Ui->Hp->Prop} (zs:List α) (p:α->Bool) (f:α->V) (hz:zs.length=xs.length) (hn:xs.length<=1000000)
 (Cb:∀ i H2,Same H H2->i<xs.length->J.go i H2) (zd:∀ H2,Same H H2->J.stop xs.length H2) (Ag:∀ (i:Nat) H2 x H3,Same H H2->i<xs.length->J.yld i H2 x H3->H3=H2/\xs[i]?=some x)
 (G2:∀ (i:Nat) x z H2 (R:Bool->Hp->Prop),xs[i]?=some x->zs[i]?=some z->Same H H2->R (p z) H2->tt ((cσ js σ).set 0 (some x)) H2 R)
 (G4:∀ (i:Nat) x z H2 (R:VK),xs[i]?=some x->zs[i]?=some z->p z=true->Same H H2->R (f z) H2->te ((cσ js σ).set 0 (some x)) H2 R)
 (q:∀ D,H D=none->fin D (upd H D (.lst ((zs.filter p).map f)))) :
 ∀ D,H D=none->∃ (n:Nat) (W:Nat->Hp->Prop),W 0 (upd H D (.lst []))/\fO js (aF 0) tt te σ J D n W fun H'=>fin D H':=by
 intro D hD;refine ⟨xs.length,fun i H2=>i<=xs.length/\H2=upd H D (.lst (((zs.take i).filter p).map f)),⟨UO _,by simp⟩,?_⟩;rintro i H2 ⟨hi,rfl⟩;have sm:∀ o,Same H (upd H D o):=fun o=>ad hD o;by_cases h:i=xs.length
 · left;subst h;refine ⟨zd _ (sm _),?_⟩;rw [<- hz,V9];exact q D hD
 · right;have yX:i<xs.length:=by omega
   refine ⟨yX,Cb i _ (sm _) yX,fun x H1 hy=>?_⟩;obtain ⟨rfl,hx⟩:=Ag i _ x H1 (sm _) yX hy;have KR:i<zs.length:=by omega
   have e1:zs[i]?=some zs[i]:=Ue KR
   have e2:(zs.take (i+1)).filter p=(zs.take i).filter p++(if p zs[i]=true then [zs[i]] else []):=by
    rw [Vs,e1,X6];show _++List.filter p [zs[i]]=_;rw [Wa,Zb]
   refine G2 i x zs[i] _ _ hx e1 (sm _) ?_
   have hlen:(((zs.take i).filter p).map f).length<=1000000:=by
    rw [Uc];have:=WZ p (zs.take i);rw [UQ] at this;omega
   by_cases hp:p zs[i]=true
   · rw [if_pos hp];refine G4 i x zs[i] _ _ hx e1 hp (sm _) ⟨_,ab,YD hlen (by decide),yX,?_⟩;rw [jY,e2,if_pos hp,Ux];rfl
   · rw [if_neg hp];refine ⟨yX,?_⟩;rw [e2,if_neg hp,U6]
theorem pI {α:Type} {K:Ug} {a:Ui} {js:List (Option Nat)} {tt:TT} {te:TE} {σ:St} {H:Hp} {xs:List V} {fin:Ui->Hp->Prop} (zs:List α) (p:α->Bool) (f:α->V) (hS:SqT K H a xs) (hz:zs.length=xs.length) (hn:xs.length<=1000000)
 (G2:∀ (i:Nat) x z H2 (R:Bool->Hp->Prop),xs[i]?=some x->zs[i]?=some z->Same H H2->R (p z) H2->tt ((cσ js σ).set 0 (some x)) H2 R)
 (G4:∀ (i:Nat) x z H2 (R:VK),xs[i]?=some x->zs[i]?=some z->p z=true->Same H H2->R (f z) H2->te ((cσ js σ).set 0 (some x)) H2 R)
 (q:∀ D,H D=none->fin D (upd H D (.lst ((zs.filter p).map f)))) :
 ∀ D,H D=none->∃ (n:Nat) (W:Nat->Hp->Prop),W 0 (upd H D (.lst []))/\fO js (aF 0) tt te σ (Itt K a) D n W fun H'=>fin D H' :=
 vf zs p f hz hn (fun i H2 s hi=>⟨xs,xs[i],s.seqT hS,Ue hi⟩) (fun H2 s=>⟨xs,s.seqT hS,Uj _⟩) (fun i H2 x H3 s hi hy=>⟨hy.1,hy.2 xs (s.seqT hS)⟩) G2 G4 q
end L2
namespace BB
open PySem L2
theorem at0 {α:Type} {x:α} {xs:List α}:atI (x::xs) 0=some x:=ce (j:=0) rfl
theorem at1 {α:Type} {x y:α} {xs:List α}:atI (x::y::xs) 1=some y:=ce (j:=1) rfl
theorem at2 {α:Type} {x y z:α} {xs:List α}:atI (x::y::z::xs) 2=some z:=ce (j:=2) rfl
theorem de (x:V) (xs:List V):du (x::xs) (some 1) none=xs:=by
 unfold du;simp [HT.sIx]
theorem bJ:∀ ts:List Th,ts.length<=aq ts
 | []=>UO _
 | t::ts=>by
   have:=t.size_pos;have:=bJ ts;rw [Ut,aq];omega
theorem mX (ts:List Th):aq ts.reverse=aq ts:=by
 induction ts with
 | nil=>rfl
 | cons x xs ih=>rw [Vu,bd,ih,aq,aq,aq];omega
theorem aH {n:Nat} (h:n<=1000000):n<UD:=YD h (by decide)
theorem ai {n:Nat} (h:n<=1000000):n<=UD:=XM (aH h)
theorem int_at {ns:List Int} {k:Int} (h0:0<=k) (h:k<(ns.length:Int)):atI (ns.map V.int) k=some (.int (ns.getD k.toNat 0)):=by
 refine at_nonneg h0 ?_;have hk:k.toNat<ns.length:=by omega
 rw [Uo,Ue hk,List.getD_eq_getElem?_getD,Ue hk];rfl
end BB
namespace BB
open PySem L2
section
variable {α β:Type} {F G:α->β->Prop}
theorem P2.append:∀ {a c:List α} {b d:List β},UX F a b->UX F c d->UX F (a++c) (b++d)
 | _,_,_,_,.nil,h=>h
 | _,_,_,_,.cons r t,h=>.cons r (P2.append t h)
theorem P2.get:∀ {a:List α} {b:List β} {i:Nat} {x:α},UX F a b->a[i]?=some x->∃ y,b[i]?=some y/\F x y
 | _,_,_,_,.nil,e=>by simp at e
 | _,_,0,_,.cons r _,e=>by simp at e;subst e;exact ⟨_,rfl,r⟩
 | _,_,i+1,x,.cons _ t,e=>by
   obtain ⟨u,h1,h2⟩:=P2.get (i:=i) (x:=x) t (by simpa using e);exact ⟨u,by simpa using h1,h2⟩
theorem P2.get':∀ {a:List α} {b:List β} {i:Nat} {y:β},UX F a b->b[i]?=some y->∃ x,a[i]?=some x/\F x y
 | _,_,_,_,.nil,e=>by simp at e
 | _,_,0,_,.cons r _,e=>by simp at e;subst e;exact ⟨_,rfl,r⟩
 | _,_,i+1,y,.cons _ t,e=>by
   obtain ⟨u,h1,h2⟩:=P2.get' (i:=i) (y:=y) t (by simpa using e);exact ⟨u,by simpa using h1,h2⟩
theorem P2.mp (f:∀ x y,F x y->G x y):∀ {a:List α} {b:List β},UX F a b->UX G a b
 | _,_,.nil=>.nil
 | _,_,.cons r t=>.cons (f _ _ r) (P2.mp f t)
end
def KAt (H:Hp) (k:US×Int) (a:Ui):Prop:=H a=some (.tup [.str k.1,.int k.2])
def KsAt (H:Hp) (ks:List (US×Int)) (as:List Ui):Prop:=UX (KAt H) ks as
theorem KsAt.mono {H H':Hp} (k:KT H H') {ks:List (US×Int)} {as:List Ui} (h:KsAt H ks as):KsAt H' ks as:=P2.mp (fun x y e=>k _ _ e) h
end BB
namespace L2
open PySem
theorem jr {t u:TS} {D:Ends} {σ:St} {H:Hp} (R:St->Hp->Prop) (h1:∀ k:St->Hp->Prop,(∀ yd H',R yd H'->k yd H')->t { D with nx:=k } σ H) (h2:∀ yd H',R yd H'->u D yd H'):wX t u D σ H:=h1 _ h2
theorem cI {c:TT} {t u:TS} {D:Ends} {σ:St} {H:Hp} (R:Bool->Hp->Prop) (h1:∀ k:Bool->Hp->Prop,(∀ b H',R b H'->k b H')->c σ H k) (h2:∀ H',R true H'->t D σ H') (h3:∀ H',R false H'->u D σ H'):xi c t u D σ H :=
 h1 _ fun b H' r=>by
  cases b with
  | true=>rw [if_pos rfl];exact h2 H' r
  | false=>rw [if_neg UI];exact h3 H' r
end L2
namespace BB
open PySem L2
section
variable {ext:Th->List V} {H H':Hp} {t:Th} {a:Ui} {ts:List Th} {es:List Ui}
end
theorem filter_tt {α:Type} (xs:List α):xs.filter (fun _=>true)=xs:=by
 induction xs with
 | nil=>rfl
 | cons x xs ih=>rw [Wa,if_pos rfl,ih]
theorem bT:∀ {ts:List Th} {t:Th},t∈ts->t.tall<=bE ts
 | u::ts,t,h=>by
   rw [bE];rcases UK.mp h with rfl | h
   · omega
   · have:=bT h;omega
theorem jn {xs:List V} {n:Nat} (h:n<=xs.length):du xs (some (n:Int)) none=xs.drop n:=by
 unfold du;rw [HT.sIx_nat,HT.sIx_none,Yu h];exact Vx (by rw [VG];exact Uj _)
theorem take_snoc {α:Type} {xs:List α} {n:Nat} {x:α} (h:xs[n]?=some x):xs.take (n+1)=xs.take n++[x]:=by rw [Vs,h];rfl
theorem aU {xs:List Ui} {i:Nat} {x:V} (h:(xs.map V.ref)[i]?=some x):∃ a,x=.ref a/\xs[i]?=some a:=by
 rw [Uo] at h;obtain ⟨a,h1,h2⟩:=UU.mp h;exact ⟨a,h2.symm,h1⟩
end BB
namespace PySem
open Sem (wp)
section
variable {prog:Uz} {w:UN} {A:U9} {E:Ul->Ur->Prop} {s:Ur}
theorem bb_tupNext {cur tp:Ui} {i:Nat} {items:Array Ul} {x:Ul} {Q:Ul->Ur->Prop} (g:s.heap.IsTupleIter cur tp i) (gt:s.heap.IsTuple tp items) (hx:items[i]?=some x)
 (fin:∀ h',h'.IsTupleIter cur tp (i+1)->We cur s.heap h'->Q x { s with heap:=h' }):UC (U0 prog w) A (Vk (.ref cur)) Q E s:=by
 obtain ⟨ob,e1,e2,e3⟩:=id g;obtain ⟨ot,e4,_,nt,e5⟩:=gt;unfold Vk;refine Ud (Vr (name:=Um "__next__") g.typeIs X0 (Vz X0 g.typeIs F.entry_tuple_iterator_next ?_ (F.args_tuple_iterator_next_1 _)));show UC _ _ (field (.ref cur) 0 >>= _) _ _ s;refine Ud (Vg e1 e3 (x:=.ref tp) rfl ?_);show UC _ _ (if (UZ tp == VQ)=true then _ else _) _ _ s;rw [if_neg (show ¬ ((UZ tp == VQ)=true) from UI)];show UC _ _ (field (.ref cur) 1 >>= _) _ _ s;refine Ud (Vg e1 e3 (x:=.int i 0) rfl ?_);show UC _ _ (seqItems? (.ref tp) >>= _) _ _ s;refine Ud (VO e4 e5 ?_);simp only [Vh,hx];refine Ud (XU e1 e3 (by simp) (Uq ⟨x,rfl,Uq (fin _ ?_ (Wy ..))⟩));exact ⟨_,U7 _ e1 (Yx (WG e3 _)),(Obj.cls_mapFields ..).trans e2,by rw [WG e3];simp [WM]⟩
theorem bb_tupEnd {cur tp:Ui} {i:Nat} {items:Array Ul} {Q:Ul->Ur->Prop} (calm:A.handled=none) (g:s.heap.IsTupleIter cur tp i) (gt:s.heap.IsTuple tp items) (hx:items[i]?=none)
 (fin:∀ h' e,ZR cur s.heap h'->(∃ o,h'.get? e=some o/\o.cls=.type "StopIteration")->E (.ref e) { s with heap:=h' }):UC (U0 prog w) A (Vk (.ref cur)) Q E s:=by
 obtain ⟨ob,e1,e2,e3⟩:=id g;obtain ⟨ot,e4,_,nt,e5⟩:=gt;unfold Vk;refine Ud (Vr (name:=Um "__next__") g.typeIs X0 (Vz X0 g.typeIs F.entry_tuple_iterator_next ?_ (F.args_tuple_iterator_next_1 _)));show UC _ _ (field (.ref cur) 0 >>= _) _ _ s;refine Ud (Vg e1 e3 (x:=.ref tp) rfl ?_);show UC _ _ (if (UZ tp == VQ)=true then _ else _) _ _ s;rw [if_neg (show ¬ ((UZ tp == VQ)=true) from UI)];show UC _ _ (field (.ref cur) 1 >>= _) _ _ s;refine Ud (Vg e1 e3 (x:=.int i 0) rfl ?_);show UC _ _ (seqItems? (.ref tp) >>= _) _ _ s;refine Ud (VO e4 e5 ?_);simp only [Vh,hx];refine Ud (Xa (Ud (XU e1 e3 (by simp) ?_)));show UC _ _ (newExc (.type "StopIteration") [] >>= _) _ _ _;refine Ud ?_;simp only [newExc,newTuple];refine Ud (Vy ?_ (by size_fits));refine Ud (m:=Yq _ _) (Xy (a:=VQ) (by first | rfl | (simp only [Yq];rfl)) ?_);refine Vy ?_ (by size_fits);simp only [raiseNew];refine Ud (wpAny_handled ?_)
 first | rw [show A.in1.handled=none from calm] | rw [calm]
 refine Ud (Uq (wpAny_throw ?_));exact fin _ _ (((Wy ..).extBut.push _).push _) ⟨_,Uy _ rfl,rfl⟩
end
theorem bb_drawsT {prog:Uz} {w:UN} {A:U9} (calm:A.handled=none) (cur tp:Ui) (ne:tp≠cur) (items:Array Ul) :
 Draws prog w A cur [cur,tp] items.size (fun i v=>items[i]?=some v) (fun i h=>h.IsTupleIter cur tp i/\h.IsTuple tp items) where
 live:=fun _ _ st=>let ⟨o,e,_⟩:=st.1;⟨o,e⟩
 frame:=fun _ _ _ st k=>⟨let ⟨o,e,r⟩:=st.1;⟨o,k cur (by simp) o e,r⟩,let ⟨o,e,r⟩:=st.2;⟨o,k tp (by simp) o e,r⟩⟩
 item:=fun i s Q E hi st q=>by
  refine bb_tupNext st.1 st.2 (x:=items[i]) (by simp [hi]) fun h' g' sb=>?_;exact q _ h' s.toks (by simp [hi]) ⟨g',st.2.extBut sb.extBut ne⟩ sb
 done:=fun s Q E st e=>bb_tupEnd calm st.1 st.2 (by simp) e
theorem bb_meetsEnumT (tp:Ui) (items:Array Ul) (n:Nat) (KS:Option Ui) (sl:Array (Option Ul)) :
 Meets (W4.«enumerate.__new__» ⟨[.type "enumerate",.ref tp],[]⟩) (fun _ R s=>s.heap.get? tp=some { cls:=.type "tuple",dict:=KS,data:=.seq items n,slots:=sl } ∧
  R (.ok (.ret (.ref (s.heap.push { cls:=.type "tuple_iterator",data:=.fields #[.ref tp,.int 0 0] }).objs.size)))
    { s with heap:=(s.heap.push { cls:=.type "tuple_iterator",data:=.fields #[.ref tp,.int 0 0] }).push { cls:=.type "enumerate",data:=.fields #[.none,.bool false,.ref s.heap.objs.size,WM 0,.none,.none] } }) :=
 .of_wp fun prog w A R s h=>by
  obtain ⟨hp,g,d,tk,os⟩:=s;obtain ⟨gt,fin⟩:=h;have su:=sub_enumerate;have gT:Heap.IsTuple (Shared.heap ⟨hp,g,d,tk,os⟩) tp items:=⟨_,gt,rfl,n,rfl⟩
  wp_walk using WL gt
  refine wpAny_stack_any fun st=>Uq ?_;split
  · rename_i c _ _ _ _ _
    cases (c == WO "enumerate")
    · wp_walk using WL gt,Xz gT
      exact ⟨_,rfl,fin⟩
    · wp_walk using WL gt,Xz gT
      exact ⟨_,rfl,fin⟩
  · wp_walk using WL gt,Xz gT
    exact ⟨_,rfl,fin⟩
section
variable {prog:Uz} {w:UN} {A:U9} {E:Ul->Ur->Prop} {s:Ur}
theorem bb_callEnumT {tp:Ui} {items:Array Ul} {Q:Ul->Ur->Prop} (gT:s.heap.IsTuple tp items)
 (fin:∀ h',IsEnum h' (s.heap.objs.size+1) s.heap.objs.size 0 .none->h'.IsTupleIter s.heap.objs.size tp 0->h'.objs.size=s.heap.objs.size+2 →
  (∀ b o,s.heap.get? b=some o->h'.get? b=some o)->Q (.ref (s.heap.objs.size+1)) { s with heap:=h' }):UC (U0 prog w) A (call (.type "enumerate") [.ref tp]) Q E s:=by
 obtain ⟨⟨c,KS,dt,sl⟩,e1,e2,n,e3⟩:=gT;replace e2:c=.type "tuple":=e2;replace e3:dt=.seq items n:=e3;subst e2 e3;refine callType_new F.called_enumerate (by decide) (F.typeCall_enumerate_1 _) (F.newCall_enumerate_1 _) (fun obj=>F.args_object_init_2 obj _) F.entry_enumerate_new (bb_meetsEnumT tp items n KS sl) ⟨e1,?_⟩;have z:(s.heap.push { cls:=.type "tuple_iterator",data:=.fields #[.ref tp,.int 0 0] }).objs.size=s.heap.objs.size+1:=VF ..;show _/\_;rw [z]
 have ge:IsEnum ((s.heap.push { cls:=.type "tuple_iterator",data:=.fields #[.ref tp,.int 0 0] }).push { cls:=.type "enumerate",data:=.fields #[.none,.bool false,.ref s.heap.objs.size,WM 0,.none,.none] }) (s.heap.objs.size+1) s.heap.objs.size 0 .none:=by
  have t:=Uy (s.heap.push { cls:=.type "tuple_iterator",data:=.fields #[.ref tp,.int 0 0] }) (o:={ cls:=.type "enumerate",data:=.fields #[.none,.bool false,.ref s.heap.objs.size,WM 0,.none,.none] }) rfl;rw [z] at t;exact t
 exact ⟨⟨_,ge,rfl⟩,fin _ ge ⟨_,Up _ (Uy _ rfl),rfl,rfl⟩ (by rw [VF,z]) fun b o x=>Up _ (Up _ x)⟩
end
end PySem
namespace L2
open PySem PySem.Spec PyProof.Rows
theorem Inv.turnedL {X:Cx} {pins:List (Ui×WA)} {σ:St} {H:Hp} {s:Ur} {h':VH} {t':Nat} {fp:List Ui} (I:Inv X pins σ H s) (k:∀ b o,b∉fp->s.heap.get? b=some o->h'.get? b=some o) (hf:∀ b∈fp,jR X pins H b) :
 Inv X pins σ H { s with heap:=h',toks:=t' }:=by
 have GH:∀ b u,H b=some u->b∉fp:=fun b u e z=>by rw [(hf b z).1] at e;cases e
 refine I.step (g':=s.gens) (d':=s.drawn) (ch:=fp) (fun b hb=>?_) (fun b o _ _ hc e _=>k b o hc e) (fun b o _ _ hc e _=>⟨o.slots,k b o hc e⟩) (fun _ _ _ _ n=>n)
  (fun b o hc e=>⟨o,k b o hc e⟩) (fun _ _ e=>e) (fun _ _ _ e=>e) (fun b ps e=>⟨#[],by rw [e];simp⟩) (fun m hm=>?_) (fun b u e=>?_) I.bare
 · obtain ⟨f0,f1,f2,f3,f4,f5⟩:=hf b hb;exact ⟨f3,f1,f4,f5⟩
 · obtain ⟨o,es,ep,ho,r⟩:=hm;exact ⟨o,es,ep,k _ o (fun z=>(hf _ z).2.1 rfl) ho,r⟩
 · refine (I.hok b u e).stay (fun c v hc q=>k c v ?_ q) (fun _ q=>q) fun _ _ q=>q;rcases hc with z | z
   · rw [z];exact GH b u e
   · exact GH c _ z
def Ite (K:Ug) (a:Ui):It:=⟨fun i H=>∃ xs x,SqT K H a xs/\xs[i]?=some x,fun i H x H'=>∃ p y,H p=none/\x=.ref p/\H'=upd H p (.tup [.int (i:Nat),y])/\∀ xs,SqT K H a xs->xs[i]?=some y,fun i H=>∃ xs,SqT K H a xs/\xs.length=i⟩
theorem sf {P:Uz} {w:UN} {K:Ug} {elts:List VC} {k1} {pos:Yl} (a e it:Ui):Turn P w K (.Tuple elts k1 pos) (Ite K a) [e,it] e (fun i h=>(∃ old,IsEnum h e it ((i:Nat):Int) old)/\h.IsTupleIter it a i) where
 mem:=by simp
 obj:=fun i h st b hb=>by
  obtain ⟨⟨old,he⟩,o,e1,e2,e3⟩:=st;rcases UK.mp hb with rfl | hb
  · exact ⟨_,he,fun v z=>by cases z⟩
  · have:b=it:=by simpa using hb
    subst this;exact ⟨o,e1,fun v z=>by rw [e3] at z;cases z⟩
 keep:=fun i h h' st k=>by
  obtain ⟨⟨old,he⟩,o,e1,e2⟩:=st;exact ⟨⟨old,k e (by simp) _ he⟩,o,k it (by simp) _ e1,e2⟩
 item:=by
  intro X hP hw hK hc i pins s σ H E I hf st hg;subst hP hw hK;obtain ⟨xs,x,hq,hx⟩:=hg;obtain ⟨its,rv,p,hz⟩:=I.tuple hq;obtain ⟨u,hu,ru⟩:=rv.get hx;obtain ⟨⟨old,he⟩,hi⟩:=st
  have EV:e≠it:=by
   rintro rfl;obtain ⟨o,e1,e2,_⟩:=hi;rw [he] at e1;cases e1;exact absurd (Wb e2) (by decide)
  have EW:a≠it:=by
   rintro rfl;obtain ⟨o,e1,e2,_⟩:=hi;obtain ⟨o',Av,Au,_⟩:=p;rw [Av] at e1;cases e1;rw [Au] at e2;exact absurd (Wb e2) (by decide)
  have KU:a≠e:=by
   rintro rfl;obtain ⟨o',Av,Au,_⟩:=p;rw [he] at Av;cases Av;exact absurd (Wb Au) (by decide)
  have ym:i<its.toArray.size:=by
   have:=(Uk.mp hu).1;simpa using this
  have KW:e<s.heap.objs.size:=UA he;have zE:it<s.heap.objs.size:=by obtain ⟨o,e1,_⟩:=hi;exact UA e1
  refine wpAny_pyNext_enum_itemD (bb_drawsT (A:=X.A.in1) (show X.A.in1.handled=none from I.ok.hd hc) it a EW its.toArray) he ⟨hi,p⟩ ym EV (by simp [EV,KU.symm]) fun y h1 tk hy ho F4 hT hsz hk=>?_
  have KY:y=u:=by
   have:its[i]?=some y:=by simpa using hy
   rw [hu] at this;exact (UR this).symm
  subst KY;refine ⟨_,rfl,wpAny_letOwnedTupleGo_enum ho fun h2 KZ Cv=>?_⟩;replace Cv:We e h1 h2:=Cv
  have yx:∀ b∈[e,it],b<s.heap.objs.size:=fun b hb=>by
   rcases UK.mp hb with rfl | hb
   · exact KW
   · have:b=it:=by simpa using hb
     subst this;exact zE
  have G5:H s.heap.objs.size=none:=I.hok.fresh (Uj _)
  have IA:Inv X pins σ (upd H s.heap.objs.size (.tup [.int (i:Nat),x])) { s with heap:=s.heap.push { cls:=.type "tuple",data:=.seq #[.int (i:Nat) tk,y] },toks:=tk } :=
   I.laid (o:=.tup [.int (i:Nat),x]) (fun b ob q=>Up _ q) (Uj _) ⟨by show 2<=UD;decide,[.int (i:Nat) tk,y],0,.cons ⟨tk,rfl⟩ (.cons ru .nil),Uy _ rfl⟩
  refine ⟨.ref s.heap.objs.size,upd H s.heap.objs.size (.tup [.int (i:Nat),x]),?_,rfl,⟨_,x,G5,rfl,rfl,fun ys G0=>by rw [I.tuple_inj G0 hq];exact hx⟩,⟨⟨y,by simpa using KZ⟩,?_⟩,fun b hb=>?_⟩
  · have IB:Inv X pins σ (upd H s.heap.objs.size (.tup [.int (i:Nat),x])) { s with heap:=h2,toks:=tk+1 }:=by
     refine Inv.turnedL (s:={ s with heap:=s.heap.push { cls:=.type "tuple",data:=.seq #[.int (i:Nat) tk,y] },toks:=tk }) (h':=h2) (fp:=[e,it]) (t':=tk+1) IA (fun b o hb q=>?_) fun b hb=>?_
     · have BJ:b≠e:=fun z=>hb (by simp [z]);have K0:b≠it:=fun z=>hb (by simp [z]);rw [Cv.2 b BJ];by_cases yC:b=s.heap.objs.size
       · subst yC;rw [hT];have q':(s.heap.push { cls:=.type "tuple",data:=.seq #[.int (i:Nat) tk,y] }).get? s.heap.objs.size=some o:=q;rw [Uy _ rfl] at q';exact q'
       · have zL:b<(s.heap.push { cls:=.type "tuple",data:=.seq #[.int (i:Nat) tk,y] }).objs.size:=UA q;rw [VF] at zL;refine hk b o BJ K0 ?_;have q':(s.heap.push { cls:=.type "tuple",data:=.seq #[.int (i:Nat) tk,y] }).get? b=some o:=q;rw [Heap.get?_push_ne _ _ _ yC] at q';exact q'
     · obtain ⟨f0,f1⟩:=hf b hb;exact ⟨by rw [ak (U2 (yx b hb))];exact f0,f1⟩
    exact IB
  · obtain ⟨o,e1,r⟩:=F4.1;exact ⟨o,(Cv.2 it (Wd EV)).trans e1,r⟩
  · rw [ak (U2 (yx b hb))];exact (hf b hb).1
 done:=by
  intro X hP hw hK hc i pins s σ H E I hf st hg;subst hP hw hK;obtain ⟨xs,hq,hx⟩:=hg;obtain ⟨its,rv,p,hz⟩:=I.tuple hq;obtain ⟨⟨old,he⟩,hi⟩:=st
  have EW:a≠it:=by
   rintro rfl;obtain ⟨o,e1,e2,_⟩:=hi;obtain ⟨o',Av,Au,_⟩:=p;rw [Av] at e1;cases e1;rw [Au] at e2;exact absurd (Wb e2) (by decide)
  have hn:its.toArray.size=i:=by
   have:=rv.length;rw [Uu];omega
  refine wpAny_pyNext_enum_endD (bb_drawsT (A:=X.A.in1) (show X.A.in1.handled=none from I.ok.hd hc) it a EW its.toArray) he (by rw [hn];exact ⟨hi,p⟩) fun h' eb=>⟨rfl,?_⟩;exact I.turnedL (fp:=[e,it]) (t':=s.toks) (fun b o hb q=>eb b o (fun z=>hb (by simp [z])) q) hf
 self:=fun _ _ _ _ _ st h=>by
  obtain ⟨⟨old,he⟩,_⟩:=st;exact Y4 he h
section
variable {X:Cx} {e:VC} {te:TE} {p2 yD:Yl}
def wL (K:Ug) (tl:TE):TI:=fun σ H R=>tl σ H fun x H1=>∃ a,x=.ref a/\(∃ xs,SqT K H1 a xs)/\R (Ite K a) H1
theorem nQ {elts:List VC} {k1} {pos:Yl} (g2:Gl X "enumerate") (m2:X.mg "enumerate"=none) (he:PE X e te) (h2:Vm [e] X.env=[(false,WN e X.env)]:=by rfl):PI X (.Tuple elts k1 pos) (.Call (.Name "enumerate" p2) [e] [] yD) (wL X.K te):=by
 intro pins s σ H R I h;refine V1 (cS I g2 m2 boot_enumerate (Vj ?_ h2 rfl));rw [h2];show UC _ _ (spliced ((false,WN e X.env)::[])) _ _ s;refine V2 (thn (he pins s σ H _ I h) fun u s1 ⟨x,H1,I1,r1,a,ex,⟨xs,hq⟩,q⟩=>Wx ?_);subst ex;cases r1;obtain ⟨its,rv,p,hz⟩:=I1.tuple hq;refine bb_callEnumT (show s1.heap.IsTuple a its.toArray from p) fun h' g1 g2 g3 g4=>?_;refine Y4 (s:={ s1 with heap:=h' }) g1 ?_;refine ⟨s1.heap.objs.size+1,[s1.heap.objs.size+1,s1.heap.objs.size],_,_,H1,rfl,I1.kept (t':=s1.toks) g4,sf a _ _,⟨⟨_,g1⟩,g2⟩,fun b hb=>?_,q⟩
 have zM:s1.heap.objs.size<=b:=by
  rcases UK.mp hb with rfl | hb
  · omega
  · have:b=s1.heap.objs.size:=by simpa using hb
    exact ZL this.symm
 exact I1.fpOk zM (I1.hok.fresh zM)
inductive sZ (K:Ug) (x:V) (y:V) (H:Hp) (Q:VK):Prop
 | mk (a:_) (b:_) (xs:_) (ys:_) (yp:x=.ref a) (yq:y=.ref b) (yz:SqT K H a xs) (yF:SqT K H b ys) (yW:xs.length+ys.length<=UD) (Aa:(xs=[]->Q (.ref b) H)) (Cc:(xs≠[]->ys=[]->Q (.ref a) H)) (Cw:(xs≠[]->ys≠[]->∀ p,H p=none->Q (.ref p) (upd H p (.tup (xs++ys))))):sZ K x y H Q
def kR (K:Ug):R2:=sZ K
theorem cM:OpR X (X9 .Add) (kR X.K):=by
 intro pins s σ H x y v u Q I rx ry h;obtain ⟨a,b,xs,ys,e1,e2,ha,hb,hz,q0,q1,q2⟩:=h;by_cases hx:xs=[]
 · subst e1 e2;cases rx;cases ry;obtain ⟨its,r1,p1,_⟩:=I.tuple ha;obtain ⟨yf,r2,p2,_⟩:=I.tuple hb;have hi:its=[]:=r1.nil_iff.mpr hx;obtain ⟨⟨cls,dd,data,sl⟩,ho,hc,n,hd⟩:=p1;obtain ⟨⟨GN,F0,data2,F1⟩,Dr,B7,n2,hd2⟩:=p2;simp only at hc hd B7 hd2;subst hc hd B7 hd2;exact concat_meets ⟨_,ho,rfl⟩ ⟨_,Dr,rfl⟩ noFill_tuple_add seq_tuple_add Y2 YX (YO _ _) (tuple_addW0 a b its.toArray yf.toArray n n2 dd F0 sl F1 (by simp [hi])) ⟨ho,Dr,⟨.ref b,H,I,rfl,q0 hx⟩⟩
 · exact uz pins s σ H x y v u Q I rx ry ⟨a,b,xs,ys,e1,e2,ha,hb,hx,hz,q1 hx,q2 hx⟩
end
end L2
namespace PySem
open Sem (wp)
abbrev tzH1 (h:VH) (l1:Ui):VH:=h.push { cls:=.type "tuple_iterator",data:=.fields #[.ref l1,.int 0 0] }
abbrev tzH2 (h:VH) (l1 l2:Ui):VH:=(tzH1 h l1).push { cls:=.type "tuple_iterator",data:=.fields #[.ref l2,.int 0 0] }
abbrev tzH3 (h:VH) (l1 l2:Ui):VH:=(tzH2 h l1 l2).push { cls:=.type "tuple",data:=.seq #[.ref h.objs.size,.ref (tzH1 h l1).objs.size] }
abbrev tzH4 (h:VH) (l1 l2:Ui):VH:=(tzH3 h l1 l2).push { cls:=.type "tuple",data:=.seq #[.none,.none] }
abbrev tzH5 (h:VH) (l1 l2:Ui):VH:=(tzH4 h l1 l2).push { cls:=.type "zip",data:=.fields #[.none,.bool false,.bool false,.ref (tzH2 h l1 l2).objs.size,.ref (tzH3 h l1 l2).objs.size] }
theorem IsTuple.push' {h:VH} {l:Ui} {xs:Array Ul} (x:h.IsTuple l xs) (o:WA):(h.push o).IsTuple l xs:=let ⟨ob,e,r⟩:=x;⟨ob,Up _ e,r⟩
theorem bb_meets_zip (l1 l2:Ui) (xs ys:Array Ul) :
 Meets (W4.«zip.__new__» ⟨[.type "zip",.ref l1,.ref l2],[]⟩) (fun _ R s=>s.heap.IsTuple l1 xs/\s.heap.IsTuple l2 ys ∧
  R (.ok (.ret (.ref (tzH4 s.heap l1 l2).objs.size))) { s with heap:=tzH5 s.heap l1 l2 }) :=
 .of_wp fun prog w A R s h=>by
  obtain ⟨hp,g,d,tk,os⟩:=s;obtain ⟨zx,y4,h⟩:=h;have zy:=sub_zip;have Qi:Heap.IsTuple (Shared.heap ⟨hp,g,d,tk,os⟩) l1 xs:=zx;have Qj:Heap.IsTuple (Shared.heap ⟨hp.push { cls:=.type "tuple_iterator",data:=.fields #[.ref l1,.int 0 0] },g,d,tk,os⟩) l2 ys:=IsTuple.push' y4 _
  wp_walk using Xz Qi,Xz Qj
  exact ⟨_,rfl,h⟩
section
variable {prog:Uz} {w:UN} {A:U9} {E:Ul->Ur->Prop} {s:Ur}
theorem bb_call_zip {l1 l2:Ui} {xs ys:Array Ul} {Q:Ul->Ur->Prop} (zx:s.heap.IsTuple l1 xs) (y4:s.heap.IsTuple l2 ys)
 (h:∀ h',Zm h' (s.heap.objs.size+4) (s.heap.objs.size+2) (s.heap.objs.size+3) .none->WB h' (s.heap.objs.size+2) (.ref s.heap.objs.size) (.ref (s.heap.objs.size+1)) →
  WB h' (s.heap.objs.size+3) .none .none->h'.IsTupleIter s.heap.objs.size l1 0->h'.IsTupleIter (s.heap.objs.size+1) l2 0->h'.objs.size=s.heap.objs.size+5 →
  (∀ c o,s.heap.get? c=some o->h'.get? c=some o)->Q (.ref (s.heap.objs.size+4)) { s with heap:=h' }) :
 UC (U0 prog w) A (call (.type "zip") [.ref l1,.ref l2]) Q E s:=by
 refine callType_new F.called_zip (by decide) (F.typeCall_zip_2 _ _) (F.newCall_zip_2 _ _) (fun obj=>F.args_object_init_3 obj _ _) F.entry_zip_new
  (bb_meets_zip l1 l2 xs ys) ⟨zx,y4,?_⟩
 have z1:(tzH1 s.heap l1).objs.size=s.heap.objs.size+1:=VF ..;have z2:(tzH2 s.heap l1 l2).objs.size=s.heap.objs.size+2:=by rw [VF,z1]
 have z3:(tzH3 s.heap l1 l2).objs.size=s.heap.objs.size+3:=by rw [VF,z2]
 have z4:(tzH4 s.heap l1 l2).objs.size=s.heap.objs.size+4:=by rw [VF,z3]
 have z5:(tzH5 s.heap l1 l2).objs.size=s.heap.objs.size+5:=by rw [VF,z4]
 have g5:(tzH5 s.heap l1 l2).get? (tzH4 s.heap l1 l2).objs.size=some _:=Uy _ rfl;have g4:(tzH5 s.heap l1 l2).get? (tzH3 s.heap l1 l2).objs.size=some _:=Up _ (Uy _ rfl);have g3:(tzH5 s.heap l1 l2).get? (tzH2 s.heap l1 l2).objs.size=some _:=Up _ (Up _ (Uy _ rfl));have g2:(tzH5 s.heap l1 l2).get? (tzH1 s.heap l1).objs.size=some _:=Up _ (Up _ (Up _ (Uy _ rfl)));have g1:(tzH5 s.heap l1 l2).get? s.heap.objs.size=some _:=Up _ (Up _ (Up _ (Up _ (Uy _ rfl))));show _/\_;rw [z2,z3,z4] at g5;rw [z1,z2] at g3;rw [z3] at g4;rw [z1] at g2;rw [z4]
 exact ⟨⟨_,g5,rfl⟩,h _ g5 g3 g4 ⟨_,g1,rfl,rfl⟩ ⟨_,g2,rfl,rfl⟩ z5 fun c o x =>
  Up _ (Up _ (Up _ (Up _ (Up _ x))))⟩
structure ZSt (xs ys:Array Ul) (z TI TO i1 i2 l1 l2:Ui) (k:Nat) (h:VH):Prop where
 ap:ZG z TI TO i1 i2 l1 l2
 zip:Zm h z TI TO .none∨∃ (T:Ui) (b:Bool) (x y:Ul),h.get? z=some { cls:=.type "zip",data:=.fields #[WM T,.bool b,.bool false,.ref TI,.ref TO] }/\WB h T x y/\T≠TO
 hTI:WB h TI (.ref i1) (.ref i2)
 hTO:∃ a b,WB h TO a b
 h1:h.IsTupleIter i1 l1 k
 h2:h.IsTupleIter i2 l2 k
 t1:h.IsTuple l1 xs
 t2:h.IsTuple l2 ys
theorem ZSt.typeIs {xs ys:Array Ul} {z TI TO i1 i2 l1 l2:Ui} {k:Nat} (x:ZSt xs ys z TI TO i1 i2 l1 l2 k s.heap):s.TypeIs (.ref z) "zip":=by
 rcases x.zip with e | ⟨T,b,u,v,e,_⟩
 · exact ⟨_,e,rfl⟩
 · exact ⟨_,e,rfl⟩
theorem IsTuple.but {h h':VH} {c l:Ui} {xs:Array Ul} (x:h.IsTuple l xs) (e:ZR c h h') (n:l≠c):h'.IsTuple l xs:=let ⟨ob,q,r⟩:=x;⟨ob,e _ _ n q,r⟩
theorem IsTupleIter.but {h h':VH} {c i l:Ui} {k:Nat} (x:h.IsTupleIter i l k) (e:ZR c h h') (n:i≠c):h'.IsTupleIter i l k:=let ⟨ob,q,r⟩:=x;⟨ob,e _ _ n q,r⟩
theorem ZSt.frame {xs ys:Array Ul} {z TI TO i1 i2 l1 l2:Ui} {k:Nat} {h h':VH} (x:ZSt xs ys z TI TO i1 i2 l1 l2 k h)
 (e:∀ b o,o.cls≠.type "list"->h.get? b=some o->h'.get? b=some o):ZSt xs ys z TI TO i1 i2 l1 l2 k h':=by
 obtain ⟨D,hz,hTI,⟨a,b,hTO⟩,⟨o1,a1,a2,a3⟩,⟨o2,b1,b2,b3⟩,⟨o3,c1,c2,c3⟩,⟨o4,d1,d2,d3⟩⟩:=x;refine ⟨D,?_,e _ _ (by simp) hTI,⟨a,b,e _ _ (by simp) hTO⟩,⟨o1,e _ _ (by rw [a2];simp) a1,a2,a3⟩,⟨o2,e _ _ (by rw [b2];simp) b1,b2,b3⟩,⟨o3,e _ _ (by rw [c2];simp) c1,c2,c3⟩,⟨o4,e _ _ (by rw [d2];simp) d1,d2,d3⟩⟩;rcases hz with g | ⟨T,b,u,v,g,g2,g3⟩
 · exact .inl (e _ _ (by simp) g)
 · exact .inr ⟨T,b,u,v,e _ _ (by simp) g,e _ _ (by simp) g2,g3⟩
end
end PySem
namespace PySem
open Sem (wp)
section
variable {prog:Uz} {w:UN} {A:U9} {E:Ul->Ur->Prop} {s:Ur}
theorem bb_zip_itemA {z TI TO i1 i2 l1 l2:Ui} {k:Nat} {xs ys:Array Ul} {x y a b:Ul} {Q:Ul->Ur->Prop} (D:ZG z TI TO i1 i2 l1 l2)
 (hz:Zm s.heap z TI TO .none) (hTI:WB s.heap TI (.ref i1) (.ref i2)) (hTO:WB s.heap TO a b)
 (h1:s.heap.IsTupleIter i1 l1 k) (h2:s.heap.IsTupleIter i2 l2 k) (zx:s.heap.IsTuple l1 xs) (y4:s.heap.IsTuple l2 ys) (hx:xs[k]?=some x) (hy:ys[k]?=some y)
 (hQ:∀ h',Zm h' z TI TO (WM s.heap.objs.size)->WB h' TO x y->h'.IsTupleIter i1 l1 (k+1)->h'.IsTupleIter i2 l2 (k+1)->WB h' s.heap.objs.size x y->h'.objs.size=s.heap.objs.size+1 →
  (∀ c o,c≠z->c≠TO->c≠i1->c≠i2->s.heap.get? c=some o->h'.get? c=some o)->Q (.ref s.heap.objs.size) { s with heap:=h' }) :
 UC (U0 prog w) A (W4.«zip.__next__» ⟨[.ref z],[]⟩) (fun fin s'=>∃ v,fin=.done (.ret v)/\Q v s') E s:=by
 show UC _ _ (field (.ref z) 2 >>= _) _ _ _;refine Ud (Vg hz rfl (x:=.bool false) rfl ?_);show UC _ _ (field (.ref z) 3 >>= _) _ _ _;refine Ud (Vg hz rfl (x:=.ref TI) rfl ?_);refine Ud (VO hTI rfl ?_);show UC _ _ (Vv (.ref z) >>= _) _ _ _;refine Ud ?_;unfold Vv;refine Ud (Vg hz rfl (x:=.none) rfl (Uq ?_));simp only [if_true];refine Ud (Xa ?_);refine Ud (Vg hz rfl (x:=.ref TO) rfl ?_);refine Ud (W9 hz (by simp) fun yu yN yg=>?_);replace yN:Zm yu z TI TO .ellipsis:=yN;refine Ud ?_;simp only [List.zipIdx_cons,List.zipIdx_nil,X5,Zl];refine Ud (Ud (wpAny_onRaise ?_));show UC _ _ (Vk (.ref i1) >>= _) _ _ _;refine Ud (bb_tupNext (IsTupleIter.but h1 yg.extBut D.i1z) (IsTuple.but zx yg.extBut D.l1z) hx fun y9 AJ yj=>Uq ?_);have zF:WB y9 TO a b:=yj.extBut _ _ D.TOi1 (yg.extBut _ _ D.TOz hTO);refine Ud (VO zF rfl ?_);refine Ud (ZD zF fun AE Ah yI=>?_);replace Ah:WB AE TO x b:=Ah;refine Ud (Y5 (Uq ?_));refine Ud (Ud (wpAny_onRaise ?_));show UC _ _ (Vk (.ref i2) >>= _) _ _ _
 refine Ud (bb_tupNext (IsTupleIter.but (IsTupleIter.but (IsTupleIter.but h2 yg.extBut D.i2z) yj.extBut D.i12.symm) yI.extBut D.TOi2.symm)
  (IsTuple.but (IsTuple.but (IsTuple.but y4 yg.extBut D.l2z) yj.extBut D.l2i1) yI.extBut D.l2TO) hy fun yQ Cy yE=>Uq ?_)
 have Cz:WB yQ TO x b:=yE.extBut _ _ D.TOi2 Ah;refine Ud (VO Cz rfl ?_);refine Ud (ZD Cz fun yR Ai zr=>?_);replace Ai:WB yR TO x y:=Ai;refine Ud (Y5 (Uq (Uq ?_)));refine Ud (VO Ai rfl ?_);refine Ud (wpAny_newTuple ?_);have hsz:yR.objs.size=s.heap.objs.size:=by rw [zr.1,yE.1,yI.1,yj.1,yg.1]
 have D':Zm yR z TI TO .ellipsis:=zr.extBut _ _ D.TOz.symm (yE.extBut _ _ D.i2z.symm (yI.extBut _ _ D.TOz.symm (yj.extBut _ _ D.i1z.symm yN)))
 have G7:∀ c o,c≠z->c≠TO->c≠i1->c≠i2->s.heap.get? c=some o->yR.get? c=some o:=fun c o c1 c2 c3 c4 e =>
  zr.extBut _ _ c2 (yE.extBut _ _ c4 (yI.extBut _ _ c2 (yj.extBut _ _ c3 (yg.extBut _ _ c1 e))))
 have G9:yR.IsTupleIter i1 l1 (k+1):=IsTupleIter.but (IsTupleIter.but (IsTupleIter.but AJ yI.extBut D.TOi1.symm) yE.extBut D.i12) zr.extBut D.TOi1.symm;have Ha:yR.IsTupleIter i2 l2 (k+1):=IsTupleIter.but Cy zr.extBut D.TOi2.symm;have Hf:z<yR.objs.size:=UA D';show UC _ _ (Builtin.SmallTypes.ownedTupleHandOut (.ref z) (.ref yR.objs.size) >>= _) _ _ _;refine Ud ?_;unfold Builtin.SmallTypes.ownedTupleHandOut;have Hh:Zm (yR.push { cls:=.type "tuple",data:=.seq #[x,y] }) z TI TO .ellipsis:=Up _ D';refine Ud (W9 Hh (by simp) fun K1 CA CB=>?_);replace CA:Zm K1 z TI TO (WM yR.objs.size):=CA;refine W9 CA (by simp) fun CC Bz CD=>?_;replace Bz:Zm CC z TI TO (WM yR.objs.size):=Bz;have up:∀ c o,c≠z->yR.get? c=some o->CC.get? c=some o:=fun c o c1 e=>CD.extBut _ _ c1 (CB.extBut _ _ c1 (Up _ e));have Ea:WB CC yR.objs.size x y:=CD.extBut _ _ (XI Hf) (CB.extBut _ _ (XI Hf) (Uy _ rfl));have N9:CC.objs.size=yR.objs.size+1:=by rw [CD.1,CB.1,VF]
 rw [hsz] at Bz Ea N9;refine Uq ⟨_,rfl,?_⟩;show Q (.ref yR.objs.size) _;rw [hsz];refine hQ CC Bz (up _ _ D.TOz Ai) ?_ ?_ Ea N9 fun c o c1 c2 c3 c4 e=>up c o c1 (G7 c o c1 c2 c3 c4 e)
 · obtain ⟨o,e,r⟩:=G9;exact ⟨o,up _ o D.i1z e,r⟩
 · obtain ⟨o,e,r⟩:=Ha;exact ⟨o,up _ o D.i2z e,r⟩
theorem bb_loadIfAlive {a:Ui} {o:WA} {Q:Option WA->Ur->Prop} (hQ:∀ u,some o=some u->Q (some u) s) (h:s.heap.get? a=some o):UC (U0 prog w) A (loadIfAlive a) Q E s:=by
 intro Γ p S3;show Sem.wp _ _ (.loadIfAlive a .pure) _ _ _ _;rw [Sem.wp_loadIfAlive,h];exact hQ o rfl
theorem bb_notfree {z T:Ui} {b:Bool} {f2 TI TO u v:Ul} (hz:s.heap.get? z=some { cls:=.type "zip",data:=.fields #[WM T,.bool b,f2,TI,TO] }) (hT:WB s.heap T u v) :
 UC (U0 prog w) A (Vv (.ref z)) (fun a s1=>a=false/\∃ yu,s1={ s with heap:=yu }/\yu.get? z=some { cls:=.type "zip",data:=.fields #[WM T,.bool true,f2,TI,TO] }/\We z s.heap yu) E s:=by
 unfold Vv;refine Ud (Vg hz rfl (x:=WM T) rfl ?_);show UC _ _ (loadIfAlive (T:Int).toNat >>= _) _ _ _;rw [Vh];refine Ud (bb_loadIfAlive (fun o (e:some _=some o)=>?_) hT);cases e;show UC _ _ (if (some _:Option WA).isNone=true then _ else _) _ _ _;rw [if_neg (show ¬ ((some _:Option WA).isNone=true) from UI)];refine Ud (Vg hz rfl (x:=.bool b) rfl ?_);cases b with
 | true=>exact Uq ⟨rfl,s.heap,rfl,hz,rfl,fun _ _=>rfl⟩
 | false=>exact Ud (W9 hz (by simp) fun yu yN yg=>Uq ⟨rfl,yu,rfl,yN,yg⟩)
theorem bb_zip_itemB {z TI TO i1 i2 l1 l2 T:Ui} {k:Nat} {xs ys:Array Ul} {x y u v:Ul} {b:Bool} {Q:Ul->Ur->Prop} (D:ZG z TI TO i1 i2 l1 l2)
 (hz:s.heap.get? z=some { cls:=.type "zip",data:=.fields #[WM T,.bool b,.bool false,.ref TI,.ref TO] }) (hT:WB s.heap T u v) (hTI:WB s.heap TI (.ref i1) (.ref i2))
 (h1:s.heap.IsTupleIter i1 l1 k) (h2:s.heap.IsTupleIter i2 l2 k) (zx:s.heap.IsTuple l1 xs) (y4:s.heap.IsTuple l2 ys) (hx:xs[k]?=some x) (hy:ys[k]?=some y)
 (hQ:∀ h',h'.get? z=some { cls:=.type "zip",data:=.fields #[WM T,.bool true,.bool false,.ref TI,.ref TO] }->h'.IsTupleIter i1 l1 (k+1)->h'.IsTupleIter i2 l2 (k+1)->WB h' s.heap.objs.size x y->h'.objs.size=s.heap.objs.size+1 →
  (∀ c o,c≠z->c≠i1->c≠i2->s.heap.get? c=some o->h'.get? c=some o)->Q (.ref s.heap.objs.size) { s with heap:=h' }) :
 UC (U0 prog w) A (W4.«zip.__next__» ⟨[.ref z],[]⟩) (fun fin s'=>∃ v,fin=.done (.ret v)/\Q v s') E s:=by
 show UC _ _ (field (.ref z) 2 >>= _) _ _ _;refine Ud (Vg hz rfl (x:=.bool false) rfl ?_);show UC _ _ (field (.ref z) 3 >>= _) _ _ _;refine Ud (Vg hz rfl (x:=.ref TI) rfl ?_);refine Ud (VO hTI rfl ?_);show UC _ _ (Vv (.ref z) >>= _) _ _ _;refine Ud (Ww (bb_notfree hz hT) (fun a s1 ⟨e1,yu,e2,yN,yg⟩=>?_) fun _ _ x=>x);subst e1 e2;simp only [VE,if_false];rw [<- X7];refine Ud ?_;simp only [X5,Zl];refine Ud (Ud (VP ?_));show UC _ _ (Vk (.ref i1) >>= _) _ _ _;refine Ud (bb_tupNext (IsTupleIter.but h1 yg.extBut D.i1z) (IsTuple.but zx yg.extBut D.l1z) hx fun y9 AJ yj=>Uq (Uq ?_));refine Ud (Ud (VP ?_));show UC _ _ (Vk (.ref i2) >>= _) _ _ _;refine Ud (bb_tupNext (IsTupleIter.but (IsTupleIter.but h2 yg.extBut D.i2z) yj.extBut D.i12.symm) (IsTuple.but (IsTuple.but y4 yg.extBut D.l2z) yj.extBut D.l2i1) hy fun yQ Cy yE=>Uq (Uq (Uq ?_)));refine Ud (wpAny_newTuple (hsz:=by show 2<=UD;decide) (Uq ⟨_,rfl,?_⟩));have hsz:yQ.objs.size=s.heap.objs.size:=by rw [yE.1,yj.1,yg.1]
 show Q (.ref yQ.objs.size) { s with heap:=yQ.push { cls:=.type "tuple",data:=.seq #[x,y] } };have Eb:WB (yQ.push { cls:=.type "tuple",data:=.seq #[x,y] }) yQ.objs.size x y:=Uy _ rfl;have zQ:(yQ.push { cls:=.type "tuple",data:=.seq #[x,y] }).objs.size=yQ.objs.size+1:=VF ..;have Hi:=IsTupleIter.but AJ yE.extBut D.i12;rw [hsz] at Eb zQ;rw [hsz];refine hQ _ (Up _ (yE.extBut _ _ D.i2z.symm (yj.extBut _ _ D.i1z.symm yN))) ?_ ?_ Eb zQ fun c o c1 c3 c4 e=>Up _ (yE.extBut _ _ c4 (yj.extBut _ _ c3 (yg.extBut _ _ c1 e)))
 · obtain ⟨o,e,r⟩:=Hi;exact ⟨o,Up _ e,r⟩
 · obtain ⟨o,e,r⟩:=Cy;exact ⟨o,Up _ e,r⟩
theorem bb_zip_end {z TI TO i1 i2 l1 l2:Ui} {k:Nat} {xs ys:Array Ul} {Q:Fin->Ur->Prop} (hh:A.handled=none)
 (S:ZSt xs ys z TI TO i1 i2 l1 l2 k s.heap) (zR:xs[k]?=none∨ys[k]?=none)
 (hE:∀ h' e,(∀ c o,c≠z->c≠TO->c≠i1->c≠i2->s.heap.get? c=some o->h'.get? c=some o)->(∃ o,h'.get? e=some o/\o.cls=.type "StopIteration")->E (.ref e) { s with heap:=h' }) :
 UC (U0 prog w) A (W4.«zip.__next__» ⟨[.ref z],[]⟩) Q E s:=by
 obtain ⟨D,hz,hTI,⟨a,b,hTO⟩,h1,h2,zx,y4⟩:=S;rcases hz with hz | ⟨T,bb,u,v,hz,hT,N'⟩
 · show UC _ _ (field (.ref z) 2 >>= _) _ _ _;refine Ud (Vg hz rfl (x:=.bool false) rfl ?_);show UC _ _ (field (.ref z) 3 >>= _) _ _ _;refine Ud (Vg hz rfl (x:=.ref TI) rfl ?_);refine Ud (VO hTI rfl ?_);show UC _ _ (Vv (.ref z) >>= _) _ _ _;refine Ud ?_;unfold Vv;refine Ud (Vg hz rfl (x:=.none) rfl (Uq ?_));simp only [if_true];refine Ud (Xa ?_);refine Ud (Vg hz rfl (x:=.ref TO) rfl ?_);refine Ud (W9 hz (by simp) fun yu yN yg=>?_);replace yN:Zm yu z TI TO .ellipsis:=yN;refine Ud ?_;simp only [List.zipIdx_cons,List.zipIdx_nil,X5,Zl];refine Ud (Ud (wpAny_onRaise ?_));show UC _ _ (Vk (.ref i1) >>= _) _ _ _;cases hx:xs[k]? with
   | none =>
     refine Ud (bb_tupEnd hh (IsTupleIter.but h1 yg.extBut D.i1z) (IsTuple.but zx yg.extBut D.l1z) hx fun y9 e yj he=>?_);obtain ⟨oe,EX,Hj⟩:=he;have Ec:Zm y9 z TI TO .ellipsis:=yj _ _ D.i1z.symm yN;have K2:e≠z:=fun x=>by subst x;rw [Ec] at EX;cases EX;simp at Hj
     refine W9 Ec (by simp) fun AE _ yI=>hE AE e (fun c o c1 _ c3 _ x=>yI.extBut _ _ c1 (yj _ _ c3 (yg.extBut _ _ c1 x))) ⟨oe,yI.extBut _ _ K2 EX,Hj⟩
   | some x =>
     have hy:ys[k]?=none:=by rcases zR with h | h;rw [hx] at h;cases h;exact h
     refine Ud (bb_tupNext (IsTupleIter.but h1 yg.extBut D.i1z) (IsTuple.but zx yg.extBut D.l1z) hx fun y9 AJ yj=>Uq ?_);have zF:WB y9 TO a b:=yj.extBut _ _ D.TOi1 (yg.extBut _ _ D.TOz hTO);refine Ud (VO zF rfl ?_);refine Ud (ZD zF fun AE Ah yI=>?_);refine Ud (Y5 (Uq ?_));refine Ud (Ud (wpAny_onRaise ?_));show UC _ _ (Vk (.ref i2) >>= _) _ _ _
     refine Ud (bb_tupEnd hh (IsTupleIter.but (IsTupleIter.but (IsTupleIter.but h2 yg.extBut D.i2z) yj.extBut D.i12.symm) yI.extBut D.TOi2.symm)
      (IsTuple.but (IsTuple.but (IsTuple.but y4 yg.extBut D.l2z) yj.extBut D.l2i1) yI.extBut D.l2TO) hy fun yQ e yE he=>?_)
     obtain ⟨oe,EX,Hj⟩:=he;have Ed:Zm yQ z TI TO .ellipsis:=yE _ _ D.i2z.symm (yI.extBut _ _ D.TOz.symm (yj.extBut _ _ D.i1z.symm yN));have K2:e≠z:=fun x=>by subst x;rw [Ed] at EX;cases EX;simp at Hj
     refine W9 Ed (by simp) fun yR _ zr=>hE yR e (fun c o c1 c2 c3 c4 x=>zr.extBut _ _ c1 (yE _ _ c4 (yI.extBut _ _ c2 (yj.extBut _ _ c3 (yg.extBut _ _ c1 x))))) ⟨oe,zr.extBut _ _ K2 EX,Hj⟩
 · show UC _ _ (field (.ref z) 2 >>= _) _ _ _;refine Ud (Vg hz rfl (x:=.bool false) rfl ?_);show UC _ _ (field (.ref z) 3 >>= _) _ _ _;refine Ud (Vg hz rfl (x:=.ref TI) rfl ?_);refine Ud (VO hTI rfl ?_);show UC _ _ (Vv (.ref z) >>= _) _ _ _;refine Ud (Ww (bb_notfree hz hT) (fun a s1 ⟨e1,yu,e2,yN,yg⟩=>?_) fun _ _ x=>x);subst e1 e2;simp only [VE,if_false];rw [<- X7];refine Ud ?_;simp only [X5,Zl];refine Ud (Ud (VP ?_));show UC _ _ (Vk (.ref i1) >>= _) _ _ _;cases hx:xs[k]? with
   | none =>
     refine Ud (bb_tupEnd hh (IsTupleIter.but h1 yg.extBut D.i1z) (IsTuple.but zx yg.extBut D.l1z) hx fun y9 e yj he=>?_);exact hE y9 e (fun c o c1 _ c3 _ x=>yj _ _ c3 (yg.extBut _ _ c1 x)) he
   | some x =>
     have hy:ys[k]?=none:=by rcases zR with h | h;rw [hx] at h;cases h;exact h
     refine Ud (bb_tupNext (IsTupleIter.but h1 yg.extBut D.i1z) (IsTuple.but zx yg.extBut D.l1z) hx fun y9 AJ yj=>Uq (Uq ?_));refine Ud (Ud (VP ?_));show UC _ _ (Vk (.ref i2) >>= _) _ _ _;refine Ud (bb_tupEnd hh (IsTupleIter.but (IsTupleIter.but h2 yg.extBut D.i2z) yj.extBut D.i12.symm) (IsTuple.but (IsTuple.but y4 yg.extBut D.l2z) yj.extBut D.l2i1) hy fun yQ e yE he=>?_);exact hE yQ e (fun c o c1 _ c3 c4 x=>yE _ _ c4 (yj.extBut _ _ c3 (yg.extBut _ _ c1 x))) he
theorem bb_zip_next {z TI TO i1 i2 l1 l2:Ui} {k:Nat} {xs ys:Array Ul} {x y:Ul} {Q:Option Ul->Ur->Prop} (S:ZSt xs ys z TI TO i1 i2 l1 l2 k s.heap) (hx:xs[k]?=some x) (hy:ys[k]?=some y)
 (hQ:∀ h',ZSt xs ys z TI TO i1 i2 l1 l2 (k+1) h'->WB h' s.heap.objs.size x y->h'.objs.size=s.heap.objs.size+1 →
  (∀ c o,c∉[z,TO,i1,i2]->s.heap.get? c=some o->h'.get? c=some o)->Q (some (.ref s.heap.objs.size)) { s with heap:=h' }) :
 UC (U0 prog w) A (Xl (.ref z)) Q E s:=by
 have hT:=S.typeIs;obtain ⟨D,hz,hTI,⟨a,b,hTO⟩,h1,h2,zx,y4⟩:=S;have n1:s.heap.objs.size≠TO:=XI (UA hTO);unfold Xl;refine Ud (Xk (Vr (name:=Um "__next__") hT XF (Vz XF hT F.entry_zip_next ?_ (F.args_zip_next_1 _))));rcases hz with hz | ⟨T,bb,u,v,hz,Eb,N'⟩
 · refine bb_zip_itemA D hz hTI hTO h1 h2 zx y4 hx hy fun h' a1 a2 a3 a4 a5 a6 a7=>Uq ?_;refine hQ h' ⟨D,.inr ⟨_,_,_,_,a1,a5,n1⟩,a7 _ _ D.TIz D.TITO D.TIi1 D.TIi2 hTI,⟨_,_,a2⟩,a3,a4,?_,?_⟩ a5 a6 fun c o hc e=>a7 c o (fun q=>hc (by simp [q])) (fun q=>hc (by simp [q])) (fun q=>hc (by simp [q])) (fun q=>hc (by simp [q])) e
   · obtain ⟨o,e,r⟩:=zx;exact ⟨o,a7 _ _ D.l1z D.l1TO D.l1i1 D.l1i2 e,r⟩
   · obtain ⟨o,e,r⟩:=y4;exact ⟨o,a7 _ _ D.l2z D.l2TO D.l2i1 D.l2i2 e,r⟩
 · refine bb_zip_itemB D hz Eb hTI h1 h2 zx y4 hx hy fun h' a1 a3 a4 a5 a6 a7=>Uq ?_;have Qk:T≠z:=by rintro rfl;exact absurd (Wb (congrArg Obj.cls (UR (hz.symm.trans Eb)))) (by decide)
   have K3:T≠i1:=by rintro rfl;obtain ⟨o,e,c,_⟩:=h1;have e2:=UR (Eb.symm.trans e);rw [<- e2] at c;exact absurd (Wb c) (by decide)
   have K4:T≠i2:=by rintro rfl;obtain ⟨o,e,c,_⟩:=h2;have e2:=UR (Eb.symm.trans e);rw [<- e2] at c;exact absurd (Wb c) (by decide)
   refine hQ h' ⟨D,.inr ⟨T,true,u,v,a1,a7 _ _ Qk K3 K4 Eb,N'⟩,a7 _ _ D.TIz D.TIi1 D.TIi2 hTI,⟨a,b,a7 _ _ D.TOz D.TOi1 D.TOi2 hTO⟩,a3,a4,?_,?_⟩ a5 a6 fun c o hc e=>a7 c o (fun q=>hc (by simp [q])) (fun q=>hc (by simp [q])) (fun q=>hc (by simp [q])) e
   · obtain ⟨o,e,r⟩:=zx;exact ⟨o,a7 _ _ D.l1z D.l1i1 D.l1i2 e,r⟩
   · obtain ⟨o,e,r⟩:=y4;exact ⟨o,a7 _ _ D.l2z D.l2i1 D.l2i2 e,r⟩
theorem bb_zip_done {z TI TO i1 i2 l1 l2:Ui} {k:Nat} {xs ys:Array Ul} {Q:Option Ul->Ur->Prop} (hh:A.handled=none) (S:ZSt xs ys z TI TO i1 i2 l1 l2 k s.heap) (zR:xs[k]?=none∨ys[k]?=none)
 (hQ:∀ h',(∀ c o,c∉[z,TO,i1,i2]->s.heap.get? c=some o->h'.get? c=some o)->Q none { s with heap:=h' }):UC (U0 prog w) A (Xl (.ref z)) Q E s:=by
 have hT:=S.typeIs;unfold Xl
 refine Ud (Xk (Vr (name:=Um "__next__") hT XF
  (Vz XF hT F.entry_zip_next (bb_zip_end hh S zR fun h' e hk he=>?_) (F.args_zip_next_1 _))))
 obtain ⟨o,ho,hc⟩:=he;refine Ud (W5 (T:="StopIteration") (b:=true) ⟨o,ho,hc⟩ isSubtype_stop ?_);exact Uq (hQ _ fun c o hc=>hk c o (fun q=>hc (by simp [q])) (fun q=>hc (by simp [q])) (fun q=>hc (by simp [q])) (fun q=>hc (by simp [q])))
theorem bb_zip_iter {z TI TO i1 i2 l1 l2:Ui} {k:Nat} {xs ys:Array Ul} {Q:Ul->Ur->Prop} (S:ZSt xs ys z TI TO i1 i2 l1 l2 k s.heap) (h:Q (.ref z) s):UC (U0 prog w) A (pyIter (.ref z)) Q E s:=by
 have hT:=S.typeIs;refine wpAny_pyIter_slot hT F.slot_zip_iter (Vz F.slot_zip_iter hT F.entry_zip_iter ?_ (F.args_zip_iter_1 _));show UC _ _ (ret (.ref z)) _ _ s;exact Uq ⟨_,rfl,"zip",_,hT,XF.lookup,h⟩
end
end PySem
namespace PySem
open Sem (wp)
namespace F
theorem bb_nolen_zip:XW (.type "zip") "__len__"=pure none:=by rw [Wo,VL];kernel_rfl
theorem bb_nohint_zip:XW (.type "zip") "__length_hint__"=pure none:=by rw [Wo,VL];kernel_rfl
end F
def ZIt (xs ys:Array Ul) (n0:Nat) (h:VH) (acc:Array Ul) (k:Nat):Prop:=acc.size=k/\∀ (j:Nat) (v:Ul),acc[j]?=some v->∃ (T:Ui) (x y:Ul),v=UZ T/\n0<=T/\WB h T x y/\xs[j]?=some x/\ys[j]?=some y
section
variable {prog:Uz} {w:UN} {A:U9} {R:Result->Ur->Prop}
theorem bb_zip_loop {z TI TO i1 i2 l1 l2 S:Ui} {xs ys:Array Ul} {n n0:Nat} (hh:A.in1.handled=none) (hn:n=min xs.size ys.size) (hz:n<=UD) (JI:S∉[z,TO,i1,i2]) (hf:∀ c∈[z,TO,i1,i2],c<n0) (res:Ul) :
 ∀ (k i:Nat) (s:Ur) (acc:Array Ul) (c:Nat),n - i=k->i<=n->ZSt xs ys z TI TO i1 i2 l1 l2 i s.heap->n0<=s.heap.objs.size->s.heap.get? S=some { cls:=.type "list",dict:=none,data:=.seq acc c,slots:=#[] }->ZIt xs ys n0 s.heap acc i →
 (∀ h' za c',(∀ b o,b≠S->b∉[z,TO,i1,i2]->s.heap.get? b=some o->h'.get? b=some o)->h'.get? S=some { cls:=.type "list",dict:=none,data:=.seq za c',slots:=#[] }->ZIt xs ys n0 h' za n->R (.ok (.ret res)) { s with heap:=h' }) →
 Yr (U0 prog w) A (.builtin "list.extend.loop" ⟨[.ref S,.ref z,res],[]⟩) R s:=by
 intro k;have Ee:∀ {T:Ui},n0<=T->T∉[z,TO,i1,i2]:=fun h m=>absurd (hf _ m) (YC.mpr h);induction k with
 | zero =>
   intro i s acc c hk hi yM h0 hS yn hR;have By:i=n:=by omega
   subst By;refine Yg YL ?_;rw [Xj VU _];show UC _ A.in1 (Xl (.ref z) >>= _) _ _ s
   have zR:xs[i]?=none∨ys[i]?=none:=by
    rcases Nat.le_total xs.size ys.size with h | h
    · exact .inl (Ye (by omega))
    · exact .inr (Ye (by omega))
   refine Ud (bb_zip_done hh yM zR fun h' zz=>Uq ?_);refine hR h' acc c (fun b o _ hb e=>zz b o hb e) (zz _ _ JI hS) ⟨yn.1,fun j v hv=>?_⟩;obtain ⟨T,x,y,e1,e2,e3,e4⟩:=yn.2 j v hv;exact ⟨T,x,y,e1,e2,zz _ _ (Ee e2) e3,e4⟩
 | succ k ih =>
   intro i s acc c hk hi yM h0 hS yn hR;have ym:i<n:=by omega
   refine Yg YL ?_;rw [Xj VU _];show UC _ A.in1 (Xl (.ref z) >>= _) _ _ s;have hx:xs[i]?=some xs[i]:=Wv (by omega);have hy:ys[i]?=some ys[i]:=Wv (by omega);refine Ud (bb_zip_next yM hx hy fun h' K5 hT hsz zz=>?_);have Ca:=zz S _ JI hS;have K6:S<s.heap.objs.size:=UA hS;show UC _ A.in1 (YT S (·.push (.ref s.heap.objs.size)) >>= _) _ _ _;refine Ud ?_;have AH:∀ b o,b≠S->h'.get? b=some o->(h'.update S (VA (·.push (UZ s.heap.objs.size)))).get? b=some o:=fun b o hb e=>(Vd _ _ (Wd hb)).trans e
   refine Wc Ca rfl (Uq ⟨Xm VU _,ih (i+1) _ (acc.push (.ref s.heap.objs.size)) _ (by omega) ym (K5.frame fun b o ho e=>AH b o (fun z=>?_) e) ?_ (U7 _ Ca rfl) ?_ fun K7 za c' EY EZ CF=>?_⟩)
    (by rw [yn.1];omega) (by show (acc.push _).size<=UD+1;rw [Array.size_push,yn.1];omega)
   · rw [z,Ca] at e;cases e;exact ho rfl
   · show n0<=(h'.update S _).objs.size;rw [YA];omega
   · refine ⟨by rw [Array.size_push,yn.1],fun j v hv=>?_⟩;rw [Array.getElem?_push] at hv;split at hv
     · rename_i e
       rw [yn.1] at e;cases hv;subst e;exact ⟨_,_,_,rfl,h0,AH _ _ (XI K6) hT,hx,hy⟩
     · obtain ⟨T,x,y,e1,e2,e3,e4⟩:=yn.2 j v hv
       have Ql:T≠S:=by
        rintro rfl;exact absurd (Wb (congrArg Obj.cls (UR (e3.symm.trans hS)))) (by decide)
       exact ⟨T,x,y,e1,e2,AH _ _ Ql (zz _ _ (Ee e2) e3),e4⟩
   · exact hR K7 za c' (fun b o hb yC e=>EY b o hb yC (AH b o hb (zz b o yC e))) EZ CF
end
section
variable {prog:Uz} {w:UN} {A:U9} {E:Ul->Ur->Prop} {s:Ur}
theorem bb_list_zip {z TI TO i1 i2 l1 l2:Ui} {xs ys:Array Ul} {n n0:Nat} {Q:Ul->Ur->Prop} (hh:A.in1.in1.handled=none) (yM:ZSt xs ys z TI TO i1 i2 l1 l2 0 s.heap) (hn:n=min xs.size ys.size) (hz:n<=UD) (h0:n0<=s.heap.objs.size) (hf:∀ c∈[z,TO,i1,i2],c<n0)
 (hQ:∀ h' acc c,(∀ b o,b∉[z,TO,i1,i2]->s.heap.get? b=some o->h'.get? b=some o)->h'.get? s.heap.objs.size=some { cls:=.type "list",dict:=none,data:=.seq acc c,slots:=#[] }->ZIt xs ys n0 h' acc n->Q (.ref s.heap.objs.size) { s with heap:=h' }) :
 UC (U0 prog w) A (call (.type "list") [.ref z]) Q E s:=by
 have F2:s.heap.objs.size∉[z,TO,i1,i2]:=fun hm=>absurd (hf _ hm) (YC.mpr h0);have KO:s.heap.objs.size≠z:=fun e=>F2 (by simp [e])
 refine ZF (Q₁:=fun obj ye=>obj=.ref s.heap.objs.size/\ye={ s with heap:=s.heap.push { cls:=.type "list",data:=.seq #[] } }) F.called_list (F.typeCall_list_1 _) F.entry_list_init
  (code_list_new _ ⟨rfl,rfl⟩) fun obj ye yu=>?_
 obtain ⟨rfl,rfl⟩:=yu;have hS:(s.heap.push { cls:=.type "list",data:=.seq #[] }).get? s.heap.objs.size=some { cls:=.type "list",data:=.seq #[] }:=Uy _ rfl;refine ⟨⟨_,hS,rfl⟩,F.args_list_init_2 _ _,?_⟩;show UC _ A.in1.in1 (do let old ← W3 (.ref s.heap.objs.size);Zn (.ref s.heap.objs.size) (fun _=>#[]);letGo old.toList.reverse;Wt (.ref s.heap.objs.size) (.ref z) .none) _ _ _;refine Ud ?_;unfold W3;refine Ud (VO hS rfl (Uq ?_));refine Ud (Wc hS rfl ?_);have zp:=U7 (VA (fun _=>(#[]:Array Ul))) hS rfl;refine Ud (Y5 ?_);have BO:((s.heap.push { cls:=.type "list",data:=.seq #[] }).update s.heap.objs.size (VA (fun _=>(#[]:Array Ul)))).objs.size=s.heap.objs.size+1:=by rw [YA,VF]
 generalize hH:(s.heap.push { cls:=.type "list",data:=.seq #[] }).update s.heap.objs.size (VA (fun _=>(#[]:Array Ul)))=H2 at zp BO ⊢
 have old:∀ b o,s.heap.get? b=some o->H2.get? b=some o:=fun b o e=>by
  rw [<- hH,Vd _ _ (Wd (U2 (UA e)))];exact Up _ e
 obtain ⟨c2,Du⟩:∃ c,H2.get? s.heap.objs.size=some { cls:=.type "list",data:=.seq #[] c }:=⟨_,zp⟩;have A':ZSt xs ys z TI TO i1 i2 l1 l2 0 H2:=yM.frame fun b o _ e=>old b o e;have Hk:({ s with heap:=H2 }:Ur).TypeIs (.ref z) "zip":=A'.typeIs;unfold Wt;refine Ud (W0 Hk ?_);have h1:WK (.ref s.heap.objs.size) (.ref z)=false:=by simp [WK,KO]
 have h2:(WO "zip" == WO "list")=false:=by decide
 have h3:(WO "zip" == WO "tuple")=false:=by decide
 simp only [h1,h2,h3,Zy,VE,if_false];refine Ud (bb_zip_iter A' ?_);refine Ud (VP ?_);unfold W2;refine Ud (VW Hk F.bb_nolen_zip ?_);show UC _ _ (specialOf (UZ z) (Um "__length_hint__") >>= _) _ _ _;refine Ud (VW Hk F.bb_nohint_zip ?_);refine Uq ?_
 have key:∀ (h:VH) (c₁:Nat),ZSt xs ys z TI TO i1 i2 l1 l2 0 h->n0<=h.objs.size->(∀ b o,b≠s.heap.objs.size->H2.get? b=some o->h.get? b=some o)->h.get? s.heap.objs.size=some { cls:=.type "list",data:=.seq #[] c₁ } →
  Yr (U0 prog w) A.in1 (.builtin "list.extend.loop" ⟨[.ref s.heap.objs.size,.ref z,.none],[]⟩) (wants (fun r yP=>r=.none/\Q (.ref s.heap.objs.size) yP) E) { s with heap:=h }:=by
  intro h c₁ hs BN hk AF;refine bb_zip_loop hh hn hz F2 hf .none n 0 _ #[] c₁ rfl (UO _) hs BN AF ⟨rfl,fun j v e=>by simp at e⟩ fun h' za c' hm Ca yn=>?_;exact ⟨rfl,hQ h' za c' (fun b o hb e=>hm b o (U2 (UA e)) hb (hk b o (U2 (UA e)) (old b o e))) Ca yn⟩
 show UC _ _ (rule "list.extend.makes-room" >>= fun _=>Builtin.List.listTouch (.ref s.heap.objs.size) >>= fun _=>again (.builtin "list.extend.loop" ⟨[.ref s.heap.objs.size,.ref z,.none],[]⟩)) _ _ _;refine Ud (Xa ?_);refine Ud ?_;show UC _ _ (YT s.heap.objs.size (·.push .none) >>= fun _=>YT s.heap.objs.size (·.pop)) _ _ _;refine Ud (Wc Du rfl ?_);have zq:=U7 (VA (·.push VQ)) Du rfl;refine Wc (hz:=by seq_fits) zq rfl ?_;have AG:=U7 (VA (·.pop)) zq rfl
 have AH:∀ b o,b≠s.heap.objs.size->H2.get? b=some o->((H2.update s.heap.objs.size (VA (·.push VQ))).update s.heap.objs.size (VA (·.pop))).get? b=some o :=
  fun b o hb e=>(Vd _ _ (Wd hb)).trans ((Vd _ _ (Wd hb)).trans e)
 refine Uq ⟨Xm VU _,key _ _ (A'.frame fun b o ho e=>AH b o (fun q=>?_) e) ?_ AH AG⟩
 · rw [q,Du] at e;cases e;exact ho rfl
 · rw [YA,YA];show n0<=H2.objs.size;omega
end
end PySem
namespace L2
open PySem PySem.Spec PyProof.Rows
theorem Inv.laidAll {X:Cx} {pins:List (Ui×WA)} {σ:St} {H H':Hp} {s:Ur} {h':VH} {t':Nat} (I:Inv X pins σ H s) (k:∀ b u,s.heap.get? b=some u->h'.get? b=some u)
 (old:∀ b,b<s.heap.objs.size->H' b=H b) (new:∀ b u,s.heap.objs.size<=b->H' b=some u->ObjOk X.prog X.w H' h' b u):Inv X pins σ H' { s with heap:=h',toks:=t' }:=by
 have sm:∀ b u,H b=some u->H' b=some u:=fun b u e=>by rw [old b (I.hok.lt e)];exact e
 refine I.un ⟨fun b u q _ _ _=>k b u q,fun b u q _ _ _=>⟨u.slots,k b u q⟩,fun b u q n _=>by rw [old b (UA q)];exact n,fun b u q _=>⟨u,k b u q⟩,fun b xs q=>sm _ _ q,fun b u xs q=>sm _ _ q,fun b ps q=>⟨#[],by rw [sm _ _ q];simp⟩⟩ fun b u q=>?_;by_cases hb:b<s.heap.objs.size
 · rw [old b hb] at q;exact (I.hok b u q).stay (fun c v _ e=>k c v e) (fun c e=>sm _ _ e) fun c xs e=>sm _ _ e
 · exact new b u (YC.mp hb) q
def lR (H:Hp):List Ui->List (V×V)->Hp
 | t::ts,p::ps=>upd (lR H ts ps) t (.tup [p.1,p.2])
 | _,_=>H
theorem ky {H:Hp} {b:Ui}:∀ {ts:List Ui} {ps:List (V×V)},b∉ts->lR H ts ps b=H b
 | [],_,_=>rfl
 | _::_,[],_=>rfl
 | t::ts,p::ps,h=>by
   rw [lR,ak (fun e=>h (by simp [e]))];exact ky fun m=>h (UJ _ m)
theorem pq {H:Hp}:∀ {ts:List Ui} {ps:List (V×V)} {b:Ui} {u:HO},lR H ts ps b=some u->H b=some u∨∃ (j:Nat) (p:V×V),ts[j]?=some b/\ps[j]?=some p/\u=.tup [p.1,p.2]
 | [],_,_,_,h=>.inl h
 | _::_,[],_,_,h=>.inl h
 | t::ts,p::ps,b,u,h=>by
   rw [lR] at h;by_cases e:b=t
   · subst e;rw [ab] at h;exact .inr ⟨0,p,rfl,rfl,(UR h).symm⟩
   · rw [ak e] at h;rcases pq h with q | ⟨j,p',q1,q2,q3⟩
     · exact .inl q
     · exact .inr ⟨j+1,p',by simpa using q1,by simpa using q2,q3⟩
theorem o0 {H:Hp}:∀ {ts:List Ui} {ps:List (V×V)} {t:Ui},ts.length=ps.length->t∈ts->∃ (i:Nat) (p:V×V),ts[i]?=some t/\ps[i]?=some p/\lR H ts ps t=some (.tup [p.1,p.2])
 | [],_,_,_,h=>nomatch h
 | _::_,[],_,hl,_=>by simp at hl
 | u::ts,p::ps,t,hl,h=>by
   by_cases e:t=u
   · subst e;exact ⟨0,p,rfl,rfl,by rw [lR,ab]⟩
   · obtain ⟨i,p',q1,q2,q3⟩:=o0 (H:=H) (ts:=ts) (ps:=ps) (t:=t) (by simpa using hl) (by
      rcases UK.mp h with h | h
      · exact absurd h e
      · exact h)
     exact ⟨i+1,p',by simpa using q1,by simpa using q2,by rw [lR,ak e];exact q3⟩
theorem jk {α β:Type} {F:α->β->Prop}:∀ {ps:List α} {ts:List β},ps.length=ts.length->(∀ (j:Nat) p t,ps[j]?=some p->ts[j]?=some t->F p t)->UX F ps ts
 | [],[],_,_=>.nil
 | [],_::_,h,_=>by simp at h
 | _::_,[],h,_=>by simp at h
 | p::ps,t::ts,h,f=>.cons (f 0 p t rfl rfl) (jk (by simpa using h) fun j p' t' e1 e2=>f (j+1) p' t' (by simpa using e1) (by simpa using e2))
theorem rb {P:Nat->Ui->Prop}:∀ {vs:List Ul} (n:Nat),(∀ (j:Nat) v,vs[j]?=some v->∃ T,v=UZ T/\P (n+j) T)->∃ ts:List Ui,vs=ts.map UZ/\∀ (j:Nat) T,ts[j]?=some T->P (n+j) T
 | [],n,_=>⟨[],rfl,fun j T h=>by simp at h⟩
 | v::vs,n,h=>by
   obtain ⟨T,e1,e2⟩:=h 0 v rfl
   obtain ⟨ts,q1,q2⟩:=rb (P:=P) (vs:=vs) (n+1) fun j v' hv=>by
    have:=h (j+1) v' (by simpa using hv);rw [show n+1+j=n+(j+1) by omega];exact this
   refine ⟨T::ts,by rw [e1,q1];rfl,fun j T' hT=>?_⟩;cases j with
   | zero=>simp at hT;subst hT;exact e2
   | succ j =>
     have:=q2 j T' (by simpa using hT);rw [show n+1+j=n+(j+1) by omega] at this;exact this
theorem vO {α β:Type} {xs:List α} {ys:List β} {j:Nat} {p:α×β} (h:(xs.zip ys)[j]?=some p):xs[j]?=some p.1/\ys[j]?=some p.2:=by
 rw [VX] at h;exact h
def tG (K:Ug) (t:TA):TE:=fun σ H Q=>t σ H fun vs H2=>∃ a b xs ys,vs=[.ref a,.ref b]/\SqT K H2 a xs/\SqT K H2 b ys ∧
 ∀ (l:Ui) (ts:List Ui) (H':Hp),Same H2 H'->H2 l=none->H' l=some (.lst (ts.map V.ref))->UX (fun (p:V×V) t=>H' t=some (.tup [p.1,p.2])) (xs.zip ys) ts->Q (.ref l) H'
section
variable {X:Cx} {e1 e2:VC} {t:TA} {p p2 pos yD:Yl}
theorem p9 (hc:X.calm=true) (g1:Gl X "list") (m1:X.mg "list"=none) (g2:Gl X "zip") (m2:X.mg "zip"=none) (ha:PA X [e1,e2] t)
 (h1:Vm [.Call (.Name "zip" p2) [e1,e2] [] yD] X.env=[(false,WN (.Call (.Name "zip" p2) [e1,e2] [] yD) X.env)]:=by rfl) (h2:Vm [e1,e2] X.env=(false,WN e1 X.env)::Vm [e2] X.env:=by rfl) (h3:(Ys yD (Vm [e2] X.env)).any (·.1)=false:=by rfl) :
 PE X (.Call (.Name "list" p) [.Call (.Name "zip" p2) [e1,e2] [] yD] [] pos) (tG X.K t):=by
 intro pins s σ H Q I h;refine V1 (cS I g1 m1 boot_list (Vj ?_ h1 rfl));rw [h1];show UC _ _ (spliced ((false,WN (.Call (.Name "zip" p2) [e1,e2] [] yD) X.env)::[])) _ _ s;refine V2 ?_;refine V1 (cS I g2 m2 boot_zip ?_);refine Vj (thn (ha yD pins s σ H _ I h) fun us s2 ⟨vs,H2,I2,r,a,b,xs,ys,ev,Ef,Eg,q⟩=>?_) h2 h3;subst ev;obtain ⟨u1,u2,rfl,r1,r2⟩:=vals2 r;cases r1;cases r2;obtain ⟨ia,E1,pa,F5⟩:=I2.tuple Ef;obtain ⟨ib,E2,pb,K8⟩:=I2.tuple Eg;have BA:=E1.length;have Qm:=E2.length;have zS:a<s2.heap.objs.size:=by obtain ⟨o,e,_⟩:=pa;exact UA e
 have zL:b<s2.heap.objs.size:=by obtain ⟨o,e,_⟩:=pb;exact UA e
 have hh:X.A.in1.in1.handled=none:=I2.ok.hd hc;refine bb_call_zip (show s2.heap.IsTuple a ia.toArray from pa) (show s2.heap.IsTuple b ib.toArray from pb) fun h' z1 z2 z3 z4 z5 z6 z7=>Wx ?_;have D:ZG (s2.heap.objs.size+4) (s2.heap.objs.size+2) (s2.heap.objs.size+3) s2.heap.objs.size (s2.heap.objs.size+1) a b:=zipApart_new zS zL
 have st:ZSt ia.toArray ib.toArray (s2.heap.objs.size+4) (s2.heap.objs.size+2) (s2.heap.objs.size+3) s2.heap.objs.size (s2.heap.objs.size+1) a b 0 h':=by
  refine ⟨D,.inl z1,z2,⟨_,_,z3⟩,z4,z5,?_,?_⟩
  · obtain ⟨o,e,r⟩:=pa;exact ⟨o,z7 _ _ e,r⟩
  · obtain ⟨o,e,r⟩:=pb;exact ⟨o,z7 _ _ e,r⟩
 have hf:∀ c∈[s2.heap.objs.size+4,s2.heap.objs.size+3,s2.heap.objs.size,s2.heap.objs.size+1],s2.heap.objs.size<=c/\c<h'.objs.size:=fun c hc=>by
  simp at hc;rw [z6];have zw:(c:Nat)=s2.heap.objs.size+4∨(c:Nat)=s2.heap.objs.size+3∨(c:Nat)=s2.heap.objs.size∨(c:Nat)=s2.heap.objs.size+1:=hc;constructor
  · show (s2.heap.objs.size:Nat)<=(c:Nat);omega
  · show (c:Nat)<s2.heap.objs.size+5;omega
 refine bb_list_zip (s:={ s2 with heap:=h' }) hh st rfl (by rw [Uu,Uu];omega) (Uj _) (fun c hc=>(hf c hc).2) fun h2 acc c kp hS yn=>?_;replace hS:h2.get? h'.objs.size=some { cls:=.type "list",dict:=none,data:=.seq acc c,slots:=#[] }:=hS;have E3:∀ b o,s2.heap.get? b=some o->h2.get? b=some o:=fun b o e=>kp b o (fun m=>absurd (UA e) (YC.mpr (hf b m).1)) (z7 b o e);obtain ⟨hsz,hit⟩:=yn
 obtain ⟨ts,et,ht⟩:=rb (P:=fun j T=>h'.objs.size<=T/\∃ x y,WB h2 T x y/\ia.toArray[j]?=some x/\ib.toArray[j]?=some y) (vs:=acc.toList) 0 (fun j v hv=>by
  obtain ⟨T,x,y,g1,g2,g3,g4,g5⟩:=hit j v (by simpa using hv);rw [Nat.zero_add];exact ⟨T,g1,g2,x,y,g3,g4,g5⟩)
 simp only [Nat.zero_add] at ht
 have yG:ts.length=(xs.zip ys).length:=by
  have e:=congrArg Xc et;rw [Uc,U3,hsz,Uu,Uu] at e;rw [WH];omega
 have rel:∀ (j:Nat) (p:V×V) (T:Ui),(xs.zip ys)[j]?=some p->ts[j]?=some T->∃ x y,WB h2 T x y/\RelV p.1 x/\RelV p.2 y:=fun j p T hp hT=>by
  obtain ⟨_,x,y,g3,g4,g5⟩:=ht j T hT;obtain ⟨zT,Aj⟩:=vO hp;obtain ⟨x',k1,k2⟩:=E1.get zT;obtain ⟨y',k3,k4⟩:=E2.get Aj
  have e1:x'=x:=by
   have:ia[j]?=some x:=by simpa using g4
   rw [k1] at this;exact UR this
  have e2:y'=y:=by
   have:ib[j]?=some y:=by simpa using g5
   rw [k3] at this;exact UR this
  subst e1 e2;exact ⟨_,_,g3,k2,k4⟩
 have same:∀ (i j:Nat) (p p':V×V) (T:Ui),(xs.zip ys)[i]?=some p->(xs.zip ys)[j]?=some p'->ts[i]?=some T->ts[j]?=some T->p=p':=fun i j p p' T h1 h2 h3 h4=>by
  obtain ⟨x,y,g1,g2,g3⟩:=rel i p T h1 h3;obtain ⟨x',y',k1,k2,k3⟩:=rel j p' T h2 h4;have e:=UR (g1.symm.trans k1);have ed:=congrArg Obj.data e;injection ed with Qn _;have el:=congrArg ZS Qn;have ex:x=x':=(Zx el).1;have ey:y=y':=(Zx (Zx el).2).1;subst ex ey;obtain ⟨p1,p2⟩:=p;obtain ⟨q1,q2⟩:=p';have f1:p1=q1:=g2.inj k2;have f2:p2=q2:=g3.inj k3;rw [f1,f2]
 have Hl:h'.objs.size∉ts:=fun m=>by
  obtain ⟨j,hj⟩:=List.getElem?_of_mem m;obtain ⟨_,x,y,g3,_⟩:=ht j _ hj;exact absurd (Wb (congrArg Obj.cls (UR (g3.symm.trans hS)))) (by decide)
 have Hm:s2.heap.objs.size<h'.objs.size:=by rw [z6];omega
 have Hn:∀ T∈ts,h'.objs.size<=T:=fun T m=>by
  obtain ⟨j,hj⟩:=List.getElem?_of_mem m;exact (ht j _ hj).1
 have Eh:∀ b,s2.heap.objs.size<=b->H2 b=none:=fun b hb=>I2.hok.fresh hb;have y4:H2 h'.objs.size=none:=Eh _ (XM Hm)
 have Qo:∀ (j:Nat) (p:V×V) (T:Ui),(xs.zip ys)[j]?=some p->ts[j]?=some T->lR H2 ts (xs.zip ys) T=some (.tup [p.1,p.2]):=fun j p T hp hT=>by
  obtain ⟨i,p',k1,k2,k3⟩:=o0 (H:=H2) yG (Uh hT);rw [k3,same i j p' p T k2 hp k1 hT]
 have I3:Inv X pins σ (upd (lR H2 ts (xs.zip ys)) h'.objs.size (.lst (ts.map V.ref))) { s2 with heap:=h2,toks:=s2.toks }:=by
  refine I2.laidAll E3 (fun b hb=>?_) fun b u hb hu=>?_
  · rw [ak (U2 (XJ hb Hm)),ky];exact fun m=>absurd (XJ hb Hm) (YC.mpr (Hn b m))
  · by_cases e:b=h'.objs.size
    · subst e;rw [ab] at hu;cases hu;refine ⟨by rw [Uc,yG,WH];omega,ts.map UZ,c,?_,by rw [<- et];exact hS⟩
      exact jk (by simp) fun j p t e1 e2=>by
       rw [Uo] at e1 e2;cases q:ts[j]? with
       | none=>rw [q] at e1;cases e1
       | some T=>rw [q] at e1 e2;cases e1;cases e2;rfl
    · rw [ak e] at hu;rcases pq hu with q | ⟨j,p,q1,q2,q3⟩
      · rw [Eh b hb] at q;cases q
      · subst q3;obtain ⟨x,y,g1,g2,g3⟩:=rel j p b q2 q1;exact ⟨by show 2<=UD;decide,[x,y],0,.cons g2 (.cons g3 .nil),g1⟩
 refine ⟨.ref h'.objs.size,_,I3,rfl,q h'.objs.size ts _ (fun b o e=>?_) y4 ab ?_⟩
 · have hb:=I2.hok.lt e;rw [ak (U2 (XJ hb Hm)),ky]
   · exact e
   · exact fun m=>absurd (XJ hb Hm) (YC.mpr (Hn b m))
 · refine jk yG.symm fun j p T hp hT=>?_;rw [ak (show T≠h'.objs.size from fun e=>Hl (by rw [<- e];exact Uh hT))];exact Qo j p T hp hT
end
end L2
namespace L2
open PySem PySem.Spec PyProof.Rows
section
variable {κ:Type} [DecidableEq κ]
def aV (f':List (κ×V)) (k:κ):Option V:=(f'.find? fun kv=>decide (kv.1=k)).map (·.2)
def putK (f':List (κ×V)) (k:κ) (v:V):List (κ×V) :=
 if (f'.any fun kv=>decide (kv.1=k))=true then f'.map (fun kv=>if kv.1=k then (kv.1,v) else kv) else f'++[(k,v)]
theorem bS {p:κ×V} {r:List (κ×V)} {k:κ} (e:p.1=k):aV (p::r) k=some p.2:=by simp [aV,W7,e]
theorem bU {p:κ×V} {r:List (κ×V)} {k:κ} (e:¬ p.1=k):aV (p::r) k=aV r k:=by simp [aV,W7,e]
theorem dC (k:κ):∀ f':List (κ×V),(f'.any fun kv=>decide (kv.1=k))=(aV f' k).isSome
 | []=>rfl
 | p::r=>by
   rw [List.any_cons];by_cases e:p.1=k
   · simp only [bS e,decide_eq_true e,Bool.true_or,Option.isSome_some]
   · rw [bU e,decide_eq_false e,X3];exact dC k r
theorem pz (k j:κ) (y:V):∀ f':List (κ×V),aV (f'.map fun kv=>if kv.1=k then (kv.1,y) else kv) j=(aV f' j).map fun x=>if j=k then y else x
 | []=>rfl
 | p::r=>by
   have ih:=pz k j y r;rw [U8];by_cases h:p.1=k
   · rw [if_pos h];by_cases e:p.1=j
     · rw [bS (p:=(p.1,y)) e,bS e,W6,if_pos (e.symm.trans h)]
     · rw [bU (p:=(p.1,y)) e,bU e,ih]
   · rw [if_neg h];by_cases e:p.1=j
     · rw [bS (p:=p) e,bS e,W6,if_neg (fun z=>h (e.trans z))]
     · rw [bU (p:=p) e,bU e,ih]
theorem mK (k j:κ) (y:V):∀ f':List (κ×V),aV f' k=none->aV (f'++[(k,y)]) j=if j=k then some y else aV f' j
 | [],_=>by
   by_cases e:k=j
   · rw [if_pos e.symm];exact bS (p:=(k,y)) e
   · rw [if_neg (fun z=>e z.symm)];exact bU (p:=(k,y)) e
 | p::r,hn=>by
   rw [Wm];have hk:¬ p.1=k:=fun z=>by rw [bS z] at hn;cases hn
   rw [bU hk] at hn;have ih:=mK k j y r hn;by_cases e:p.1=j
   · rw [bS e,bS e,if_neg (fun z=>hk (e.trans z))]
   · rw [bU e,bU e,ih]
theorem iR (f':List (κ×V)) (k j:κ) (y:V):aV (putK f' k y) j=if j=k then some y else aV f' j:=by
 unfold putK;by_cases a:(f'.any fun kv=>decide (kv.1=k))=true
 · rw [if_pos a,pz];rw [dC] at a;by_cases e:j=k
   · obtain ⟨x,hx⟩:=XY.mp a;rw [if_pos e,e,hx,W6,if_pos rfl]
   · rw [if_neg e];cases aV f' j with
     | none=>rfl
     | some x=>rw [W6,if_neg e]
 · rw [if_neg a];refine mK k j y f' ?_;rw [dC] at a;cases q:aV f' k with
   | none=>rfl
   | some x=>rw [q] at a;exact (a rfl).elim
theorem bZ (f':List (κ×V)) (k:κ) (v:V):(putK f' k v).length<=f'.length+1:=by
 unfold putK;split
 · rw [Uc];omega
 · rw [UE,Ut,WI];omega
theorem ku {f':List (κ×V)} {k:κ} (v:V) (h:aV f' k=none):putK f' k v=f'++[(k,v)]:=by
 unfold putK;rw [dC,h];exact if_neg (by decide)
theorem RelO.isSome_eq {o:Option V} {u:Option Ul} (r:RelO o u):o.isSome=u.isSome:=by
 cases o with
 | none=>cases u with
   | none=>rfl
   | some _=>exact (show False from r).elim
 | some _=>cases u with
   | none=>exact (show False from r).elim
   | some _=>rfl
theorem RelO.getD {o:Option V} {u:Option Ul} {d:V} {d':Ul} (r:RelO o u) (rd:RelV d d'):RelV (o.getD d) (u.getD d'):=by
 cases o with
 | none=>cases u with
   | none=>exact rd
   | some _=>exact (show False from r).elim
 | some _=>cases u with
   | none=>exact (show False from r).elim
   | some _=>exact r
theorem KV.val {f':List (κ×V)} {vs:List (κ×Ul)} (r:KV f' vs) (k:κ):RelO (aV f' k) (valueAt vs k):=by
 unfold KV at r;induction r with
 | nil=>exact Wz
 | @cons p q ps qs h t ih =>
   obtain ⟨h1,h2⟩:=h;by_cases e:p.1=k
   · have e':q.1=k:=h1.symm.trans e;have b:valueAt (q::qs) k=some q.2:=by simp [valueAt,W7,e']
     rw [bS e,b];exact h2
   · have e':¬ q.1=k:=fun z=>e (h1.trans z);have b:valueAt (q::qs) k=valueAt qs k:=by simp [valueAt,W7,e']
     rw [bU e,b];exact ih
theorem KV.any {f':List (κ×V)} {vs:List (κ×Ul)} (r:KV f' vs) (k:κ):(f'.any fun kv=>decide (kv.1=k))=vs.any fun kv=>decide (kv.1=k):=by
 unfold KV at r;induction r with
 | nil=>rfl
 | cons h t ih=>rw [List.any_cons,List.any_cons,ih,h.1]
theorem KV.repl {f':List (κ×V)} {vs:List (κ×Ul)} (r:KV f' vs) (k:κ) {y:V} {u:Ul} (ry:RelV y u) :
 KV (f'.map fun kv=>if kv.1=k then (kv.1,y) else kv) (vs.map fun kv=>if kv.1=k then (kv.1,u) else kv):=by
 unfold KV at r ⊢;induction r with
 | nil=>exact .nil
 | @cons p q ps qs h t ih =>
   rw [U8,U8];refine .cons ?_ ih;obtain ⟨h1,h2⟩:=h;by_cases e:p.1=k
   · rw [if_pos e,if_pos (h1.symm.trans e)];exact ⟨h1,ry⟩
   · rw [if_neg e,if_neg (fun z=>e (h1.trans z))];exact ⟨h1,h2⟩
theorem KV.put {f':List (κ×V)} {vs:List (κ×Ul)} (r:KV f' vs) (k:κ) {y:V} {u:Ul} (ry:RelV y u):KV (putK f' k y) (stored vs k u):=by
 unfold putK stored;rw [r.any k];by_cases e:(vs.any fun kv=>decide (kv.1=k))=true
 · rw [if_pos e,if_pos e];exact r.repl k ry
 · rw [if_neg e,if_neg e];exact Paired.snoc r ⟨rfl,ry⟩
theorem KV.length {f':List (κ×V)} {vs:List (κ×Ul)} (r:KV f' vs):f'.length=vs.length:=Uv r
end
theorem j7 {P:Uz} {w:UN} {k:Key} {u:Ul} (r:RelV (kV k) u):(aG P w).is k u=true:=by
 cases k with
 | inl i=>obtain ⟨t,e⟩:=(show ∃ t,u=Value.int i t from r);subst e;exact o5 P w i t
 | inr x=>obtain ⟨t,e⟩:=(show ∃ t,u=Value.str x t from r);subst e;exact oT P w x t
theorem mM {P:Uz} {w:UN}:∀ {ks:List Key} {us:List Ul},Vals (ks.map kV) us->ItemsAre (aG P w) ks us
 | [],_,r=>by rw [Wq] at r;cases r;exact .nil
 | k::ks,_,r=>by
   rw [U8] at r;cases r with
   | cons h t=>exact .cons (j7 h) (mM t)
abbrev KTd (H:Hp):List (List Key×V)->List (List Key×Ui×Ul)->Prop:=UX fun p q=>p.1=q.1/\H q.2.1=some (.tup (p.1.map kV))/\RelV p.2 q.2.2
theorem KTd.val {H:Hp} {f':List (List Key×V)} {xs:List (List Key×Ui×Ul)} (r:KTd H f' xs) (k:List Key):RelO (aV f' k) ((XX xs k).map (·.2)):=by
 induction r with
 | nil=>exact Wz
 | @cons p q ps qs h t ih =>
   obtain ⟨h1,_,h2⟩:=h;by_cases e:p.1=k
   · have e':q.1=k:=h1.symm.trans e;have b:XX (q::qs) k=some q.2:=by simp [XX,W7,e']
     rw [bS e,b];exact h2
   · have e':¬ q.1=k:=fun z=>e (h1.trans z);have b:XX (q::qs) k=XX qs k:=by simp [XX,W7,e']
     rw [bU e,b];exact ih
theorem KTd.repl {H:Hp} {f':List (List Key×V)} {xs:List (List Key×Ui×Ul)} (r:KTd H f' xs) (k:List Key) {y:V} {u:Ul} (ry:RelV y u) :
 KTd H (f'.map fun kv=>if kv.1=k then (kv.1,y) else kv) (xs.map (putAt k u)):=by
 induction r with
 | nil=>exact .nil
 | @cons p q ps qs h t ih =>
   rw [U8,U8];refine .cons ?_ ih;obtain ⟨h1,h2,h3⟩:=h;unfold putAt;by_cases e:p.1=k
   · rw [if_pos e,if_pos (h1.symm.trans e)];exact ⟨h1,h2,ry⟩
   · rw [if_neg e,if_neg (fun z=>e (h1.trans z))];exact ⟨h1,h2,h3⟩
theorem KTd.put {H:Hp} {f':List (List Key×V)} {xs:List (List Key×Ui×Ul)} (r:KTd H f' xs) (k:List Key) {b:Ui} {y:V} {u:Ul} (hb:H b=some (.tup (k.map kV))) (ry:RelV y u) :
 KTd H (putK f' k y) (Y7 xs k b u):=by
 have e:(f'.any fun kv=>decide (kv.1=k))=(XX xs k).isSome:=by
  rw [dC,(r.val k).isSome_eq,ZI]
 unfold putK Y7;rw [e];by_cases q:(XX xs k).isSome=true
 · rw [if_pos q,if_pos q];exact r.repl k ry
 · rw [if_neg q,if_neg q];exact Paired.snoc r ⟨rfl,hb,ry⟩
theorem KTd.keeps {H H':Hp} {f':List (List Key×V)} {xs:List (List Key×Ui×Ul)} (r:KTd H f' xs) (ht:∀ b ys,H b=some (.tup ys)->H' b=some (.tup ys)):KTd H' f' xs :=
 UX.mapP r fun _ _ z=>⟨z.1,ht _ _ z.2.1,z.2.2⟩
section
variable {P:Uz} {w:UN} {H:Hp} {h:VH} {a:Ui}
theorem vN {u:HO} (ok:HOk P w H h) (e:Rd H a u):ObjOk P w H h a u:=e.ok ok
theorem mv {f':List (Key×V)} (ok:HOk P w H h) (e:Rd H a (.dK f')):f'.length<=UD/\(a == Wg)=false/\∃ vs,KV f' vs/\h.DictOf (aG P w) a vs :=
 show ObjOk P w H h a (.dK f') from vN ok e
theorem vo {f':List (Key×V)} (ok:HOk P w H h) (e:H a=some (.dK f')):f'.length<=UD/\(a == Wg)=false/\∃ vs,KV f' vs/\h.DictOf (aG P w) a vs:=mv ok (.inl e)
theorem im {ks:List Key} (ok:HOk P w H h) (e:H a=some (.tup (ks.map kV))):(Zg (aG P w)).is h ks a:=by
 obtain ⟨_,its,n,r,h1⟩:=(show ObjOk P w H h a (.tup (ks.map kV)) from ok a _ e);exact ⟨_,its.toArray,n,h1,rfl,rfl,by simpa using mM r⟩
theorem mm {f':List (List Key×V)} (ok:HOk P w H h) (e:Rd H a (.dT f')):f'.length<=UD/\(a == Wg)=false ∧
 ∃ xs,KTd H f' xs/\h.DictOfH (Zg (aG P w)) a xs:=by
 obtain ⟨z,y,xs,r,o,es,ep,h1,h2,h3,h4,h5⟩:=(show ObjOk P w H h a (.dT f') from vN ok e);refine ⟨z,y,xs,r,o,es,ep,h1,h2,h3,h4,fun x hx=>?_,h5⟩
 have all:∀ {l:List (List Key×V)} {m:List (List Key×Ui×Ul)},KTd H l m->∀ x∈m,(Zg (aG P w)).is h x.1 x.2.1:=by
  intro l m q;induction q with
  | nil=>intro x hx;exact nomatch hx
  | @cons p q ps qs hq t ih =>
    intro x hx;rcases UK.mp hx with e | hx
    · subst e;exact im ok (by rw [<- hq.1];exact hq.2.1)
    · exact ih x hx
 exact all r x hx
theorem vp {f':List (List Key×V)} (ok:HOk P w H h) (e:H a=some (.dT f')):f'.length<=UD/\(a == Wg)=false ∧
 ∃ xs,KTd H f' xs/\h.DictOfH (Zg (aG P w)) a xs:=mm ok (.inl e)
end
def DGet (H:Hp) (a:Ui) (y:V) (r:Option V):Prop :=
 (∃ f' k,Rd H a (.dK f')/\y=kV k/\r=aV f' k)∨∃ f' k b,Rd H a (.dT f')/\y=.ref b/\H b=some (.tup (k.map kV))/\r=aV f' k
def DPut (H:Hp) (a:Ui) (y v:V) (H':Hp):Prop :=
 (∃ f' k,H a=some (.dK f')/\y=kV k/\f'.length<UD/\H'=upd H a (.dK (putK f' k v))) ∨
 ∃ f' k b,H a=some (.dT f')/\y=.ref b/\H b=some (.tup (k.map kV))/\f'.length<UD/\H'=upd H a (.dT (putK f' k v))
theorem DGet.k {H:Hp} {a:Ui} {f':List (Key×V)} {k:Key} (e:H a=some (.dK f')):DGet H a (kV k) (aV f' k):=.inl ⟨f',k,.inl e,rfl,rfl⟩
theorem DGet.t {H:Hp} {a b:Ui} {f':List (List Key×V)} {k:List Key} (e:H a=some (.dT f')) (eb:H b=some (.tup (k.map kV))):DGet H a (.ref b) (aV f' k):=.inr ⟨f',k,b,.inl e,rfl,eb,rfl⟩
theorem DPut.t {H:Hp} {a b:Ui} {f':List (List Key×V)} {k:List Key} {v:V} (e:H a=some (.dT f')) (eb:H b=some (.tup (k.map kV))) (hl:f'.length<UD) :
 DPut H a (.ref b) v (upd H a (.dT (putK f' k v))):=.inr ⟨f',k,b,e,rfl,eb,hl,rfl⟩
section
variable {X:Cx} {pins:List (Ui×WA)} {σ:St} {H:Hp} {s:Ur} {a:Ui} {y v:V} {u r:Ul} {o:Option V} {A:U9} {E:Ul->Ur->Prop}
theorem Inv.big (I:Inv X pins σ H s):Wg<s.heap.objs.size:=by
 have h:Va<s.heap.objs.size:=(I.mod.glob.keeps I.bk).lt;exact XJ (by decide) h
theorem rQ {Q:Ul->Ur->Prop} (hu:A.units+1<V3) (I:Inv X pins σ H s) (g:DGet H a y (some v)) (ry:RelV y u) (h:∀ w' s',Inv X pins σ H s'->RelV v w'->Q w' s') :
 UC (U0 X.prog X.w) A (Yp (.ref a) u) Q E s:=by
 rcases g with ⟨f',k,e,ey,l⟩ | ⟨f',k,b,e,ey,eb,l⟩
 · subst ey;obtain ⟨z,hd,vs,rel,dd⟩:=mv I.hok e;obtain ⟨w',hw,BK⟩:=RelO.some_of (v:=v) (o:=valueAt vs k) (by rw [l];exact rel.val k);exact wpAny_getItem_of (j7 ry) dd.mapOf hw (h w' _ (I.tok _) BK)
 · subst ey;cases (show u=UZ b from ry);obtain ⟨z,hd,xs,rel,dd⟩:=mm I.hok e;obtain ⟨w',hw,BK⟩:=RelO.some_of (v:=v) (o:=(XX xs k).map (·.2)) (by rw [l];exact rel.val k);obtain ⟨p,hp,Aj⟩:=UU.mp hw;refine wpAny_getItem_heap (Yh hu) (im I.hok eb) dd hp ?_;rw [Aj];exact h w' _ (I.tok _) BK
theorem xu {Q:Ul->Ur->Prop} (hu:A.units+1<V3) (I:Inv X pins σ H s) (g:DGet H a y o) (ry:RelV y u) (h:∀ s',Inv X pins σ H s'->Q (.bool o.isSome) s') :
 UC (U0 X.prog X.w) A (Xr .In u (.ref a)) Q E s:=by
 rcases g with ⟨f',k,e,ey,l⟩ | ⟨f',k,b,e,ey,eb,l⟩
 · subst ey;obtain ⟨z,hd,vs,rel,dd⟩:=mv I.hok e;refine wpAny_in_of (j7 ry) hd dd.mapOf ?_;rw [<- (rel.val k).isSome_eq,<- l];exact h _ (I.tok _)
 · subst ey;cases (show u=UZ b from ry);obtain ⟨z,hd,xs,rel,dd⟩:=mm I.hok e;refine wpAny_in_heap (Yh hu) (im I.hok eb) hd dd ?_;have q:=(rel.val k).isSome_eq;rw [ZI] at q;rw [<- q,<- l];exact h _ (I.tok _)
theorem gQ {h':VH} {t':Nat} {ob:HO} (I:Inv X pins σ H s) (mu:Mut (H a)) (hs:We a s.heap h') (he:∃ q,h'.get? a=some q) (new:ObjOk X.prog X.w (upd H a ob) h' a ob) :
 Inv X pins σ (upd H a ob) { s with heap:=h',toks:=t' } :=
 I.write (x:=a) (e:=a) mu (.inl rfl) (fun b q hb z=>(hs.2 b hb).trans z) he new
theorem t4 {P:Uz} {w:UN} {H':Hp} {h':VH} {f':List (Key×V)} {vs:List (Key×Ul)} (z:f'.length<=UD) (hd:(a == Wg)=false) (rel:KV f' vs) (dd:h'.DictOf (aG P w) a vs) :
 ObjOk P w H' h' a (.dK f'):=⟨z,hd,vs,rel,dd⟩
theorem sh {H':Hp} {Q:Unit->Ur->Prop} (hu:A.units+1<V3) (I:Inv X pins σ H s) (g:DPut H a y v H') (ry:RelV y u) (rv:RelV v r) (h:∀ s',Inv X pins σ H' s'->Q () s') :
 UC (U0 X.prog X.w) A (setItem (.ref a) u r) Q E s:=by
 rcases g with ⟨f',k,e,ey,l,eH⟩ | ⟨f',k,b,e,ey,eb,l,eH⟩
 · subst ey eH;obtain ⟨z,hd,vs,rel,dd⟩:=vo I.hok e;have hz:vs.length<=UD:=by rw [<- rel.length];exact z
   have hl:(putK f' k v).length<=UD:=by have:=bZ f' k v;omega
   refine wpAny_setItem_pairs (hsz:=hz) (j7 ry) dd fun h' BP hs=>h _ ?_;have he:∃ q,h'.get? a=some q:=let ⟨q,_,_,hq,_⟩:=BP;⟨q,hq⟩
   exact gQ I (by rw [e];exact Wz) hs he (t4 hl hd (rel.put k rv) BP)
 · subst ey eH;cases (show u=UZ b from ry);obtain ⟨z,hd,xs,rel,dd⟩:=vp I.hok e;have hz:xs.length<=UD:=by rw [<- Uv rel];exact z
   have hl:(putK f' k v).length<=UD:=by have:=bZ f' k v;omega
   refine wpAny_setItem_heap (hsz:=hz) (Yh hu) (im I.hok eb) dd fun h' BP hs=>h _ ?_;obtain ⟨q,es,ep,hq,h2,h3,h4,_,h5⟩:=BP;refine gQ I (by rw [e];exact Wz) hs ⟨q,hq⟩ ⟨hl,hd,_,(rel.put k eb rv).keeps fun c ys ec=>?_,q,es,ep,hq,h2,h3,h4,h5⟩;rw [ak (fP ec e (fun z=>nomatch z))];exact ec
end
section
variable {X:Cx} {pins:List (Ui×WA)} {σ:St} {H:Hp} {s:Ur} {a:Ui} {f':List (Key×V)} {k:Key} {u:Ul} {A:U9} {E:Ul->Ur->Prop}
end
def wj (i:VC):Prop:=∀ ov iv,subscripted i false ov iv=operate [ov,iv] (Yp ov iv)
theorem qQ {prog:Uz} {w:UN} {A:U9} {E:Ul->Ur->Prop} {s:Ur} {env:Env} {value slice:VC} {pos:Yl} {T id:String} {Q:Ul->Ur->Prop}
 (hl:XW (.type T) "__getitem__"=pure (some (.builtin id))) (hs:wj slice)
 (h:UC (U0 prog w) A (WN value env) (fun o ye=>UC (U0 prog w) A (WN slice env) (fun i yP=>yP.TypeIs o T/\UC (U0 prog w) A (Yp o i) Q E yP) E ye) E s) :
 UC (U0 prog w) A (WN (.Subscript value slice pos) env) Q E s:=by
 refine Subscript_ (Ww h (fun o ye yu=>Ww yu (fun i yP y9=>?_) fun _ _ x=>x) fun _ _ x=>x);obtain ⟨hT,y9⟩:=y9;unfold subscriptTail;refine Ud ?_;rw [getitemInPython_of_ne hT.not_modules];refine Ud (VW hT hl ?_)
 have fin:UC (U0 prog w) A (subscripted slice false o i) (fun r Ae=>UC (U0 prog w) A (letTemporaryGo value o r >>= fun _=>pure r) Q E Ae) E yP:=by
  rw [hs o i];exact wpAny_operating (Ww y9 (fun r Ae AE=>Ud (wpAny_letTemporaryGo (Uq AE))) fun _ _ x=>x)
 first
  | exact Uq (Ud fin)
  | exact Ud (Uq (Ud fin))
  | exact Ud fin
theorem oP {X:Cx} {pins:List (Ui×WA)} {σ:St} {H:Hp} {s:Ur} {a:Ui} {y:V} {o:Option V} (I:Inv X pins σ H s) (g:DGet H a y o):s.TypeIs (.ref a) "dict":=by
 rcases g with ⟨f',k,e,_,_⟩ | ⟨f',k,b,e,_,_,_⟩
 · obtain ⟨_,_,vs,_,dd⟩:=mv I.hok e;exact dd.typeIs
 · obtain ⟨_,_,xs,_,dd⟩:=mm I.hok e;exact dd.typeIs
def wD (td ty:TE):TE:=fun σ H Q=>td σ H fun x H1=>ty σ H1 fun y H2=>∃ a v,x=.ref a/\DGet H2 a y (some v)/\Q v H2
def xV (ty td:TE):TE:=fun σ H Q=>ty σ H fun y H1=>td σ H1 fun x H2=>∃ a o,x=.ref a/\DGet H2 a y o/\Q (.bl o.isSome) H2
def wC (td ty tv:TE):TS:=fun D σ H=>tv σ H fun v H1=>td σ H1 fun x H2=>ty σ H2 fun y H3=>∃ a H4,x=.ref a/\DPut H3 a y v H4/\D.nx σ H4
section
variable {X:Cx} {o i e value:VC} {pos pos' Kw:Yl} {td ty tv:TE}
theorem nE (hu:X.A.units+1<V3) (ho:PE X o td) (hi:PE X i ty) (hs:wj i):PE X (.Subscript o i pos) (wD td ty):=by
 intro pins s σ H Q I h;refine qQ PySem.F.slot_dict_getitem.lookup hs (thn (ho pins s σ H _ I h) fun u s1 ⟨x,H1,I1,rx,q1⟩=>thn (hi pins s1 σ H1 _ I1 q1) fun iv s2 ⟨y,H2,I2,ry,a,v,ex,g,q2⟩=>?_);subst ex;obtain rfl:u=UZ a:=rx;exact ⟨oP I2 g,rQ hu I2 g ry fun w' s3 I3 BK=>⟨v,H2,I3,BK,q2⟩⟩
theorem vR (hu:X.A.units+1<V3) (hi:PE X i ty) (ho:PE X o td):PC X .In i o (xV ty td):=by
 intro pins s σ H Q I h;refine thn (hi pins s σ H _ I h) fun iv s1 ⟨y,H1,I1,ry,q1⟩=>thn (ho pins s1 σ H1 _ I1 q1) fun u s2 ⟨x,H2,I2,rx,a,ov,ex,g,q2⟩=>?_;subst ex;obtain rfl:u=UZ a:=rx;exact xu hu I2 g ry fun s3 I3=>⟨.bl ov.isSome,H2,I3,rfl,q2⟩
theorem uM (hu:X.A.units+1<V3) (ho:PE X o td) (hi:PE X i ty) (hv:PE X value tv) (hs:swapsWith value (some (.Subscript o i pos')) pos.line X.env=pure false) :
 PS X (.Assign [.Subscript o i pos'] value pos) (wC td ty tv):=by
 intro pins s σ H D I h;refine wpAny_Assign_Subscript (thn (hv pins s σ H _ I h) fun r s1 ⟨v,H1,I1,rv,q1⟩=>thn (ho pins s1 σ H1 _ I1 q1) fun u s2 ⟨x,H2,I2,rx,q2⟩=>thn (hi pins s2 σ H2 _ I2 q2) fun iv s3 ⟨y,H3,I3,ry,a,H4,ex,g,q3⟩=>?_) hs;subst ex;obtain rfl:u=UZ a:=rx;exact sh hu I3 g ry rv fun s4 I4=>⟨σ,H4,I4,q3⟩
end
theorem oN {P:Uz} {w:UN} {H:Hp} (h:VH) (hb:Wg<h.objs.size):ObjOk P w H (h.push { cls:=.type "dict",data:=.dict #[] }) h.objs.size (.dK []) :=
 ⟨UO _,beq_eq_false_iff_ne.mpr (Wd (U2 hb)),[],.nil,Heap.DictOf.new h⟩
theorem pB {P:Uz} {w:UN} {H:Hp} (h:VH) (hb:Wg<h.objs.size):ObjOk P w H (h.push { cls:=.type "dict",data:=.dict #[] }) h.objs.size (.dT []) :=
 ⟨UO _,beq_eq_false_iff_ne.mpr (Wd (U2 hb)),[],.nil,_,#[],0,Uy _ rfl,⟨rfl,rfl,rfl⟩,rfl,rfl,YF⟩
def v7:TE:=fun _ H Q=>∀ p,H p=none->Q (.ref p) (upd H p (.dK []))
def v5:TE:=fun _ H Q=>∀ p,H p=none->Q (.ref p) (upd H p (.dT []))
section
variable {X:Cx} {pos:Yl}
theorem tZ:PE X (.Dict [] [] pos) v7:=fun pins s σ H Q I h =>
 wpAny_Dict_empty ⟨.ref s.heap.objs.size,_,I.laid (a:=s.heap.objs.size) (o:=.dK []) (t':=s.toks) (fun _ _ q=>Up _ q) (Uj _) (oN s.heap I.big),rfl,h _ (I.hok.fresh (Uj _))⟩
theorem tu:PE X (.Dict [] [] pos) v5:=fun pins s σ H Q I h =>
 wpAny_Dict_empty ⟨.ref s.heap.objs.size,_,I.laid (a:=s.heap.objs.size) (o:=.dT []) (t':=s.toks) (fun _ _ q=>Up _ q) (Uj _) (pB s.heap I.big),rfl,h _ (I.hok.fresh (Uj _))⟩
end
def qa:List (TE×TE)->St->Hp->(List (V×V)->Hp->Prop)->Prop
 | [],_,H,Q=>Q [] H
 | (tk,tv)::r,σ,H,Q=>tk σ H fun x H1=>tv σ H1 fun y H2=>qa r σ H2 fun ps H3=>Q ((x,y)::ps) H3
abbrev VV:List (V×V)->List (Ul×Ul)->Prop:=UX fun p q=>RelV p.1 q.1/\RelV p.2 q.2
def PPs (X:Cx) (pos:Yl) (keys:List (Option VC)) (values:List VC) (Dw:List (TE×TE)):Prop :=
 ∀ (pins:List (Ui×WA)) (s:Ur) (σ:St) (H:Hp) (Q:List (V×V)->Hp->Prop),Inv X pins σ H s->qa Dw σ H Q →
   UC (U0 X.prog X.w) X.A (evalPairs (pairTrees keys values X.env pos)) (fun vs s'=>∃ ps H',Inv X pins σ H' s'/\VV ps vs/\Q ps H') X.xe s
theorem rp {X:Cx} {pos:Yl}:PPs X pos [] [] []:=fun pins s σ H Q I h=>pairTrees_nil_walk ⟨[],H,I,.nil,h⟩
theorem oq {X:Cx} {pos:Yl} {k v:VC} {ks:List (Option VC)} {vs:List VC} {tk tv:TE} {Dw:List (TE×TE)} (hk:PE X k tk) (hv:PE X v tv) (hr:PPs X pos ks vs Dw) :
 PPs X pos (some k::ks) (v::vs) ((tk,tv)::Dw):=fun pins s σ H Q I h =>
 pairTrees_cons_walk (thn (hk pins s σ H _ I h) fun u s1 ⟨x,H1,I1,rx,q1⟩=>thn (hv pins s1 σ H1 _ I1 q1) fun w2 s2 ⟨y,H2,I2,ry,q2⟩ =>
  thn (hr pins s2 σ H2 _ I2 q2) fun ws s3 ⟨ps,H3,I3,rel,q3⟩=>⟨(x,y)::ps,H3,I3,.cons ⟨rx,ry⟩ rel,q3⟩)
def jp (f' more:List (Key×V)):List (Key×V):=more.foldl (fun acc kv=>putK acc kv.1 kv.2) f'
theorem KV.merge:∀ {more:List (Key×V)} {rs:List (Key×Ul)} {f':List (Key×V)} {vs:List (Key×Ul)},KV more rs->KV f' vs->KV (jp f' more) (merged vs rs):=by
 intro more rs f' vs r;unfold KV at r;induction r generalizing f' vs with
 | nil=>intro q;exact q
 | @cons p q ps qs h t ih =>
   intro r0
   have e:KV (putK f' p.1 p.2) (stored vs q.1 q.2):=by
    have:=r0.put p.1 h.2;rw [<- h.1];exact this
   exact ih e
theorem ij:∀ (more f':List (Key×V)),(jp f' more).length<=f'.length+more.length
 | [],f'=>by show f'.length<=f'.length+0;omega
 | p::r,f'=>by
   have h1:=ij r (putK f' p.1 p.2);have h2:=bZ f' p.1 p.2;show (jp (putK f' p.1 p.2) r).length<=_;rw [Ut];omega
theorem lj {P:Uz} {w:UN}:∀ {f':List (Key×V)} {ws:List (Ul×Ul)},VV (f'.map fun kv=>(kV kv.1,kv.2)) ws->∃ rs,Carries (aG P w) ws rs/\KV f' rs
 | [],_,r=>by rw [Wq] at r;cases r;exact ⟨[],Wz,.nil⟩
 | p::f',_,r=>by
   rw [U8] at r;cases r with
   | @cons a b as bs h t =>
     obtain ⟨rs,c,q⟩:=lj (P:=P) (w:=w) t;obtain ⟨b1,b2⟩:=b;exact ⟨(p.1,b2)::rs,⟨j7 h.1,rfl,c⟩,.cons ⟨rfl,h.2⟩ q⟩
def wK (Dw:List (TE×TE)):TE:=fun σ H Q=>∀ p,H p=none->qa Dw σ (upd H p (.dK [])) fun ps H2=>H2 p=some (.dK [])/\∃ f':List (Key×V),ps=f'.map (fun kv=>(kV kv.1,kv.2))/\f'.length<=15/\Q (.ref p) (upd H2 p (.dK (jp [] f')))
theorem qH {X:Cx} {pos:Yl} {keys:List (Option VC)} {values:List VC} {Dw:List (TE×TE)} (h:PPs X pos keys values Dw) (yi:keys.all (·.isSome)=true) (hl:keys.length=values.length) (h0:keys≠[])
 (Qp:keys.length<=15):PE X (.Dict keys values pos) (wK Dw):=by
 intro pins s σ H Q I q;have hn:=I.hok.fresh (Uj s.heap.objs.size);have I1:=I.laid (a:=s.heap.objs.size) (o:=.dK []) (h':=s.heap.push { cls:=.type "dict",data:=.dict #[] }) (t':=s.toks) (fun _ _ q=>Up _ q) (Uj _) (oN s.heap I.big);refine wpAny_Dict_walk (knd:=aG X.prog X.w) yi hl h0 Qp (thn (h pins _ σ _ _ I1 (q _ hn)) fun ws s2 ⟨ps,H2,I2,rel,e,f',ep,lk,q2⟩=>?_);subst ep;obtain ⟨rs,c,rk⟩:=lj (P:=X.prog) (w:=X.w) rel;obtain ⟨z,hd,S4,r0,dd⟩:=vo I2.hok e;cases r0;refine ⟨rs,c,dd,fun h' BP hs=>⟨.ref s.heap.objs.size,_,?_,rfl,q2⟩⟩
 have hz:(jp [] f').length<=UD:=by
  have h1:=ij f' [];rw [WI] at h1;rw [Yj];omega
 have he:∃ q,h'.get? s.heap.objs.size=some q:=let ⟨q,_,_,hq,_⟩:=BP;⟨q,hq⟩
 exact gQ I2 (by rw [e];exact Wz) hs he (t4 hz hd (rk.merge .nil) BP)
structure M2 (X:Cx) (o:VC) (m:US) (apos:Yl) (e f:VC) (yt:Yl):Prop where
 base:attributeBase o m X.env (WN o X.env)=WN o X.env
 few:((Ys yt (Vm [e,f] X.env)).all (fun x=>!x.1) && (backToKw yt (keywordEach [] X.env)).all (fun x=>x.1.isSome)
  && decide (([e,f]:List VC).length+([]:List Keyword).length+(if ([]:List Keyword).isEmpty then 0 else 1)<30))=true
 line:(apos.endLine == yt.line)=true
 trees:Ys yt (Vm [e,f] X.env)=[(false,WN e X.env),(false,WN f X.env)]
def IsD (H:Hp) (a:Ui):Prop:=(∃ f',Rd H a (.dK f'))∨∃ f',Rd H a (.dT f')
theorem vX {X:Cx} {pins:List (Ui×WA)} {σ:St} {H:Hp} {s:Ur} {a:Ui} (I:Inv X pins σ H s) (d:IsD H a) :
 s.TypeIs (.ref a) "dict"/\(∀ b,UZ a=.ref b->∃ ob,s.heap.get? b=some ob/\ob.dict=none)/\(a == Wg)=false:=by
 rcases d with ⟨f',e⟩ | ⟨f',e⟩
 · obtain ⟨_,hd,vs,_,dd⟩:=mv I.hok e;refine ⟨dd.typeIs,fun b q=>?_,hd⟩;cases q;obtain ⟨ob,_,_,h1,h2,_⟩:=dd;exact ⟨ob,h1,h2.2.1⟩
 · obtain ⟨_,hd,xs,_,dd⟩:=mm I.hok e;refine ⟨dd.typeIs,fun b q=>?_,hd⟩;cases q;obtain ⟨ob,_,_,h1,h2,_⟩:=dd;exact ⟨ob,h1,h2.2.1⟩
section
variable {X:Cx} {pins:List (Ui×WA)} {σ:St} {H:Hp} {s:Ur} {a:Ui} {y d:V} {u r:Ul} {o:Option V} {A:U9} {E:Ul->Ur->Prop}
theorem v6 {Q:Ul->Ur->Prop} (hu:A.units+1<V3) (I:Inv X pins σ H s) (g:DGet H a y o) (ry:RelV y u) (rd:RelV d r) (h:∀ w' s',Inv X pins σ H s'->RelV (o.getD d) w'->Q w' s') :
 UC (U0 X.prog X.w) A (call (.builtin "dict.get") [.ref a,u,r]) Q E s:=by
 rcases g with ⟨f',k,e,ey,l⟩ | ⟨f',k,b,e,ey,eb,l⟩
 · subst ey;obtain ⟨z,hd,vs,rel,dd⟩:=mv I.hok e;refine call_meetsIn Xu dd.typeIs Y3 (YY _ _ _) (meets_dict_get_default (aG X.prog X.w) a (j7 ry) hd r) ⟨_,dd.mapOf,h _ _ (I.tok _) ?_⟩;rw [l];exact (rel.val k).getD rd
 · subst ey;cases (show u=UZ b from ry);obtain ⟨z,hd,xs,rel,dd⟩:=mm I.hok e;refine call_meetsIn Xu dd.typeIs Y3 (YY _ _ _) (meetsH_dict_get_default (Zg (aG X.prog X.w)) a b hd r) ⟨Yh hu,k,xs,im I.hok eb,dd,h _ _ (I.tok _) ?_⟩;rw [l];exact (rel.val k).getD rd
end
def sS (td ty tx:TE):TE:=fun σ H Q=>td σ H fun x H1=>∃ a,x=.ref a/\IsD H1 a/\ty σ H1 fun y H2=>tx σ H2 fun z H3=>∃ o,DGet H3 a y o/\Q (o.getD z) H3
section
variable {X:Cx} {o e f:VC} {apos yt:Yl} {td ty tx:TE}
theorem tU (hu:X.A.units+1<V3) (ho:PE X o td) (he:PE X e ty) (hf:PE X f tx) (m:M2 X o "get" apos e f yt):PE X (.Call (.Attribute o "get" apos) [e,f] [] yt) (sS td ty tx):=by
 intro pins s σ H Q I h;refine wpAny_Call_method m.base m.few m.line YW Xu PySem.F.type_dict_get (thn (ho pins s σ H _ I h) fun u s1 ⟨x,H1,I1,rx,a,ex,d,q1⟩=>?_);subst ex;obtain rfl:u=UZ a:=rx;obtain ⟨t1,t2,_⟩:=vX I1 d;refine ⟨t1,t2,?_⟩;rw [m.trees]
 refine XA rfl (YH (V2 (thn (he pins s1 σ H1 _ I1 q1) fun iv s2 ⟨y,H2,I2,ry,q2⟩ =>
  V2 (thn (hf pins s2 σ H2 _ I2 q2) fun fv s3 ⟨z,H3,I3,rz,ov,g,q3⟩=>Wx ?_))))
 exact v6 hu I3 g ry rz fun w' s4 I4 BK=>⟨_,H3,I4,BK,q3⟩
end
section
variable {X:Cx} {pins:List (Ui×WA)} {σ:St} {H:Hp} {s:Ur} {a:Ui} {f':List (Key×V)} {A:U9} {E:Ul->Ur->Prop}
end
section
variable {X:Cx} {pins:List (Ui×WA)} {σ:St} {H:Hp} {s:Ur} {a:Ui} {y:V} {u:Ul} {A:U9} {E:Ul->Ur->Prop}
end
end L2
namespace L2
open PySem PySem.Spec PyProof.Rows
inductive vC (K:Ug) (T:String) (xs:List V) (H:Hp) (Q:VK):Prop
 | mk (x:_) (b:_) (t:_) (yp:xs=[x,.ty T]) (yq:iN K H x t) (yz:XC K t (.type T)=some b) (yF:Q (.bl b) H):vC K T xs H Q
def wY (K:Ug) (T:String):List V->Hp->VK->Prop:=vC K T
theorem cH {X:Cx} {T:String}:g9 X (.builtin "isinstance") (wY X.K T):=by
 intro pins s σ H xs us Q I r h;obtain ⟨x,b,t,e,ty,k,q⟩:=h;exact tJ (T:=T) (b:=b) (t:=t) pins s σ H xs us Q I r ⟨x,e,ty,k,q⟩
theorem ux {α:Type} {js:List (Option Nat)} {g:TG} {tt:TT} {te:TE} {σ:St} {J:It} {H:Hp} {xs:List V} {fin:Ui->Hp->Prop} (zs:List α) (p:α->Bool) (f:α->V) (hz:zs.length=xs.length) (hn:xs.length<=1000000)
 (Cb:∀ i H2,Same H H2->i<xs.length->J.go i H2) (zd:∀ H2,Same H H2->J.stop xs.length H2) (Ag:∀ (i:Nat) H2 x H3,Same H H2->i<xs.length->J.yld i H2 x H3->H3=H2/\xs[i]?=some x)
 (hb:∀ (i:Nat) x z H2 (R:VK) (R0:Hp->Prop),xs[i]?=some x->zs[i]?=some z->Same H H2->(p z=true->R (f z) H2)->(p z=false->R0 H2)->g x (cσ js σ) H2 fun yw H3=>tt yw H3 fun b H4=>if b=true then te yw H4 R else R0 H4)
 (q:∀ D,H D=none->fin D (upd H D (.lst ((zs.filter p).map f)))) :
 ∀ D,H D=none->∃ (n:Nat) (W:Nat->Hp->Prop),W 0 (upd H D (.lst []))/\fO js g tt te σ J D n W fun H'=>fin D H':=by
 intro D hD;refine ⟨xs.length,fun i H2=>i<=xs.length/\H2=upd H D (.lst (((zs.take i).filter p).map f)),⟨UO _,by simp⟩,?_⟩;rintro i H2 ⟨hi,rfl⟩;have sm:∀ o,Same H (upd H D o):=fun o=>ad hD o;by_cases h:i=xs.length
 · left;subst h;refine ⟨zd _ (sm _),?_⟩;rw [<- hz,V9];exact q D hD
 · right;have yX:i<xs.length:=by omega
   refine ⟨yX,Cb i _ (sm _) yX,fun x H1 hy=>?_⟩;obtain ⟨rfl,hx⟩:=Ag i _ x H1 (sm _) yX hy;have KR:i<zs.length:=by omega
   have e1:zs[i]?=some zs[i]:=Ue KR
   have e2:(zs.take (i+1)).filter p=(zs.take i).filter p++(if p zs[i]=true then [zs[i]] else []):=by
    rw [Vs,e1,X6];show _++List.filter p [zs[i]]=_;rw [Wa,Zb]
   have hlen:(((zs.take i).filter p).map f).length<=1000000:=by
    rw [Uc];have:=WZ p (zs.take i);rw [UQ] at this;omega
   refine hb i x zs[i] _ _ _ hx e1 (sm _) (fun hp=>⟨_,ab,YD hlen (by decide),yX,?_⟩) (fun hp=>⟨yX,?_⟩)
   · rw [jY,e2,if_pos hp,Ux];rfl
   · rw [e2,if_neg (by rw [hp];exact UI),U6]
theorem gU {α:Type} {K:Ug} {a:Ui} {js:List (Option Nat)} {g:TG} {tt:TT} {te:TE} {σ:St} {H:Hp} {xs:List V} {fin:Ui->Hp->Prop} (zs:List α) (p:α->Bool) (f:α->V) (hS:SqL K H a xs) (hz:zs.length=xs.length) (hn:xs.length<=1000000)
 (hb:∀ (i:Nat) x z H2 (R:VK) (R0:Hp->Prop),xs[i]?=some x->zs[i]?=some z->Same H H2->(p z=true->R (f z) H2)->(p z=false->R0 H2)->g x (cσ js σ) H2 fun yw H3=>tt yw H3 fun b H4=>if b=true then te yw H4 R else R0 H4)
 (q:∀ D,H D=none->fin D (upd H D (.lst ((zs.filter p).map f)))) :
 ∀ D,H D=none->∃ (n:Nat) (W:Nat->Hp->Prop),W 0 (upd H D (.lst []))/\fO js g tt te σ (Itl K a) D n W fun H'=>fin D H' :=
 ux zs p f hz hn (fun i H2 s hi=>⟨xs,xs[i],s.seq hS,Ue hi⟩) (fun H2 s=>⟨xs,s.seq hS,Uj _⟩) (fun i H2 x H3 s hi hy=>⟨hy.1,hy.2 xs (s.seq hS)⟩) hb q
variable {K:Ug}
theorem qg:XC K (.type "tuple") (.type "tuple")=some true:=rfl
theorem tK:XC K (.type "str") (.type "str")=some true:=rfl
theorem pZ:XC K (.type "list") (.type "list")=some true:=rfl
end L2
namespace BB
open PySem L2
set_option genInjectivity true in
inductive Dv where
 | int (i:Int)
 | str (x:US)
 | tup (ds:List Dv)
mutual
def Dv.deep:Dv->Nat
 | .int _=>0
 | .str _=>0
 | .tup ds=>cq ds+1
def cq:List Dv->Nat
 | []=>0
 | d::ds=>max d.deep (cq ds)
end
mutual
def Dv.tot:Dv->Nat
 | .int _=>1
 | .str _=>1
 | .tup ds=>uy ds+1
def uy:List Dv->Nat
 | []=>0
 | d::ds=>d.tot+uy ds
end
mutual
def DAt (H:Hp):Dv->V->Prop
 | .int i,v=>v=.int i
 | .str x,v=>v=.str x
 | .tup ds,v=>∃ a vs,v=.ref a/\H a=some (.tup vs)/\DAts H ds vs
def DAts (H:Hp):List Dv->List V->Prop
 | [],vs=>vs=[]
 | d::ds,vs=>∃ v r,vs=v::r/\DAt H d v/\DAts H ds r
end
theorem DAts.nil {H:Hp}:DAts H [] []:=by rw [DAts]
theorem DAts.cons {H:Hp} {d:Dv} {ds:List Dv} {v:V} {vs:List V} (h1:DAt H d v) (h2:DAts H ds vs):DAts H (d::ds) (v::vs):=by rw [DAts];exact ⟨v,vs,rfl,h1,h2⟩
theorem DAts.length {H:Hp}:∀ {ds:List Dv} {vs:List V},DAts H ds vs->vs.length=ds.length
 | [],vs,h=>by rw [DAts] at h;subst h;rfl
 | d::ds,vs,h=>by
   rw [DAts] at h;obtain ⟨v,r,rfl,h1,h2⟩:=h;rw [Ut,Ut,h2.length]
theorem DAts.at {H:Hp}:∀ {ds:List Dv} {vs:List V} {i:Nat} {d:Dv},DAts H ds vs->ds[i]?=some d->∃ v,vs[i]?=some v/\DAt H d v
 | [],vs,i,d,h,e=>by simp at e
 | d0::ds,vs,i,d,h,e=>by
   rw [DAts] at h;obtain ⟨v,r,rfl,h1,h2⟩:=h;cases i with
   | zero=>simp at e;subst e;exact ⟨v,rfl,h1⟩
   | succ i =>
     obtain ⟨u,g1,g2⟩:=h2.at (i:=i) (by simpa using e);exact ⟨u,by simpa using g1,g2⟩
theorem dQ:∀ {ds:List Dv} {i:Nat} {d:Dv},ds[i]?=some d->d.deep<=cq ds
 | [],i,d,e=>by simp at e
 | d0::ds,i,d,e=>by
   rw [cq];cases i with
   | zero=>simp at e;subst e;omega
   | succ i =>
     have:=dQ (ds:=ds) (i:=i) (by simpa using e);omega
theorem n5:∀ {ds:List Dv} {i:Nat} {d:Dv},ds[i]?=some d->d.tot<=uy ds
 | [],i,d,e=>by simp at e
 | d0::ds,i,d,e=>by
   rw [uy];cases i with
   | zero=>simp at e;subst e;omega
   | succ i =>
     have:=n5 (ds:=ds) (i:=i) (by simpa using e);omega
theorem Dv.tot_pos (d:Dv):1<=d.tot:=by
 cases d with
 | int i=>rw [Dv.tot];omega
 | str x=>rw [Dv.tot];omega
 | tup ds=>rw [Dv.tot];omega
mutual
def Th.dv:Th->Dv
 | .knot n ks=>.tup (.str n::dvs ks)
 | .call s k=>.tup [.str q,.int s,.int k]
def dvs:List Th->List Dv
 | []=>[]
 | t::ts=>t.dv::dvs ts
end
mutual
theorem At.dv {H:Hp}:∀ {t:Th} {a:Ui},At H t a->DAt H t.dv (.ref a)
 | .knot n ks,a,h=>by
   rw [At] at h;obtain ⟨_,as,h1,h2⟩:=h;rw [Th.dv,DAt];exact ⟨a,_,rfl,h1,.cons (by rw [DAt]) (Ats.dvs h2)⟩
 | .call s k,a,h=>by
   rw [At] at h;rw [Th.dv,DAt];exact ⟨a,_,rfl,h,.cons (by rw [DAt]) (.cons (by rw [DAt]) (.cons (by rw [DAt]) .nil))⟩
theorem Ats.dvs {H:Hp}:∀ {ts:List Th} {as:List Ui},Ats H ts as->DAts H (dvs ts) (as.map V.ref)
 | [],as,h=>by rw [Ats] at h;subst h;rw [BB.dvs];exact .nil
 | t::ts,as,h=>by
   rw [Ats] at h;obtain ⟨a,r,rfl,h1,h2⟩:=h;rw [BB.dvs,U8];exact .cons (At.dv h1) (Ats.dvs h2)
end
mutual
theorem Th.dv_deep:∀ t:Th,t.dv.deep<=t.tall
 | .knot n ks=>by
   have:=iO ks;rw [Th.dv,Dv.deep,cq,Dv.deep,Th.tall];omega
 | .call s k=>by rw [Th.dv,Th.tall];simp [Dv.deep,cq]
theorem iO:∀ ts:List Th,cq (dvs ts)<=bE ts
 | []=>by rw [dvs,cq];exact UO _
 | t::ts=>by
   have:=t.dv_deep;have:=iO ts;rw [dvs,cq,bE];omega
end
theorem j1 {K:Ug} {H:Hp} {a b:Ui} {xs ys:List V} {Q:VK} (ha:H a=some (.tup xs)) (hb:H b=some (.tup ys)) (hz:xs.length+ys.length<=1000000) (q:∀ p H',L2.Same H H'->H' p=some (.tup (xs++ys))->Q (.ref p) H'):kR K (.ref a) (.ref b) H Q:=by
 refine ⟨a,b,xs,ys,rfl,rfl,SqT.of ha,SqT.of hb,ai hz,fun e=>?_,fun _ e=>?_,fun _ _ p hp=>?_⟩
 · exact q b H (.refl _) (by rw [e];exact hb)
 · exact q a H (.refl _) (by rw [e,U6];exact ha)
 · exact q p _ (ad hp _) ab
mutual
/-- all Oa with Ob places,a knot ahead of its kids -/
def Th.pl (pre:List Int):Th->List (List Int×Th)
 | .knot n ks=>(pre,.knot n ks)::pls pre 0 ks
 | .call s k=>[(pre,.call s k)]
def pls (pre:List Int) (i:Int):List Th->List (List Int×Th)
 | []=>[]
 | t::ts=>t.pl (pre++[i])++pls pre (i+1) ts
end
theorem Th.pl_eq (pre:List Int) (t:Th):t.pl pre=(pre,t)::pls pre 0 t.kids:=by
 cases t with
 | knot n ks=>rw [Th.pl];rfl
 | call s k=>rw [Th.pl];simp [Th.kids,pls]
mutual
theorem Th.pl_len (pre:List Int):∀ t:Th,(t.pl pre).length=t.size
 | .knot n ks=>by rw [Th.pl,Th.size,Ut,rq pre 0 ks]
 | .call s k=>by rw [Th.pl,Th.size];rfl
theorem rq (pre:List Int) (i:Int):∀ ts:List Th,(pls pre i ts).length=aq ts
 | []=>by rw [pls,aq];rfl
 | t::ts=>by rw [pls,aq,UE,Th.pl_len _ t,rq pre (i+1) ts]
end
def szP:List (List Int×Th)->Nat
 | []=>0
 | p::ps=>p.2.size+szP ps
def plP:List (List Int×Th)->List (List Int×Th)
 | []=>[]
 | p::ps=>p.2.pl p.1++plP ps
theorem cF:∀ a b,szP (a++b)=szP a+szP b
 | [],b=>by simp [szP]
 | p::a,b=>by rw [Wm,szP,szP,cF a b,YR]
theorem jZ (a:List (List Int×Th)):szP a.reverse=szP a:=by
 induction a with
 | nil=>rfl
 | cons x xs ih=>rw [Vu,cF,ih,szP,szP,szP];omega
theorem kc:∀ a b,plP (a++b)=plP a++plP b
 | [],b=>by simp [plP]
 | p::a,b=>by rw [Wm,plP,plP,kc a b,Vo]
theorem qE:∀ a,(plP a).length=szP a
 | []=>rfl
 | p::a=>by rw [plP,szP,UE,Th.pl_len,qE a]
theorem nZ:∀ a,a.length<=szP a
 | []=>UO _
 | p::a=>by
   have:=p.2.size_pos;have:=nZ a;rw [Ut,szP];omega
def cQ (pre:List Int) (i:Int):List Th->List (List Int×Th)
 | []=>[]
 | t::ts=>(pre++[i],t)::cQ pre (i+1) ts
theorem gh (pre:List Int) (i:Int):∀ ts,(cQ pre i ts).length=ts.length
 | []=>rfl
 | t::ts=>by rw [cQ,Ut,Ut,gh pre (i+1) ts]
theorem oY (pre:List Int) (i:Int):∀ ts,plP (cQ pre i ts)=pls pre i ts
 | []=>by rw [cQ,plP,pls]
 | t::ts=>by rw [cQ,plP,pls,oY pre (i+1) ts]
theorem iV (pre:List Int) (i:Int):∀ ts,szP (cQ pre i ts)=aq ts
 | []=>by rw [cQ,szP,aq]
 | t::ts=>by rw [cQ,szP,aq,iV pre (i+1) ts]
theorem kq (pre:List Int):∀ (i:Int) (ts:List Th) (j:Nat) (t:Th),ts[j]?=some t->(cQ pre i ts)[j]?=some (pre++[i+j],t)
 | i,[],j,t,e=>by simp at e
 | i,u::ts,0,t,e=>by simp at e;subst e;rw [cQ];simp
 | i,u::ts,j+1,t,e=>by
   rw [cQ,Vf,kq pre (i+1) ts j t (by simpa using e)];have:i+1+(j:Int)=i+((j+1:Nat):Int):=by omega
   rw [this]
theorem kH (pre:List Int):∀ (i:Int) (ts:List Th) (p:List Int×Th),p∈cQ pre i ts->p.1.length=pre.length+1/\p.2∈ts
 | i,[],p,h=>by rw [cQ] at h;cases h
 | i,u::ts,p,h=>by
   rw [cQ] at h;rcases UK.mp h with rfl | h
   · exact ⟨by simp,UH ..⟩
   · have:=kH pre (i+1) ts p h;exact ⟨this.1,UJ _ this.2⟩
theorem P2.reverse {α β:Type} {F:α->β->Prop}:∀ {a:List α} {b:List β},UX F a b->UX F a.reverse b.reverse
 | _,_,.nil=>.nil
 | _,_,.cons r t=>by
   rw [Vu,Vu];exact P2.append (P2.reverse t) (.cons r .nil)
theorem P2.snoc_inv {α β:Type} {F:α->β->Prop} {a:List α} {b:List β} {y:β} (h:UX F a (b++[y])):∃ us x,a=us++[x]/\UX F us b/\F x y:=by
 have r:=P2.reverse h;rw [VR,List.reverse_singleton,List.singleton_append] at r;cases e:a.reverse with
 | nil=>rw [e] at r;cases r
 | cons x us =>
   rw [e] at r;cases r with
   | cons h1 h2 =>
     refine ⟨us.reverse,x,?_,?_,h1⟩
     · rw [<- Vu,<- e,Wl]
     · have:=P2.reverse h2;rw [Wl] at this;exact this
theorem nM {t u:Th} (h:u∈t.kids):u.tall+1<=t.tall:=by
 have:=bT h;rw [t.tall_eq];omega
def Th.sub:Th->List Int->Option Th
 | t,[]=>some t
 | t,i::r=>if 0<=i then (match t.kids[i.toNat]? with | some u=>u.sub r | none=>none) else none
termination_by _ p=>p.length
theorem i9 (t:Th):t.sub []=some t:=by rw [Th.sub]
theorem pG {t u:Th} {i:Int} {r:List Int} (h0:0<=i) (h:t.kids[i.toNat]?=some u):t.sub (i::r)=u.sub r:=by rw [Th.sub,if_pos h0,h]
mutual
theorem tH:∀ (t:Th) (pre p:List Int) (u:Th),(p,u)∈t.pl pre->∃ r,p=pre++r/\t.sub r=some u/\r.length+u.tall<=t.tall/\u.size<=t.size
 | .knot n ks,pre,p,u,h=>by
   rw [Th.pl] at h;rcases UK.mp h with e | h
   · cases e;exact ⟨[],by simp,i9 _,by simp,Uj _⟩
   · obtain ⟨j,v,r,h1,rfl,h3,h4,h5,h6,h7⟩:=rn ks pre 0 p u h;refine ⟨(0+(j:Int))::r,by simp,?_,?_,?_⟩
     · rw [pG (u:=v) (by omega) (by rw [show (0+(j:Int)).toNat=j by omega];exact h1)];exact h3
     · rw [Th.tall,Ut];omega
     · rw [Th.size];omega
 | .call s k,pre,p,u,h=>by
   rw [Th.pl] at h;have e:(p,u)=(pre,Th.call s k):=by simpa using h
   cases e;exact ⟨[],by simp,i9 _,by simp,Uj _⟩
theorem rn:∀ (ts:List Th) (pre:List Int) (i:Int) (p:List Int) (u:Th),(p,u)∈pls pre i ts->∃ (j:Nat) (v:Th) (r:List Int),ts[j]?=some v/\p=pre++(i+(j:Int))::r/\v.sub r=some u/\r.length+u.tall<=v.tall/\v.tall<=bE ts/\u.size<=v.size/\v.size<=aq ts
 | [],pre,i,p,u,h=>by rw [pls] at h;cases h
 | t::ts,pre,i,p,u,h=>by
   rw [pls] at h;rcases Ve.mp h with h | h
   · obtain ⟨r,rfl,h1,h2,h3⟩:=tH t (pre++[i]) p u h;exact ⟨0,t,r,rfl,by simp,h1,h2,by rw [bE];omega,h3,by rw [aq];omega⟩
   · obtain ⟨j,v,r,h1,rfl,h3,h4,h5,h6,h7⟩:=rn ts pre (i+1) p u h;refine ⟨j+1,v,r,by simpa using h1,?_,h3,h4,by rw [bE];omega,h6,by rw [aq];omega⟩;have:i+1+(j:Int)=i+((j+1:Nat):Int):=by omega
     rw [this]
end
theorem aN:∀ {ts:List Th} {t:Th},t∈ts->t.size<=aq ts
 | u::ts,t,h=>by
   rw [aq];rcases UK.mp h with rfl | h
   · omega
   · have:=aN h;omega
end BB
namespace BB
open PySem L2
section
variable {ext:Th->List V} {H H':Hp} {t:Th} {a:Ui} {ts:List Th} {es:List Ui}
end
def Th.isCall:Th->Bool
 | .knot _ _=>false
 | .call _ _=>true
def nu:List Int×Th->Option (List Int×Int×Int)
 | (_,.knot _ _)=>none
 | (p,.call s k)=>some (p,s,k)
def callsOf (ps:List (List Int×Th)):List (List Int×Int×Int):=ps.filterMap nu
theorem dE (a b:List (List Int×Th)):callsOf (a++b)=callsOf a++callsOf b:=List.filterMap_append
theorem jM (a:List (List Int×Th)):(callsOf a).length<=a.length:=List.length_filterMap_le _ _
def CAt (H:Hp) (c:List Int×Int×Int) (a:Ui):Prop:=∃ pa ca,H a=some (.tup [.ref pa,.ref ca])/\H pa=some (.tup (c.1.map V.int))/\H ca=some (.tup [.int c.2.1,.int c.2.2])
def CsAt (H:Hp) (cs:List (List Int×Int×Int)) (as:List Ui):Prop:=UX (CAt H) cs as
theorem CAt.mono {H H':Hp} (k:KT H H') {c:List Int×Int×Int} {a:Ui} (h:CAt H c a):CAt H' c a:=by
 obtain ⟨pa,ca,h1,h2,h3⟩:=h;exact ⟨pa,ca,k _ _ h1,k _ _ h2,k _ _ h3⟩
theorem CsAt.mono {H H':Hp} (k:KT H H') {cs:List (List Int×Int×Int)} {as:List Ui} (h:CsAt H cs as):CsAt H' cs as:=P2.mp (fun _ _ e=>CAt.mono k e) h
end BB
namespace BB
open PySem PySem.Spec PyProof.Rows L2
mutual
theorem DAt.inj {H:Hp}:∀ {d e:Dv} {v:V},DAt H d v->DAt H e v->d=e
 | .int i,.int j,v,h,g=>by rw [DAt] at h;rw [DAt] at g;rw [h] at g;cases g;rfl
 | .int i,.str y,v,h,g=>by rw [DAt] at h;rw [DAt] at g;rw [h] at g;cases g
 | .int i,.tup es,v,h,g=>by rw [DAt] at h;rw [DAt] at g;obtain ⟨a,vs,e,_⟩:=g;rw [h] at e;cases e
 | .str x,.int j,v,h,g=>by rw [DAt] at h;rw [DAt] at g;rw [h] at g;cases g
 | .str x,.str y,v,h,g=>by rw [DAt] at h;rw [DAt] at g;rw [h] at g;cases g;rfl
 | .str x,.tup es,v,h,g=>by rw [DAt] at h;rw [DAt] at g;obtain ⟨a,vs,e,_⟩:=g;rw [h] at e;cases e
 | .tup ds,.int j,v,h,g=>by rw [DAt] at h;rw [DAt] at g;obtain ⟨a,vs,e,_⟩:=h;rw [e] at g;cases g
 | .tup ds,.str y,v,h,g=>by rw [DAt] at h;rw [DAt] at g;obtain ⟨a,vs,e,_⟩:=h;rw [e] at g;cases g
 | .tup ds,.tup es,v,h,g=>by
   rw [DAt] at h;rw [DAt] at g;obtain ⟨a,vs,e1,h1,h2⟩:=h;obtain ⟨b,ws,e2,g1,g2⟩:=g;rw [e1] at e2;cases e2;rw [h1] at g1;cases g1;rw [DAts.inj h2 g2]
theorem DAts.inj {H:Hp}:∀ {ds es:List Dv} {vs:List V},DAts H ds vs->DAts H es vs->ds=es
 | [],[],vs,h,g=>rfl
 | [],e::es,vs,h,g=>by rw [DAts] at h;rw [DAts] at g;obtain ⟨v,r,z,_⟩:=g;rw [h] at z;cases z
 | d::ds,[],vs,h,g=>by rw [DAts] at h;rw [DAts] at g;obtain ⟨v,r,z,_⟩:=h;rw [g] at z;cases z
 | d::ds,e::es,vs,h,g=>by
   rw [DAts] at h;rw [DAts] at g;obtain ⟨v,r,z,h1,h2⟩:=h;obtain ⟨v',r',z',g1,g2⟩:=g;rw [z] at z';cases z';rw [DAt.inj h1 g1,DAts.inj h2 g2]
end
end BB
namespace L2
open PySem PySem.Spec PySem.SeqAt PyProof.Rows BB
open Classical in
theorem t8 {X:Cx} {pins:List (Ui×WA)} {σ:St} {H:Hp} {s:Ur} (I:Inv X pins σ H s) {ds es:List Dv} {a b:Ui} {vs ws:List V} {A:U9} (ha:SqT X.K H a vs) (hb:SqT X.K H b ws) (Aw:DAts H ds vs) (yO:DAts H es ws) (hu:A.units<V3)
 (ih:∀ (j:Nat) (d e:Dv) (x y:V) (u v:Ul),ds[j]?=some d->DAt H d x->DAt H e y->RelV x u->RelV y v->EqAt A.in1 s u v (decide (d=e))):RcAt A s (.ref a) (.ref b) (decide (Dv.tup ds=Dv.tup es)):=by
 obtain ⟨its,r1,p1,_⟩:=I.tuple ha;obtain ⟨yf,r2,p2,_⟩:=I.tuple hb;have l1:its.length=ds.length:=by rw [<- r1.length,Aw.length]
 have l2:yf.length=es.length:=by rw [<- r2.length,yO.length]
 have CG:RcAt A s (.ref a) (.ref b) ((U1 (min its.toArray.size yf.toArray.size)).all (fun j=>decide (ds[j]?=es[j]?)) && its.toArray.size == yf.toArray.size):=by
  refine RcAt.tuples (show s.heap.IsTuple a its.toArray from p1) (show s.heap.IsTuple b yf.toArray from p2) hu fun j h1 h2=>?_;have AU:j<ds.length:=by rw [<- l1];simpa using h1
  have Ax:j<es.length:=by rw [<- l2];simpa using h2
  have e1:ds[j]?=some ds[j]:=Ue AU;have e2:es[j]?=some es[j]:=Ue Ax;obtain ⟨x',Cu,dx⟩:=Aw.at e1;obtain ⟨y',AD,dy⟩:=yO.at e2;obtain ⟨u',zA,CH⟩:=r1.get Cu;obtain ⟨v',yK,AK⟩:=r2.get AD;have e3:decide (ds[j]?=es[j]?)=decide (ds[j]=es[j]):=by rw [e1,e2];simp
  have e4:its.toArray[j]=u':=by
   rw [Ue (by rw [l1];exact AU)] at zA;simpa using zA
  have e5:yf.toArray[j]=v':=by
   rw [Ue (by rw [l2];exact Ax)] at yK;simpa using yK
  rw [e3,e4,e5];exact ih j ds[j] es[j] x' y' u' v' e1 dx dy CH AK
 have e:decide (Dv.tup ds=Dv.tup es)=((U1 (min its.toArray.size yf.toArray.size)).all (fun j=>decide (ds[j]?=es[j]?)) && its.toArray.size == yf.toArray.size):=by
  rw [Uu,Uu,l1,l2];by_cases h:ds=es
  · subst h;rw [decide_eq_true rfl];symm;simp
  · rw [decide_eq_false (fun z=>h (Dv.tup.inj z))];symm;by_cases hl:ds.length=es.length
    · rw [hl,Yz]
      have:¬ ((U1 es.length).all (fun j=>decide (ds[j]?=es[j]?)))=true:=by
       intro z;apply h;apply Wr;intro j;by_cases hj:j<es.length
       · have:=WS.mp z j (WD.mpr hj);exact of_decide_eq_true this
       · rw [Vq (by omega),Vq (by omega)]
      rw [VT.mpr this];rfl
    · have:(ds.length == es.length)=false:=by simpa using hl
      rw [this,Yd]
 rw [e];exact CG
open Classical in
theorem nO {X:Cx} {pins:List (Ui×WA)} {σ:St} {H:Hp} {s:Ur} (I:Inv X pins σ H s):∀ (n:Nat) (d e:Dv),d.tot<=n->∀ (x y:V) (u v:Ul) (A:U9),DAt H d x->DAt H e y->RelV x u->RelV y v->A.units+d.deep<V3->EqAt A s u v (decide (d=e))
 | 0,d,e,hn,x,y,u,v,A,hd,he,ru,rv,hu=>by have:=d.tot_pos;omega
 | n+1,.int i,.int j,hn,x,y,u,v,A,hd,he,ru,rv,hu=>by
   rw [DAt] at hd;rw [DAt] at he;subst hd he;obtain ⟨t,rfl⟩:=ru;obtain ⟨t',rfl⟩:=rv
   have e:decide (Dv.int i=Dv.int j)=(i == j):=by
    by_cases h:i=j
    · subst h;simp
    · rw [decide_eq_false (fun z=>h (Dv.int.inj z))];simp [h]
   rw [e];exact EqAt.int_int i t j t'
 | n+1,.int i,.str b,hn,x,y,u,v,A,hd,he,ru,rv,hu=>by
   rw [DAt] at hd;rw [DAt] at he;subst hd he;obtain ⟨t,rfl⟩:=ru;obtain ⟨t',rfl⟩:=rv;rw [decide_eq_false (fun z=>by cases z)];exact EqAt.int_str i t b t'
 | n+1,.int i,.tup es,hn,x,y,u,v,A,hd,he,ru,rv,hu=>by
   rw [DAt] at hd;rw [DAt] at he;obtain ⟨a,vs,rfl,ha,_⟩:=he;subst hd;obtain ⟨t,rfl⟩:=ru;cases rv;obtain ⟨its,_,p,_⟩:=I.tuple (SqT.of (K:=X.K) ha);rw [decide_eq_false (fun z=>by cases z)];exact EqAt.int_tuple i t (show s.heap.IsTuple a its.toArray from p) (by omega)
 | n+1,.str b,.int j,hn,x,y,u,v,A,hd,he,ru,rv,hu=>by
   rw [DAt] at hd;rw [DAt] at he;subst hd he;obtain ⟨t,rfl⟩:=ru;obtain ⟨t',rfl⟩:=rv;rw [decide_eq_false (fun z=>by cases z)];exact EqAt.str_int b t j t'
 | n+1,.str b,.str c,hn,x,y,u,v,A,hd,he,ru,rv,hu=>by
   rw [DAt] at hd;rw [DAt] at he;subst hd he;obtain ⟨t,rfl⟩:=ru;obtain ⟨t',rfl⟩:=rv
   have e:decide (Dv.str b=Dv.str c)=(b == c):=by
    by_cases h:b=c
    · subst h;simp
    · rw [decide_eq_false (fun z=>h (Dv.str.inj z))];simp [h]
   rw [e];exact EqAt.str_str b t c t'
 | n+1,.str b,.tup es,hn,x,y,u,v,A,hd,he,ru,rv,hu=>by
   rw [DAt] at hd;rw [DAt] at he;obtain ⟨a,vs,rfl,ha,_⟩:=he;subst hd;obtain ⟨t,rfl⟩:=ru;cases rv;obtain ⟨its,_,p,_⟩:=I.tuple (SqT.of (K:=X.K) ha);rw [decide_eq_false (fun z=>by cases z)];exact EqAt.str_tuple b t (show s.heap.IsTuple a its.toArray from p) (by omega)
 | n+1,.tup ds,.int j,hn,x,y,u,v,A,hd,he,ru,rv,hu=>by
   rw [DAt] at hd;rw [DAt] at he;obtain ⟨a,vs,rfl,ha,_⟩:=hd;subst he;cases ru;obtain ⟨t,rfl⟩:=rv;obtain ⟨its,_,p,_⟩:=I.tuple (SqT.of (K:=X.K) ha);rw [decide_eq_false (fun z=>by cases z)];exact EqAt.tuple_int j t (show s.heap.IsTuple a its.toArray from p) (by omega)
 | n+1,.tup ds,.str b,hn,x,y,u,v,A,hd,he,ru,rv,hu=>by
   rw [DAt] at hd;rw [DAt] at he;obtain ⟨a,vs,rfl,ha,_⟩:=hd;subst he;cases ru;obtain ⟨t,rfl⟩:=rv;obtain ⟨its,_,p,_⟩:=I.tuple (SqT.of (K:=X.K) ha);rw [decide_eq_false (fun z=>by cases z)];exact EqAt.tuple_str b t (show s.heap.IsTuple a its.toArray from p) (by omega)
 | n+1,.tup ds,.tup es,hn,x,y,u,v,A,hd,he,ru,rv,hu=>by
   have Cd:=hd;have K9:=he;rw [DAt] at hd;rw [DAt] at he;obtain ⟨a,vs,rfl,ha,Aw⟩:=hd;obtain ⟨b,ws,rfl,hb,yO⟩:=he;cases ru;cases rv;by_cases zU:a=b
   · subst zU;rw [decide_eq_true (DAt.inj Cd K9)];exact EqAt.same _
   rw [Dv.tot] at hn;rw [Dv.deep] at hu;refine EqAt.of_refs zU (t8 I (SqT.of ha) (SqT.of hb) Aw yO (by omega) fun j d e x' y' u' v' e1 dx dy CH AK=>?_);have q1:=n5 e1;have q2:=dQ e1;refine nO I n d e (by omega) x' y' u' v' A.in1 dx dy CH AK ?_;show A.units+1+_<V3;omega
def vg (K:Ug) (B:Nat):R2:=fun x y H Q=>∃ b ws d es,y=.ref b/\SqT K H b ws/\DAt H d x/\DAts H es ws/\cq es<=B/\∀ r:Bool,(r=true↔d∉es)->Q (.bl r) H
open Classical in
theorem mz {X:Cx} {B:Nat} (hu:X.A.units+B+2<V3):OpR X (Xr .NotIn) (vg X.K B):=by
 intro pins s σ H x y v u Q I rx ry h;obtain ⟨b,ws,d,es,rfl,hb,hd,yO,hB,q⟩:=h;cases ry;obtain ⟨its,r1,p1,_⟩:=I.tuple hb
 have key:∀ (j:Nat) (z:Ul),its[j]?=some z->∃ e y',es[j]?=some e/\DAt H e y'/\RelV y' z:=by
  intro j z hz;have hj:j<its.length:=(Uk.mp hz).1;have l1:=r1.length;have l2:=yO.length;have F6:j<es.length:=by omega
  obtain ⟨y',AD,dy⟩:=yO.at (Ue F6);obtain ⟨v',yK,AK⟩:=r1.get AD;rw [hz] at yK;cases yK;exact ⟨_,y',Ue F6,dy,AK⟩
 have uniq:∀ (z:Ul) (e e':Dv) (y' CI:V),DAt H e y'->RelV y' z->DAt H e' CI->RelV CI z->e=e':=by
  intro z e e' y' CI h1 h2 h3 h4;have:=h2.inj h4;subst this;exact h1.inj h3
 refine notIn_tupleAt (fun z=>decide (∃ y',DAt H d y'/\RelV y' z)) (show s.heap.IsTuple b its.toArray from p1) (fun z hz=>?_) ⟨.bl _,H,I,rfl,q _ ?_⟩
 · obtain ⟨j,hj⟩:=UG.mp (show z∈its by simpa using hz);obtain ⟨e,y',he,dy,ry⟩:=key j z hj;have hq:=dQ he
   have e3:decide (∃ y',DAt H d y'/\RelV y' z)=decide (e=d):=by
    by_cases h:e=d
    · rw [decide_eq_true h,decide_eq_true ⟨y',h ▸ dy,ry⟩]
    · rw [decide_eq_false h,decide_eq_false];rintro ⟨CI,h1,h2⟩;exact h (uniq z e d y' CI dy ry h1 h2)
   rw [e3];refine nO I _ e d (Uj _) y' x z v X.A.in1 dy hd ry rx ?_;show X.A.units+1+_<V3;omega
 · rw [Bool.not_eq_true',<- Bool.not_eq_true];refine not_congr ?_;constructor
   · intro z;obtain ⟨v',h1,h2⟩:=Array.any_eq_true'.mp z;obtain ⟨j,hj⟩:=UG.mp (show v'∈its by simpa using h1);obtain ⟨e,y',he,dy,ry⟩:=key j v' hj;obtain ⟨CI,h3,h4⟩:=of_decide_eq_true h2;rw [<- uniq v' e d y' CI dy ry h3 h4];exact Uh he
   · intro z;obtain ⟨j,hj⟩:=UG.mp z;obtain ⟨y',AD,dy⟩:=yO.at hj;obtain ⟨v',yK,AK⟩:=r1.get AD;refine Array.any_eq_true'.mpr ⟨v',?_,decide_eq_true ⟨y',dy,AK⟩⟩;have:=Uh yK;simpa using this
end L2
namespace BB
open PySem L2
def Th.put:Th->List Int->Th->Th
 | _,[],o=>o
 | t,i::r,o=>match t.kids[i.toNat]? with
   | some u=>.knot t.nm (t.kids.set i.toNat (u.put r o))
   | none=>o
termination_by _ p=>p.length
theorem nv (t o:Th):t.put [] o=o:=by rw [Th.put]
theorem kg {t u o:Th} {i:Int} {r:List Int} (h:t.kids[i.toNat]?=some u):t.put (i::r) o=.knot t.nm (t.kids.set i.toNat (u.put r o)):=by rw [Th.put,h]
theorem nH {t u:Th} {i:Int} {r:List Int} (h:t.sub (i::r)=some u):0<=i/\∃ w,t.kids[i.toNat]?=some w/\w.sub r=some u:=by
 rw [Th.sub] at h;split at h
 · rename_i h0
   split at h
   · rename_i w hw
     exact ⟨h0,w,hw,h⟩
   · cases h
 · cases h
theorem mh:∀ {ks:List Th} {i:Nat} {w x:Th},ks[i]?=some w->aq (ks.set i x)+w.size=aq ks+x.size
 | [],i,w,x,h=>by simp at h
 | k::ks,0,w,x,h=>by
   simp at h;subst h;rw [List.set_cons_zero,aq,aq];omega
 | k::ks,i+1,w,x,h=>by
   have:=mh (ks:=ks) (i:=i) (w:=w) (x:=x) (by simpa using h);rw [List.set_cons_succ,aq,aq];omega
theorem oi:∀ (p:List Int) (t u o:Th),t.sub p=some u->(t.put p o).size+u.size=t.size+o.size
 | [],t,u,o,h=>by
   rw [i9] at h;cases h;rw [nv];omega
 | i::r,t,u,o,h=>by
   obtain ⟨h0,w,hw,hs⟩:=nH h;have h1:=oi r w u o hs;have h2:=mh (x:=w.put r o) hw;rw [kg hw,Th.size,t.size_eq];omega
theorem Ats.set {H:Hp}:∀ {ts:List Th} {as:List Ui} (i:Nat) {x:Th} {a:Ui},Ats H ts as->At H x a->Ats H (ts.set i x) (as.set i a)
 | [],as,i,x,a,h,g=>by rw [Ats] at h;subst h;exact .nil
 | t::ts,as,i,x,a,h,g=>by
   rw [Ats] at h;obtain ⟨b,r,rfl,h1,h2⟩:=h;cases i with
   | zero=>exact .cons g h2
   | succ i=>exact .cons h1 (Ats.set i h2 g)
end BB
namespace PySem
theorem bb_extendT (l:Ui) (items:Array Ul) (n:Nat) (b:Ui) (zG:Array Ul) (n2:Nat) (dd:Option Ui) (sl:Array (Option Ul)) (g0:¬(!items.isEmpty && WJ (items.size+zG.size))=true) (g1:items.size<=UD) (g2:items.size+zG.size<=UD+1) :
 Meets (W4.«list.extend» ⟨[.ref l,.ref b],[]⟩) (fun _ R s=>s.heap.get? l=some { cls:=.type "list",dict:=none,data:=.seq items n,slots:=#[] }/\s.heap.get? b=some { cls:=.type "tuple",dict:=dd,data:=.seq zG n2,slots:=sl }/\R (.ok (.ret VQ)) { s with heap:=s.heap.update l (VA fun x=>x++zG),toks:=s.toks }) :=
 .of_wp fun prog w A R s h=>by
  obtain ⟨hp,g,d,tk,os⟩:=s;obtain ⟨hl,hb,h⟩:=h;have f1:=AutoSeq1.idx_int;have f2:=AutoSeq1.sub_tuple_tuple;have f3:=AutoSeq1.sub_list_list;have f4:=AutoSeq1.sub_tuple_list;have f5:=AutoSeq1.sub_list_tuple;have z2:(items++zG).size<=UD+1:=by rw [Array.size_append];exact g2
  wp_walk using (Wc hl rfl (hz:=g1) (_hz':=z2)),WL hl,WL hb
  exact ⟨_,rfl,h⟩
end PySem
namespace L2
open PySem PySem.Spec PyProof.Rows
section
variable {X:Cx}
def tV (K:Ug):V->List V->Hp->VK->Prop:=fun x vs H Q=>∃ l b xs zs,x=.ref l/\vs=[.ref b]/\H l=some (.lst xs)/\SqT K H b zs/\xs.length+zs.length<=UD/\Q .non (upd H l (.lst (xs++zs)))
theorem pS:MtM X "list.extend" (tV X.K):=by
 intro pins s σ H x vs v us Q I rx rv h;obtain ⟨l,b,xs,zs,rfl,rfl,hH,hB,hz,q⟩:=h;cases rx;obtain ⟨u,rfl,ru⟩:=rv.one;cases ru;obtain ⟨z,its,n,r,hl,e⟩:=I.lstM hH;obtain ⟨yf,r2,p2,_⟩:=I.tuple hB;have y4:=r2.length;obtain ⟨⟨GN,F0,data2,F1⟩,e2,B7,n2,hd2⟩:=p2;simp only at B7 hd2;subst B7 hd2;have hsz:its.toArray.size+yf.toArray.size<=UD:=by rw [Uu,Uu];omega
 have Cs:¬ (!its.toArray.isEmpty && WJ (its.toArray.size+yf.toArray.size))=true:=by
  rw [lu hsz,Yd];exact UI
 refine YU F.slot_list_extend ⟨_,e,rfl⟩ F.entry_list_extend (F.args_list_extend_2 _ _)
  (bb_extendT l its.toArray n b yf.toArray n2 F0 F1 Cs (by rw [Uu];omega) (by omega)) ⟨e,e2,?_⟩
 refine ⟨.non,_,I.lset (its':=its++yf) hH e (by simp) (r.append r2) ?_,rfl,q⟩;rw [UE];omega
theorem sv {bs:List Bool} {its:List Ul} (r:Vals (bs.map V.bl) its) {i:Nat} {v:Ul} (h:its[i]?=some v):∃ b,bs[i]?=some b/\v=.bool b:=by
 have hl:=r.length;have hi:i<its.length:=(Uk.mp h).1;rw [Uc] at hl;obtain ⟨u,hu,ru⟩:=r.get (i:=i) (x:=.bl bs[i]) (by rw [Uo,Ue (by omega)];rfl);rw [h] at hu;cases hu;cases ru;exact ⟨_,Ue (by omega),rfl⟩
def xE (K:Ug):List V->Hp->VK->Prop:=fun xs H Q=>∃ (p:Ui) (bs:List Bool),xs=[.ref p]/\SqL K H p (bs.map V.bl)/\Q (.bl (bs.all id)) H
theorem oz (hc:X.calm=true):g9 X (.builtin "all") (xE X.K):=by
 intro pins s σ H xs us Q I r h;obtain ⟨p,bs,rfl,hl,q⟩:=h;obtain ⟨u,rfl,rx⟩:=vals1 r;cases rx;obtain ⟨its,rv,pl,_⟩:=I.list hl;have hlen:=rv.length;rw [Uc] at hlen;have ym:p<s.heap.objs.size:=by obtain ⟨_,_,e,_⟩:=pl;exact UA e
 refine call_all_walk (wpAny_pyIter_list pl.isList ?_);refine ⟨s.heap.objs.size,[s.heap.objs.size,p],[s.heap.objs.size],its.toArray.size,_,_,fun i=>(bs[i]?).getD true,rfl,Walks.list (A:=X.A.in1) (I.ok.hd hc) _ p (U2 ym) its.toArray,⟨⟨_,Uy _ rfl,rfl,rfl⟩,pl.isList.push _⟩,fun i v s' Q' E' hP hQ=>?_,fun h' tk hk=>?_⟩
 · obtain ⟨b,e,rfl⟩:=sv rv (i:=i) (v:=v) (by simpa using hP);simp only [e,YZ] at hQ;exact XO hQ
 · have e:((U1 its.toArray.size).all fun i=>(bs[i]?).getD true)=bs.all id:=by
    rw [Uu,<- hlen];exact LSm.range_all bs
   rw [e];exact ⟨.bl (bs.all id),H,I.kept (LSm.kept_iter hk),rfl,q⟩
end
end L2
namespace BB
open PySem L2
def kDv (k:US×Int):Dv:=.tup [.str k.1,.int k.2]
theorem tF {H:Hp}:∀ {ks:List (US×Int)} {as:List Ui},UX (KAt H) ks as->DAts H (ks.map kDv) (as.map V.ref)
 | _,_,.nil=>.nil
 | _,_,.cons r h=>by
   rw [U8,U8];refine .cons ?_ (tF h);rw [kDv,DAt];exact ⟨_,_,rfl,r,.cons (by rw [DAt]) (.cons (by rw [DAt]) .nil)⟩
theorem kI:∀ ks:List (US×Int),cq (ks.map kDv)<=1
 | []=>by rw [Wq,cq];exact UO _
 | k::ks=>by
   have:=kI ks;rw [U8,cq,kDv];simp only [Dv.deep,cq];omega
def star:US:=Um "*"
theorem om {x:US} (h:Low x):x≠star:=by
 intro e;subst e;have:=h 42 (by decide +kernel);omega
open Classical in
def Th.isHole:Th->Bool
 | .knot n ks=>decide (n=star/\ks=[])
 | .call _ _=>false
def Th.isKnot (t:Th):Bool:=!t.isCall && !t.isHole
theorem qW {k:Nat} {A:U9} (hr:L2.Room k A):A.units+50+2<V3:=by
 have:=hr.units;omega
end BB
namespace PySem
open Sem (wp)
namespace F
theorem bb_entry_upd:entryFor table "dict.update.loop"=some W4.«dict.update.loop»:=entryFor_of_tree (by kernel_rfl)
theorem bb_plain_upd:plainId "dict.update.loop"=true:=by decide +kernel
end F
section
variable {prog:Uz} {w:UN} {A:U9} {E:Ul->Ur->Prop} {s:Ur} {a:Ui} {xs:Array Ul} {k:Nat}
end
end PySem
namespace L2
open PySem PySem.Spec PyProof.Rows BB
section
variable {X:Cx}
end
end L2
namespace BB
open PySem L2
end BB
namespace HT
open PySem PySem.Spec PyProof.Rows
section
variable {prog:Uz} {w:UN} {A:U9} {E:Ul->Ur->Prop} {s:Ur}
theorem getItem_tuple_whole {t sl:Ui} {items:Array Ul} {vl vu:Ul} {lo hi:Option Int} {Q:Ul->Ur->Prop} (ht:IsTup s.heap t items) (hs:s.heap.IsSliceOf sl vl vu .none) (pl:Zr vl lo) (pu:Zr vu hi)
 (hw:sIx items.size 0 lo=0/\sIx items.size items.size hi=items.size) (h:Q (.ref t) s):UC (U0 prog w) A (Yp (.ref t) (.ref sl)) Q E s:=by
 obtain ⟨os,Az,B8,Ar⟩:=id hs;have GO:s.TypeIs (.ref sl) "slice":=⟨os,Az,B8⟩;have hT:s.TypeIs (.ref t) "tuple":=ht.typeIs;unfold Yp
 try with_reducible refine VP ?_
 first | refine Ud (Uq ?_) | skip
 refine Ud (wpAny_sequenceKey ht.typeIs (by decide) ?_)
 refine Ud (Vr (name:=Um "__getitem__") ht.typeIs Vb
  (Vz Vb ht.typeIs entry_tuple_getitem ?_ (args_tuple_getitem _ _)))
 show UC _ _ (X1 (.ref t) >>= _) _ _ s;refine Ud (tupleItemsOf_ ht ?_);refine Ud (W0 GO ?_);rw [if_pos (by decide)];refine Ud (sliceApplied_gen hs pl pu ?_)
 have K':(((sIx items.size 0 lo:Nat):Int) == 0 && (1:Int) == 1 && (sIx items.size items.size hi - sIx items.size 0 lo) == items.size)=true:=by
  rw [hw.1,hw.2];simp
 show UC _ _ (if (((sIx items.size 0 lo:Nat):Int) == 0 && (1:Int) == 1 && (sIx items.size items.size hi - sIx items.size 0 lo) == items.size)=true then _ else _) _ _ s;rw [if_pos K'];refine Ud (m:=Builtin.Tuple.tupleIsExact _) ?_;unfold Builtin.Tuple.tupleIsExact;refine Ud (W0 hT (Uq ?_));rw [if_pos (by decide)];exact Ud (Xa (Uq ⟨_,rfl,Uq h⟩))
end
end HT
namespace L2
open PySem PySem.Spec PyProof.Rows
end L2
namespace PySem
open Sem (wp)
section
variable {prog:Uz} {w:UN} {A:U9} {E:Ul->Ur->Prop} {s:Ur} {it d:Ui} {i ep:Nat} {od:WA} {es:Array DictEntry}
theorem bb_keyNext {en:DictEntry} {Q:Option Ul->Ur->Prop} (g:s.heap.IsKeyIter it d i es.size ep) (g1:s.heap.get? d=some od) (g2:od.data=.dict es ep) (hx:es[i]?=some en)
 (fin:∀ h',h'.IsKeyIter it d (i+1) es.size ep->We it s.heap h'->Q (some en.key) { s with heap:=h' }):UC (U0 prog w) A (Xl (.ref it)) Q E s:=by
 obtain ⟨o,q1,q2,q3⟩:=id g;unfold Xl;refine Ud (Xk (Vr (name:=Um "__next__") g.typeIs WT (Vz WT g.typeIs F.entry_dict_keyiterator_next ?_ (F.args_dict_keyiterator_next_1 _))));refine Ud (Uq ?_);refine Ud ?_;refine Ud ?_
 first | refine Ud (Xx g.typeIs (Uq ?_)) | refine Ud (X8 g.typeIs (Uq ?_))
 refine Ud (wpAny_fieldsOf q1 q3 ?_);have own:Builtin.Dict_items.ownsTuple "dict_keyiterator"=false:=by decide
 simp only [own,VE,if_false];show UC _ _ (if (UZ d == VQ)=true then _ else _) _ _ s;rw [if_neg (show ¬ ((UZ d == VQ)=true) from UI)];refine Ud (Uq ?_);refine Ud (Y6 g1 g2 ?_);rw [if_neg (by simp)];refine Ud (Uq ?_);refine Ud (wpAny_dictEpoch g1 g2 ?_);rw [if_neg (by simp)];refine Uq ?_;have lt:i<es.size:=(YI.mp hx).1;have ee:es[i]=en:=(YI.mp hx).2;simp only [show ¬ ((i:Int)<0) from by omega,if_false,Vh,Wv lt];refine Ud ?_
 first | refine Ud (Xx g.typeIs (Uq ?_)) | refine Ud (X8 g.typeIs (Uq ?_))
 refine Ud (wpAny_isOneOf_keyiter g.typeIs ?_);show UC _ _ (setField (.ref it) 1 (WM ((i:Int)+1)) >>= _) _ _ s;refine Ud (XU q1 q3 (by simp) ?_);have g':(s.heap.update it (Obj.mapFields (·.setIfInBounds 1 (WM ((i:Int)+1))))).IsKeyIter it d (i+1) es.size ep:=⟨_,U7 _ q1 (Yx (WG q3 _)),(Obj.cls_mapFields ..).trans q2,by rw [WG q3];simp [WM]⟩;refine Ud (VP ?_);refine Ud (wpAny_isOneOf_keyiter (s:={ s with heap:=s.heap.update it (Obj.mapFields (·.setIfInBounds 1 (WM ((i:Int)+1)))) }) g'.typeIs ?_);show UC _ _ (pure es[i].key) _ _ _;rw [ee];exact Uq (Uq ⟨_,rfl,Uq (fin _ g' (Wy ..))⟩)
theorem bb_keyEnd {Q:Option Ul->Ur->Prop} (calm:A.handled=none) (g:s.heap.IsKeyIter it d i es.size ep) (g1:s.heap.get? d=some od) (g2:od.data=.dict es ep) (hx:es.size<=i)
 (fin:∀ h',ZR it s.heap h'->Q none { s with heap:=h' }):UC (U0 prog w) A (Xl (.ref it)) Q E s:=by
 obtain ⟨o,q1,q2,q3⟩:=id g;unfold Xl;refine Ud (Xk (Vr (name:=Um "__next__") g.typeIs WT (Vz WT g.typeIs F.entry_dict_keyiterator_next ?_ (F.args_dict_keyiterator_next_1 _))));refine Ud (Uq ?_);refine Ud ?_;refine Ud ?_
 first | refine Ud (Xx g.typeIs (Uq ?_)) | refine Ud (X8 g.typeIs (Uq ?_))
 refine Ud (wpAny_fieldsOf q1 q3 ?_);have own:Builtin.Dict_items.ownsTuple "dict_keyiterator"=false:=by decide
 simp only [own,VE,if_false];show UC _ _ (if (UZ d == VQ)=true then _ else _) _ _ s;rw [if_neg (show ¬ ((UZ d == VQ)=true) from UI)];refine Ud (Uq ?_);refine Ud (Y6 g1 g2 ?_);rw [if_neg (by simp)];refine Ud (Uq ?_);refine Ud (wpAny_dictEpoch g1 g2 ?_);rw [if_neg (by simp)];refine Uq ?_;simp only [show ¬ ((i:Int)<0) from by omega,if_false,Vh,Ye hx];refine Ud ?_
 first | refine Ud (Xx g.typeIs (Uq ?_)) | refine Ud (X8 g.typeIs (Uq ?_))
 show UC _ _ (setField (.ref it) 0 .none >>= _) _ _ s;refine Ud (XU q1 q3 (by simp) ?_);show UC _ _ (newExc (.type "StopIteration") [] >>= _) _ _ _;refine Ud ?_;simp only [newExc,newTuple];refine Ud (Vy ?_ (by size_fits));refine Ud (m:=Yq _ _) (Xy (a:=VQ) (by first | rfl | (simp only [Yq];rfl)) ?_);refine Vy ?_ (by size_fits);simp only [raiseNew];refine Ud (wpAny_handled ?_)
 first | rw [show A.in1.handled=none from calm] | rw [calm]
 refine Ud (Uq (wpAny_throw ?_));refine Ud (W5 (T:="StopIteration") (b:=true) ⟨_,Uy _ rfl,rfl⟩ isSubtype_stop ?_);exact Uq (fin _ (((Wy ..).extBut.push _).push _))
theorem bb_keyIter {Q:Ul->Ur->Prop} (ns:(d == Wg)=false) (g1:s.heap.get? d=some od) (gc:od.cls=.type "dict") (g2:od.data=.dict es ep)
 (fin:Q (.ref s.heap.objs.size) { s with heap:=s.heap.push { cls:=.type "dict_keyiterator",data:=.fields #[.ref d,.int 0 0,.int es.size 0,.int ep 0] } }):UC (U0 prog w) A (pyIter (.ref d)) Q E s:=by
 have gT:s.TypeIs (.ref d) "dict":=⟨_,g1,gc⟩;refine wpAny_pyIter_slot gT F.slot_dict_iter (Vz F.slot_dict_iter gT F.entry_dict_iter ?_ (F.args_dict_iter_1 _));unfold W4.«dict.__iter__»;refine Ud ?_;unfold Builtin.Dict.dictSlotNone;refine Ud (Zz gT ?_);show UC _ _ (pure (UZ d)) _ _ s;refine Uq ?_;show UC _ _ (Builtin.Dict.showsAll d >>= _) _ _ s;unfold Builtin.Dict.showsAll;rw [if_neg (by rw [ns];exact UI)];refine Ud (Uq ?_);refine Ud (Y6 g1 g2 ?_);refine Ud (wpAny_dictEpoch g1 g2 ?_);refine Ud (Vy (Uq ⟨_,rfl,"dict_keyiterator",_,⟨_,Uy _ rfl,rfl⟩,WT.lookup,?_⟩));simpa [WM] using fin
end
end PySem
namespace L2
open PySem PySem.Spec PyProof.Rows
section
variable {X:Cx} {e:VC} {te:TE}
end
end L2
namespace BB
open PySem L2
inductive Top where
 | nm (n:US) (m:Nat)
 | th (t:Th)
def bl:List Top->List Th
 | []=>[]
 | .nm n m::S=>.knot n ((bl S).take m)::(bl S).drop m
 | .th t::S=>t::bl S
def TopsOk:List Top->Prop
 | []=>True
 | .nm _ m::S=>m<=(bl S).length/\TopsOk S
 | .th _::S=>TopsOk S
theorem TopsOk.drop:∀ {l:List Top} (i:Nat),TopsOk l->TopsOk (l.drop i)
 | l,0,h=>by rw [WE];exact h
 | [],i+1,h=>by rw [List.drop_nil];exact h
 | .nm n m::S,i+1,h=>by
   rw [TopsOk] at h;rw [Zq];exact TopsOk.drop i h.2
 | .th t::S,i+1,h=>by
   rw [TopsOk] at h;rw [Zq];exact TopsOk.drop i h
theorem pO:∀ l:List Top,(bl l).length<=l.length
 | []=>Uj _
 | .nm n m::S=>by
   have:=pO S;rw [bl,Ut,Ut,VG];omega
 | .th t::S=>by
   have:=pO S;rw [bl,Ut,Ut];omega
mutual
def Th.fill (f:Int->Int->Th):Th->Th
 | .knot n ks=>.knot n (fills f ks)
 | .call s k=>f s k
def fills (f:Int->Int->Th):List Th->List Th
 | []=>[]
 | t::ts=>t.fill f::fills f ts
end
theorem gM (f:Int->Int->Th):∀ ts:List Th,(fills f ts).length=ts.length
 | []=>by rw [fills]
 | t::ts=>by rw [fills,Ut,Ut,gM f ts]
mutual
theorem iW:∀ t:Th,t.fill Th.call=t
 | .knot n ks=>by rw [Th.fill,oG ks]
 | .call s k=>by rw [Th.fill]
theorem oG:∀ ts:List Th,fills Th.call ts=ts
 | []=>by rw [fills]
 | t::ts=>by rw [fills,iW t,oG ts]
end
def dX (f:Int->Int->Th):Th->Top
 | .knot n ks=>.nm n ks.length
 | .call s k=>.th (f s k)
theorem kB (f:Int->Int->Th):∀ (n:Nat) (ts:List Th),aq ts<=n->∀ S,bl ((walks ts).map (dX f)++S)=fills f ts++bl S/\(TopsOk S->TopsOk ((walks ts).map (dX f)++S))
 | _,[],_,S=>by rw [walks,fills];exact ⟨rfl,fun h=>h⟩
 | 0,t::ts,hn,S=>by
   have:=t.size_pos;rw [aq] at hn;omega
 | n+1,t::ts,hn,S=>by
   have hs:=t.size_eq;rw [aq] at hn;have h2:=kB f n ts (by omega) S;have e:(walks (t::ts)).map (dX f)++S=dX f t::((walks t.kids).map (dX f)++((walks ts).map (dX f)++S)):=by rw [walks,t.walk_eq];simp
   have h1:=kB f n t.kids (by omega) ((walks ts).map (dX f)++S);rw [e];cases t with
   | knot nm ks =>
     simp only [Th.kids] at h1 ⊢;refine ⟨?_,fun hS=>?_⟩
     · show bl (.nm nm ks.length::_)=_;rw [bl,h1.1,h2.1,<- gM f ks,List.take_left,List.drop_left,fills,Th.fill];rfl
     · show TopsOk (.nm nm ks.length::_);rw [TopsOk];refine ⟨?_,h1.2 (h2.2 hS)⟩;rw [h1.1,UE,gM];exact WQ _ _
   | call s k =>
     simp only [Th.kids,walks,Wq,Wh] at h1 ⊢;refine ⟨?_,fun hS=>?_⟩
     · show bl (.th (f s k)::_)=_;rw [bl,h2.1,fills,Th.fill];rfl
     · show TopsOk (.th (f s k)::_);rw [TopsOk];exact h2.2 hS
theorem rA (f:Int->Int->Th) (t:Th):bl (t.walk.map (dX f))=[t.fill f]/\TopsOk (t.walk.map (dX f)):=by
 have h:=kB f _ [t] (Uj _) [];have e:walks [t]=t.walk:=by simp [walks]
 rw [e,U6] at h;refine ⟨?_,h.2 (by rw [TopsOk];trivial)⟩;rw [h.1,fills,fills,bl];rfl
theorem qK (x:V) (xs:List V):du (x::xs) none (some 1)=[x]:=by
 unfold du;rw [show (some (1:Int))=some ((1:Nat):Int) from rfl,HT.sIx_nat,HT.sIx_none,Ut,Yu (by omega)];rfl
end BB
namespace PySem
open Sem (wp)
end PySem
namespace L2
open PySem PySem.Spec PyProof.Rows BB
end L2
namespace BB
open PySem L2
theorem lb {k:Nat} {A:U9} (hr:L2.Room k A):A.units+150+2<V3:=by
 have:=hr.un;omega
def hole:Th:=.knot star []
def Th.name:Th->US
 | .knot n _=>n
 | .call _ _=>q
def aC:Th->Th->Bool
 | .knot n ks,.knot m us=>!(Th.knot n ks).isHole && decide (n=m) && decide (ks.length=us.length)
 | _,_=>false
mutual
def Th.sbs:Th->Th->List (Th×Th)
 | .knot n ks,r=>(.knot n ks,r)::(if aC (.knot n ks) r=true then rH ks r.kids else [])
 | .call s k,r=>[(.call s k,r)]
def rH:List Th->List Th->List (Th×Th)
 | [],_=>[]
 | k::ks,us=>match us with
   | []=>[]
   | u::us=>k.sbs u++rH ks us
end
def wks:List (Th×Th)->List (Th×Th)
 | []=>[]
 | p::ps=>p.1.sbs p.2++wks ps
theorem kx:∀ a b:List (Th×Th),wks (a++b)=wks a++wks b
 | [],b=>rfl
 | p::a,b=>by rw [Wm,wks,wks,kx a b,Vo]
theorem qG:∀ ks us:List Th,wks (ks.zip us)=rH ks us
 | [],_=>by rw [YJ,wks,rH]
 | k::ks,[]=>by rw [YE,wks,rH]
 | k::ks,u::us=>by rw [Xp,wks,rH,qG ks us]
theorem Th.sbs_eq (l r:Th):l.sbs r=(l,r)::(if aC l r=true then wks (l.kids.zip r.kids) else []):=by
 cases l with
 | knot n ks=>rw [Th.sbs,qG];rfl
 | call s k =>
   rw [Th.sbs];have:aC (.call s k) r=false:=by cases r <;> rfl
   rw [this];rfl
def szL:List (Th×Th)->Nat
 | []=>0
 | p::ps=>p.1.size+szL ps
theorem dJ:∀ a b,szL (a++b)=szL a+szL b
 | [],b=>by simp [szL]
 | p::a,b=>by rw [Wm,szL,szL,dJ a b,YR]
theorem qO (a:List (Th×Th)):szL a.reverse=szL a:=by
 induction a with
 | nil=>rfl
 | cons x xs ih=>rw [Vu,dJ,ih,szL,szL,szL];omega
theorem i3:∀ ks us:List Th,szL (ks.zip us)<=aq ks
 | [],_=>by rw [YJ,szL];exact UO _
 | k::ks,[]=>by rw [YE,szL];exact UO _
 | k::ks,u::us=>by
   have:=i3 ks us;rw [Xp,szL,aq];show k.size+_<=_;omega
theorem nL:∀ a:List (Th×Th),a.length<=szL a
 | []=>UO _
 | p::a=>by
   have:=p.1.size_pos;have:=nL a;rw [Ut,szL];omega
theorem nw:∀ (n:Nat) (ps:List (Th×Th)),szL ps<=n->(wks ps).length<=szL ps
 | _,[],_=>UO _
 | 0,p::ps,h=>by
   have:=p.1.size_pos;rw [szL] at h;omega
 | n+1,p::ps,h=>by
   have hs:=p.1.size_eq;have hz:=i3 p.1.kids p.2.kids;rw [szL] at h;have h1:=nw n ps (by omega);have h2:=nw n (p.1.kids.zip p.2.kids) (by omega);rw [wks,Th.sbs_eq,szL,UE,Ut];split
   · omega
   · rw [WI];omega
theorem uE (l r:Th):(l.sbs r).length<=l.size:=by
 have:=nw _ [(l,r)] (Uj _);rw [wks,wks,U6,szL,szL] at this;exact this
theorem nX:∀ (n:Nat) (ps:List (Th×Th)),szL ps<=n->∀ x∈wks ps,∃ p∈ps,x.1.tall<=p.1.tall/\x.2.tall<=p.2.tall/\x.1.size<=p.1.size/\x.2.size<=p.2.size
 | _,[],_,x,h=>nomatch h
 | 0,p::ps,h,x,_=>by
   have:=p.1.size_pos;rw [szL] at h;omega
 | n+1,p::ps,h,x,hx=>by
   have hs:=p.1.size_eq;have hz:=i3 p.1.kids p.2.kids;rw [szL] at h;rw [wks,Th.sbs_eq,Ve] at hx;rcases hx with hx | hx
   · rcases UK.mp hx with rfl | hx
     · exact ⟨p,UH ..,Uj _,Uj _,Uj _,Uj _⟩
     · split at hx
       · obtain ⟨y,hy,h1,h2,h3,h4⟩:=nX n _ (by omega) x hx;have m1:y.1∈p.1.kids:=(Xs hy).1;have m2:y.2∈p.2.kids:=(Xs hy).2;have t1:=bT m1;have t2:=bT m2;have z1:=aN m1;have z2:=aN m2;have e1:=p.1.tall_eq;have e2:=p.2.tall_eq;have e4:=p.2.size_eq;exact ⟨p,UH ..,by omega,by omega,by omega,by omega⟩
       · cases hx
   · obtain ⟨y,hy,r⟩:=nX n ps (by omega) x hx;exact ⟨y,UJ _ hy,r⟩
theorem uO {l r:Th} {x:Th×Th} (h:x∈l.sbs r):x.1.tall<=l.tall/\x.2.tall<=r.tall/\x.1.size<=l.size/\x.2.size<=r.size:=by
 obtain ⟨p,hp,r⟩:=nX _ [(l,r)] (Uj _) x (by rw [wks,wks,U6];exact h);rw [UP] at hp;subst hp;exact r
mutual
def Th.lies:Th->Th->Bool
 | .knot n ks,r=>(Th.knot n ks).isHole || (aC (.knot n ks) r && cj ks r.kids)
 | .call _ _,_=>false
def cj:List Th->List Th->Bool
 | [],_=>true
 | k::ks,us=>match us with
   | []=>true
   | u::us=>k.lies u && cj ks us
end
theorem i8 {l r:Th} (h:l.isHole=true):aC l r=false:=by
 cases l with
 | knot n ks =>
   cases r with
   | knot m us =>
     show (!(Th.knot n ks).isHole && decide (n=m) && decide (ks.length=us.length))=false;rw [h];rfl
   | call s k=>rfl
 | call s k=>cases h
mutual
def Th.noCall:Th->Prop
 | .knot _ ks=>cE ks
 | .call _ _=>False
def cE:List Th->Prop
 | []=>True
 | t::ts=>t.noCall/\cE ts
end
theorem cu:∀ {ts:List Th} {t:Th},cE ts->t∈ts->t.noCall
 | [],_,_,h=>nomatch h
 | u::ts,t,hn,h=>by
   rw [cE] at hn;rcases UK.mp h with rfl | h
   · exact hn.1
   · exact cu hn.2 h
end BB
namespace BB
open PySem L2
def Th.wid:Th->Nat
 | .knot _ ks=>ks.length
 | .call _ _=>2
theorem bu {l r:Th} (h:aC l r=true):∃ n ks us,l=.knot n ks/\r=.knot n us/\ks.length=us.length/\l.isHole=false:=by
 cases l with
 | knot n ks =>
   cases r with
   | knot m us =>
     have h':(!(Th.knot n ks).isHole && decide (n=m) && decide (ks.length=us.length))=true:=h;simp only [Wn,decide_eq_true_eq,Bool.not_eq_true'] at h';obtain ⟨⟨h1,h2⟩,h3⟩:=h';subst h2;exact ⟨n,ks,us,rfl,rfl,h3,h1⟩
   | call s k=>cases h
 | call s k=>cases r <;> cases h
theorem tI (l r:Th) (S:List (Th×Th)):wks ((l,r)::S)=(l,r)::((if aC l r=true then wks (l.kids.zip r.kids) else [])++wks S):=by
 rw [wks,Th.sbs_eq];rfl
end BB
namespace BB
open PySem L2
theorem jF:hole.noCall:=by rw [hole,Th.noCall,cE];trivial
theorem fW:hole.isHole=true:=by
 show decide (star=star/\([]:List Th)=[])=true;exact decide_eq_true ⟨rfl,rfl⟩
theorem mT:hole.tall=1:=by rw [hole,Th.tall,bE]
theorem eQ:hole.size=1:=by rw [hole,Th.size,aq]
theorem qC:star≠q:=by decide
theorem uS {H:Hp} {a:Ui} (h:H a=some (.tup [.str star])):At H hole a:=by
 rw [hole,At];exact ⟨qC,[],h,.nil⟩
end BB
namespace L2
open PySem PySem.Spec PySem.SeqAt PyProof.Rows BB
open Classical in
theorem qb {ds es:List Dv} (hl:ds.length=es.length):(U1 ds.length).all (fun j=>decide (ds[j]?=es[j]?))=decide (ds=es):=by
 by_cases h:ds=es
 · subst h;rw [decide_eq_true rfl];simp
 · rw [decide_eq_false h];refine VT.mpr fun z=>h (Wr fun j=>?_);by_cases hj:j<ds.length
   · exact of_decide_eq_true (WS.mp z j (WD.mpr hj))
   · rw [Vq (by omega),Vq (by omega)]
end L2
namespace BB
open PySem L2
theorem iI {k u:Th} {ks us:List Th}:cj (k::ks) (u::us)=(k.lies u && cj ks us):=by rw [cj]
theorem pick {α β γ:Type} {F:α->β->Prop} {G:α->β->γ->Prop} (h:∀ x a,F x a->∃ c,G x a c):∀ {xs:List α} {as:List β},UX F xs as->∃ cs:List γ,cs.length=as.length/\∀ (i:Nat) x a c,xs[i]?=some x->as[i]?=some a->cs[i]?=some c->G x a c
 | _,_,.nil=>⟨[],rfl,fun i x a c e=>by simp at e⟩
 | _,_,.cons r t=>by
   obtain ⟨c,hc⟩:=h _ _ r;obtain ⟨cs,h1,h2⟩:=pick h t;refine ⟨c::cs,by rw [Ut,Ut,h1],fun i x a c' e1 e2 e3=>?_⟩;cases i with
   | zero=>simp at e1 e2 e3;subst e1 e2 e3;exact hc
   | succ i=>exact h2 i x a c' (by simpa using e1) (by simpa using e2) (by simpa using e3)
theorem qT {α γ:Type} {R:α->γ->Prop} (p:α->Bool):∀ {xs:List α} {cs:List γ},xs.length=cs.length->(∀ (i:Nat) x c,xs[i]?=some x->cs[i]?=some c->R x c)->UX R (xs.filter p) (((xs.zip cs).filter fun z=>p z.1).map (·.2))
 | [],[],_,_=>.nil
 | [],_::_,h,_=>by simp at h
 | _::_,[],h,_=>by simp at h
 | x::xs,c::cs,h,r=>by
   rw [Xp,Wa,Wa];have ih:=qT p (xs:=xs) (cs:=cs) (R:=R) (by simpa using h) fun i x' c' e1 e2=>r (i+1) x' c' (by simpa using e1) (by simpa using e2);by_cases e:p x=true
   · rw [if_pos e,if_pos e];exact .cons (r 0 x c rfl rfl) ih
   · rw [if_neg e,if_neg e];exact ih
theorem P2.mapl {α β γ:Type} {R:β->γ->Prop} (f:α->β):∀ {xs:List α} {cs:List γ},UX (fun x c=>R (f x) c) xs cs->UX R (xs.map f) cs
 | _,_,.nil=>.nil
 | _,_,.cons r h=>.cons r (P2.mapl f h)
end BB
namespace BB
open PySem L2
def TK (K:Ug) (H:Hp) (a:Ui) (xs:List V):Prop:=H a=some (.tup xs)∨∃ (o:WA) (its:Array Ul) (n:Nat),K.lookup a=some o/\o.cls=.type "tuple"/\o.data=.seq its n/\its.size<=UD/\Vals xs its.toList
theorem TK.of {K:Ug} {H:Hp} {a:Ui} {xs:List V} (h:H a=some (.tup xs)):TK K H a xs:=.inl h
theorem TK.sq {K:Ug} {H:Hp} {a:Ui} {xs:List V} (h:TK K H a xs):SqT K H a xs:=by
 rcases h with h | h
 · exact SqT.of h
 · exact .inr h
theorem TK.mono {K:Ug} {H H':Hp} {a:Ui} {xs:List V} (h:TK K H a xs) (k:KT H H'):TK K H' a xs:=by
 rcases h with h | h
 · exact .inl (k _ _ h)
 · exact .inr h
mutual
def AtK (K:Ug) (H:Hp):Th->Ui->Prop
 | .knot n ks,a=>n≠q/\∃ as:List Ui,TK K H a (.str n::as.map V.ref)/\AtsK K H ks as
 | .call s k,a=>TK K H a [.str q,.int s,.int k]
def AtsK (K:Ug) (H:Hp):List Th->List Ui->Prop
 | [],as=>as=[]
 | t::ts,as=>∃ a r,as=a::r/\AtK K H t a/\AtsK K H ts r
end
mutual
theorem AtK.mono {K:Ug} {H H':Hp} (k:KT H H'):∀ {t:Th} {a:Ui},AtK K H t a->AtK K H' t a
 | .knot n ks,a,h=>by
   rw [AtK] at h ⊢;obtain ⟨h0,as,h1,h2⟩:=h;exact ⟨h0,as,h1.mono k,AtsK.mono k h2⟩
 | .call s c,a,h=>by
   rw [AtK] at h ⊢;exact h.mono k
theorem AtsK.mono {K:Ug} {H H':Hp} (k:KT H H'):∀ {ts:List Th} {as:List Ui},AtsK K H ts as->AtsK K H' ts as
 | [],as,h=>by rw [AtsK] at h ⊢;exact h
 | t::ts,as,h=>by
   rw [AtsK] at h ⊢;obtain ⟨a,r,e,h1,h2⟩:=h;exact ⟨a,r,e,AtK.mono k h1,AtsK.mono k h2⟩
end
theorem AtsK.nil {K:Ug} {H:Hp}:AtsK K H [] []:=by rw [AtsK]
theorem AtsK.cons {K:Ug} {H:Hp} {t:Th} {ts:List Th} {a:Ui} {as:List Ui} (h1:AtK K H t a) (h2:AtsK K H ts as):AtsK K H (t::ts) (a::as):=by rw [AtsK];exact ⟨a,as,rfl,h1,h2⟩
theorem AtsK.append {K:Ug} {H:Hp}:∀ {ts us:List Th} {as bs:List Ui},AtsK K H ts as->AtsK K H us bs->AtsK K H (ts++us) (as++bs)
 | [],us,as,bs,h,g=>by rw [AtsK] at h;subst h;exact g
 | t::ts,us,as,bs,h,g=>by
   rw [AtsK] at h;obtain ⟨a,r,rfl,h1,h2⟩:=h;exact .cons h1 (h2.append g)
theorem AtsK.length {K:Ug} {H:Hp}:∀ {ts:List Th} {as:List Ui},AtsK K H ts as->as.length=ts.length
 | [],as,h=>by rw [AtsK] at h;subst h;rfl
 | t::ts,as,h=>by
   rw [AtsK] at h;obtain ⟨a,r,rfl,h1,h2⟩:=h;rw [Ut,Ut,h2.length]
theorem AtsK.reverse {K:Ug} {H:Hp}:∀ {ts:List Th} {as:List Ui},AtsK K H ts as->AtsK K H ts.reverse as.reverse
 | [],as,h=>by rw [AtsK] at h;subst h;exact .nil
 | t::ts,as,h=>by
   rw [AtsK] at h;obtain ⟨a,r,rfl,h1,h2⟩:=h;rw [Vu,Vu];exact h2.reverse.append (.cons h1 .nil)
theorem AtsK.get {K:Ug} {H:Hp}:∀ {ts:List Th} {as:List Ui} {i:Nat} {a:Ui},AtsK K H ts as->as[i]?=some a->∃ t,ts[i]?=some t/\AtK K H t a
 | [],as,i,a,h,e=>by rw [AtsK] at h;subst h;simp at e
 | t::ts,as,i,a,h,e=>by
   rw [AtsK] at h;obtain ⟨b,r,rfl,h1,h2⟩:=h;cases i with
   | zero=>simp at e;subst e;exact ⟨t,rfl,h1⟩
   | succ i=>exact h2.get (i:=i) (by simpa using e)
theorem AtsK.at {K:Ug} {H:Hp}:∀ {ts:List Th} {as:List Ui} {i:Nat} {t:Th},AtsK K H ts as->ts[i]?=some t->∃ a,as[i]?=some a/\AtK K H t a
 | [],as,i,a,h,e=>by simp at e
 | t::ts,as,i,a,h,e=>by
   rw [AtsK] at h;obtain ⟨b,r,rfl,h1,h2⟩:=h;cases i with
   | zero=>simp at e;subst e;exact ⟨b,rfl,h1⟩
   | succ i=>exact h2.at (i:=i) (by simpa using e)
theorem AtsK.snoc_inv {K:Ug} {H:Hp} {ts:List Th} {as:List Ui} {a:Ui} (h:AtsK K H ts (as++[a])):∃ us t,ts=us++[t]/\AtsK K H us as/\AtK K H t a:=by
 have r:=h.reverse;rw [VR,List.reverse_singleton,List.singleton_append] at r;cases e:ts.reverse with
 | nil=>rw [e,AtsK] at r;cases r
 | cons t us =>
   rw [e,AtsK] at r;obtain ⟨b,z,e1,h1,h2⟩:=r;cases e1;refine ⟨us.reverse,t,?_,?_,h1⟩
   · rw [<- Vu,<- e,Wl]
   · have:=h2.reverse;rw [Wl] at this;exact this
mutual
def DAtK (K:Ug) (H:Hp):Dv->V->Prop
 | .int i,v=>v=.int i
 | .str x,v=>v=.str x
 | .tup ds,v=>∃ a vs,v=.ref a/\TK K H a vs/\DAtsK K H ds vs
def DAtsK (K:Ug) (H:Hp):List Dv->List V->Prop
 | [],vs=>vs=[]
 | d::ds,vs=>∃ v r,vs=v::r/\DAtK K H d v/\DAtsK K H ds r
end
theorem DAtsK.nil {K:Ug} {H:Hp}:DAtsK K H [] []:=by rw [DAtsK]
theorem DAtsK.cons {K:Ug} {H:Hp} {d:Dv} {ds:List Dv} {v:V} {vs:List V} (h1:DAtK K H d v) (h2:DAtsK K H ds vs):DAtsK K H (d::ds) (v::vs):=by rw [DAtsK];exact ⟨v,vs,rfl,h1,h2⟩
theorem DAtsK.length {K:Ug} {H:Hp}:∀ {ds:List Dv} {vs:List V},DAtsK K H ds vs->vs.length=ds.length
 | [],vs,h=>by rw [DAtsK] at h;subst h;rfl
 | d::ds,vs,h=>by
   rw [DAtsK] at h;obtain ⟨v,r,rfl,h1,h2⟩:=h;rw [Ut,Ut,h2.length]
theorem DAtsK.at {K:Ug} {H:Hp}:∀ {ds:List Dv} {vs:List V} {i:Nat} {d:Dv},DAtsK K H ds vs->ds[i]?=some d->∃ v,vs[i]?=some v/\DAtK K H d v
 | [],vs,i,d,h,e=>by simp at e
 | d0::ds,vs,i,d,h,e=>by
   rw [DAtsK] at h;obtain ⟨v,r,rfl,h1,h2⟩:=h;cases i with
   | zero=>simp at e;subst e;exact ⟨v,rfl,h1⟩
   | succ i =>
     obtain ⟨u,g1,g2⟩:=h2.at (i:=i) (by simpa using e);exact ⟨u,by simpa using g1,g2⟩
mutual
theorem AtK.dv {K:Ug} {H:Hp}:∀ {t:Th} {a:Ui},AtK K H t a->DAtK K H t.dv (.ref a)
 | .knot n ks,a,h=>by
   rw [AtK] at h;obtain ⟨_,as,h1,h2⟩:=h;rw [Th.dv,DAtK];exact ⟨a,_,rfl,h1,.cons (by rw [DAtK]) (AtsK.dvs h2)⟩
 | .call s k,a,h=>by
   rw [AtK] at h;rw [Th.dv,DAtK];exact ⟨a,_,rfl,h,.cons (by rw [DAtK]) (.cons (by rw [DAtK]) (.cons (by rw [DAtK]) .nil))⟩
theorem AtsK.dvs {K:Ug} {H:Hp}:∀ {ts:List Th} {as:List Ui},AtsK K H ts as->DAtsK K H (dvs ts) (as.map V.ref)
 | [],as,h=>by rw [AtsK] at h;subst h;rw [BB.dvs];exact .nil
 | t::ts,as,h=>by
   rw [AtsK] at h;obtain ⟨a,r,rfl,h1,h2⟩:=h;rw [BB.dvs,U8];exact .cons (AtK.dv h1) (AtsK.dvs h2)
end
mutual
theorem At.k {K:Ug} {H:Hp}:∀ {t:Th} {a:Ui},At H t a->AtK K H t a
 | .knot n ks,a,h=>by
   rw [At] at h;rw [AtK];obtain ⟨h0,as,h1,h2⟩:=h;exact ⟨h0,as,.of h1,Ats.k h2⟩
 | .call s c,a,h=>by
   rw [At] at h;rw [AtK];exact .of h
theorem Ats.k {K:Ug} {H:Hp}:∀ {ts:List Th} {as:List Ui},Ats H ts as->AtsK K H ts as
 | [],as,h=>by rw [Ats] at h;rw [AtsK];exact h
 | t::ts,as,h=>by
   rw [Ats] at h;rw [AtsK];obtain ⟨a,r,e,h1,h2⟩:=h;exact ⟨a,r,e,At.k h1,Ats.k h2⟩
end
theorem AtK.row {K:Ug} {H:Hp} {t:Th} {a:Ui} (h:AtK K H t a):∃ r,TK K H a (.str t.name::r)/\r.length=t.wid:=by
 cases t with
 | knot n ks =>
   rw [AtK] at h;obtain ⟨_,as,h1,h2⟩:=h;exact ⟨_,h1,by rw [Uc,h2.length];rfl⟩
 | call s k =>
   rw [AtK] at h;exact ⟨_,h,rfl⟩
theorem pH {K:Ug} {H:Hp} {l:Th} {x:Ui} (h:AtK K H l x) (r:Th):aC l r=(l.isKnot && (decide (l.name=r.name) && decide (l.wid=r.wid))):=by
 cases l with
 | knot n ks =>
   rw [AtK] at h;cases r with
   | knot m us =>
     show (!(Th.knot n ks).isHole && decide (n=m) && decide (ks.length=us.length))=(!false && !(Th.knot n ks).isHole && (decide (n=m) && decide (ks.length=us.length)));rw [Bool.and_assoc];rfl
   | call s k =>
     show false=(_ && (decide (n=q) && _));rw [decide_eq_false h.1];simp
 | call s k=>cases r <;> rfl
theorem xF {K:Ug} {H:Hp} {a b:Ui} {xs ys:List V} {Q:VK} (ha:TK K H a xs) (hb:TK K H b ys) (hz:xs.length+ys.length<=1000000) (q:∀ p H',L2.Same H H'->TK K H' p (xs++ys)->Q (.ref p) H'):kR K (.ref a) (.ref b) H Q:=by
 refine ⟨a,b,xs,ys,rfl,rfl,ha.sq,hb.sq,ai hz,fun e=>?_,fun _ e=>?_,fun _ _ p hp=>?_⟩
 · exact q b H (.refl _) (by rw [e];exact hb)
 · exact q a H (.refl _) (by rw [e,U6];exact ha)
 · exact q p _ (ad hp _) (.of ab)
def PPK (K:Ug) (H:Hp) (p:Th×Th) (a:Ui):Prop:=∃ x y,H a=some (.tup [.ref x,.ref y])/\AtK K H p.1 x/\AtK K H p.2 y
theorem PPK.mono {K:Ug} {H H':Hp} (k:KT H H') {p:Th×Th} {a:Ui} (h:PPK K H p a):PPK K H' p a:=by
 obtain ⟨x,y,h1,h2,h3⟩:=h;exact ⟨x,y,k _ _ h1,h2.mono k,h3.mono k⟩
theorem dw {K:Ug} {H H':Hp} (k:KT H H') {ps:List (Th×Th)} {as:List Ui} (h:UX (PPK K H) ps as):UX (PPK K H') ps as:=P2.mp (fun _ _ e=>PPK.mono k e) h
theorem oA {K:Ug} {H:Hp}:∀ {ks us:List Th} {as bs ts:List Ui},AtsK K H ks as->AtsK K H us bs->UX (fun (p:V×V) t=>H t=some (.tup [p.1,p.2])) ((as.map V.ref).zip (bs.map V.ref)) ts->UX (PPK K H) (ks.zip us) ts
 | [],us,as,bs,ts,h1,h2,h=>by
   rw [AtsK] at h1;subst h1;rw [Wq,YJ] at h;cases h;rw [YJ];exact .nil
 | k::ks,[],as,bs,ts,h1,h2,h=>by
   rw [AtsK] at h2;subst h2;rw [Wq,YE] at h;cases h;rw [YE];exact .nil
 | k::ks,u::us,as,bs,ts,h1,h2,h=>by
   rw [AtsK] at h1 h2;obtain ⟨a,ar,rfl,a1,a2⟩:=h1;obtain ⟨b,br,rfl,b1,b2⟩:=h2;rw [U8,U8,Xp] at h;cases h with
   | cons r h =>
     rw [Xp];exact .cons ⟨a,b,r,a1,b1⟩ (oA a2 b2 h)
def TopAtK (K:Ug) (H:Hp):Top->Ui->Prop
 | .nm n m,a=>∃ ta,H a=some (.tup [.ref ta,.int (m:Nat)])/\n≠q/\TK K H ta [.str n]
 | .th t,a=>∃ ta,H a=some (.tup [.ref ta,.int 0])/\AtK K H t ta
theorem TopAtK.mono {K:Ug} {H H':Hp} (k:KT H H'):∀ {x:Top} {a:Ui},TopAtK K H x a->TopAtK K H' x a
 | .nm n m,a,h=>by
   obtain ⟨ta,h1,h2,h3⟩:=h;exact ⟨ta,k _ _ h1,h2,h3.mono k⟩
 | .th t,a,h=>by
   obtain ⟨ta,h1,h2⟩:=h;exact ⟨ta,k _ _ h1,h2.mono k⟩
theorem dL {K:Ug} {H H':Hp} (k:KT H H') {l:List Top} {as:List Ui} (h:UX (TopAtK K H) l as):UX (TopAtK K H') l as:=P2.mp (fun _ _ e=>TopAtK.mono k e) h
theorem AtK.whole {K:Ug} {H:Hp} {t:Th} {a:Ui} (h:AtK K H t a):∃ xs,TK K H a xs/\xs.length<=t.size+2/\∀ (H':Hp) (p:Ui),KT H H'->TK K H' p xs->AtK K H' t p:=by
 cases t with
 | knot n ks =>
   rw [AtK] at h;obtain ⟨h0,as,h1,h2⟩:=h;refine ⟨_,h1,?_,fun H' p kt hp=>?_⟩
   · have:=h2.length;have:=bJ ks;rw [Ut,Uc,Th.size];omega
   · rw [AtK];exact ⟨h0,as,hp,h2.mono kt⟩
 | call s k =>
   rw [AtK] at h;refine ⟨_,h,by rw [Th.size];exact Uj _,fun H' p kt hp=>?_⟩;rw [AtK];exact hp
theorem uu {K:Ug} {H:Hp} {a:Ui} (h:TK K H a [.str star]):AtK K H hole a:=by
 rw [hole,AtK];exact ⟨qC,[],h,by rw [AtsK]⟩
mutual
theorem DAtK.inj {X:Cx} {pins:List (Ui×WA)} {σ:St} {H:Hp} {s:Ur} (I:Inv X pins σ H s):∀ {d e:Dv} {v:V},DAtK X.K H d v->DAtK X.K H e v->d=e
 | .int i,.int j,v,h,g=>by rw [DAtK] at h;rw [DAtK] at g;rw [h] at g;cases g;rfl
 | .int i,.str y,v,h,g=>by rw [DAtK] at h;rw [DAtK] at g;rw [h] at g;cases g
 | .int i,.tup es,v,h,g=>by rw [DAtK] at h;rw [DAtK] at g;obtain ⟨a,vs,e,_⟩:=g;rw [h] at e;cases e
 | .str x,.int j,v,h,g=>by rw [DAtK] at h;rw [DAtK] at g;rw [h] at g;cases g
 | .str x,.str y,v,h,g=>by rw [DAtK] at h;rw [DAtK] at g;rw [h] at g;cases g;rfl
 | .str x,.tup es,v,h,g=>by rw [DAtK] at h;rw [DAtK] at g;obtain ⟨a,vs,e,_⟩:=g;rw [h] at e;cases e
 | .tup ds,.int j,v,h,g=>by rw [DAtK] at h;rw [DAtK] at g;obtain ⟨a,vs,e,_⟩:=h;rw [e] at g;cases g
 | .tup ds,.str y,v,h,g=>by rw [DAtK] at h;rw [DAtK] at g;obtain ⟨a,vs,e,_⟩:=h;rw [e] at g;cases g
 | .tup ds,.tup es,v,h,g=>by
   rw [DAtK] at h;rw [DAtK] at g;obtain ⟨a,vs,e1,h1,h2⟩:=h;obtain ⟨b,ws,e2,g1,g2⟩:=g;rw [e1] at e2;cases e2;have e3:=I.tuple_inj h1.sq g1.sq;subst e3;rw [DAtsK.inj I h2 g2]
theorem DAtsK.inj {X:Cx} {pins:List (Ui×WA)} {σ:St} {H:Hp} {s:Ur} (I:Inv X pins σ H s):∀ {ds es:List Dv} {vs:List V},DAtsK X.K H ds vs->DAtsK X.K H es vs->ds=es
 | [],[],vs,h,g=>rfl
 | [],e::es,vs,h,g=>by rw [DAtsK] at h;rw [DAtsK] at g;obtain ⟨v,r,z,_⟩:=g;rw [h] at z;cases z
 | d::ds,[],vs,h,g=>by rw [DAtsK] at h;rw [DAtsK] at g;obtain ⟨v,r,z,_⟩:=h;rw [g] at z;cases z
 | d::ds,e::es,vs,h,g=>by
   rw [DAtsK] at h;rw [DAtsK] at g;obtain ⟨v,r,z,h1,h2⟩:=h;obtain ⟨v',r',z',g1,g2⟩:=g;rw [z] at z';cases z';rw [DAtK.inj I h1 g1,DAtsK.inj I h2 g2]
end
end BB
namespace L2
open PySem PySem.Spec PySem.SeqAt PyProof.Rows BB
open Classical in
theorem mI {X:Cx} {pins:List (Ui×WA)} {σ:St} {H:Hp} {s:Ur} (I:Inv X pins σ H s) {ds es:List Dv} {a b:Ui} {vs ws:List V} {A:U9} (ha:SqT X.K H a vs) (hb:SqT X.K H b ws) (Aw:DAtsK X.K H ds vs) (yO:DAtsK X.K H es ws) (hu:A.units<V3)
 (ih:∀ (j:Nat) (d e:Dv) (x y:V) (u v:Ul),ds[j]?=some d->DAtK X.K H d x->DAtK X.K H e y->RelV x u->RelV y v->EqAt A.in1 s u v (decide (d=e))):RcAt A s (.ref a) (.ref b) (decide (Dv.tup ds=Dv.tup es)):=by
 obtain ⟨its,r1,p1,_⟩:=I.tuple ha;obtain ⟨yf,r2,p2,_⟩:=I.tuple hb;have l1:its.length=ds.length:=by rw [<- r1.length,Aw.length]
 have l2:yf.length=es.length:=by rw [<- r2.length,yO.length]
 have CG:RcAt A s (.ref a) (.ref b) ((U1 (min its.toArray.size yf.toArray.size)).all (fun j=>decide (ds[j]?=es[j]?)) && its.toArray.size == yf.toArray.size):=by
  refine RcAt.tuples (show s.heap.IsTuple a its.toArray from p1) (show s.heap.IsTuple b yf.toArray from p2) hu fun j h1 h2=>?_;have AU:j<ds.length:=by rw [<- l1];simpa using h1
  have Ax:j<es.length:=by rw [<- l2];simpa using h2
  have e1:ds[j]?=some ds[j]:=Ue AU;have e2:es[j]?=some es[j]:=Ue Ax;obtain ⟨x',Cu,dx⟩:=Aw.at e1;obtain ⟨y',AD,dy⟩:=yO.at e2;obtain ⟨u',zA,CH⟩:=r1.get Cu;obtain ⟨v',yK,AK⟩:=r2.get AD;have e3:decide (ds[j]?=es[j]?)=decide (ds[j]=es[j]):=by rw [e1,e2];simp
  have e4:its.toArray[j]=u':=by
   rw [Ue (by rw [l1];exact AU)] at zA;simpa using zA
  have e5:yf.toArray[j]=v':=by
   rw [Ue (by rw [l2];exact Ax)] at yK;simpa using yK
  rw [e3,e4,e5];exact ih j ds[j] es[j] x' y' u' v' e1 dx dy CH AK
 have e:decide (Dv.tup ds=Dv.tup es)=((U1 (min its.toArray.size yf.toArray.size)).all (fun j=>decide (ds[j]?=es[j]?)) && its.toArray.size == yf.toArray.size):=by
  rw [Uu,Uu,l1,l2];by_cases h:ds=es
  · subst h;rw [decide_eq_true rfl];symm;simp
  · rw [decide_eq_false (fun z=>h (Dv.tup.inj z))];symm;by_cases hl:ds.length=es.length
    · rw [hl,Yz]
      have:¬ ((U1 es.length).all (fun j=>decide (ds[j]?=es[j]?)))=true:=by
       intro z;apply h;apply Wr;intro j;by_cases hj:j<es.length
       · have:=WS.mp z j (WD.mpr hj);exact of_decide_eq_true this
       · rw [Vq (by omega),Vq (by omega)]
      rw [VT.mpr this];rfl
    · have:(ds.length == es.length)=false:=by simpa using hl
      rw [this,Yd]
 rw [e];exact CG
open Classical in
theorem ko {X:Cx} {pins:List (Ui×WA)} {σ:St} {H:Hp} {s:Ur} (I:Inv X pins σ H s):∀ (n:Nat) (d e:Dv),d.tot<=n->∀ (x y:V) (u v:Ul) (A:U9),DAtK X.K H d x->DAtK X.K H e y->RelV x u->RelV y v->A.units+d.deep<V3->EqAt A s u v (decide (d=e))
 | 0,d,e,hn,x,y,u,v,A,hd,he,ru,rv,hu=>by have:=d.tot_pos;omega
 | n+1,.int i,.int j,hn,x,y,u,v,A,hd,he,ru,rv,hu=>by
   rw [DAtK] at hd;rw [DAtK] at he;subst hd he;obtain ⟨t,rfl⟩:=ru;obtain ⟨t',rfl⟩:=rv
   have e:decide (Dv.int i=Dv.int j)=(i == j):=by
    by_cases h:i=j
    · subst h;simp
    · rw [decide_eq_false (fun z=>h (Dv.int.inj z))];simp [h]
   rw [e];exact EqAt.int_int i t j t'
 | n+1,.int i,.str b,hn,x,y,u,v,A,hd,he,ru,rv,hu=>by
   rw [DAtK] at hd;rw [DAtK] at he;subst hd he;obtain ⟨t,rfl⟩:=ru;obtain ⟨t',rfl⟩:=rv;rw [decide_eq_false (fun z=>by cases z)];exact EqAt.int_str i t b t'
 | n+1,.int i,.tup es,hn,x,y,u,v,A,hd,he,ru,rv,hu=>by
   rw [DAtK] at hd;rw [DAtK] at he;obtain ⟨a,vs,rfl,ha,_⟩:=he;subst hd;obtain ⟨t,rfl⟩:=ru;cases rv;obtain ⟨its,_,p,_⟩:=I.tuple (ha.sq);rw [decide_eq_false (fun z=>by cases z)];exact EqAt.int_tuple i t (show s.heap.IsTuple a its.toArray from p) (by omega)
 | n+1,.str b,.int j,hn,x,y,u,v,A,hd,he,ru,rv,hu=>by
   rw [DAtK] at hd;rw [DAtK] at he;subst hd he;obtain ⟨t,rfl⟩:=ru;obtain ⟨t',rfl⟩:=rv;rw [decide_eq_false (fun z=>by cases z)];exact EqAt.str_int b t j t'
 | n+1,.str b,.str c,hn,x,y,u,v,A,hd,he,ru,rv,hu=>by
   rw [DAtK] at hd;rw [DAtK] at he;subst hd he;obtain ⟨t,rfl⟩:=ru;obtain ⟨t',rfl⟩:=rv
   have e:decide (Dv.str b=Dv.str c)=(b == c):=by
    by_cases h:b=c
    · subst h;simp
    · rw [decide_eq_false (fun z=>h (Dv.str.inj z))];simp [h]
   rw [e];exact EqAt.str_str b t c t'
 | n+1,.str b,.tup es,hn,x,y,u,v,A,hd,he,ru,rv,hu=>by
   rw [DAtK] at hd;rw [DAtK] at he;obtain ⟨a,vs,rfl,ha,_⟩:=he;subst hd;obtain ⟨t,rfl⟩:=ru;cases rv;obtain ⟨its,_,p,_⟩:=I.tuple (ha.sq);rw [decide_eq_false (fun z=>by cases z)];exact EqAt.str_tuple b t (show s.heap.IsTuple a its.toArray from p) (by omega)
 | n+1,.tup ds,.int j,hn,x,y,u,v,A,hd,he,ru,rv,hu=>by
   rw [DAtK] at hd;rw [DAtK] at he;obtain ⟨a,vs,rfl,ha,_⟩:=hd;subst he;cases ru;obtain ⟨t,rfl⟩:=rv;obtain ⟨its,_,p,_⟩:=I.tuple (ha.sq);rw [decide_eq_false (fun z=>by cases z)];exact EqAt.tuple_int j t (show s.heap.IsTuple a its.toArray from p) (by omega)
 | n+1,.tup ds,.str b,hn,x,y,u,v,A,hd,he,ru,rv,hu=>by
   rw [DAtK] at hd;rw [DAtK] at he;obtain ⟨a,vs,rfl,ha,_⟩:=hd;subst he;cases ru;obtain ⟨t,rfl⟩:=rv;obtain ⟨its,_,p,_⟩:=I.tuple (ha.sq);rw [decide_eq_false (fun z=>by cases z)];exact EqAt.tuple_str b t (show s.heap.IsTuple a its.toArray from p) (by omega)
 | n+1,.tup ds,.tup es,hn,x,y,u,v,A,hd,he,ru,rv,hu=>by
   have Cd:=hd;have K9:=he;rw [DAtK] at hd;rw [DAtK] at he;obtain ⟨a,vs,rfl,ha,Aw⟩:=hd;obtain ⟨b,ws,rfl,hb,yO⟩:=he;cases ru;cases rv;by_cases zU:a=b
   · subst zU;rw [decide_eq_true (DAtK.inj I Cd K9)];exact EqAt.same _
   rw [Dv.tot] at hn;rw [Dv.deep] at hu;refine EqAt.of_refs zU (mI I ha.sq hb.sq Aw yO (by omega) fun j d e x' y' u' v' e1 dx dy CH AK=>?_);have q1:=n5 e1;have q2:=dQ e1;refine ko I n d e (by omega) x' y' u' v' A.in1 dx dy CH AK ?_;show A.units+1+_<V3;omega
def vz (K:Ug) (B:Nat):R2:=fun x y H Q=>∃ a b vs ws ds es,x=.ref a/\y=.ref b/\SqT K H a vs/\SqT K H b ws/\DAtsK K H ds vs/\DAtsK K H es ws/\cq ds<=B/\∀ b:Bool,(b=true↔ds=es)->Q (.bl b) H
open Classical in
theorem uQ {X:Cx} {B:Nat} (hu:X.A.units+B+2<V3):OpR X (Xr .Eq) (vz X.K B):=by
 intro pins s σ H x y v u Q I rx ry h;obtain ⟨a,b,vs,ws,ds,es,rfl,rfl,ha,hb,Aw,yO,hB,q⟩:=h;cases rx;cases ry
 have r:RcAt X.A s (.ref a) (.ref b) (decide (Dv.tup ds=Dv.tup es)):=mI I ha hb Aw yO (by omega) fun j d e x' y' u' v' e1 dx dy CH AK=>by
  have q2:=dQ e1;refine ko I _ d e (Uj _) x' y' u' v' X.A.in1 dx dy CH AK ?_;show X.A.units+1+_<V3;omega
 refine r X.prog X.w X.xe _ ⟨.bl (decide (Dv.tup ds=Dv.tup es)),H,I,rfl,q _ ?_⟩;constructor
 · intro z;exact Dv.tup.inj (of_decide_eq_true z)
 · intro z;rw [z];exact decide_eq_true rfl
def xO (K:Ug):V->Option Int->Option Int->Hp->VK->Prop:=fun x lo hi H Q=>∃ a xs,x=.ref a/\TK K H a xs/\∀ p H',Same H H'->TK K H' p (du xs lo hi)->Q (.ref p) H'
theorem re {X:Cx}:SlR X (xO X.K):=by
 intro pins s σ H x v vl vu lo hi sl Q I rx hs pl pu h;obtain ⟨a,xs,rfl,ha,q⟩:=h;by_cases hw:HT.sIx xs.length 0 lo=0/\HT.sIx xs.length xs.length hi=xs.length
 · obtain ⟨its,r,p1,hz⟩:=I.tuple ha.sq;have hl:=r.length;cases rx
   have e:du xs lo hi=xs:=by
    unfold du;rw [hw.1,hw.2,WE,ZJ,V9]
   refine ⟨"tuple",_,Vb.lookup,p1.typeIs,HT.getItem_tuple_whole p1 hs pl pu (by rw [Uu,<- hl];exact hw) ⟨.ref a,H,I,rfl,q a H (.refl _) (by rw [e];exact ha)⟩⟩
 · exact dF pins s σ H _ v vl vu lo hi sl Q I rx hs pl pu ⟨a,xs,rfl,ha.sq,hw,fun p hp=>q p _ (ad hp _) (.of ab)⟩
end L2
namespace BB
open PySem L2
mutual
def Th.com:Th->Th->Th
 | .knot n ks,r=>if aC (.knot n ks) r=true then .knot n (cU ks r.kids) else hole
 | .call _ _,_=>hole
def cU:List Th->List Th->List Th
 | [],_=>[]
 | k::ks,us=>match us with
   | []=>[]
   | u::us=>k.com u::cU ks us
end
theorem fT:∀ ks us:List Th,cU ks us=(ks.zip us).map fun p=>p.1.com p.2
 | [],_=>by rw [cU];rfl
 | k::ks,[]=>by rw [cU];rfl
 | k::ks,u::us=>by rw [cU,fT ks us];rfl
theorem dI (l r:Th):l.com r=if aC l r=true then .knot l.name ((l.kids.zip r.kids).map fun p=>p.1.com p.2) else hole:=by
 cases l with
 | knot n ks=>rw [Th.com,fT];rfl
 | call s k =>
   rw [Th.com];have:aC (.call s k) r=false:=by cases r <;> rfl
   rw [this];rfl
def topC (p:Th×Th):Top:=if aC p.1 p.2=true then .nm p.1.name p.1.kids.length else .th hole
theorem pQ:∀ (n:Nat) (ps:List (Th×Th)),szL ps<=n->∀ S,bl ((wks ps).map topC++S)=ps.map (fun p=>p.1.com p.2)++bl S/\(TopsOk S->TopsOk ((wks ps).map topC++S))
 | _,[],_,S=>⟨rfl,fun h=>h⟩
 | 0,p::ps,h,S=>by
   have:=p.1.size_pos;rw [szL] at h;omega
 | n+1,p::ps,h,S=>by
   have hs:=p.1.size_eq;have hz:=i3 p.1.kids p.2.kids;rw [szL] at h;have i2:=pQ n ps (by omega) S;rw [wks,Th.sbs_eq,Ux,Vo,U8,Wm];have hc:(p::ps).map (fun p=>p.1.com p.2)=p.1.com p.2::ps.map (fun p=>p.1.com p.2):=rfl;by_cases yM:aC p.1 p.2=true
   · have i1:=pQ n (p.1.kids.zip p.2.kids) (by omega) ((wks ps).map topC++S);obtain ⟨nm,ks,us,e1,e2,e3,_⟩:=bu yM
     have hl:((p.1.kids.zip p.2.kids).map fun p=>p.1.com p.2).length=p.1.kids.length:=by
      rw [Uc,WH,e1,e2];simp only [Th.kids];omega
     have ht:topC (p.1,p.2)=.nm p.1.name p.1.kids.length:=by unfold topC;rw [if_pos yM]
     rw [if_pos yM,ht];refine ⟨?_,fun hS=>?_⟩
     · rw [bl,i1.1,i2.1,hc,dI,if_pos yM,<- hl,List.take_left,List.drop_left];rfl
     · rw [TopsOk];exact ⟨by rw [i1.1,UE,hl];exact WQ _ _,i1.2 (i2.2 hS)⟩
   · have ht:topC (p.1,p.2)=.th hole:=by unfold topC;rw [if_neg yM]
     rw [if_neg yM,ht,Wq,Wh];refine ⟨?_,fun hS=>?_⟩
     · rw [bl,i2.1,hc,dI,if_neg yM];rfl
     · rw [TopsOk];exact i2.2 hS
theorem wd (l r:Th):bl ((l.sbs r).map topC)=[l.com r]/\TopsOk ((l.sbs r).map topC):=by
 have h:=pQ _ [(l,r)] (Uj _) [];rw [wks,wks,U6,U6] at h;refine ⟨?_,h.2 (by rw [TopsOk];trivial)⟩;rw [h.1,bl];rfl
theorem cN (l r:Th):aC l r=aC r l:=by
 cases l with
 | knot n ks =>
   cases r with
   | knot m us =>
     show (!decide (n=star/\ks=[]) && decide (n=m) && decide (ks.length=us.length))=(!decide (m=star/\us=[]) && decide (m=n) && decide (us.length=ks.length));by_cases h1:n=m
     · subst h1;by_cases h2:ks.length=us.length
       · have h3:(n=star/\ks=[])↔(n=star/\us=[]):=by
          constructor
          · rintro ⟨a,b⟩;rw [b] at h2;exact ⟨a,VB.mp h2.symm⟩
          · rintro ⟨a,b⟩;rw [b] at h2;exact ⟨a,VB.mp h2⟩
         rw [decide_eq_decide.mpr h3,h2]
       · have Ax:¬ us.length=ks.length:=fun e=>h2 e.symm;simp [h2,Ax]
     · have AU:¬ m=n:=fun e=>h1 e.symm;simp [h1,AU]
   | call s k=>rfl
 | call s k=>cases r <;> rfl
mutual
theorem kX:∀ l r:Th,(l.com r).size<=l.size/\(l.com r).tall<=l.tall
 | .knot n ks,r=>by
   have h:=mR ks r.kids;rw [Th.com];split
   · rw [Th.size,Th.size,Th.tall,Th.tall];omega
   · have:=(Th.knot n ks).size_pos;have:=(Th.knot n ks).tall_eq;rw [eQ,mT];omega
 | .call s k,r=>by rw [Th.com,eQ,mT,Th.size,Th.tall];omega
theorem mR:∀ ks us:List Th,aq (cU ks us)<=aq ks/\bE (cU ks us)<=bE ks
 | [],us=>by rw [cU,aq,bE];exact ⟨Uj _,Uj _⟩
 | k::ks,[]=>by rw [cU,aq,bE];exact ⟨UO _,UO _⟩
 | k::ks,u::us=>by
   have h1:=kX k u;have h2:=mR ks us;rw [cU,aq,aq,bE,bE];omega
end
mutual
theorem ld:∀ l r:Th,(l.com r).noCall
 | .knot n ks,r=>by
   rw [Th.com];split
   · rw [Th.noCall];exact jO ks r.kids
   · exact jF
 | .call s k,r=>by rw [Th.com];exact jF
theorem jO:∀ ks us:List Th,cE (cU ks us)
 | [],us=>by rw [cU,cE];trivial
 | k::ks,[]=>by rw [cU,cE];trivial
 | k::ks,u::us=>by rw [cU,cE];exact ⟨ld k u,jO ks us⟩
end
end BB
namespace BB
open PySem L2
theorem TK.const {K:Ug} {H:Hp} {a:Ui} {xs:List V} (h:∀ H:Hp,SqT K H a xs):TK K H a xs:=by
 rcases h (fun _=>none) with (h | ⟨o,h⟩) | h
 · cases h
 · cases h
 · exact .inr h
theorem uU {K:Ug} {H:Hp} {t:Th} {a h0:Ui} {Q:VK} (hA:AtK K H t a) (e0:TK K H h0 [.str star]) (yG:t.tall<=150) (k:Q (.bl t.isHole) H):vz K 150 (.ref a) (.ref h0) H Q:=by
 cases t with
 | knot n ks =>
   rw [AtK] at hA;obtain ⟨hn,as,h1,h2⟩:=hA;rw [Th.tall] at yG;have hd:=iO ks;refine ⟨a,h0,_,_,.str n::dvs ks,[.str star],rfl,rfl,h1.sq,e0.sq,.cons (by rw [DAtK]) h2.dvs,.cons (by rw [DAtK]) .nil,by rw [cq,Dv.deep];omega,fun b hb=>?_⟩
   have e:b=(Th.knot n ks).isHole:=by
    rw [Yw,hb];show _↔decide (n=star/\ks=[])=true;rw [decide_eq_true_iff];constructor
    · intro z;have z1:=Zx z;refine ⟨Dv.str.inj z1.1,?_⟩;cases ks with
      | nil=>rfl
      | cons x xs=>rw [dvs] at z1;cases z1.2
    · rintro ⟨z1,z2⟩;rw [z1,z2,dvs]
   rw [e];exact k
 | call sn kn =>
   rw [AtK] at hA;refine ⟨a,h0,_,_,[.str q,.int sn,.int kn],[.str star],rfl,rfl,hA.sq,e0.sq,.cons (by rw [DAtK]) (.cons (by rw [DAtK]) (.cons (by rw [DAtK]) .nil)),.cons (by rw [DAtK]) .nil,by simp [cq,Dv.deep],fun b hb=>?_⟩
   have e:b=(Th.call sn kn).isHole:=by
    show b=false;cases b with
    | false=>rfl
    | true=>exact absurd (hb.mp rfl) (by simp)
   rw [e];exact k
end BB
namespace L2
open PySem PySem.Spec PyProof.Rows BB
def wJ (K:Ug) (T:String):List V->Hp->VK->Prop:=fun xs H Q=>wY K T xs H Q∨∃ a ys b,xs=[.ref a,.ty T]/\SqT K H a ys/\XC K (.type "tuple") (.type T)=some b/\Q (.bl b) H
theorem sJ {X:Cx} {T:String}:g9 X (.builtin "isinstance") (wJ X.K T):=by
 intro pins s σ H xs us Q I r h;rcases h with h | ⟨a,ys,b,rfl,hq,e,q⟩
 · exact cH pins s σ H xs us Q I r h
 · obtain ⟨u1,u2,rfl,r1,r2⟩:=vals2 r;cases r1;cases r2;obtain ⟨its,rv,⟨o,h1,h2,_⟩,hz⟩:=I.tuple hq;exact V6 PySem.W.kitx_tuple I.kIn ⟨o,h1,h2⟩ e (fun z=>nomatch z) fun tk=>⟨.bl b,H,I.tok _,rfl,q⟩
end L2
namespace BB
open PySem L2
theorem iF {f:Th} (h:f.isHole=false):f.lies hole=false:=by
 cases f with
 | knot n ks =>
   rw [Th.lies,h]
   have:aC (.knot n ks) hole=false:=by
    rw [cN];exact i8 fW
   rw [this];rfl
 | call s k=>rw [Th.lies]
theorem eM {f a b:Th} (h1:aC f a=true) (h2:aC f b=true):aC a b=true:=by
 obtain ⟨n,ks,us,rfl,rfl,e3,hh⟩:=bu h1;obtain ⟨n',Qq,vs,e1,rfl,e4,_⟩:=bu h2;cases e1
 have hn:(Th.knot n us).isHole=false:=by
  cases hz:(Th.knot n us).isHole with
  | false=>rfl
  | true =>
    rw [cN,i8 hz] at h1;cases h1
 show (!(Th.knot n us).isHole && decide (n=n) && decide (us.length=vs.length))=true;rw [hn];have:us.length=vs.length:=by omega
 simp [this]
theorem lY {f a b:Th} (h:aC a b=true):aC f a=aC f b:=by
 cases h1:aC f a with
 | true =>
   cases h2:aC f b with
   | true=>rfl
   | false =>
     have:=eM (f:=a) (a:=f) (b:=b) (by rw [cN];exact h1) h;rw [h2] at this;cases this
 | false =>
   cases h2:aC f b with
   | false=>rfl
   | true =>
     have:=eM (f:=b) (a:=f) (b:=a) (by rw [cN];exact h2) (by rw [cN];exact h);rw [h1] at this;cases this
theorem o7 {n:US} {us vs:List Th} (f:Th) (h:us.length=vs.length):aC f (.knot n us)=aC f (.knot n vs):=by
 cases f with
 | knot m ks=>show (_ && _ && decide (ks.length=us.length))=(_ && _ && decide (ks.length=vs.length));rw [h]
 | call s k=>rfl
theorem pJ:∀ ks us:List Th,(cU ks us).length=min ks.length us.length
 | [],us=>by rw [cU];simp
 | k::ks,[]=>by rw [cU];simp
 | k::ks,u::us=>by rw [cU,Ut,pJ ks us,Ut,Ut];omega
mutual
theorem oI:∀ f a b:Th,f.lies (a.com b)=(f.lies a && f.lies b)
 | .call s k,a,b=>by rw [Th.lies,Th.lies,Th.lies];rfl
 | .knot n ks,a,b=>by
   cases hh:(Th.knot n ks).isHole with
   | true =>
     rw [Th.lies,Th.lies,Th.lies,hh];rfl
   | false =>
     by_cases zU:aC a b=true
     · obtain ⟨m,us,vs,rfl,rfl,e3,_⟩:=bu zU;have hc:(Th.knot m us).com (.knot m vs)=.knot m (cU us vs):=by rw [Th.com,if_pos zU];rfl
       have hl:(cU us vs).length=us.length:=by rw [pJ];omega
       rw [hc,Th.lies,Th.lies,Th.lies,hh,X3,X3,X3,o7 (.knot n ks) hl,<- lY (f:=.knot n ks) zU];cases hs:aC (.knot n ks) (.knot m us) with
       | false=>rfl
       | true =>
         show (true && cj ks (cU us vs))=((true && cj ks us) && (true && cj ks vs));rw [Bool.true_and,Bool.true_and,Bool.true_and];obtain ⟨_,_,_,e1,e2,e4,_⟩:=bu hs;cases e1;cases e2;exact lO ks us vs e4 (by omega)
     · have hc:a.com b=hole:=by rw [dI,if_neg zU]
       rw [hc,iF hh];cases h1:(Th.knot n ks).lies a with
       | false=>rfl
       | true =>
         cases h2:(Th.knot n ks).lies b with
         | false=>rfl
         | true =>
           rw [Th.lies,hh,X3,Wn] at h1 h2;exact absurd (eM h1.1 h2.1) zU
theorem lO:∀ ks us vs:List Th,ks.length=us.length->ks.length=vs.length->cj ks (cU us vs)=(cj ks us && cj ks vs)
 | [],us,vs,_,_=>by rw [cj,cj,cj];rfl
 | k::ks,[],vs,h,_=>by simp at h
 | k::ks,u::us,[],_,h=>by simp at h
 | k::ks,u::us,v::vs,h1,h2=>by
   rw [cU,iI,iI,iI,oI k u v,lO ks us vs (by simpa using h1) (by simpa using h2)];cases k.lies u <;> cases k.lies v <;> cases cj ks us <;> cases cj ks vs <;> rfl
end
end BB
namespace BB
open PySem L2
def PAtK (K:Ug) (H:Hp) (p:List Int×Th) (a:Ui):Prop:=∃ pa ta,H a=some (.tup [.ref pa,.ref ta])/\H pa=some (.tup (p.1.map V.int))/\AtK K H p.2 ta
def PsAtK (K:Ug) (H:Hp) (ps:List (List Int×Th)) (as:List Ui):Prop:=UX (PAtK K H) ps as
theorem PAtK.mono {K:Ug} {H H':Hp} (k:KT H H') {p:List Int×Th} {a:Ui} (h:PAtK K H p a):PAtK K H' p a:=by
 obtain ⟨pa,ta,h1,h2,h3⟩:=h;exact ⟨pa,ta,k _ _ h1,k _ _ h2,h3.mono k⟩
theorem PsAtK.mono {K:Ug} {H H':Hp} (k:KT H H') {ps:List (List Int×Th)} {as:List Ui} (h:PsAtK K H ps as):PsAtK K H' ps as:=P2.mp (fun _ _ e=>PAtK.mono k e) h
theorem uZ {xs:List V} {n:Nat} (h:n<=xs.length):du xs none (some (n:Int))=xs.take n:=by
 unfold du;rw [HT.sIx_none,HT.sIx_nat,Yu h,WE,ZJ]
end BB
namespace L2
open PySem PySem.Spec PySem.Calls PyProof.Rows PySem.W
section
variable {prog:Uz} {w:UN} {A:U9} {E:Ul->Ur->Prop} {h:VH} {g:Array GenState} {d:Drawn} {t:Nat} {os:YQ} {a C:Ui} {o:WA} {K:Frag}
end
end L2
namespace L2
open PySem PySem.Spec PySem.Calls PyProof.Rows PySem.W
section
variable {P:Uz} {w:UN} {K:Ug} {mg:US->Option Ul} {base:VH} {N:List US} {qual:US} {scope:Yk} {f:Ui} {cd:Ul} {A:U9} {outer:List Env} {s:Ur} {H:Hp} {E:XK}
end
end L2
namespace L2
open PySem PySem.Spec PySem.Calls PyProof.Rows PySem.W
section
variable {X:Cx} {pins:List (Ui×WA)} {σ:St} {H:Hp} {s:Ur}
end
end L2
namespace L2
open PySem PySem.Spec PySem.Calls PyProof.Rows PySem.W
section
variable {P:Uz} {w:UN} {K:Ug} {mg:US->Option Ul} {base:VH}
end
end L2
namespace L2
open PySem PySem.Spec PySem.Calls PyProof.Rows PySem.SeqAt
theorem fZ {k:Nat} {A:U9} (hr:Room k A):A.units+2<V3:=by
 have:=hr.units;omega
end L2
namespace L2
open PySem PySem.Spec PySem.Calls PyProof.Rows
end L2
namespace BB
open PySem
end BB
namespace L2
open PySem PySem.Spec PySem.Calls PyProof.Rows BB
section
variable {prog:Uz} {w:UN} {A:U9} {R:Result->Ur->Prop}
end
end L2
namespace PySem
section
variable {prog:Uz} {w:UN} {A:U9} {E:Ul->Ur->Prop} {s:Ur}
end
end PySem
namespace L2
open PySem PySem.Spec PySem.Calls PyProof.Rows BB
end L2
namespace L2
open PySem PySem.Spec PySem.Calls PyProof.Rows BB
section
variable {X:Cx}
end
end L2
namespace BB
open PySem L2
theorem nh {α:Type} {js:List (Option Nat)} {g:TG} {tt:TT} {te:TE} {σ:St} {J:It} {H:Hp} {xs:List V} {fin:Ui->Hp->Prop} (zs:List α) (f:α->V) (hz:zs.length=xs.length) (hn:xs.length<=1000000)
 (Cb:∀ i H2,L2.Same H H2->i<xs.length->J.go i H2) (zd:∀ H2,L2.Same H H2->J.stop xs.length H2) (Ag:∀ (i:Nat) H2 x H3,L2.Same H H2->i<xs.length->J.yld i H2 x H3->H3=H2/\xs[i]?=some x)
 (hb:∀ (i:Nat) x z H2 (R:VK) (W':Hp->Prop),xs[i]?=some x->zs[i]?=some z->L2.Same H H2->(∀ H3,L2.Same H2 H3->R (f z) H3)->g x (cσ js σ) H2 fun yw H3=>tt yw H3 fun b H4=>if b=true then te yw H4 R else W' H4)
 (zB:∀ D H',H D=none->L2.Same H H'->H' D=some (.lst (zs.map f))->fin D H') :
 ∀ D,H D=none->∃ (n:Nat) (W:Nat->Hp->Prop),W 0 (upd H D (.lst []))/\fO js g tt te σ J D n W fun H'=>fin D H':=by
 intro D hD;refine ⟨xs.length,fun i H'=>i<=xs.length/\L2.Same H H'/\H' D=some (.lst ((zs.take i).map f)),⟨UO _,ad hD _,by rw [ab];rfl⟩,?_⟩;rintro i H' ⟨hi,s1,e1⟩;by_cases ym:i<xs.length
 · refine .inr ⟨ym,Cb i H' s1 ym,fun v H1 hy=>?_⟩;obtain ⟨e,hx⟩:=Ag i H' v H1 s1 ym hy;subst e;obtain ⟨z,zQ⟩:∃ z,zs[i]?=some z:=⟨_,Ue (by omega)⟩;refine hb i v z _ _ _ hx zQ s1 fun H3 s3=>⟨_,s3 _ _ e1,?_,ym,aw (s1.trans s3) hD,?_⟩
   · rw [Uc,UQ];have:UD=16777216:=Yj;omega
   · rw [ab,take_snoc zQ,Ux];rfl
 · have yX:i=xs.length:=by omega
   subst yX;refine .inl ⟨zd _ s1,zB D H' hD s1 ?_⟩;rw [e1,Vx (by omega)]
theorem pf {α:Type} {K:Ug} {a:Ui} {js:List (Option Nat)} {g:TG} {tt:TT} {te:TE} {σ:St} {H:Hp} {xs:List V} {fin:Ui->Hp->Prop} (zs:List α) (f:α->V) (hS:SqT K H a xs) (hz:zs.length=xs.length) (hn:xs.length<=1000000)
 (hb:∀ (i:Nat) x z H2 (R:VK) (W':Hp->Prop),xs[i]?=some x->zs[i]?=some z->L2.Same H H2->(∀ H3,L2.Same H2 H3->R (f z) H3)->g x (cσ js σ) H2 fun yw H3=>tt yw H3 fun b H4=>if b=true then te yw H4 R else W' H4)
 (zB:∀ D H',H D=none->L2.Same H H'->H' D=some (.lst (zs.map f))->fin D H') :
 ∀ D,H D=none->∃ (n:Nat) (W:Nat->Hp->Prop),W 0 (upd H D (.lst []))/\fO js g tt te σ (Itt K a) D n W fun H'=>fin D H' :=
 nh zs f hz hn (fun i H2 s hi=>⟨xs,xs[i],s.seqT hS,Ue hi⟩) (fun H2 s=>⟨xs,s.seqT hS,Uj _⟩) (fun i H2 x H3 s hi hy=>⟨hy.1,hy.2 xs (s.seqT hS)⟩) hb zB
theorem ng {α:Type} {K:Ug} {a:Ui} {js:List (Option Nat)} {g:TG} {tt:TT} {te:TE} {σ:St} {H:Hp} {xs:List V} {fin:Ui->Hp->Prop} (zs:List α) (f:α->V) (hS:SqL K H a xs) (hz:zs.length=xs.length) (hn:xs.length<=1000000)
 (hb:∀ (i:Nat) x z H2 (R:VK) (W':Hp->Prop),xs[i]?=some x->zs[i]?=some z->L2.Same H H2->(∀ H3,L2.Same H2 H3->R (f z) H3)->g x (cσ js σ) H2 fun yw H3=>tt yw H3 fun b H4=>if b=true then te yw H4 R else W' H4)
 (zB:∀ D H',H D=none->L2.Same H H'->H' D=some (.lst (zs.map f))->fin D H') :
 ∀ D,H D=none->∃ (n:Nat) (W:Nat->Hp->Prop),W 0 (upd H D (.lst []))/\fO js g tt te σ (Itl K a) D n W fun H'=>fin D H' :=
 nh zs f hz hn (fun i H2 s hi=>⟨xs,xs[i],s.seq hS,Ue hi⟩) (fun H2 s=>⟨xs,s.seq hS,Uj _⟩) (fun i H2 x H3 s hi hy=>⟨hy.1,hy.2 xs (s.seq hS)⟩) hb zB
end BB
namespace HT
open PySem PySem.Spec PyProof.Rows
section
variable {prog:Uz} {w:UN} {A:U9} {E:Ul->Ur->Prop} {s:Ur}
theorem adjust_back (n:Nat):Xf none none (-1) (n:Int)=((n:Int) - 1,-1):=rfl
theorem places_back (n:Nat):V0 ((n:Int) - 1) (-1) (-1)=n:=by
 unfold V0;have h1:¬ ((-1:Int) > 0):=by omega
 simp only [h1,if_false];by_cases h:n=0
 · subst h;decide
 · have h2:((n:Int) - 1) > -1:=by omega
   simp only [h2,if_true];rw [show (- -1:Int)=1 by decide,ZQ];omega
theorem pick_back (xs:Array Ul):((U1 xs.size).filterMap fun (m:Nat)=>xs[(((xs.size:Nat):Int) - 1+(m:Int) * (-1)).toNat]?).toArray=xs.toList.reverse.toArray:=by
 congr 1
 have e:∀ m∈U1 xs.size,xs[(((xs.size:Nat):Int) - 1+(m:Int) * (-1)).toNat]?=xs.toList.reverse[m]?:=by
  intro m hm;have Ei:=WD.mp hm;rw [List.getElem?_reverse (by rw [U3];exact Ei),Xw,U3];congr 1;omega
 have f:∀ (l:List Nat) (f g:Nat->Option Ul),(∀ m∈l,f m=g m)->l.filterMap f=l.filterMap g:=by
  intro l f g;induction l with
  | nil=>intro _;rfl
  | cons y ys ih =>
    intro h;rw [XS,XS,h y (by simp),ih (fun m hm=>h m (by simp [hm]))]
 rw [f _ _ _ e]
 have gl:∀ (ys:List Ul),(U1 ys.length).filterMap (fun m=>ys[m]?)=ys:=by
  intro ys;have:=pick_run ys.toArray 0 ys.length;simp only [ZC] at this
  have e3:((fun x=>ys.toArray[x]?) ∘ fun x=>0+x)=fun m=>ys[m]?:=by
   funext m;simp
  rw [e3] at this;rw [this];simp
 have:=gl xs.toList.reverse;rw [VJ,U3] at this;exact this
theorem sliceApplied_back {sl:Ui} {n:Nat} {t:Tok} {Q:Int×Int×Nat->Ur->Prop} (hs:s.heap.IsSliceOf sl .none .none (.int (-1) t))
 (h:Q ((n:Int) - 1,-1,n) s):UC (U0 prog w) A (X2 (.ref sl) (pure (n:Int))) Q E s:=by
 obtain ⟨os,Az,B8,Ar⟩:=id hs;unfold X2 Builtin.Slice.sliceFields;refine Ud (Ud (Vg Az Ar (x:=.none) rfl (Ud (Vg Az Ar (x:=.none) rfl (Ud (Vg Az Ar (x:=.int (-1) t) rfl (Uq ?_)))))));refine Ud (slicePart_int ?_);show UC _ _ (if ((-1:Int) == 0)=true then _ else _) _ _ s;rw [if_neg (by decide)];refine Ud (slicePart_none (Ud (slicePart_none (Ud (Uq ?_)))));show UC _ _ (match Xf none none (-1) (n:Int) with | (lo,hi)=>pure (lo,(-1:Int),V0 lo hi (-1))) _ _ s;rw [adjust_back n];show UC _ _ (pure ((n:Int) - 1,(-1:Int),V0 ((n:Int) - 1) (-1) (-1))) _ _ s;rw [places_back];exact Uq h
theorem getItem_tuple_back {t sl:Ui} {items:Array Ul} {tk:Tok} {Q:Ul->Ur->Prop} (ht:IsTup s.heap t items) (hs:s.heap.IsSliceOf sl .none .none (.int (-1) tk))
 (h:Q (.ref s.heap.objs.size) { s with heap:=s.heap.push { cls:=.type "tuple",data:=.seq items.toList.reverse.toArray } })
 (hsz:items.size<=UD):UC (U0 prog w) A (Yp (.ref t) (.ref sl)) Q E s:=by
 have zc:sizeOk (.seq items.toList.reverse.toArray):=by
  show items.toList.reverse.toArray.size<=UD;rw [Uu,VJ,U3];exact hsz
 obtain ⟨os,Az,B8,Ar⟩:=id hs;have GO:s.TypeIs (.ref sl) "slice":=⟨os,Az,B8⟩;unfold Yp
 try with_reducible refine VP ?_
 first | refine Ud (Uq ?_) | skip
 refine Ud (wpAny_sequenceKey ht.typeIs (by decide) ?_)
 refine Ud (Vr (name:=Um "__getitem__") ht.typeIs Vb
  (Vz Vb ht.typeIs entry_tuple_getitem ?_ (args_tuple_getitem _ _)))
 show UC _ _ (X1 (.ref t) >>= _) _ _ s;refine Ud (tupleItemsOf_ ht ?_);refine Ud (W0 GO ?_);rw [if_pos (by decide)];refine Ud (sliceApplied_back hs ?_)
 have Bb:¬ ((((items.size:Nat):Int) - 1 == 0 && (-1:Int) == 1 && items.size == items.size)=true):=by
  simp
 show UC _ _ (if (((items.size:Nat):Int) - 1 == 0 && (-1:Int) == 1 && items.size == items.size)=true then _ else _) _ _ s;rw [if_neg Bb,pick_back]
 first
  | exact Ud (m:=V5 _) (Vy (Uq ⟨_,rfl,Uq h⟩) zc)
  | exact Ud (m:=V5 _) (Vy (Ud (Uq (Uq ⟨_,rfl,Uq h⟩))) zc)
  | exact Ud (Ud (m:=V5 _) (Vy (Uq (Uq ⟨_,rfl,Uq h⟩)) zc))
  | exact Ud (Ud (m:=V5 _) (Vy (Uq ⟨_,rfl,Uq h⟩) zc))
end
end HT
namespace L2
open PySem PySem.Spec PyProof.Rows
section
variable {X:Cx} {e:VC} {te:TE} {pos p2 p3 p4:Yl}
def BkR (X:Cx) (r:V->Hp->VK->Prop):Prop :=
 ∀ (pins:List (Ui×WA)) (s:Ur) (σ:St) (H:Hp) (x:V) (v:Ul) (t:Tok) (sl:Ui) (Q:VK),Inv X pins σ H s->RelV x v->s.heap.IsSliceOf sl .none .none (.int (-1) t)->r x H Q →
   ∃ T id,XW (.type T) "__getitem__"=pure (some (.builtin id))/\s.TypeIs v T/\UC (U0 X.prog X.w) X.A (Yp v (.ref sl)) (EP X pins σ Q) X.xe s
def tBk (r:V->Hp->VK->Prop) (te:TE):TE:=fun σ H Q=>te σ H fun x H1=>r x H1 Q
theorem qI {r:V->Hp->VK->Prop} (hr:BkR X r) (he:PE X e te):PE X (.Subscript e (.Slice none none (some (.UnaryOp .USub (.Constant (.int 1) 0 p3) p4)) p2) pos) (tBk r te):=by
 intro pins s σ H Q I h;refine Subscript_ (thn (he pins s σ H _ I h) fun v s1 ⟨x,H1,I1,r1,q1⟩=>?_);refine wpAny_Slice ?_;rw [evalPart_none];refine Uq ?_;refine Uq ?_;have Qr:PO X (some (.UnaryOp .USub (.Constant (.int 1) 0 p3) p4)) (vy (tUn (rU fun i=>.int (-i)) (tC (.int 1)))):=bA (xq vW af);refine thn (Qr pins s1 σ H1 (fun o H'=>o=some (-1)/\r x H' Q) I1 ⟨1,rfl,_,rfl,rfl,q1⟩) fun vs s2 ⟨o,H2,I2,ps,ho,q2⟩=>?_;subst ho;cases ps with
 | int i t =>
   have I4:Inv X pins σ H2 { s2 with heap:=s2.heap.push { cls:=.type "slice",data:=.fields #[.none,.none,.int (-1) t] } }:=I2.kept (t':=s2.toks) fun b ob q=>Up _ q;obtain ⟨T,id,hT,ht,hg⟩:=hr pins { s2 with heap:=s2.heap.push { cls:=.type "slice",data:=.fields #[.none,.none,.int (-1) t] } } σ H2 x v t s2.heap.objs.size Q I4 r1 (Heap.IsSliceOf.new ..) q2;show UC (U0 X.prog X.w) X.A (subscriptTail e (.Slice none none (some (.UnaryOp .USub (.Constant (.int 1) 0 p3) p4)) p2) v (.ref s2.heap.objs.size)) (EP X pins σ Q) X.xe { s2 with heap:=s2.heap.push { cls:=.type "slice",data:=.fields #[.none,.none,.int (-1) t] } };exact tail_any (ops:=[v,.ref s2.heap.objs.size]) ht hT hg (by with_unfolding_all rfl)
def xx (K:Ug):V->Hp->VK->Prop:=fun x H Q=>∃ a xs,x=.ref a/\SqT K H a xs/\∀ p,H p=none->Q (.ref p) (upd H p (.tup xs.reverse))
def xQ (K:Ug):V->Hp->VK->Prop:=fun x H Q=>∃ a xs,x=.ref a/\SqL K H a xs/\∀ p,H p=none->Q (.ref p) (upd H p (.lst xs.reverse))
theorem Vals.rev {xs:List V} {us:List Ul} (r:Vals xs us):Vals xs.reverse us.reverse:=by
 induction r with
 | nil=>exact .nil
 | cons r1 r2 ih=>rw [Vu,Vu];exact ih.append (.cons r1 .nil)
theorem wf:BkR X (xx X.K):=by
 intro pins s σ H x v t sl Q I rx hs h;obtain ⟨a,xs,rfl,hx,q⟩:=h;cases rx;obtain ⟨its,r,ht,hz⟩:=I.tuple hx;have hlen:its.toArray.size=xs.length:=by rw [Uu];exact r.length.symm
 refine ⟨"tuple",_,Vb.lookup,ht.typeIs,?_⟩;refine HT.getItem_tuple_back ht hs ?_ (by rw [hlen];exact hz);refine ⟨.ref s.heap.objs.size,_,I.laid (t':=s.toks) (o:=.tup xs.reverse) (fun b ob q=>Up _ q) (Uj _) ?_,rfl,q _ (I.hok.fresh (Uj _))⟩;exact ⟨by rw [VJ];exact hz,_,0,r.rev,Uy _ rfl⟩
theorem lC (its:List Ul):slicePick its.toArray none none (some (-1))=its.reverse.toArray:=by
 unfold slicePick;have e:Yi none none (some (-1)) its.toArray.size=((its.toArray.size:Int) - 1,-1,-1):=rfl;rw [e];unfold sliceRange;have h1:¬ ((-1:Int) > 0):=by omega
 simp only [h1,if_false]
 have hc:(if ((its.toArray.size:Nat):Int) - 1 > -1 then (((its.toArray.size:Nat):Int) - 1 - -1 - -1 - 1) / (- -1) else 0).toNat=its.toArray.size:=by
  by_cases h:its.toArray.size=0
  · rw [h];decide
  · rw [if_pos (by omega),show (- -1:Int)=1 by decide,ZQ];omega
 rw [hc,ZC];have:=HT.pick_back its.toArray;rw [<- this];congr 1;congr 1;funext m;show its.toArray[(((its.toArray.size:Nat):Int) - 1+-1 * (m:Int)).toNat]?=_;rw [Int.mul_comm]
theorem uD:BkR X (xQ X.K):=by
 intro pins s σ H x v t sl Q I rx hs h;obtain ⟨a,xs,rfl,hx,q⟩:=h;cases rx;obtain ⟨its,r,ht,hz⟩:=I.list hx;have hlen:=r.length;refine ⟨"list",_,slot_list_getitem.lookup,ht.isList.typeIs,?_⟩;refine wpAny_getItem_list_slice ht.isList hs .none .none (.int _ _) (by simp) ?_ (by rw [Uu] <;> omega);rw [lC];refine ⟨.ref s.heap.objs.size,_,I.laid (t':=s.toks) (o:=.lst xs.reverse) (fun b ob q=>Up _ q) (Uj _) ?_,rfl,q _ (I.hok.fresh (Uj _))⟩;exact ⟨by rw [VJ];exact hz,_,0,r.rev,Uy _ rfl⟩
end
end L2
namespace L2
open PySem PySem.Spec PySem.Calls PyProof.Rows
section
variable {X:Cx}
end
end L2
namespace L2
open PySem PySem.Spec PySem.Calls PyProof.Rows
section
variable {X:Cx}
def isStr (z:US):Ul->Bool
 | .str y _=>y == z
 | _=>false
def u7 (K:Ug):V->List V->Hp->VK->Prop:=fun x vs H Q=>∃ (l:Ui) (zs:List US) (z:US) (j:Nat),x=.ref l/\vs=[.str z]/\SqL K H l (zs.map V.str)/\zs[j]?=some z/\(∀ i,i<j->zs[i]?≠some z)/\zs.length<=100000/\Q (.int (j:Nat)) H
theorem mL:MtM X "list.index" (u7 X.K):=by
 intro pins s σ H x vs v us Q I rx rv h;obtain ⟨l,zs,z,j,rfl,rfl,hS,hj,Bb,hz,q⟩:=h;cases rx;obtain ⟨u,rfl,t,rfl⟩:=rv.one;obtain ⟨its,r,pl,_⟩:=I.list hS;have hlen:=r.length;rw [Uc] at hlen;obtain ⟨⟨cls,dd,data,sl⟩,ho,hc,n,hd⟩:=pl.isList;simp only at hc hd;subst hc hd;have Bg:j<zs.length:=(Uk.mp hj).1
 have get:∀ m,m<zs.length->∃ y t',its[m]?=some (.str y t')/\zs[m]?=some y:=fun m hm=>by
  obtain ⟨v,hv,rv⟩:=r.get (i:=m) (x:=.str zs[m]) (by rw [Uo,Ue hm];rfl);obtain ⟨t',rfl⟩:=rv;exact ⟨_,t',hv,Ue hm⟩
 refine YU Xh ⟨_,ho,rfl⟩ PySem.F.entry_list_index (PySem.F.args_list_index_2 _ _)
  (SeqAt.list_indexAt l its.toArray n dd sl (.str z t) (isStr z) j (by rw [Uu];omega) (by omega) ?_ ?_) ⟨ho,fun y hy=>?_,⟨.int (j:Nat),H,I.tok _,⟨_,rfl⟩,q⟩⟩
 · obtain ⟨y,t',h1,h2⟩:=get j Bg;rw [hj] at h2;cases h2
   have h3:its.toArray[j]'(by rw [Uu];omega)=.str z t':=by
    rw [Ue (by omega)] at h1;simpa using h1
   rw [h3];show (z == z)=true;simp
 · intro m hm ym;obtain ⟨y,t',h1,h2⟩:=get m (by omega)
   have h3:its.toArray[m]'hm=.str y t':=by
    rw [Ue (by omega)] at h1;simpa using h1
   rw [h3];show (y == z)=false;refine VT.mpr fun e=>Bb m ym ?_;rw [h2,beq_iff_eq.mp e]
 · have AD:y∈its:=by simpa using hy
   obtain ⟨m,hm,rfl⟩:=List.getElem_of_mem AD;obtain ⟨y,t',h1,h2⟩:=get m (by omega);rw [Ue hm] at h1;have h3:=UR h1;rw [h3];exact SeqAt.EqAt.str_str _ _ _ _
end
end L2
namespace BB
open PySem L2
structure bN (ks:List (US×Int)):Prop where
 ne:1<=ks.length
 le:ks.length<=8
 low:∀ k∈ks,Low k.1/\k.1.length<=8
 num:∀ k∈ks,0<=k.2/\k.2<=3
 zero:∃ k∈ks,k.2=0
 nd:∀ (i j:Nat) (k l:US×Int),ks[i]?=some k->ks[j]?=some l->k.1=l.1->i=j
mutual
/-- a pattern over kinds,its calls of so many states and kids -/
def Th.FitS (ks:List (US×Int)) (S C:Int):Th->Prop
 | .knot n ts=>(n,(ts.length:Int))∈ks/\FitSs ks S C ts
 | .call s k=>0<=s/\s<S/\0<=k/\k<C
def FitSs (ks:List (US×Int)) (S C:Int):List Th->Prop
 | []=>True
 | t::ts=>t.FitS ks S C/\FitSs ks S C ts
end
theorem FitSs.of {ks:List (US×Int)} {S C:Int}:∀ {ts:List Th},(∀ t∈ts,t.FitS ks S C)->FitSs ks S C ts
 | [],_=>by rw [FitSs];trivial
 | t::ts,h=>by
   rw [FitSs];exact ⟨h t (UH ..),FitSs.of fun u hu=>h u (UJ _ hu)⟩
theorem ml {ts:List Th} {n:Nat} (h:∀ t∈ts,t.tall<=n):bE ts<=n:=by
 induction ts with
 | nil=>rw [bE];exact UO _
 | cons t ts ih =>
   rw [bE];have h1:=h t (UH ..);have h2:=ih fun u hu=>h u (UJ _ hu);omega
def SameB (l:Ui) (H H':Hp):Prop:=∀ b o,b≠l->H b=some o->H' b=some o
theorem SameB.refl {l:Ui} {H:Hp}:SameB l H H:=fun _ _ _ e=>e
theorem SameB.trans {l:Ui} {A B C:Hp} (h:SameB l A B) (k:SameB l B C):SameB l A C:=fun b o hb e=>k b o hb (h b o hb e)
theorem SameB.of {l:Ui} {H H':Hp} (h:L2.Same H H'):SameB l H H':=fun b o _ e=>h b o e
theorem SameB.set {l:Ui} {H:Hp} {o:HO}:SameB l H (upd H l o):=fun b o hb e=>by rw [ak hb];exact e
theorem SameB.kt {l:Ui} {H H':Hp} {xs:List V} (h:SameB l H H') (e:H l=some (.lst xs)):KT H H':=fun b ys eb=>h b _ (fP eb e (by intro z;cases z)) eb
def RowAt (H:Hp) (row:List Th) (a:Ui):Prop:=∃ as:List Ui,H a=some (.tup (as.map V.ref))/\Ats H row as
theorem RowAt.mono {H H':Hp} (k:KT H H') {row:List Th} {a:Ui} (h:RowAt H row a):RowAt H' row a:=by
 obtain ⟨as,h1,h2⟩:=h;exact ⟨as,k _ _ h1,h2.mono k⟩
structure BookAt (H:Hp) (ins outs:List (US×Int)) (head:Th) (rows:List (List Th)) (r ia oa ha ra:Ui) (yk yB yV:List Ui):Prop where
 bk:H r=some (.tup [.ref ia,.ref oa,.ref ha,.ref ra])
 inE:H ia=some (.tup (yk.map V.ref))
 inK:KsAt H ins yk
 outE:H oa=some (.tup (yB.map V.ref))
 outK:KsAt H outs yB
 hd:At H head ha
 rl:H ra=some (.tup (yV.map V.ref))
 rw:UX (RowAt H) rows yV
theorem BookAt.mono {H H':Hp} (k:KT H H') {ins outs:List (US×Int)} {head:Th} {rows:List (List Th)} {r ia oa ha ra:Ui} {yk yB yV:List Ui} (b:BookAt H ins outs head rows r ia oa ha ra yk yB yV):BookAt H' ins outs head rows r ia oa ha ra yk yB yV :=
 ⟨k _ _ b.bk,k _ _ b.inE,b.inK.mono k,k _ _ b.outE,b.outK.mono k,b.hd.mono k,k _ _ b.rl,P2.mp (fun _ _ e=>e.mono k) b.rw⟩
theorem eS {z:US} {n:Nat} (h:n<=z.length):(dU z none (some (n:Int))).cps.toList=z.cps.toList.take n/\(dU z none (some (n:Int))).length=n:=by
 have hz:z.cps.toList.length=z.length:=U3
 have e:(dU z none (some (n:Int))).cps.toList=z.cps.toList.take n:=by
  show (jS z.cps.toList none (some (n:Int))).toArray.toList=_;rw [List.toList_toArray];unfold jS;rw [HT.sIx_nat,HT.sIx_none,hz,Yu h];simp
 refine ⟨e,?_⟩;show (dU z none (some (n:Int))).cps.size=n;rw [<- U3,e,UQ,hz];omega
end BB
namespace BB
open PySem L2
theorem gP {ks:List (US×Int)} {S C:Int}:∀ {ts:List Th},FitSs ks S C ts->∀ t∈ts,t.FitS ks S C
 | [],_,t,ht=>by cases ht
 | a::ts,h,t,ht=>by
   rw [FitSs] at h;rcases UK.mp ht with rfl | ht
   · exact h.1
   · exact gP h.2 t ht
def Bk (H:Hp) (ins outs:List (US×Int)) (head:Th) (rows:List (List Th)) (r:Ui):Prop:=∃ ia oa ha ra yk yB yV,BookAt H ins outs head rows r ia oa ha ra yk yB yV
theorem Bk.mono {H H':Hp} (k:KT H H') {ins outs:List (US×Int)} {head:Th} {rows:List (List Th)} {r:Ui} (b:Bk H ins outs head rows r):Bk H' ins outs head rows r:=by
 obtain ⟨ia,oa,ha,ra,yk,yB,yV,b⟩:=b;exact ⟨ia,oa,ha,ra,yk,yB,yV,b.mono k⟩
end BB
namespace L2
open PySem PySem.Spec PySem.Calls PyProof.Rows PySem.SeqAt
end L2
namespace BB
open PySem L2
end BB
namespace L2
open PySem PySem.Spec PyProof.Rows
section
variable {X:Cx} {e:VC} {te:TE} {p p2 pos yD:Yl}
end
end L2
namespace BB
open PySem L2
theorem gO {α:Type} {F:Hp->α->Ui->Prop} {js:List (Option Nat)} {g:TG} {tt:TT} {te:TE} {σ:St} {J:It} {H:Hp} {xs:List V} {fin:Ui->Hp->Prop} (zs:List α) (hF:∀ H1 H2 z p,KT H1 H2->F H1 z p->F H2 z p) (hz:zs.length=xs.length) (hn:xs.length<=1000000)
 (Cb:∀ i H2,L2.Same H H2->i<xs.length->J.go i H2) (zd:∀ H2,L2.Same H H2->J.stop xs.length H2) (Ag:∀ (i:Nat) H2 x H3,L2.Same H H2->i<xs.length->J.yld i H2 x H3->H3=H2/\xs[i]?=some x)
 (hb:∀ (i:Nat) x z H2 (R:VK) (W':Hp->Prop),xs[i]?=some x->zs[i]?=some z->L2.Same H H2->(∀ H3 p,L2.Same H2 H3->F H3 z p->R (.ref p) H3)->g x (cσ js σ) H2 fun yw H3=>tt yw H3 fun b H4=>if b=true then te yw H4 R else W' H4)
 (zB:∀ D H' as,H D=none->L2.Same H H'->H' D=some (.lst (as.map V.ref))->UX (F H') zs as->fin D H') :
 ∀ D,H D=none->∃ (n:Nat) (W:Nat->Hp->Prop),W 0 (upd H D (.lst []))/\fO js g tt te σ J D n W fun H'=>fin D H':=by
 intro D hD;refine ⟨xs.length,fun i H'=>i<=xs.length/\L2.Same H H'/\∃ as:List Ui,H' D=some (.lst (as.map V.ref))/\UX (F H') (zs.take i) as,⟨UO _,ad hD _,[],by rw [ab];rfl,.nil⟩,?_⟩;rintro i H' ⟨hi,s1,as,e1,hp⟩;by_cases ym:i<xs.length
 · refine .inr ⟨ym,Cb i H' s1 ym,fun v H1 hy=>?_⟩;obtain ⟨e,hx⟩:=Ag i H' v H1 s1 ym hy;subst e;obtain ⟨z,zQ⟩:∃ z,zs[i]?=some z:=⟨_,Ue (by omega)⟩;have hl:(zs.take i).length=as.length:=Uv hp;rw [UQ] at hl;refine hb i v z _ _ _ hx zQ s1 fun H3 p s3 La=>⟨_,s3 _ _ e1,?_,ym,aw (s1.trans s3) hD,as++[p],?_,?_⟩
   · rw [Uc];have:UD=16777216:=Yj;omega
   · rw [ab,Ux];rfl
   · have kt:KT H3 (upd H3 D (.lst (as.map V.ref++[.ref p]))):=aS (s3 _ _ e1);rw [take_snoc zQ];exact P2.append (P2.mp (fun x y e=>hF _ _ _ _ ((Same.kt s3).trans kt) e) hp) (.cons (hF _ _ _ _ kt La) .nil)
 · have yX:i=xs.length:=by omega
   subst yX;refine .inl ⟨zd _ s1,zB D H' as hD s1 e1 ?_⟩;rw [Vx (by omega)] at hp;exact hp
end BB
namespace L2
open PySem PySem.Spec PyProof.Rows
end L2
namespace L2
open PySem
theorem us1 {α:Type}:∀ {us:List α},us.length=1->∃ a,us=[a]
 | [a],_=>⟨a,rfl⟩
theorem us2 {α:Type}:∀ {us:List α},us.length=2->∃ a b,us=[a,b]
 | [a,b],_=>⟨a,b,rfl⟩
theorem us3 {α:Type}:∀ {us:List α},us.length=3->∃ a b c,us=[a,b,c]
 | [a,b,c],_=>⟨a,b,c,rfl⟩
theorem us4 {α:Type}:∀ {us:List α},us.length=4->∃ a b c d,us=[a,b,c,d]
 | [a,b,c,d],_=>⟨a,b,c,d,rfl⟩
end L2
namespace PySem
open Sem (wp)
section
variable {prog:Uz} {w:UN} {K:Type} [DecidableEq K] {knd:HeapKind prog w K} {A:U9} {E:Ul->Ur->Prop} {s:Ur}
end
end PySem
namespace L2
open PySem PySem.Spec PyProof.Rows BB
end L2
namespace BB
open PySem L2
theorem vU:(Um "*")≠q:=by decide +kernel
end BB
namespace PySem
open Sem (wp)
section
variable {prog:Uz} {w:UN} {A:U9} {E:Ul->Ur->Prop} {s:Ur} {I:Ui} {fp wr:List Ui} {G:Array GenState->Array GenState->Prop} {n:Nat} {P:Nat->Ul->Prop} {St:Nat->Ur->Prop}
end
end PySem
namespace L2
open PySem PySem.Spec PyProof.Rows
section
variable {X:Cx} {o e:VC} {to te:TE} {p2 yD apos yt:Yl}
end
end L2
namespace PySem
open Sem (wp)
namespace F
theorem bb_list_nokeys:XW (.type "list") "keys"=pure none:=by rw [Wo,VL];kernel_rfl
end F
section
variable {prog:Uz} {w:UN} {A:U9} {E:Ul->Ur->Prop} {s:Ur} {a:Ui} {xs:Array Ul} {k:Nat}
theorem bb_nokeysL {Q:Option Ul->Ur->Prop} (hA:A.handled=none) (hx:s.heap.get? a=some { cls:=.type "list",data:=.seq xs k })
 (q:∀ h' tk,(∀ b o,s.heap.get? b=some o->h'.get? b=some o)->Q none { s with heap:=h',toks:=tk }):UC (U0 prog w) A (getAttr? (.ref a) "keys") Q E s:=by
 obtain ⟨hp,g,d,tk,os⟩:=s;have gT:∀ z,(⟨hp,g,d,z,os⟩:Ur).TypeIs (.ref a) "list":=fun _=>⟨_,hx,rfl⟩;have g1:=sub_AttributeError;have g3:=Zf.lookup;have g4:=Zf.bind (.ref a);have g5:=am_list_getattr_none;unfold getAttr? getAttrBy? getAttrBy
 repeat (any_goals (first | assumption | exact gT _ | ((with_reducible show UC _ _ (call (Value.builtin "list.__getattribute__") _ _) _ _ _);refine YU Zf (gT _) am_entry_list_getattribute (F.args_list_getattribute_2 _ _) (meets_getattribute_miss_list a xs k #[] "keys" _ F.bb_list_nokeys (by decide +kernel) (by decide)) ⟨hx,hA,fun h' Qs e Cu=>?_⟩) | wp_step))
 obtain ⟨t',u',he⟩:=Cu.there;show UC _ _ (getattributeRaised _ _ _ _ _ _ _) _ _ _;unfold getattributeRaised
 repeat (any_goals (first | assumption | wp_step))
 exact q h' Qs Cu.keeps
end
end PySem
namespace L2
open PySem PySem.Spec PyProof.Rows
def cn:List (List Key×V)->List (List Key×V)->List (List Key×V)
 | f',[]=>f'
 | f',p::ps=>cn (putK f' p.1 p.2) ps
def PrA (H:Hp) (pr:List Key×V) (pa:Ui):Prop:=∃ ka,H pa=some (.tup [.ref ka,pr.2])/\H ka=some (.tup (pr.1.map kV))
section
variable {X:Cx} {pins:List (Ui×WA)} {σ:St}
theorem rX {H:Hp} {s:Ur} {a b:Ui} {v:V} {r:Ul} {k:List Key} {f':List (List Key×V)} {A:U9} {E:Ul->Ur->Prop} {Q:Unit->Ur->Prop} (hu:(Zg (aG X.prog X.w)).room A) (I:Inv X pins σ H s) (e:H a=some (.dT f')) (eb:H b=some (.tup (k.map kV))) (l:f'.length<UD) (rv:RelV v r) (h:∀ h' tk,We a s.heap h'->Inv X pins σ (upd H a (.dT (putK f' k v))) { s with heap:=h',toks:=tk }->Q () { s with heap:=h',toks:=tk }) :
 UC (U0 X.prog X.w) A (dictSet a (.ref b) r) Q E s:=by
 obtain ⟨z,hd,xs,rel,dd⟩:=vp I.hok e;have hz:xs.length<=UD:=by rw [<- Uv rel];exact z
 have hl:(putK f' k v).length<=UD:=by have:=bZ f' k v;omega
 refine wpAny_dictSet_heap (hsz:=hz) hu (im I.hok eb) dd fun h' BP hs=>h _ _ hs ?_;obtain ⟨q,es,ep,hq,h2,h3,h4,_,h5⟩:=BP;refine gQ I (by rw [e];exact Wz) hs ⟨q,hq⟩ ⟨hl,hd,_,(rel.put k eb rv).keeps fun c ys ec=>?_,q,es,ep,hq,h2,h3,h4,h5⟩;rw [ak (fP ec e (fun z=>nomatch z))];exact ec
theorem qv {A:U9} {d it l:Ui} {prs:List (List Key×V)} {ps:List Ui} {R:Result->Ur->Prop} (hh:A.handled=none) (hu:A.units+8<V3) (hn:prs.length<=10000) :
 ∀ (m i:Nat) (s:Ur) (tk:Tok) (H:Hp) (f':List (List Key×V)),prs.length - i=m->i<=prs.length->Inv X pins σ H s->H d=some (.dT f')->f'.length<=i->jR X pins H it->s.heap.IsListIter it l i->H l=some (.lst (ps.map V.ref))->UX (PrA H) prs ps →
   (∀ s',Inv X pins σ (upd H d (.dT (cn f' (prs.drop i)))) s'->R (.ok (.ret .none)) s') →
   Yr (U0 X.prog X.w) A (.builtin "dict.update.loop" ⟨[.ref d,.ref it,.int i tk,.none],[]⟩) R s:=by
 intro m;induction m with
 | zero =>
   intro i s tk H f' hk hi I ed ze hf hit el yT hR;have By:i=prs.length:=by omega
   subst By;obtain ⟨its,rv,p,hz⟩:=I.list (SqL.of (K:=X.K) el);have y8:prs.length=ps.length:=Uv yT;have hl:=rv.length;rw [Uc] at hl;obtain ⟨f0,f1,f2,f3,f4,f5⟩:=hf;refine Yg PySem.F.bb_entry_upd ?_;rw [Xj PySem.F.bb_plain_upd _];show UC _ A.in1 (Xl (.ref it) >>= _) _ _ s;refine Ud (wpAny_pyNext_list_end hh hit p.isList (by simp;omega) fun h' eb=>?_);refine Ud (Uq (Uq ?_));refine hR _ ?_;rw [List.drop_length]
   have e0:upd H d (.dT (cn f' []))=H:=by
    funext b;by_cases hb:b=d
    · rw [hb,ab,ed];rfl
    · rw [ak hb]
   rw [e0];exact I.turned (t':=s.toks) (fun b o hb e=>eb b o hb e) f0 f1 f3 f4 f5
 | succ m ih =>
   intro i s tk H f' hk hi I ed ze hf hit el yT hR;have ym:i<prs.length:=by omega
   have y8:prs.length=ps.length:=Uv yT;obtain ⟨its,rv,p,hz⟩:=I.list (SqL.of (K:=X.K) el);have hl:=rv.length;rw [Uc] at hl;obtain ⟨pa,Dd,ka,zV,F7⟩:=BB.P2.get yT (Ue ym);have hx:(ps.map V.ref)[i]?=some (.ref pa):=by rw [Uo,Dd];rfl
   obtain ⟨u,Qt,ru⟩:=rv.get hx;cases ru;obtain ⟨f0,f1,f2,f3,f4,f5⟩:=id hf;refine Yg PySem.F.bb_entry_upd ?_;rw [Xj PySem.F.bb_plain_upd _];show UC _ A.in1 (Xl (.ref it) >>= _) _ _ s;refine Ud (wpAny_pyNext_list_item hit p.isList (x:=.ref pa) (by simpa using Qt) fun h1 Lb Qu=>?_);have I1:Inv X pins σ H { s with heap:=h1 }:=I.turned (t':=s.toks) (fun b o hb e=>(Qu.2 b hb).trans e) f0 f1 f3 f4 f5;obtain ⟨_,yf,n2,Qv,e2⟩:=(show ObjOk X.prog X.w H h1 pa (.tup [.ref ka,(prs[i]).2]) from I1.hok pa _ zV)
   obtain ⟨vv,rfl,Qw⟩:∃ vv,yf=[.ref ka,vv]/\RelV (prs[i]).2 vv:=by
    cases Qv with
    | cons a b =>
      cases b with
      | cons c d =>
        cases d;cases a;exact ⟨_,rfl,c⟩
   have Qx:(⟨h1,s.gens,s.drawn,s.toks,s.os⟩:Ur).TypeIs (.ref pa) "tuple":=⟨_,e2,rfl⟩;refine Ud (VP ?_);refine Ud (wpAny_tryCatch ?_);unfold Builtin.Dict.pairItems;refine Ud (W0 Qx ?_);rw [if_pos (by decide)];refine Ud (VO e2 rfl (Uq ?_));show UC _ _ (holding [.ref ka,vv] (dictSet d (.ref ka) vv)) _ _ _;refine VP (rX (k:=(prs[i]).1) ?_ I1 ed F7 (by have:=fk;rw [Yj];omega) Qw fun h2 S5 Cv I2=>?_)
   · exact Yh (by omega)
   refine Uq ⟨Xm PySem.F.bb_plain_upd _,?_⟩
   have Ho:WM ((i:Int)+1)=.int ((i+1:Nat):Int) 0:=by
    show Value.int ((i:Int)+1) 0=_;rw [show ((i+1:Nat):Int)=(i:Int)+1 by omega]
   rw [Ho];have JJ:it≠d:=fun z=>by rw [z,ed] at f0;cases f0
   refine ih (i+1) _ 0 _ (putK f' (prs[i]).1 (prs[i]).2) (by omega) ym I2 ab (by have:=bZ f' (prs[i]).1 (prs[i]).2;omega) ⟨by rw [ak JJ];exact f0,f1,f2,f3,f4,f5⟩ ?_ ?_ ?_ fun s' I'=>hR s' ?_
   · obtain ⟨o,g1,r⟩:=Lb;exact ⟨o,(Cv.2 it JJ).trans g1,r⟩
   · rw [ak (fP el ed (fun z=>nomatch z))];exact el
   · refine BB.P2.mp (fun x y e=>?_) yT;obtain ⟨CJ,g1,g2⟩:=e;exact ⟨CJ,by rw [ak (fP g1 ed (fun z=>nomatch z))];exact g1,by rw [ak (fP g2 ed (fun z=>nomatch z))];exact g2⟩
   · rw [jY] at I';rw [XQ ym];exact I'
def wa:List V->Hp->VK->Prop:=fun xs H Q=>∃ (l:Ui) (ps:List Ui) (prs:List (List Key×V)),xs=[.ref l]/\H l=some (.lst (ps.map V.ref))/\UX (PrA H) prs ps/\prs.length<=10000/\∀ d,H d=none->Q (.ref d) (upd H d (.dT (cn [] prs)))
theorem lF (hu:X.A.units+12<V3) (hc:X.calm=true):g9 X (.type "dict") wa:=by
 intro pins s σ H xs us Q I r h;obtain ⟨l,ps,prs,rfl,el,yT,hn,q⟩:=h;obtain ⟨u,rfl,rx⟩:=vals1 r;cases rx;obtain ⟨z,its,n,rv,e⟩:=(show ObjOk X.prog X.w H s.heap l (.lst (ps.map V.ref)) from I.hok l _ el);refine ZF (Q₁:=fun obj ye=>obj=.ref s.heap.objs.size/\ye={ s with heap:=s.heap.push { cls:=.type "dict",data:=.dict #[] } }) PySem.F.kt_called_dict (PySem.F.kt_typeCall_dict_1 _) PySem.F.entry_dict_init (kt_code_dict_new _ ⟨rfl,rfl⟩) ?_;rintro obj ye ⟨rfl,rfl⟩;have gn:(s.heap.push { cls:=.type "dict",data:=.dict #[] }).DictOf (aG X.prog X.w) s.heap.objs.size []:=Heap.DictOf.new s.heap;have gt:(s.heap.push { cls:=.type "dict",data:=.dict #[] }).get? l=some { cls:=.type "list",data:=.seq its.toArray n }:=Up _ e;refine ⟨gn.typeIs,PySem.F.args_dict_init_2 _ _,?_⟩;have Cd:=I.hok.fresh (Uj s.heap.objs.size);have I1:Inv X pins σ (upd H s.heap.objs.size (.dT [])) { s with heap:=s.heap.push { cls:=.type "dict",data:=.dict #[] } }:=I.laid (a:=s.heap.objs.size) (o:=.dT []) (t':=s.toks) (fun _ _ q=>Up _ q) (Uj _) (pB s.heap I.big);unfold W4.«dict.__init__»;refine Ud ?_;unfold Builtin.Dict.selfAndRest;refine Ud (Zz gn.typeIs ?_);show UC _ _ (pure (s.heap.objs.size,[UZ l])) _ _ _;refine Uq ?_;show UC _ _ (Builtin.Dict.updateFrom "dict.__init__" s.heap.objs.size (.ref l) [] .none) _ _ _;unfold Builtin.Dict.updateFrom;refine Ud (W0 (T:="list") ⟨_,gt,rfl⟩ ?_);rw [if_pos (by decide)];refine Ud (bb_nokeysL (A:=X.A.in1.in1) (I.ok.hd hc) gt fun h1 F8 k1=>?_);have I2:Inv X pins σ (upd H s.heap.objs.size (.dT [])) { s with heap:=h1,toks:=F8 }:=I1.kept (t':=F8) fun b o e=>k1 b o e;simp only [Option.isNone_none,if_true];refine Ud (Xa ?_);obtain ⟨od,es,ep,Qy,S6⟩:=id gn;have ym:s.heap.objs.size<h1.objs.size:=UA (k1 _ _ Qy);refine Ud (wpAny_pyIter_list (l:=l) (items:=its.toArray) ⟨_,k1 _ _ gt,rfl,n,rfl⟩ ?_);refine Uq ⟨Xm PySem.F.bb_plain_upd _,?_⟩;have Lc:l≠s.heap.objs.size:=aJ el Cd
 have Ld:UX (PrA (upd H s.heap.objs.size (.dT []))) prs ps:=BB.P2.mp (fun x y e=>by
  obtain ⟨ka,g1,g2⟩:=e;exact ⟨ka,by rw [ak (aJ g1 Cd)];exact g1,by rw [ak (aJ g2 Cd)];exact g2⟩) yT
 have Qz:(upd H s.heap.objs.size (.dT [])) h1.objs.size=none:=I2.hok.fresh (Uj _);refine qv (A:=X.A.in1) (d:=s.heap.objs.size) (it:=h1.objs.size) (l:=l) (prs:=prs) (ps:=ps) (I.ok.hd hc) (by show X.A.units+1+8<V3;omega) hn prs.length 0 _ 0 (upd H s.heap.objs.size (.dT [])) [] (ZJ _) (UO _) (I2.kept (t':=F8) fun b o e=>Up _ e) ab (Uj _) (I2.fpOk (Uj _) Qz) ⟨_,Uy _ rfl,rfl,rfl⟩ (by rw [ak Lc];exact el) Ld fun s' I'=>?_;rw [jY,WE] at I';exact ⟨rfl,.ref s.heap.objs.size,_,I',rfl,q _ Cd⟩
end
end L2
namespace BB
open PySem L2
theorem uW {k:Nat} {A:U9} (hr:L2.Room k A):A.units+12<V3:=by
 have:=hr.units;omega
theorem jN {R:List Key->V->Prop}:∀ (prs f':List (List Key×V)),(∀ k v,aV f' k=some v->R k v)->(∀ p∈prs,R p.1 p.2) →
 (∀ k v,aV (cn f' prs) k=some v->R k v)/\(∀ k,((∃ v,aV f' k=some v)∨∃ p∈prs,p.1=k)->∃ v,aV (cn f' prs) k=some v)
 | [],f',h1,_=>⟨h1,fun k h=>by
   rcases h with h | ⟨p,hp,_⟩
   · exact h
   · cases hp⟩
 | p::prs,f',h1,h2=>by
   have ih:=jN (R:=R) prs (putK f' p.1 p.2) (fun k v hv=>by
    rw [iR] at hv;by_cases e:k=p.1
    · rw [if_pos e] at hv;cases hv;rw [e];exact h2 p (UH ..)
    · rw [if_neg e] at hv;exact h1 k v hv) (fun x hx=>h2 x (UJ _ hx))
   refine ⟨ih.1,fun k h=>ih.2 k ?_⟩;by_cases e:k=p.1
   · left;exact ⟨p.2,by rw [iR,if_pos e]⟩
   · rcases h with ⟨v,hv⟩ | ⟨x,hx,Oc⟩
     · left;exact ⟨v,by rw [iR,if_neg e];exact hv⟩
     · rcases UK.mp hx with rfl | hx
       · exact absurd Oc.symm e
       · exact .inr ⟨x,hx,Oc⟩
end BB
namespace PySem
section
variable {prog:Uz} {w:UN} {A:U9} {E:Ul->Ur->Prop} {s:Ur}
theorem bb_zip_next0 {z TI TO i1 i2 l1 l2:Ui} {k:Nat} {xs ys:Array Ul} {x y a b:Ul} {Q:Option Ul->Ur->Prop} (D:ZG z TI TO i1 i2 l1 l2)
 (hz:Zm s.heap z TI TO .none) (hTI:WB s.heap TI (.ref i1) (.ref i2)) (hTO:WB s.heap TO a b)
 (h1:s.heap.IsTupleIter i1 l1 k) (h2:s.heap.IsTupleIter i2 l2 k) (zx:s.heap.IsTuple l1 xs) (y4:s.heap.IsTuple l2 ys) (hx:xs[k]?=some x) (hy:ys[k]?=some y)
 (hQ:∀ h',Zm h' z TI TO (WM s.heap.objs.size)->WB h' TO x y->h'.IsTupleIter i1 l1 (k+1)->h'.IsTupleIter i2 l2 (k+1)->WB h' s.heap.objs.size x y->h'.objs.size=s.heap.objs.size+1 →
  (∀ c o,c≠z->c≠TO->c≠i1->c≠i2->s.heap.get? c=some o->h'.get? c=some o)->Q (some (.ref s.heap.objs.size)) { s with heap:=h' }) :
 UC (U0 prog w) A (Xl (.ref z)) Q E s:=by
 have hT:s.TypeIs (.ref z) "zip":=⟨_,hz,rfl⟩;unfold Xl;refine Ud (Xk (Vr (name:=Um "__next__") hT XF (Vz XF hT F.entry_zip_next ?_ (F.args_zip_next_1 _))));exact bb_zip_itemA D hz hTI hTO h1 h2 zx y4 hx hy fun h' a1 a2 a3 a4 a5 a6 a7=>Uq (hQ h' a1 a2 a3 a4 a5 a6 a7)
end
end PySem
namespace L2
open PySem PySem.Spec PyProof.Rows
def Itz (K:Ug) (a b:Ui):It:=⟨fun i H=>∃ xs ys x y,SqT K H a xs/\SqT K H b ys/\xs[i]?=some x/\ys[i]?=some y,fun i H v H'=>∃ p x y,H p=none/\v=.ref p/\H'=upd H p (.tup [x,y])/\(∀ xs,SqT K H a xs->xs[i]?=some x)/\(∀ ys,SqT K H b ys->ys[i]?=some y),fun i H=>∃ xs ys,SqT K H a xs/\SqT K H b ys/\(xs.length<=i∨ys.length<=i)⟩
structure ZTn (z TI TO i1 i2 a b:Ui) (i:Nat) (h:VH):Prop where
 ap:ZG z TI TO i1 i2 a b
 zip:Zm h z TI TO .none
 hTI:WB h TI (.ref i1) (.ref i2)
 hTO:∃ u v,WB h TO u v
 h1:h.IsTupleIter i1 a i
 h2:h.IsTupleIter i2 b i
theorem tE {P:Uz} {w:UN} {K:Ug} {elts:List VC} {k1} {pos:Yl} (a b z TI TO i1 i2:Ui):Turn P w K (.Tuple elts k1 pos) (Itz K a b) [z,TI,TO,i1,i2] z (ZTn z TI TO i1 i2 a b) where
 mem:=by simp
 obj:=fun i h st c hc=>by
  obtain ⟨D,hz,hTI,⟨u,v,hTO⟩,⟨o1,a1,a2,a3⟩,⟨o2,b1,b2,b3⟩⟩:=st;simp only [UK,Xi,or_false] at hc;rcases hc with rfl | rfl | rfl | rfl | rfl
  · exact ⟨_,hz,fun v z=>by cases z⟩
  · exact ⟨_,hTI,fun v z=>by cases z⟩
  · exact ⟨_,hTO,fun v z=>by cases z⟩
  · exact ⟨o1,a1,fun v z=>by rw [a3] at z;cases z⟩
  · exact ⟨o2,b1,fun v z=>by rw [b3] at z;cases z⟩
 keep:=fun i h h' st k=>by
  obtain ⟨D,hz,hTI,⟨u,v,hTO⟩,⟨o1,a1,a2⟩,⟨o2,b1,b2⟩⟩:=st;exact ⟨D,k _ (by simp) _ hz,k _ (by simp) _ hTI,⟨u,v,k _ (by simp) _ hTO⟩,⟨o1,k _ (by simp) _ a1,a2⟩,⟨o2,k _ (by simp) _ b1,b2⟩⟩
 item:=by
  intro X hP hw hK hc i pins s σ H E I hf st hg;subst hP hw hK;obtain ⟨xs,ys,x,y,Ef,Eg,hx,hy⟩:=hg;obtain ⟨ia,E1,pa,F5⟩:=I.tuple Ef;obtain ⟨ib,E2,pb,K8⟩:=I.tuple Eg;obtain ⟨u,hu,ru⟩:=E1.get hx;obtain ⟨v,hv,rv⟩:=E2.get hy;obtain ⟨D,hz,hTI,⟨ta,tb,hTO⟩,h1,h2⟩:=st
  have lt:∀ c∈[z,TI,TO,i1,i2],c<s.heap.objs.size:=fun c hc=>by
   simp only [UK,Xi,or_false] at hc;rcases hc with rfl | rfl | rfl | rfl | rfl
   · exact UA hz
   · exact UA hTI
   · exact UA hTO
   · obtain ⟨o,e,_⟩:=h1;exact UA e
   · obtain ⟨o,e,_⟩:=h2;exact UA e
  refine bb_zip_next0 D hz hTI hTO h1 h2 (show s.heap.IsTuple a ia.toArray from pa) (show s.heap.IsTuple b ib.toArray from pb) (by simpa using hu) (by simpa using hv) fun AU a1 a2 a3 a4 a5 a6 a7=>?_;refine ⟨_,rfl,wpAny_letOwnedTupleGo_zip a1 fun Ax g1 sb=>?_⟩;replace sb:We z AU Ax:=sb;have G5:H s.heap.objs.size=none:=I.hok.fresh (Uj _)
  have IA:Inv X pins σ (upd H s.heap.objs.size (.tup [x,y])) { s with heap:=s.heap.push { cls:=.type "tuple",data:=.seq #[u,v] },toks:=s.toks } :=
   I.laid (o:=.tup [x,y]) (fun b ob q=>Up _ q) (Uj _) ⟨by show 2<=UD;decide,[u,v],0,.cons ru (.cons rv .nil),Uy _ rfl⟩
  have S7:s.heap.objs.size≠z:=XI (lt z (by simp));refine ⟨.ref s.heap.objs.size,upd H s.heap.objs.size (.tup [x,y]),?_,rfl,⟨_,x,y,G5,rfl,rfl,fun zs Hq=>by rw [I.tuple_inj Hq Ef];exact hx,fun zs Hq=>by rw [I.tuple_inj Hq Eg];exact hy⟩,?_,fun c hc=>?_⟩
  · have IB:Inv X pins σ (upd H s.heap.objs.size (.tup [x,y])) { s with heap:=Ax,toks:=s.toks }:=by
     refine Inv.turnedL (s:={ s with heap:=s.heap.push { cls:=.type "tuple",data:=.seq #[u,v] },toks:=s.toks }) (h':=Ax) (fp:=[z,TI,TO,i1,i2]) (t':=s.toks) IA (fun c o hc q=>?_) fun c hc=>?_
     · have n1:c≠z:=fun e=>hc (by simp [e]);have n2:c≠TO:=fun e=>hc (by simp [e]);have n3:c≠i1:=fun e=>hc (by simp [e]);have n4:c≠i2:=fun e=>hc (by simp [e]);rw [sb.2 c n1];by_cases yC:c=s.heap.objs.size
       · subst yC;have q':(s.heap.push { cls:=.type "tuple",data:=.seq #[u,v] }).get? s.heap.objs.size=some o:=q;rw [Uy _ rfl] at q';rw [<- q'];exact a5
       · have q':(s.heap.push { cls:=.type "tuple",data:=.seq #[u,v] }).get? c=some o:=q;rw [Heap.get?_push_ne _ _ _ yC] at q';exact a7 c o n1 n2 n3 n4 q'
     · obtain ⟨f0,f1⟩:=hf c hc;exact ⟨by rw [ak (U2 (lt c hc))];exact f0,f1⟩
    exact IB
  · have sT:∀ c o,c≠z->AU.get? c=some o->Ax.get? c=some o:=fun c o hc e=>(sb.2 c hc).trans e;refine ⟨D,g1,sT _ _ D.TIz (a7 _ _ D.TIz D.TITO D.TIi1 D.TIi2 hTI),⟨_,_,sT _ _ D.TOz a2⟩,?_,?_⟩
    · obtain ⟨o,e,r⟩:=a3;exact ⟨o,sT _ _ D.i1z e,r⟩
    · obtain ⟨o,e,r⟩:=a4;exact ⟨o,sT _ _ D.i2z e,r⟩
  · rw [ak (U2 (lt c hc))];exact (hf c hc).1
 done:=by
  intro X hP hw hK hc i pins s σ H E I hf st hg;subst hP hw hK;obtain ⟨xs,ys,Ef,Eg,zR⟩:=hg;obtain ⟨ia,E1,pa,F5⟩:=I.tuple Ef;obtain ⟨ib,E2,pb,K8⟩:=I.tuple Eg;have BA:=E1.length;have Qm:=E2.length;obtain ⟨D,hz,hTI,hTO,h1,h2⟩:=st;refine bb_zip_done (show X.A.handled=none from I.ok.hd hc) ⟨D,.inl hz,hTI,hTO,h1,h2,pa,pb⟩ ?_ fun h' kp=>⟨rfl,?_⟩
  · rcases zR with h | h
    · exact .inl (by simp;omega)
    · exact .inr (by simp;omega)
  exact I.turnedL (fp:=[z,TI,TO,i1,i2]) (t':=s.toks) (fun c o hc q=>kp c o (fun hm=>hc (by simp only [UK,Xi,or_false] at hm ⊢;rcases hm with h | h | h | h <;> simp [h])) q) hf
 self:=fun _ _ _ _ _ st h=>wpAny_pyIter_zip st.zip h
section
variable {X:Cx} {e1 e2:VC} {t:TA} {p2 yD:Yl}
def xY (K:Ug) (t:TA):TI:=fun σ H R=>t σ H fun vs H1=>∃ a b,vs=[.ref a,.ref b]/\(∃ xs,SqT K H1 a xs)/\(∃ ys,SqT K H1 b ys)/\R (Itz K a b) H1
theorem sU {elts:List VC} {k1} {pos:Yl} (g2:Gl X "zip") (m2:X.mg "zip"=none) (ha:PA X [e1,e2] t)
 (h2:Vm [e1,e2] X.env=(false,WN e1 X.env)::Vm [e2] X.env:=by rfl) (h3:(Ys yD (Vm [e2] X.env)).any (·.1)=false:=by rfl):PI X (.Tuple elts k1 pos) (.Call (.Name "zip" p2) [e1,e2] [] yD) (xY X.K t):=by
 intro pins s σ H R I h;refine V1 (cS I g2 m2 boot_zip ?_);refine Vj (thn (ha yD pins s σ H _ I h) fun us s2 ⟨vs,H2,I2,r,a,b,ev,⟨xs,Ef⟩,⟨ys,Eg⟩,q⟩=>?_) h2 h3;subst ev;obtain ⟨u1,u2,rfl,r1,r2⟩:=vals2 r;cases r1;cases r2;obtain ⟨ia,E1,pa,F5⟩:=I2.tuple Ef;obtain ⟨ib,E2,pb,K8⟩:=I2.tuple Eg;have zS:a<s2.heap.objs.size:=by obtain ⟨o,e,_⟩:=pa;exact UA e
 have zL:b<s2.heap.objs.size:=by obtain ⟨o,e,_⟩:=pb;exact UA e
 refine bb_call_zip (show s2.heap.IsTuple a ia.toArray from pa) (show s2.heap.IsTuple b ib.toArray from pb) fun h' z1 z2 z3 z4 z5 z6 z7=>?_;have D:ZG (s2.heap.objs.size+4) (s2.heap.objs.size+2) (s2.heap.objs.size+3) s2.heap.objs.size (s2.heap.objs.size+1) a b:=zipApart_new zS zL;refine wpAny_pyIter_zip (s:={ s2 with heap:=h' }) z1 ?_;refine ⟨s2.heap.objs.size+4,[s2.heap.objs.size+4,s2.heap.objs.size+2,s2.heap.objs.size+3,s2.heap.objs.size,s2.heap.objs.size+1],_,_,H2,rfl,I2.kept (t':=s2.toks) z7,tE a b _ _ _ _ _,⟨D,z1,z2,⟨_,_,z3⟩,z4,z5⟩,fun c hc=>?_,q⟩
 have zw:s2.heap.objs.size<=c:=by
  simp only [UK,Xi,or_false] at hc;rcases hc with h | h | h | h | h <;> rw [h]
  · exact WQ _ _
  · exact WQ _ _
  · exact WQ _ _
  · exact Uj _
  · exact WQ _ _
 exact I2.fpOk zw (I2.hok.fresh zw)
end
end L2
namespace BB
open PySem L2
end BB
namespace BB
open PySem L2
noncomputable section
local instance:DecidableEq Th:=fun _ _=>Classical.propDecidable _
end
end BB
namespace PySem
open Sem (wp)
section
variable {prog:Uz} {w:UN} {K:Type} [DecidableEq K] {knd:HeapKind prog w K} {A:U9} {E:Ul->Ur->Prop} {s:Ur}
theorem bb_setDefault_heap {d a:Ui} {xs:List (K×Ui×Ul)} {k:K} {v:Ul} {Q:Ul->Ur->Prop} (hu:knd.room A) (zP:knd.is s.heap k a) (hm:s.heap.DictOfH knd d xs)
 (E4:∀ p,XX xs k=some p->Q p.2 { s with toks:=s.toks+knd.draws k })
 (Le:XX xs k=none->∀ h',h'.DictOfH knd d (Y7 xs k a v)->We d s.heap h'->Q v { s with heap:=h',toks:=s.toks+knd.draws k })
 (hsz:xs.length<=UD):UC (U0 prog w) A (dictSetDefault d (.ref a) v) Q E s:=by
 obtain ⟨o,es,ep,ho,hc,hd,he,JK,hn⟩:=hm;unfold dictSetDefault
 try with_reducible refine VP ?_
 refine Ud (knd.pyHash hu zP ?_);refine Ud (wpAny_dictFind_heap (s:={ s with toks:=s.toks+knd.draws k }) hu zP ho hd he JK hn ?_ ?_)
 · intro Bb;have Lf:k∉xs.map (·.1):=not_mem_keys_of_get Bb
   refine Ud (Xa (Ud (wpAny_updateDictKeys (hz:=by have e:=size_of_entries he;omega) (s:={ s with toks:=s.toks+knd.draws k }) ho hd (Uq (Le (Y8 Bb) _ ⟨_,_,ep+1,U7 _ ho (Obj.isFreed_of_dict (Obj.data_mapDictKeys hd _)),
    hc.mapDictKeys _,Obj.data_mapDictKeys hd _,?_,?_,?_⟩ (Wy ..))))))
   · rw [storedH_new (Y8 Bb)];simp [he,entryOfKey]
   · rw [storedH_new (Y8 Bb)];intro x hx;rcases Ve.mp hx with hx | hx
     · exact knd.keeps (JK x hx) ho hd (Wy ..)
     · simp only [UP] at hx;subst hx;exact knd.keeps zP ho hd (Wy ..)
   · rw [storedH_new (Y8 Bb)];rw [Ux,YK];refine ⟨hn,by simp,?_⟩;intro x hx y hy;simp only [U8,Wq,UP] at hy;subst hy;exact fun e=>Lf (e ▸ hx)
 · intro j p hj;have h1:=E4 _ (atKey_of_get hn hj);refine Ud (Y6 (s:={ s with toks:=s.toks+knd.draws k }) ho hd ?_);rw [entry_at he j,hj];exact Ud (Xa (Uq h1))
theorem bb_meets_setdefault (knd:HeapKind prog w K) (d a:Ui) (dflt:Ul) (hd:(d == Wg)=false) :
 MeetsIn prog w (W4.«dict.setdefault» ⟨[.ref d,.ref a,dflt],[]⟩) (fun A R s=>knd.room A.in1/\∃ k xs,knd.is s.heap k a/\s.heap.DictOfH knd d xs/\xs.length<=UD ∧
  (∀ p,XX xs k=some p->R (.ok (.ret p.2)) { s with toks:=s.toks+knd.draws k }) ∧
  (XX xs k=none->∀ h',h'.DictOfH knd d (Y7 xs k a dflt)->We d s.heap h'->R (.ok (.ret dflt)) { s with heap:=h',toks:=s.toks+knd.draws k })) :=
 .of_wp fun A R s ⟨hu,k,xs,zP,hm,hz,h1,h2⟩=>by
  unfold W4.«dict.setdefault»;refine Ud ?_;unfold Builtin.Dict.keyAndDefault;have hT:s.TypeIs (.ref d) "dict":=hm.typeIs;refine Ud (Zz hT ?_);show UC _ _ (pure (d,UZ a,some dflt)) _ _ s;refine Uq ?_;show UC _ _ (if (d == Wg)=true then _ else (dictSetDefault d (.ref a) dflt >>= _)) _ _ s;rw [if_neg (by rw [hd];exact UI)];exact Ud (bb_setDefault_heap hu zP hm (fun p hp=>Uq ⟨_,rfl,h1 p hp⟩) (fun hn h' Ei zo=>Uq ⟨_,rfl,h2 hn h' Ei zo⟩) hz)
end
end PySem
namespace L2
open PySem PySem.Spec PyProof.Rows
end L2
namespace PySem
open Sem (wp)
section
variable {prog:Uz} {w:UN} {A:U9} {R:Result->Ur->Prop}
theorem bb_key_loop {S it d:Ui} {es:Array DictEntry} {ep:Nat} {od:WA} (hh:A.in1.handled=none) (hz:es.size<=UD) (E5:S≠it) (Hr:S≠d) (JJ:d≠it) (g2:od.data=.dict es ep) (res:Ul) :
 ∀ (k i:Nat) (s:Ur) (acc:Array Ul) (c:Nat),es.size - i=k->i<=es.size->s.heap.IsKeyIter it d i es.size ep->s.heap.get? d=some od->s.heap.get? S=some { cls:=.type "list",dict:=none,data:=.seq acc c,slots:=#[] }->acc.toList=(es.toList.take i).map (·.key) →
 (∀ h' za c',(∀ b o,b≠S->b≠it->s.heap.get? b=some o->h'.get? b=some o)->h'.get? S=some { cls:=.type "list",dict:=none,data:=.seq za c',slots:=#[] }->za.toList=es.toList.map (·.key)->R (.ok (.ret res)) { s with heap:=h' }) →
 Yr (U0 prog w) A (.builtin "list.extend.loop" ⟨[.ref S,.ref it,res],[]⟩) R s:=by
 intro k;induction k with
 | zero =>
   intro i s acc c hk hi hit hd hS yn hR;have By:i=es.size:=by omega
   subst By;refine Yg YL ?_;rw [Xj VU _];show UC _ A.in1 (Xl (.ref it) >>= _) _ _ s;refine Ud (bb_keyEnd hh hit hd g2 (Uj _) fun h' zz=>Uq ?_);refine hR h' acc c (fun b o _ hb e=>zz b o hb e) (zz _ _ E5 hS) ?_;rw [yn,Vx (by rw [U3];omega)]
 | succ k ih =>
   intro i s acc c hk hi hit hd hS yn hR;have ym:i<es.size:=by omega
   refine Yg YL ?_;rw [Xj VU _];show UC _ A.in1 (Xl (.ref it) >>= _) _ _ s;have hx:es[i]?=some es[i]:=Wv ym
   have zS:acc.size=i:=by
    have:=congrArg Xc yn;rw [U3,Uc,UQ,U3] at this;omega
   refine Ud (bb_keyNext hit hd g2 hx fun h' Dt zz=>?_);have Ca:=(zz.2 S E5).trans hS;have zK:=(zz.2 d JJ).trans hd;show UC _ A.in1 (YT S (·.push es[i].key) >>= _) _ _ _;refine Ud ?_;have AH:∀ b o,b≠S->h'.get? b=some o->(h'.update S (VA (·.push es[i].key))).get? b=some o:=fun b o hb e=>(Vd _ _ (Wd hb)).trans e
   refine Wc Ca rfl (Uq ⟨Xm VU _,ih (i+1) _ (acc.push es[i].key) _ (by omega) ym (Dt.at fun o e=>AH _ _ (Wd E5) e) (AH _ _ (Wd Hr) zK) (U7 _ Ca rfl) ?_ fun K7 za c' EY EZ CF=>?_⟩)
    (by rw [zS];omega) (by show (acc.push _).size<=UD+1;rw [Array.size_push,zS];omega)
   · rw [Array.toList_push,yn,Vs,Ue (by rw [U3];exact ym),Ux];simp
   · exact hR K7 za c' (fun b o hb yC e=>EY b o hb yC (AH b o hb ((zz.2 b yC).trans e))) EZ CF
end
section
variable {prog:Uz} {w:UN} {A:U9} {E:Ul->Ur->Prop} {s:Ur}
theorem bb_list_keys {d:Ui} {es:Array DictEntry} {ep:Nat} {od:WA} {Q:Ul->Ur->Prop} (hh:A.in1.in1.handled=none) (ns:(d == Wg)=false) (hd:s.heap.get? d=some od) (gc:od.cls=.type "dict") (g2:od.data=.dict es ep) (hz:es.size<=UD)
 (hQ:∀ h' acc c,(∀ b o,s.heap.get? b=some o->h'.get? b=some o)->h'.get? s.heap.objs.size=some { cls:=.type "list",dict:=none,data:=.seq acc c,slots:=#[] }->acc.toList=es.toList.map (·.key)->Q (.ref s.heap.objs.size) { s with heap:=h' }) :
 UC (U0 prog w) A (call (.type "list") [.ref d]) Q E s:=by
 have Bh:=UA hd;have Hr:s.heap.objs.size≠d:=XI Bh
 refine ZF (Q₁:=fun obj ye=>obj=.ref s.heap.objs.size/\ye={ s with heap:=s.heap.push { cls:=.type "list",data:=.seq #[] } }) F.called_list (F.typeCall_list_1 _) F.entry_list_init
  (code_list_new _ ⟨rfl,rfl⟩) fun obj ye yu=>?_
 obtain ⟨rfl,rfl⟩:=yu;have hS:(s.heap.push { cls:=.type "list",data:=.seq #[] }).get? s.heap.objs.size=some { cls:=.type "list",data:=.seq #[] }:=Uy _ rfl;refine ⟨⟨_,hS,rfl⟩,F.args_list_init_2 _ _,?_⟩;show UC _ A.in1.in1 (do let old ← W3 (.ref s.heap.objs.size);Zn (.ref s.heap.objs.size) (fun _=>#[]);letGo old.toList.reverse;Wt (.ref s.heap.objs.size) (.ref d) .none) _ _ _;refine Ud ?_;unfold W3;refine Ud (VO hS rfl (Uq ?_));refine Ud (Wc hS rfl ?_);have zp:=U7 (VA (fun _=>(#[]:Array Ul))) hS rfl;refine Ud (Y5 ?_);have BO:((s.heap.push { cls:=.type "list",data:=.seq #[] }).update s.heap.objs.size (VA (fun _=>(#[]:Array Ul)))).objs.size=s.heap.objs.size+1:=by rw [YA,VF]
 generalize hH:(s.heap.push { cls:=.type "list",data:=.seq #[] }).update s.heap.objs.size (VA (fun _=>(#[]:Array Ul)))=H2 at zp BO ⊢
 have old:∀ b o,s.heap.get? b=some o->H2.get? b=some o:=fun b o e=>by
  rw [<- hH,Vd _ _ (Wd (U2 (UA e)))];exact Up _ e
 obtain ⟨c2,Du⟩:∃ c,H2.get? s.heap.objs.size=some { cls:=.type "list",data:=.seq #[] c }:=⟨_,zp⟩;have hd2:=old _ _ hd;have Hk:({ s with heap:=H2 }:Ur).TypeIs (.ref d) "dict":=⟨_,hd2,gc⟩;unfold Wt;refine Ud (W0 Hk ?_);have h1:WK (.ref s.heap.objs.size) (.ref d)=false:=by simp [WK,Hr]
 have h2:(WO "dict" == WO "list")=false:=by decide
 have h3:(WO "dict" == WO "tuple")=false:=by decide
 simp only [h1,h2,h3,Zy,VE,if_false];refine Ud (bb_keyIter (s:={ s with heap:=H2 }) ns hd2 gc g2 ?_);refine Ud (VP ?_);have E6:(H2.push { cls:=.type "dict_keyiterator",data:=.fields #[.ref d,.int 0 0,.int es.size 0,.int ep 0] }).IsKeyIter H2.objs.size d 0 es.size ep:=⟨_,Uy _ rfl,rfl,rfl⟩;have JL:∀ b o,H2.get? b=some o->(H2.push { cls:=.type "dict_keyiterator",data:=.fields #[.ref d,.int 0 0,.int es.size 0,.int ep 0] }).get? b=some o:=fun b o e=>Up _ e;have Ht:s.heap.objs.size≠H2.objs.size:=by rw [BO];omega
 have Lg:d≠H2.objs.size:=by rw [BO];exact U2 (Yc Bh)
 show UC _ _ _ _ _ ({ s with heap:=H2.push { cls:=.type "dict_keyiterator",data:=.fields #[.ref d,.int 0 0,.int es.size 0,.int ep 0] } }:Ur);generalize H2.push { cls:=.type "dict_keyiterator",data:=.fields #[.ref d,.int 0 0,.int es.size 0,.int ep 0] }=H3 at E6 JL ⊢;have Od:=JL _ _ hd2;have Lh:=JL _ _ Du;have Li:({ s with heap:=H3 }:Ur).TypeIs (.ref d) "dict":=⟨_,Od,gc⟩
 have key:∀ (h:VH) (c₁:Nat),h.IsKeyIter H2.objs.size d 0 es.size ep->(∀ b o,b≠s.heap.objs.size->H3.get? b=some o->h.get? b=some o)->h.get? s.heap.objs.size=some { cls:=.type "list",data:=.seq #[] c₁ } →
  Yr (U0 prog w) A.in1 (.builtin "list.extend.loop" ⟨[.ref s.heap.objs.size,.ref H2.objs.size,.none],[]⟩) (wants (fun r yP=>r=.none/\Q (.ref s.heap.objs.size) yP) E) { s with heap:=h }:=by
  intro h c₁ hit hk AF;refine bb_key_loop hh hz Ht Hr Lg g2 .none es.size 0 _ #[] c₁ rfl (UO _) hit (hk _ _ (Wd Hr) Od) AF rfl fun h' za c' hm Ca yn=>?_;refine ⟨rfl,hQ h' za c' (fun b o e=>?_) Ca yn⟩;have hb:=U2 (UA e);exact hm b o hb (by rw [BO];exact U2 (Yc (UA e))) (hk b o hb (JL b o (old b o e)))
 unfold W2;refine Ud (VW Li F.slot_dict_len.lookup ?_);generalize hid:("dict.__len__":String)=EU
 wp_delta
 rw [show splitId EU=some ("dict","__len__") from by subst hid;decide +kernel];subst hid;refine Ud (W5 (T:="dict") (b:=true) Li (by rw [Xq];kernel_rfl) ?_);refine Zs (fun zU=>absurd zU (by decide)) (fun _=>?_);refine Zs (fun _=>?_) (fun zU=>absurd (by decide +kernel) zU);refine Ud (W0 Li ?_);refine Uq ?_;refine Zs (fun _=>?_) (fun _=>Uq ⟨Xm VU _,key _ c2 E6 (fun b o _ e=>e) Lh⟩);refine Ud (Xa ?_);refine Ud ?_;show UC _ _ (YT s.heap.objs.size (·.push .none) >>= fun _=>YT s.heap.objs.size (·.pop)) _ _ _;refine Ud (Wc Lh rfl ?_);have zq:=U7 (VA (·.push VQ)) Lh rfl;refine Wc (hz:=by seq_fits) zq rfl ?_;have AG:=U7 (VA (·.pop)) zq rfl
 have AH:∀ b o,b≠s.heap.objs.size->H3.get? b=some o->((H3.update s.heap.objs.size (VA (·.push VQ))).update s.heap.objs.size (VA (·.pop))).get? b=some o :=
  fun b o hb e=>(Vd _ _ (Wd hb)).trans ((Vd _ _ (Wd hb)).trans e)
 exact Uq ⟨Xm VU _,key _ _ (E6.at fun o e=>AH _ _ (Wd Ht) e) AH AG⟩
end
end PySem
namespace L2
open PySem PySem.Spec PyProof.Rows
end L2
namespace L2
open PySem PySem.Spec PyProof.Rows BB
theorem xW {H:Hp} {es:List Dv} {ws:List V} {its:List Ul} (r1:Vals ws its) (yO:DAts H es ws) (j:Nat) (z:Ul) (hz:its[j]?=some z):∃ e y',es[j]?=some e/\DAt H e y'/\RelV y' z:=by
 have hj:j<its.length:=(Uk.mp hz).1;have l1:=r1.length;have l2:=yO.length;have F6:j<es.length:=by omega
 obtain ⟨y',AD,dy⟩:=yO.at (Ue F6);obtain ⟨v',yK,AK⟩:=r1.get AD;rw [hz] at yK;cases yK;exact ⟨_,y',Ue F6,dy,AK⟩
theorem wB {H:Hp} {z:Ul} {e e':Dv} {y' CI:V} (h1:DAt H e y') (h2:RelV y' z) (h3:DAt H e' CI) (h4:RelV CI z):e=e':=by
 have:=h2.inj h4;subst this;exact h1.inj h3
def uG (K:Ug) (B:Nat):V->List V->Hp->VK->Prop:=fun x vs H Q=>∃ (l:Ui) (y:V) (ws:List V) (d:Dv) (es:List Dv) (j:Nat),x=.ref l/\vs=[y]/\SqL K H l ws/\DAt H d y/\DAts H es ws/\cq es<=B/\es[j]?=some d/\(∀ i,i<j->es[i]?≠some d)/\es.length<=100000/\Q (.int (j:Nat)) H
open Classical in
theorem sg {X:Cx} {B:Nat} (hu:X.A.units+B+4<V3):MtM X "list.index" (uG X.K B):=by
 intro pins s σ H x vs v us Q I rx rv h;obtain ⟨l,y,ws,d,es,j,rfl,rfl,hS,hd,yO,hB,hj,Bb,hz,q⟩:=h;cases rx;obtain ⟨u,rfl,ru⟩:=rv.one;obtain ⟨its,r,pl,_⟩:=I.list hS;have hlen:=r.length;have y4:=yO.length;obtain ⟨⟨cls,dd,data,sl⟩,ho,hc,n,JM⟩:=pl.isList;simp only at hc JM;subst hc JM;have Bg:j<es.length:=(Uk.mp hj).1
 have Lj:∀ (m:Nat) (z:Ul),its[m]?=some z->∃ e y',es[m]?=some e/\DAt H e y'/\RelV y' z/\decide (∃ y',DAt H d y'/\RelV y' z)=decide (e=d):=fun m z hz=>by
  obtain ⟨e,y',he,dy,ry⟩:=xW r yO m z hz;refine ⟨e,y',he,dy,ry,?_⟩;by_cases h:e=d
  · rw [decide_eq_true h,decide_eq_true ⟨y',h ▸ dy,ry⟩]
  · rw [decide_eq_false h,decide_eq_false];rintro ⟨CI,h1,h2⟩;exact h (wB dy ry h1 h2)
 refine YU Xh ⟨_,ho,rfl⟩ PySem.F.entry_list_index (PySem.F.args_list_index_2 _ _)
  (SeqAt.list_indexAt l its.toArray n dd sl u (fun z=>decide (∃ y',DAt H d y'/\RelV y' z)) j (by rw [Uu];omega) (by omega) ?_ ?_) ⟨ho,fun y hy=>?_,⟨.int (j:Nat),H,I.tok _,⟨_,rfl⟩,q⟩⟩
 · obtain ⟨e,y',he,dy,ry,e3⟩:=Lj j (its.toArray[j]'(by rw [Uu];omega)) (by simp);rw [hj] at he;cases he;rw [e3];exact decide_eq_true rfl
 · intro m hm ym;obtain ⟨e,y',he,dy,ry,e3⟩:=Lj m (its.toArray[m]'hm) (by simp);rw [e3];exact decide_eq_false fun z=>Bb m ym (by rw [he,z])
 · have AD:y∈its:=by simpa using hy
   obtain ⟨m,hm⟩:=UG.mp AD;obtain ⟨e,y',he,dy,ry,e3⟩:=Lj m y hm;rw [e3];have hq:=dQ he;refine nO I _ e d (Uj _) y' _ y u _ dy hd ry ru ?_;show X.A.units+1+_<V3;omega
end L2
namespace PySem
open Sem (wp)
section
variable {prog:Uz} {w:UN} {K:Type} [DecidableEq K] (knd:HeapKind prog w K) (d:Ui)
end
section
variable {prog:Uz} {w:UN} {K:Type} [DecidableEq K] {knd:HeapKind prog w K} {A:U9} {E:Ul->Ur->Prop} {s:Ur}
end
end PySem
namespace L2
open PySem PySem.Spec PyProof.Rows
end L2
namespace BB
open PySem L2
end BB
namespace BB
open PySem L2
end BB
namespace BB
open PySem L2
theorem size_pos (t:Th):0<t.size:=by cases t <;> (rw [Th.size];omega)
mutual
theorem cA:∀ t:Th,t.tall<=t.size
 | .knot n ts=>by rw [Th.tall,Th.size];have:=jJ ts;omega
 | .call _ _=>by rw [Th.tall,Th.size];omega
theorem jJ:∀ ts:List Th,bE ts<=aq ts
 | []=>by rw [bE,aq];omega
 | t::ts=>by rw [bE,aq];have:=cA t;have:=jJ ts;omega
end
structure vi (ins outs:List (US×Int)) (S:Int) (m:Nat) (head:Th) (rows:List (List Th)):Prop where
 len:(rows.length:Int)=S
 row:∀ row∈rows,row.length=ins.length
 fit:∀ row∈rows,∀ (j:Nat) (t:Th) (k:US×Int),row[j]?=some t->ins[j]?=some k->t.FitS outs S k.2/\t.size<=m
 hdf:head.FitS outs S 1
 hdz:head.size<=m
mutual
theorem FitS.up {ks:List (US×Int)} {S C:Int}:∀ {t:Th},t.FitS ks 0 0->t.FitS ks S C
 | .call s c,h=>by rw [Th.FitS] at h;omega
 | .knot n ts,h=>by
   rw [Th.FitS] at h ⊢;exact ⟨h.1,FitSs.up h.2⟩
theorem FitSs.up {ks:List (US×Int)} {S C:Int}:∀ {ts:List Th},FitSs ks 0 0 ts->FitSs ks S C ts
 | [],_=>by rw [FitSs];trivial
 | t::ts,h=>by
   rw [FitSs] at h ⊢;exact ⟨FitS.up h.1,FitSs.up h.2⟩
end
theorem pe {ks:List (US×Int)} {S C:Int}:∀ (p:List Int) (t u o:Th),t.sub p=some u->t.FitS ks S C->o.FitS ks S C->(t.put p o).FitS ks S C
 | [],t,u,o,_,_,ho=>by rw [nv];exact ho
 | i::p,t,u,o,h,ht,ho=>by
   obtain ⟨h0,w,hw,hs⟩:=nH h;rw [kg hw];cases t with
   | call a b=>rw [Th.kids] at hw;simp at hw
   | knot n ts =>
     rw [Th.kids] at hw;rw [Th.FitS] at ht;show (Th.knot n (ts.set i.toNat (w.put p o))).FitS ks S C;rw [Th.FitS,Za];refine ⟨ht.1,FitSs.of fun v hv=>?_⟩;rcases List.mem_or_eq_of_mem_set hv with hv | rfl
     · exact gP ht.2 v hv
     · exact pe p w u o hs (gP ht.2 w (Uh hw)) ho
end BB
namespace BB
open PySem L2
theorem iM {α β:Type} {F:α->β->Prop}:∀ {xs:List α} {ys:List β} {i:Nat} {x:α} {y:β},UX F xs ys->xs[i]?=some x->ys[i]?=some y->F x y
 | _,_,_,_,_,.nil,h,_=>by simp at h
 | _,_,0,_,_,.cons r _,h,g=>by simp at h g;subst h;subst g;exact r
 | _,_,i+1,_,_,.cons _ t,h,g=>iM (i:=i) t (by simpa using h) (by simpa using g)
theorem lz {u:Th}:∀ {ts:List Th},u∈ts->u.size<=aq ts
 | [],h=>by cases h
 | t::ts,h=>by
   rw [aq];rcases UK.mp h with rfl | h
   · omega
   · have:=lz h;omega
structure nP (ws:List US):Prop where
 len:ws.length=4
 low:∀ x∈ws,Low x/\x.length<=8
 inj:∀ (i j:Nat) (x:US),ws[i]?=some x->ws[j]?=some x->i=j
def gS (a st:Int) (j:Nat):Nat:=97+((a+5 * st * (j:Int))%26).toNat
theorem uo (a st:Int) (j:Nat):97<=gS a st j/\gS a st j<=122:=by
 unfold gS;have h1:=VD (a+5 * st * (j:Int)) (by decide:(26:Int)≠0);have h2:=Vw (a+5 * st * (j:Int)) (by decide:(0:Int)<26);omega
theorem kS {a st:Int} (h1:1<=st) (h4:st<=4) {i j:Nat} (hi:i<4) (hj:j<4) (h:gS a st i=gS a st j):i=j:=by
 unfold gS at h;have e1:=VD (a+5 * st * (i:Int)) (by decide:(26:Int)≠0);have e2:=VD (a+5 * st * (j:Int)) (by decide:(26:Int)≠0);have h':(a+5 * st * (i:Int))%26=(a+5 * st * (j:Int))%26:=by omega
 clear h e1 e2;rcases (by omega:st=1∨st=2∨st=3∨st=4) with rfl | rfl | rfl | rfl <;> omega
def je (c a st:Int) (word:US) (j:Nat):US :=
 if c=0 then ⟨#[gS a st j]⟩ else if c=1 then ⟨#[gS a st j]⟩++dU word (some 1) (some 4) else if c=2 then dU word none (some 5)++⟨#[gS a st j]⟩ else dU word none (some (2 * (j:Int)+2))
theorem pw {z:US} (h:z.length=8):(dU z (some 1) (some 4)).length=3:=by
 have hz:z.cps.toList.length=8:=by rw [U3];exact h
 show (jS z.cps.toList (some 1) (some 4)).toArray.size=3;rw [Uu];unfold jS;rw [show (some (1:Int))=some ((1:Nat):Int) from rfl,show (some (4:Int))=some ((4:Nat):Int) from rfl,HT.sIx_nat,HT.sIx_nat,hz,UQ,VG,hz];rfl
theorem t9 {c a st:Int} {word:US} (hw:Low word) (hl:word.length=8) {j:Nat} (hj:j<4):Low (je c a st word j)/\(je c a st word j).length<=8:=by
 have ht:=uo a st j;unfold je;split
 · exact ⟨jX ht.1 ht.2,by show 1<=8;omega⟩
 · split
   · refine ⟨nB (jX ht.1 ht.2) (nS hw _ _),?_⟩;rw [strLen_append,pw hl];show 1+3<=8;omega
   · split
     · refine ⟨nB (nS hw _ _) (jX ht.1 ht.2),?_⟩;have:=(eS (z:=word) (n:=5) (by omega)).2;rw [strLen_append];show (dU word none (some ((5:Nat):Int))).length+1<=8;omega
     · refine ⟨nS hw _ _,?_⟩;have:=(eS (z:=word) (n:=2 * j+2) (by omega)).2;have e:(2 * (j:Int)+2)=((2 * j+2:Nat):Int):=by omega
       rw [e];omega
theorem uv {c a st:Int} {word:US} (h1:1<=st) (h4:st<=4) (hl:word.length=8) {i j:Nat} (hi:i<4) (hj:j<4) (h:je c a st word i=je c a st word j):i=j:=by
 unfold je at h;split at h
 · refine kS h1 h4 hi hj (a:=a) ?_;have h2:=congrArg (fun z:US=>z.cps.toList) h;simpa using h2
 · split at h
   · refine kS h1 h4 hi hj (a:=a) ?_;have h2:((#[gS a st i]:Array Nat)++(dU word (some 1) (some 4)).cps).toList=((#[gS a st j]:Array Nat)++(dU word (some 1) (some 4)).cps).toList:=congrArg (fun z:US=>z.cps.toList) h;rw [XT,XT] at h2;have h3:=List.append_cancel_right h2;simpa using h3
   · split at h
     · refine kS h1 h4 hi hj (a:=a) ?_;have h2:((dU word none (some 5)).cps++(#[gS a st i]:Array Nat)).toList=((dU word none (some 5)).cps++(#[gS a st j]:Array Nat)).toList:=congrArg (fun z:US=>z.cps.toList) h;rw [XT,XT] at h2;have h3:=List.append_cancel_left h2;simpa using h3
     · have e1:(2 * (i:Int)+2)=((2 * i+2:Nat):Int):=by omega
       have e2:(2 * (j:Int)+2)=((2 * j+2:Nat):Int):=by omega
       rw [e1,e2] at h;have l1:=(eS (z:=word) (n:=2 * i+2) (by omega)).2;have l2:=(eS (z:=word) (n:=2 * j+2) (by omega)).2;rw [h] at l1;omega
theorem j3 {H:Hp}:∀ {ks:List (US×Int)} {as:List Ui},KsAt H ks as->∀ z∈ks.zip as,z.1∈ks/\KAt H z.1 z.2
 | _,_,.nil,z,hz=>by simp at hz
 | _,_,.cons (a:=k) (b:=a) r t,z,hz=>by
   rw [Xp] at hz;rcases UK.mp hz with rfl | hz
   · exact ⟨UH ..,r⟩
   · obtain ⟨h1,h2⟩:=j3 t z hz;exact ⟨UJ _ h1,h2⟩
theorem pN {K:Ug} {js:List (Option Nat)} {tt:TT} {te:TE} {σ:St} {H:Hp} {kr:Ui} {yy:List Ui} {ks:List (US×Int)} {fin:Ui->Hp->Prop} (p:US×Int->Bool) (e:H kr=some (.tup (yy.map V.ref))) (zW:KsAt H ks yy) (hl:ks.length<=1000) (hp:∃ k∈ks,p k=true)
 (G2:∀ (z:US×Int) (ka:Ui) (H2:Hp) (R:Bool->Hp->Prop),L2.Same H H2->KAt H2 z ka->R (p z) H2->tt ((cσ js σ).set 0 (some (.ref ka))) H2 R)
 (G4:∀ (ka:Ui) (H2:Hp) (R:VK),R (.ref ka) H2->te ((cσ js σ).set 0 (some (.ref ka))) H2 R)
 (q:∀ (D:Ui) (bs:List ((US×Int)×Ui)) (H':Hp),H D=none->H'=upd H D (.lst (bs.map fun z=>V.ref z.2))->1<=bs.length->bs.length<=ks.length->(∀ z∈bs,z.1∈ks/\p z.1=true/\KAt H z.1 z.2)->fin D H') :
 ∀ D,H D=none->∃ (n:Nat) (W:Nat->Hp->Prop),W 0 (upd H D (.lst []))/\fO js (aF 0) tt te σ (Itt K kr) D n W fun H'=>fin D H':=by
 have ze:ks.length=yy.length:=Uv zW;have Oe:(ks.zip yy).length=ks.length:=by rw [WH];omega
 have F5:∀ (i:Nat) (x:V) (z:(US×Int)×Ui),(yy.map V.ref)[i]?=some x->(ks.zip yy)[i]?=some z->x=.ref z.2:=fun i x z hx hz=>by
  obtain ⟨ka,rfl,yY⟩:=aU hx;obtain ⟨h1,h2⟩:=VX.mp hz;rw [yY] at h2;cases h2;rfl
 refine pI (ks.zip yy) (fun z=>p z.1) (fun z=>.ref z.2) (SqT.of e) (by rw [Oe,Uc];exact ze) (by rw [Uc];omega) (fun i x z H2 R hx hz sm r=>?_) (fun i x z H2 R hx hz _ sm r=>?_) (fun D hD=>?_)
 · rw [F5 i x z hx hz];have:=(j3 zW z (Uh hz)).2;exact G2 z.1 z.2 H2 R sm (sm _ _ this) r
 · rw [F5 i x z hx hz];exact G4 z.2 H2 R r
 · refine q D _ _ hD rfl ?_ ?_ ?_
   · obtain ⟨k,hk,QA⟩:=hp;obtain ⟨i,hi,rfl⟩:=List.getElem_of_mem hk;have hz:(ks.zip yy)[i]'(by omega)∈(ks.zip yy).filter fun z=>p z.1:=V7.mpr ⟨XN _,by rw [List.getElem_zip];exact QA⟩;exact List.length_pos_of_mem hz
   · exact V4 (WZ _ _) (by omega)
   · intro z hz;obtain ⟨h1,h2⟩:=V7.mp hz;obtain ⟨h3,h4⟩:=j3 zW z h1;exact ⟨h3,h2,h4⟩
end BB
namespace BB
open PySem L2 PySem.Builtin PySem.Builtin.Str
end BB
namespace L2
open PySem PySem.Spec PySem.Calls PyProof.Rows BB
section
variable {X:Cx} {pins:List (Ui×WA)} {σ:List (Option V)} {H:Hp} {s:Ur}
end
end L2
namespace L2
open PySem PySem.Spec PySem.Calls PyProof.Rows PySem.Builtin PySem.Builtin.Str BB
variable {X:Cx}
end L2
namespace BB
open PySem L2
end BB
namespace BB
open PySem L2
section
variable {H H':Hp} {t:Th} {a:Ui} {ts:List Th} {es:List Ui}
end
end BB
namespace L2
open PySem PySem.Spec PyProof.Rows BB
variable {X:Cx}
end L2
namespace L2
open PySem PySem.Spec PyProof.Rows PySem.W
end L2
namespace L2
open PySem PySem.Spec PyProof.Rows BB
variable {X:Cx}
end L2
namespace L2
open PySem PySem.Spec PySem.Calls PyProof.Rows PySem.W
end L2
namespace BB
open PySem L2 PySem.Builtin PySem.Builtin.Str
end BB
namespace L2
open PySem PySem.Spec PySem.Calls PyProof.Rows PySem.Builtin PySem.Builtin.Str BB
variable {X:Cx}
end L2
namespace L2
open PySem PySem.Spec PyProof.Rows
end L2
namespace BB
open PySem L2
end BB
namespace L2
open PySem PySem.Spec PyProof.Rows
end L2
namespace L2
open PySem PySem.Spec PySem.Calls PyProof.Rows
section
variable {X:Cx} {CX:CXT} {k i:Nat} {E:XK} {x:US} {p pos:Yl} {e:VC} {es:List VC} {t:TA}
end
section
variable {X:Cx} {k:Nat} {f:Ui} {fd:XD} {ps:List US} {sp:Sp} {x:US} {p pos:Yl} {e:VC} {es:List VC} {t:TA}
end
end L2
namespace L2
open PySem PySem.Spec PyProof.Rows
end L2
namespace L2
open PySem PySem.Spec PyProof.Rows
end L2
namespace BB
open PySem L2
def rowOf (rows:List (List Th)) (s:Int):List Th:=rows.getD s.toNat []
section
variable {head:Th} {rows:List (List Th)}
end
end BB
namespace L2
open PySem PySem.Spec PySem.SeqAt PyProof.Rows
theorem lq {α:Type} [DecidableEq α] {s:Ur} {A:U9} {a b:Ui} {its yf:List Ul} {ds es:List α} (p1:s.heap.IsTuple a its.toArray) (p2:s.heap.IsTuple b yf.toArray) (l1:its.length=ds.length) (l2:yf.length=es.length) (hu:A.units<V3)
 (ih:∀ (j:Nat) (d e:α) (u v:Ul),ds[j]?=some d->es[j]?=some e->its[j]?=some u->yf[j]?=some v->EqAt A.in1 s u v (decide (d=e))):RcAt A s (.ref a) (.ref b) (decide (ds=es)):=by
 have CG:RcAt A s (.ref a) (.ref b) ((U1 (min its.toArray.size yf.toArray.size)).all (fun j=>decide (ds[j]?=es[j]?)) && its.toArray.size == yf.toArray.size):=by
  refine RcAt.tuples p1 p2 hu fun j h1 h2=>?_;have AU:j<ds.length:=by rw [<- l1];simpa using h1
  have Ax:j<es.length:=by rw [<- l2];simpa using h2
  have e1:ds[j]?=some ds[j]:=Ue AU;have e2:es[j]?=some es[j]:=Ue Ax;have e3:decide (ds[j]?=es[j]?)=decide (ds[j]=es[j]):=by rw [e1,e2];simp
  have g1:its[j]?=some its[j]:=Ue (by rw [l1];exact AU);have g2:yf[j]?=some yf[j]:=Ue (by rw [l2];exact Ax);rw [e3];exact ih j ds[j] es[j] its[j] yf[j] e1 e2 g1 g2
 have e:decide (ds=es)=((U1 (min its.toArray.size yf.toArray.size)).all (fun j=>decide (ds[j]?=es[j]?)) && its.toArray.size == yf.toArray.size):=by
  rw [Uu,Uu,l1,l2];by_cases h:ds=es
  · subst h;rw [decide_eq_true rfl];symm;simp
  · rw [decide_eq_false h];symm;by_cases hl:ds.length=es.length
    · rw [hl,Yz]
      have:¬ ((U1 es.length).all (fun j=>decide (ds[j]?=es[j]?)))=true:=by
       intro z;apply h;apply Wr;intro j;by_cases hj:j<es.length
       · exact of_decide_eq_true (WS.mp z j (WD.mpr hj))
       · rw [Vq (by omega),Vq (by omega)]
      rw [VT.mpr this];rfl
    · have:(ds.length == es.length)=false:=by simpa using hl
      rw [this,Yd]
 rw [e];exact CG
theorem oE {A:U9} {s:Ur} {k l:Key} {u v:Ul} (hu:g7 k u=true) (hv:g7 l v=true):EqAt A s u v (decide (k=l)):=by
 rcases bg hu with ⟨i,t,rfl,rfl⟩ | ⟨x,t,rfl,rfl⟩
 · rcases bg hv with ⟨j,t',rfl,rfl⟩ | ⟨y,t',rfl,rfl⟩
   · have:decide ((U4 i:Key)=U4 j)=(i == j):=by
      by_cases h:i=j
      · subst h;simp
      · rw [decide_eq_false (fun z=>h (Xn z)),beq_eq_false_iff_ne.mpr h]
     rw [this];exact EqAt.int_int i t j t'
   · rw [decide_eq_false (fun z=>nomatch z)];exact EqAt.int_str i t y t'
 · rcases bg hv with ⟨j,t',rfl,rfl⟩ | ⟨y,t',rfl,rfl⟩
   · rw [decide_eq_false (fun z=>nomatch z)];exact EqAt.str_int x t j t'
   · have:decide ((XG x:Key)=XG y)=(x == y):=by
      by_cases h:x=y
      · subst h;simp
      · rw [decide_eq_false (fun z=>h (Sum.inr.inj z)),beq_eq_false_iff_ne.mpr h]
     rw [this];exact EqAt.str_str x t y t'
theorem jw {P:Uz} {w:UN}:∀ {ks:List Key} {vs:List Ul} {j:Nat} {k:Key} {v:Ul},ItemsAre (aG P w) ks vs->ks[j]?=some k->vs[j]?=some v->g7 k v=true
 | _,_,0,k,v,.cons h _,e1,e2=>by cases e1;cases e2;exact h
 | _,_,j+1,k,v,.cons _ h,e1,e2=>jw (j:=j) h e1 e2
theorem rZ {P:Uz} {w:UN} {A:U9} {s:Ur} {x y:List Key} {a b:Ui} (hx:IsTupleKey (aG P w) s.heap x a) (hy:IsTupleKey (aG P w) s.heap y b) (hu:A.units<V3):EqAt A s (.ref a) (.ref b) (decide (x=y)):=by
 by_cases zU:a=b
 · subst zU;obtain rfl:=hx.inj hy;rw [decide_eq_true rfl];exact EqAt.same _
 · obtain ⟨o,its,n,ho,hc,hd,hi⟩:=hx;obtain ⟨o',its',n',Ad,zw,zK,yX⟩:=hy;have p1:s.heap.IsTuple a its.toList.toArray:=⟨o,ho,hc,n,by rw [hd]⟩;have p2:s.heap.IsTuple b its'.toList.toArray:=⟨o',Ad,zw,n',by rw [zK]⟩;have:=lq (ds:=x) (es:=y) p1 p2 hi.length.symm yX.length.symm hu fun j d e u v e1 e2 e3 e4=>oE (A:=A.in1) (s:=s) (jw hi e1 e3) (jw yX e2 e4);exact EqAt.of_refs zU this
abbrev aA:=List Key×Key
theorem pY {P:Uz} {w:UN} {A:U9} {E:Ul->Ur->Prop} {s:Ur} {m:Nat} {ks:List Key} {a:Ui} {Q:Bool->Ur->Prop} (hk:IsTupleKey (aG P w) s.heap ks a) (h:Q true s):UC (U0 P w) A (eqIsQuiet (m+1) (.ref a)) Q E s:=by
 have hT:=hk.typeIs;obtain ⟨o,items,n,ho,_,hd,hi⟩:=hk;unfold eqIsQuiet;refine Ud (VW hT F.slot_tuple_eq.lookup ?_);show UC _ _ (isInstance (.ref a) (.type "tuple") >>= _) _ _ s;refine Ud (W5 hT isSubtype_tuple_tuple ?_);simp only [Yn,VE,if_false];refine Ud (VO ho hd ?_);refine Ud ?_;show UC _ _ (forIn items _ _) _ _ s;rw [<- X7];refine wpAny_forIn_list _ (fun rest r s'=>r.1=none/\s'=s/\∀ v∈rest,carriedByValue v=true) _ ?_ ?_ _ _ ⟨rfl,rfl,hi.byValue⟩
 · rintro v rest r s' ⟨hr,rfl,yi⟩;rw [eqIsQuiet_byValue _ (yi v UH)];refine Ud (Uq ?_);simp only [Yn,VE,if_false];exact Uq ⟨rfl,rfl,fun u zA=>yi u (UJ _ zA)⟩
 · rintro ⟨r1,r2⟩ s' ⟨hr,rfl,_⟩;simp only at hr;subst hr;exact Uq h
section
variable {X:Cx} {pins:List (Ui×WA)} {σ:St} {H:Hp} {s:Ur} {o i value:VC} {pos pos':Yl} {td ty tv:TE}
end
end L2
namespace BB
open PySem L2
end BB
namespace BB
open PySem L2
theorem FitSs.mem' {ks:List (US×Int)} {S C:Int}:∀ {ts:List Th},FitSs ks S C ts->∀ t∈ts,t.FitS ks S C
 | [],_,t,ht=>by cases ht
 | u::us,h,t,ht=>by
   rw [FitSs] at h;rcases UK.mp ht with e | e
   · rw [e];exact h.1
   · exact FitSs.mem' h.2 t e
structure wN (ins outs:List (US×Int)) (S:Int) (rows:List (List Th)):Prop where
 len:(rows.length:Int)=S
 row:∀ row∈rows,row.length=ins.length/\∀ (j:Nat) (p:Th) (k:US×Int),row[j]?=some p->ins[j]?=some k->p.FitS outs S k.2
end BB
namespace BB
open PySem L2
end BB
namespace BB
open PySem L2
theorem sr {ins outs:List (US×Int)} {S:Int} {rows:List (List Th)} (ok:wN ins outs S rows) {l:Int} (h0:0<=l) (h1:l<S):∃ row,rows[l.toNat]?=some row/\rowOf rows l=row/\row.length=ins.length/\∀ t∈row,∃ C,t.FitS outs S C:=by
 have hl:=ok.len;have hs:l.toNat<rows.length:=by omega
 refine ⟨rows[l.toNat],Ue hs,?_,(ok.row _ (XN hs)).1,fun t ht=>?_⟩
 · unfold rowOf;rw [Y1,Ue hs];rfl
 · obtain ⟨hlen,Bi⟩:=ok.row _ (XN hs);obtain ⟨j,hj⟩:=UG.mp ht;have Bg:=(Uk.mp hj).1;exact ⟨_,Bi j t _ hj (Ue (by omega))⟩
section
variable {ins mid outs:List (US×Int)} {S1 S2:Int} {CK CL:Th} {CM CN:List (List Th)}
end
end BB
namespace L2
open PySem PySem.Spec PySem.Calls PyProof.Rows
end L2
namespace BB
open PySem L2
end BB
namespace BB
open PySem L2
section
variable {ins mid outs:List (US×Int)} {S1 S2:Int} {CK CL:Th} {CM CN:List (List Th)} {QB QC QD QE QF QG QH:Nat}
end
end BB
namespace BB
open PySem L2
theorem lN {H:Hp}:∀ {ts:List Th} {as:List Ui},UX (At H) ts as->Ats H ts as
 | _,_,.nil=>.nil
 | _,_,.cons h g=>.cons h (lN g)
end BB
namespace BB
open PySem L2
end BB
namespace L2
open PySem PySem.Spec PySem.Calls PyProof.Rows
end L2
namespace L2
open PySem PySem.Spec PySem.Calls PyProof.Rows
end L2
namespace BB
open PySem L2
end BB
namespace BB
open PySem L2
section
variable {k0 k1 k2 k3:List (US×Int)} {SA SB SC:Int} {a0 b0 c0:Th} {Of Og Oh:List (List Th)}
end
end BB
namespace BB
open PySem L2
section
variable {ins mid outs:List (US×Int)} {S1 S2:Int} {CK CL:Th} {CM CN:List (List Th)} {QB QC QD QE QF QG QH:Nat}
end
end BB
namespace BB
theorem vn {p:Prop} [Decidable p] {A B:Prop} (hp:p) (h:A):if decide p=true then A else B:=by rw [if_pos (decide_eq_true hp)];exact h
theorem hid {G:Prop} (k:∀ F:Prop,(G->F)->F):G:=k G id
inductive Ex1 {A0:Type} (p:A0->Prop):Prop
 | mk (x0:A0) (h:p x0):Ex1 p
inductive Ex2 {A0 A1:Type} (p:A0->A1->Prop):Prop
 | mk (x0:A0) (x1:A1) (h:p x0 x1):Ex2 p
inductive Ex3 {A0 A1 A2:Type} (p:A0->A1->A2->Prop):Prop
 | mk (x0:A0) (x1:A1) (x2:A2) (h:p x0 x1 x2):Ex3 p
inductive Ex4 {A0 A1 A2 A3:Type} (p:A0->A1->A2->A3->Prop):Prop
 | mk (x0:A0) (x1:A1) (x2:A2) (x3:A3) (h:p x0 x1 x2 x3):Ex4 p
inductive Ex5 {A0 A1 A2 A3 A4:Type} (p:A0->A1->A2->A3->A4->Prop):Prop
 | mk (x0:A0) (x1:A1) (x2:A2) (x3:A3) (x4:A4) (h:p x0 x1 x2 x3 x4):Ex5 p
inductive Ex6 {A0 A1 A2 A3 A4 A5:Type} (p:A0->A1->A2->A3->A4->A5->Prop):Prop
 | mk (x0:A0) (x1:A1) (x2:A2) (x3:A3) (x4:A4) (x5:A5) (h:p x0 x1 x2 x3 x4 x5):Ex6 p
inductive Ex7 {A0 A1 A2 A3 A4 A5 A6:Type} (p:A0->A1->A2->A3->A4->A5->A6->Prop):Prop
 | mk (x0:A0) (x1:A1) (x2:A2) (x3:A3) (x4:A4) (x5:A5) (x6:A6) (h:p x0 x1 x2 x3 x4 x5 x6):Ex7 p
inductive wR {A0 A1 A2 A3 A4 A5 A6 A7 A8 A9 Oi:Type} (p:A0->A1->A2->A3->A4->A5->A6->A7->A8->A9->Oi->Prop):Prop
 | mk (x0:A0) (x1:A1) (x2:A2) (x3:A3) (x4:A4) (x5:A5) (x6:A6) (x7:A7) (x8:A8) (x9:A9) (QI:Oi) (h:p x0 x1 x2 x3 x4 x5 x6 x7 x8 x9 QI):wR p
inductive An2 (a0 a1:Prop):Prop
 | mk (h0:a0) (h1:a1):An2 a0 a1
inductive An3 (a0 a1 a2:Prop):Prop
 | mk (h0:a0) (h1:a1) (h2:a2):An3 a0 a1 a2
inductive An4 (a0 a1 a2 a3:Prop):Prop
 | mk (h0:a0) (h1:a1) (h2:a2) (h3:a3):An4 a0 a1 a2 a3
inductive An5 (a0 a1 a2 a3 a4:Prop):Prop
 | mk (h0:a0) (h1:a1) (h2:a2) (h3:a3) (h4:a4):An5 a0 a1 a2 a3 a4
inductive An6 (a0 a1 a2 a3 a4 a5:Prop):Prop
 | mk (h0:a0) (h1:a1) (h2:a2) (h3:a3) (h4:a4) (h5:a5):An6 a0 a1 a2 a3 a4 a5
inductive An8 (a0 a1 a2 a3 a4 a5 a6 a7:Prop):Prop
 | mk (h0:a0) (h1:a1) (h2:a2) (h3:a3) (h4:a4) (h5:a5) (h6:a6) (h7:a7):An8 a0 a1 a2 a3 a4 a5 a6 a7
inductive An9 (a0 a1 a2 a3 a4 a5 a6 a7 a8:Prop):Prop
 | mk (h0:a0) (h1:a1) (h2:a2) (h3:a3) (h4:a4) (h5:a5) (h6:a6) (h7:a7) (h8:a8):An9 a0 a1 a2 a3 a4 a5 a6 a7 a8
inductive wm (a0 a1 a2 a3 a4 a5 a6 a7 a8 a9:Prop):Prop
 | mk (h0:a0) (h1:a1) (h2:a2) (h3:a3) (h4:a4) (h5:a5) (h6:a6) (h7:a7) (h8:a8) (h9:a9):wm a0 a1 a2 a3 a4 a5 a6 a7 a8 a9
end BB
namespace L2
open PySem PySem.Spec PyProof.Rows
end L2
namespace BB
open PySem L2
section
variable {ins outs:List (US×Int)} {S:Int} {d:Nat} {head:Th} {rows:List (List Th)}
end
end BB
namespace L2
open PySem PySem.Spec PyProof.Rows
end L2
namespace L2
open PySem PySem.Spec PyProof.Rows
end L2
namespace L2
open PySem PySem.Spec PyProof.Rows
section
variable {X:Cx} {e:VC} {te:TE} {apos yt:Yl}
end
section
variable {X:Cx} {e:VC} {te:TE} {apos yt:Yl}
end
end L2
namespace PySem
open Sem (wp)
section
variable {prog:Uz} {w:UN} {A:U9} {E:Ul->Ur->Prop} {s:Ur} {it d:Ui} {i ep:Nat} {od:WA} {es:Array DictEntry} {ok ov:Ul}
end
end PySem
namespace L2
open PySem PySem.Spec PyProof.Rows
section
variable {X:Cx} {e:VC} {te:TE} {apos yt:Yl}
end
end L2
namespace L2
open PySem PySem.Spec PyProof.Rows
section
variable {X:Cx} {e1 e2:VC} {t:TA} {p2 yD:Yl}
end
end L2
namespace L2
open PySem PySem.Spec PyProof.Rows
section
variable {X:Cx} {pins:List (Ui×WA)} {σ:St}
end
end L2
namespace BB
open PySem L2
theorem m9 (pre:List Int) (n:US) (ts:List Th):callsOf (Th.pl pre (.knot n ts))=callsOf (pls pre 0 ts):=by
 rw [Th.pl];rfl
theorem n9 (pre:List Int) (s k:Int):callsOf (Th.pl pre (.call s k))=[(pre,s,k)]:=by
 rw [Th.pl];rfl
theorem n8 (pre:List Int) (i:Int) (t:Th) (ts:List Th):callsOf (pls pre i (t::ts))=callsOf (t.pl (pre++[i]))++callsOf (pls pre (i+1) ts):=by
 rw [pls,dE]
end BB
namespace BB
open PySem L2
end BB
namespace BB
open PySem L2
theorem mj {α:Type}:∀ {l m:List α},l.Nodup->(∀ a∈l,a∈m)->l.length<=m.length
 | [],m,_,_=>UO _
 | a::l,m,h,hs=>by
   rw [Yv] at h;obtain ⟨m1,m2,rfl⟩:=List.append_of_mem (hs a (UH ..))
   have:l.length<=(m1++m2).length:=mj h.2 fun b hb=>by
    rcases Ve.mp (hs b (UJ _ hb)) with z | z
    · exact Vi _ z
    · rcases UK.mp z with z | z
      · exact absurd (z ▸ hb) h.1
      · exact Vc _ z
   rw [UE,Ut] at *;rw [Ut];omega
theorem iL {B:Nat}:∀ {ts:List Th},(∀ t∈ts,t.tall<=B)->cq (ts.map Th.dv)<=B
 | [],_=>by rw [Wq,cq];exact UO _
 | t::ts,h=>by
   have h1:=t.dv_deep;have h2:=h t (UH ..);have h3:=iL (ts:=ts) fun u hu=>h u (UJ _ hu);rw [U8,cq];omega
end BB
namespace L2
open PySem
theorem t5 {K:Ug} {a:Ui} {xs:List V} {g:TG} {tb:TS} {D:Ends} {σ:St} {H:Hp} (Pv:Nat->St->Hp->Prop) (h0:Pv 0 σ H) (hl:∀ i σ H,i<=xs.length->Pv i σ H->SqT K H a xs)
 (hs:∀ i x p σ H,xs[i]?=some x->H p=none->Pv i σ H->g (.ref p) σ (upd H p (.tup [.int (i:Nat),x])) fun yw H2=>tb { D with nx:=Pv (i+1),ct:=Pv (i+1),bk:=D.nx } yw H2) (hd:∀ σ H,Pv xs.length σ H->D.nx σ H) :
 ∃ W:Nat->Nat->St->Hp->Prop,(∃ m,W 0 m σ H)/\∀ i m σ H,W i m σ H →
   ((Ite K a).stop i H/\D.nx σ H)∨((Ite K a).go i H/\∃ N:St->Hp->Prop,(∀ yd H',N yd H'->∃ m',m'<m/\W (i+1) m' yd H')/\∀ x H',(Ite K a).yld i H x H'->g x σ H' fun yw H2=>tb { D with nx:=N,ct:=N,bk:=D.nx } yw H2):=by
 refine ⟨fun i m σ H=>m=xs.length - i/\i<=xs.length/\Pv i σ H,⟨xs.length,by simp,UO _,h0⟩,?_⟩;rintro i m σ H ⟨rfl,hi,p⟩;have q:=hl i σ H hi p;by_cases ym:i<xs.length
 · refine .inr ⟨⟨xs,xs[i],q,by simp [ym]⟩,Pv (i+1),fun yd H' p'=>⟨xs.length - (i+1),by omega,rfl,ym,p'⟩,fun x H' y=>?_⟩;obtain ⟨pa,y,hp,rfl,rfl,hy⟩:=y;exact hs i y pa σ H (hy xs q) hp p
 · have e:i=xs.length:=by omega
   subst e;exact .inl ⟨⟨xs,q,rfl⟩,hd σ H p⟩
theorem rf {K:Ug} {a b:Ui} {xs ys:List V} {g:TG} {tb:TS} {D:Ends} {σ:St} {H:Hp} (S8:xs.length=ys.length) (Pv:Nat->St->Hp->Prop) (h0:Pv 0 σ H) (hl:∀ i σ H,i<=xs.length->Pv i σ H->SqT K H a xs/\SqT K H b ys)
 (hs:∀ i x y p σ H,xs[i]?=some x->ys[i]?=some y->H p=none->Pv i σ H->g (.ref p) σ (upd H p (.tup [x,y])) fun yw H2=>tb { D with nx:=Pv (i+1),ct:=Pv (i+1),bk:=D.nx } yw H2) (hd:∀ σ H,Pv xs.length σ H->D.nx σ H) :
 ∃ W:Nat->Nat->St->Hp->Prop,(∃ m,W 0 m σ H)/\∀ i m σ H,W i m σ H →
   ((Itz K a b).stop i H/\D.nx σ H)∨((Itz K a b).go i H/\∃ N:St->Hp->Prop,(∀ yd H',N yd H'->∃ m',m'<m/\W (i+1) m' yd H')/\∀ x H',(Itz K a b).yld i H x H'->g x σ H' fun yw H2=>tb { D with nx:=N,ct:=N,bk:=D.nx } yw H2):=by
 refine ⟨fun i m σ H=>m=xs.length - i/\i<=xs.length/\Pv i σ H,⟨xs.length,by simp,UO _,h0⟩,?_⟩;rintro i m σ H ⟨rfl,hi,p⟩;obtain ⟨q1,q2⟩:=hl i σ H hi p;by_cases ym:i<xs.length
 · have Ll:i<ys.length:=by omega
   refine .inr ⟨⟨xs,ys,xs[i],ys[i],q1,q2,by simp [ym],by simp [Ll]⟩,Pv (i+1),fun yd H' p'=>⟨xs.length - (i+1),by omega,rfl,ym,p'⟩,fun x H' y=>?_⟩;obtain ⟨pa,x,y,hp,rfl,rfl,hx,hy⟩:=y;exact hs i x y pa σ H (hx xs q1) (hy ys q2) hp p
 · have e:i=xs.length:=by omega
   subst e;exact .inl ⟨⟨xs,ys,q1,q2,.inl (Uj _)⟩,hd σ H p⟩
end L2
namespace BB
open PySem L2
end BB
namespace BB
open PySem L2
end BB
namespace BB
open PySem L2
section
variable {C:Ui} {Dp:DP} {ins:List (US×Int)} {rows:List (List Th)} {head:Th} {ok:Th->Prop} {H:Hp} {L:Lv} {i:Nat} {n:Nd} {B:Lv} {Hg:Hp} {B':Lv} {sp:List (Key×V)}
end
end BB
namespace BB
open PySem L2
end BB
namespace BB
open PySem L2
end BB
namespace BB
open PySem L2
section
variable {C:Ui} {Dp:DP} {ins:List (US×Int)} {rows:List (List Th)} {head:Th} {ok:Th->Prop} {H0:Hp} {L B:Lv} {i:Nat} {H:Hp} {L' B':Lv}
end
end BB
namespace BB
open PySem L2
end BB
namespace BB
open PySem L2
end BB
namespace BB
open PySem L2
mutual
theorem gG {ks:List (US×Int)} {S C:Int}:∀ (t:Th) (pre:List Int),t.FitS ks S C->∀ c∈callsOf (t.pl pre),0<=c.2.1/\c.2.1<S/\0<=c.2.2/\c.2.2<C
 | .call s k,pre,h,c,hc=>by
   rw [n9] at hc;rw [UP.mp hc];rw [Th.FitS] at h;exact h
 | .knot n ts,pre,h,c,hc=>by
   rw [m9] at hc;rw [Th.FitS] at h;exact kw ts pre 0 h.2 c hc
theorem kw {ks:List (US×Int)} {S C:Int}:∀ (ts:List Th) (pre:List Int) (i:Int),FitSs ks S C ts->∀ c∈callsOf (pls pre i ts),0<=c.2.1/\c.2.1<S/\0<=c.2.2/\c.2.2<C
 | [],pre,i,_,c,hc=>by rw [pls] at hc;cases hc
 | t::ts,pre,i,h,c,hc=>by
   rw [n8] at hc;rw [FitSs] at h;rcases Ve.mp hc with hc | hc
   · exact gG t _ h.1 c hc
   · exact kw ts _ _ h.2 c hc
end
end BB
namespace BB
open PySem L2
end BB
namespace BB
open PySem L2
section
variable {ins mid outs:List (US×Int)} {S1 S2:Int} {CK CL:Th} {CM CN:List (List Th)}
end
end BB
namespace BB
open PySem L2
end BB
namespace L2
open PySem PySem.Spec PySem.SeqAt PyProof.Rows
def IsNesm (P:Uz) (w:UN) (h:VH) (k:aA) (a:Ui):Prop:=∃ (o:WA) (n:Nat) (b:Ui) (u:Ul),h.get? a=some o/\o.cls=.type "tuple"/\o.data=.seq #[u,.ref b] n/\IsTupleKey (aG P w) h k.1 b/\g7 k.2 u=true
theorem IsNesm.typeIs {P:Uz} {w:UN} {s:Ur} {k:aA} {a:Ui} (x:IsNesm P w s.heap k a):s.TypeIs (.ref a) "tuple":=let ⟨o,_,_,_,ho,hc,_⟩:=x;⟨o,ho,hc⟩
theorem IsNesm.inj {P:Uz} {w:UN} {h:VH} {a:Ui} {x y:aA} (hx:IsNesm P w h x a) (hy:IsNesm P w h y a):x=y:=by
 obtain ⟨o,n,b,u,ho,_,hd,hb,hu⟩:=hx;obtain ⟨o',n',b',u',Ad,_,zK,zM,zA⟩:=hy;obtain rfl:o=o':=UR (ho.symm.trans Ad);rw [hd] at zK;injection zK with h1 _;have h2:=congrArg ZS h1;cases h2;exact Prod.ext (hb.inj zM) ((aG P w).inj _ _ _ hu zA)
theorem IsNesm.keeps {P:Uz} {w:UN} {h h':VH} {k:aA} {a d:Ui} {o:WA} {es ep} (x:IsNesm P w h k a) (ho:h.get? d=some o) (hd:o.data=.dict es ep) (hs:We d h h'):IsNesm P w h' k a:=by
 obtain ⟨o',n,b,u,Ad,hc,zK,hb,hu⟩:=x
 have yx:a≠d:=by
  rintro rfl;obtain rfl:o'=o:=UR (Ad.symm.trans ho);rw [hd] at zK;exact nomatch zK
 exact ⟨o',n,b,u,(hs.2 a yx).trans Ad,hc,zK,hb.keeps ho hd hs,hu⟩
theorem rR {P:Uz} {w:UN} {A:U9} {s:Ur} {x y:aA} {a b:Ui} (hx:IsNesm P w s.heap x a) (hy:IsNesm P w s.heap y b) (hu:A.units+1<V3):EqAt A s (.ref a) (.ref b) (decide (x=y)):=by
 by_cases zU:a=b
 · subst zU;obtain rfl:=hx.inj hy;rw [decide_eq_true rfl];exact EqAt.same _
 · obtain ⟨o,n,c,u,ho,hc,hd,hb,hk⟩:=hx;obtain ⟨o',n',c',u',Ad,zw,zK,zM,zz⟩:=hy;have p1:s.heap.IsTuple a [u,UZ c].toArray:=⟨o,ho,hc,n,by rw [hd]⟩;have p2:s.heap.IsTuple b [u',UZ c'].toArray:=⟨o',Ad,zw,n',by rw [zK]⟩
   have:=lq (A:=A) (ds:=[(XG x.2:Sum (List Key) Key),U4 x.1]) (es:=[XG y.2,U4 y.1]) p1 p2 rfl rfl (by omega) fun j d e v v' e1 e2 e3 e4=>by
    match j with
    | 0 =>
      cases e1;cases e2;cases e3;cases e4;rw [show decide ((XG x.2:Sum (List Key) Key)=XG y.2)=decide (x.2=y.2) from decide_eq_decide.mpr ⟨fun z=>Sum.inr.inj z,fun z=>congrArg _ z⟩];exact oE (A:=A.in1) (s:=s) hk zz
    | 1 =>
      cases e1;cases e2;cases e3;cases e4;rw [show decide ((U4 x.1:Sum (List Key) Key)=U4 y.1)=decide (x.1=y.1) from decide_eq_decide.mpr ⟨fun z=>Xn z,fun z=>congrArg _ z⟩];exact rZ (A:=A.in1) hb zM (show A.units+1<V3 from hu)
    | j+2=>cases e1
   refine EqAt.of_refs zU ?_
   rw [show decide (x=y)=decide ([(XG x.2:Sum (List Key) Key),U4 x.1]=[XG y.2,U4 y.1]) from decide_eq_decide.mpr ⟨fun z=>by rw [z],fun z=>by
    injection z with z1 z2;injection z2 with z2 _;exact Prod.ext (Xn z2) (Sum.inr.inj z1)⟩]
   exact this
def kN (P:Uz) (w:UN) (k:aA):Int:=reduceHash (WC [(aG P w).hash k.2,Yo (aG P w) k.1])
theorem oB {P:Uz} {w:UN} {A:U9} {E:Ul->Ur->Prop} {s:Ur} {k:aA} {a:Ui} {Q:Int->Ur->Prop} (hu:A.units+1<V3) (hk:IsNesm P w s.heap k a) (h:Q (kN P w k) { s with toks:=s.toks+(k.1.length+3) }) :
 UC (U0 P w) A (pyHash (.ref a)) Q E s:=by
 have hT:=hk.typeIs;obtain ⟨o,n,c,u,ho,hc,hd,hb,hk⟩:=hk;unfold pyHash
 first | unfold pyHashByItsType | skip
 first | refine Ud (wpAny_cRoomFor_or (.inr (by omega)) ?_) | skip
 refine Ud (VW hT Zc.lookup ?_);show UC _ _ (if (some (Value.builtin "tuple.__hash__") == some VQ)=true then _ else _) Q E s;rw [if_neg (by rw [beq_builtin_none];exact UI)];refine Ud (VW hT Zc.lookup ?_);show UC _ _ (callSpecialIfBoundUnlessNone? (.ref a) "__hash__" _ >>= _) Q E s;refine Ud (wpAny_callSpecialIfBoundUnlessNone?_slot hT Zc (Vz Zc hT F.entry_tuple_hash ?_ (F.args_tuple_hash_1 _)));show UC _ _ (X1 (.ref a) >>= _) _ _ s;refine Ud (wpAny_tupleItemsOf ho hd ?_);refine Ud ?_;rw [<- X7]
 refine wpAny_forIn_list _
  (fun rest (b:Array Int) s'=>(rest=[u,.ref c]/\b=#[]/\s'=s)∨(rest=[.ref c]/\b=#[(aG P w).hash k.2]/\s'={ s with toks:=s.toks+1 })∨(rest=[]/\b=#[(aG P w).hash k.2,Yo (aG P w) k.1]/\s'={ s with toks:=s.toks+1+(k.1.length+1) }))
  _ ?_ ?_ _ _ (.inl ⟨rfl,rfl,rfl⟩)
 · rintro x rest b s' (⟨e1,rfl,rfl⟩ | ⟨e1,rfl,rfl⟩ | ⟨e1,_⟩)
   · cases e1;refine Ud ((aG P w).pyHash hk ?_)
     first
      | exact Uq (.inr (.inl ⟨rfl,rfl,rfl⟩))
      | exact Ud (Uq (Uq (.inr (.inl ⟨rfl,rfl,rfl⟩))))
   · cases e1;refine Ud (wpAny_pyHash_tuple (by show _<V3;first | exact hu | omega) hb ?_)
     first
      | exact Uq (.inr (.inr ⟨rfl,rfl,rfl⟩))
      | exact Ud (Uq (Uq (.inr (.inr ⟨rfl,rfl,rfl⟩))))
   · cases e1
 · rintro b s' (⟨e1,_⟩ | ⟨e1,_⟩ | ⟨_,rfl,rfl⟩)
   · cases e1
   · cases e1
   show UC _ _ (retInt (WC [(aG P w).hash k.2,Yo (aG P w) k.1])) _ _ _;refine wpAny_ret_mkInt ?_;show UC _ _ (if (decide (-(2:Int) ^ 63<=WC [(aG P w).hash k.2,Yo (aG P w) k.1]) && decide (WC [(aG P w).hash k.2,Yo (aG P w) k.1]<2 ^ 63))=true then _ else _) Q E _;unfold kN reduceHash at h;by_cases hr:(decide (-(2:Int) ^ 63<=WC [(aG P w).hash k.2,Yo (aG P w) k.1]) && decide (WC [(aG P w).hash k.2,Yo (aG P w) k.1]<2 ^ 63))=true
   · rw [if_pos hr];rw [if_pos hr] at h;exact Uq (by rw [show k.1.length+3=1+(k.1.length+2) by omega] at h;simpa [YR] using h)
   · rw [if_neg hr];rw [if_neg hr] at h;exact Ud (Xa (Uq (by rw [show k.1.length+3=1+(k.1.length+2) by omega] at h;simpa [YR] using h)))
theorem qA {P:Uz} {w:UN} {A:U9} {E:Ul->Ur->Prop} {s:Ur} {k:aA} {a:Ui} {Q:Bool->Ur->Prop} (hk:IsNesm P w s.heap k a) (h:Q true s):UC (U0 P w) A (eqIsQuiet 8 (.ref a)) Q E s:=by
 have hT:=hk.typeIs;obtain ⟨o,n,c,u,ho,hc,hd,hb,hk⟩:=hk;unfold eqIsQuiet;refine Ud (VW hT F.slot_tuple_eq.lookup ?_);show UC _ _ (isInstance (.ref a) (.type "tuple") >>= _) _ _ s;refine Ud (W5 hT isSubtype_tuple_tuple ?_);simp only [Yn,VE,if_false];refine Ud (VO ho hd ?_);refine Ud ?_;show UC _ _ (forIn #[u,UZ c] _ _) _ _ s;rw [<- X7];refine wpAny_forIn_list _ (fun rest r s'=>r.1=none/\s'=s/\∀ v∈rest,v=.ref c∨v=u) _ ?_ ?_ _ _ ⟨rfl,rfl,fun v hv=>by simpa [or_comm] using hv⟩
 · rintro v rest r s' ⟨hr,rfl,yi⟩;have Ej:∀ z∈rest,z=.ref c∨z=u:=fun z hz=>yi z (UJ _ hz);rcases yi v UH with rfl | rfl
   · refine Ud (pY hb ?_);simp only [Yn,VE,if_false];exact Uq ⟨rfl,rfl,Ej⟩
   · rw [eqIsQuiet_byValue _ ((aG P w).byValue _ _ hk)];refine Ud (Uq ?_);simp only [Yn,VE,if_false];exact Uq ⟨rfl,rfl,Ej⟩
 · rintro ⟨r1,r2⟩ s' ⟨hr,rfl,_⟩;simp only at hr;subst hr;exact Uq h
def cw (P:Uz) (w:UN):HeapKind P w aA where
 is:=IsNesm P w
 hash:=kN P w
 draws:=fun k=>k.1.length+3
 room:=fun A=>A.units+1<V3
 inj:=fun hx hy=>hx.inj hy
 keeps:=fun x ho hd hs=>x.keeps ho hd hs
 pyHash:=fun hu hk h=>oB hu hk h
 eqBool:=fun hu hx hy h=>rR hx hy hu _ _ _ _ h
 quiet:=fun hk h=>qA hk h
def o6 (P:Uz) (w:UN) (xs:List (aA×Ui×Ul)) (a:Ui) (h:VH):Prop:=∃ o es ep,h.get? a=some o/\o.ExactDict/\o.data=.dict es ep/\es.toList=xs.map (entryOfKey (cw P w))/\(xs.map (·.1)).Nodup
def MKAt (H:Hp) (k:aA) (b:Ui):Prop:=∃ c,H b=some (.tup [kV k.2,.ref c])/\H c=some (.tup (k.1.map kV))
abbrev KTm (H:Hp):List (aA×V)->List (aA×Ui×Ul)->Prop:=UX fun p q=>p.1=q.1/\MKAt H q.1 q.2.1/\RelV p.2 q.2.2
def DM (P:Uz) (w:UN) (H:Hp) (a:Ui) (f':List (aA×V)):Prop:=f'.length<=UD/\(a == Wg)=false/\∃ xs φ,H a=some (.ext φ)/\(∀ h,φ h->o6 P w xs a h)/\KTm H f' xs
theorem MKAt.mono {H H':Hp} (k:BB.KT H H') {n:aA} {b:Ui} (h:MKAt H n b):MKAt H' n b:=by
 obtain ⟨c,h1,h2⟩:=h;exact ⟨c,k _ _ h1,k _ _ h2⟩
theorem KTm.mono {H H':Hp} (k:BB.KT H H') {f':List (aA×V)} {xs:List (aA×Ui×Ul)} (r:KTm H f' xs):KTm H' f' xs:=UX.mapP r fun _ _ z=>⟨z.1,z.2.1.mono k,z.2.2⟩
theorem DM.mono {P:Uz} {w:UN} {H H':Hp} (s:Same H H') {a:Ui} {f':List (aA×V)} (h:DM P w H a f'):DM P w H' a f':=by
 obtain ⟨z,hd,xs,φ,e,f,r⟩:=h;exact ⟨z,hd,xs,φ,s _ _ e,f,KTm.mono (BB.Same.kt s) r⟩
theorem fz {P:Uz} {w:UN} {H:Hp} {h:VH} {k:aA} {b:Ui} (ok:HOk P w H h) (e:MKAt H k b):IsNesm P w h k b:=by
 obtain ⟨c,h1,h2⟩:=e;obtain ⟨_,its,n,r,e1⟩:=(show ObjOk P w H h b (.tup [kV k.2,.ref c]) from ok b _ h1);cases r with
 | cons r1 r =>
 cases r with
 | cons r2 r =>
 cases r;cases r2;exact ⟨_,n,c,_,e1,rfl,rfl,im ok h2,j7 (P:=P) (w:=w) r1⟩
theorem jz {P:Uz} {w:UN} {H:Hp} {h:VH} {a:Ui} {f':List (aA×V)} (ok:HOk P w H h) (e:DM P w H a f'):f'.length<=UD/\(a == Wg)=false/\∃ xs φ,H a=some (.ext φ)/\KTm H f' xs/\h.DictOfH (cw P w) a xs:=by
 obtain ⟨z,y,xs,φ,ea,f,r⟩:=e;obtain ⟨o,es,ep,h1,h2,h3,h4,h5⟩:=f h (ok a _ ea).1;refine ⟨z,y,xs,φ,ea,r,o,es,ep,h1,h2,h3,h4,fun x hx=>?_,h5⟩
 have all:∀ {l:List (aA×V)} {m:List (aA×Ui×Ul)},KTm H l m->∀ x∈m,(cw P w).is h x.1 x.2.1:=by
  intro l m q;induction q with
  | nil=>intro x hx;exact nomatch hx
  | @cons p q ps qs hq t ih =>
    intro x hx;rcases UK.mp hx with e | hx
    · subst e;exact fz ok hq.2.1
    · exact ih x hx
 exact all r x hx
theorem KTm.val {H:Hp} {f':List (aA×V)} {xs:List (aA×Ui×Ul)} (r:KTm H f' xs) (k:aA):RelO (aV f' k) ((XX xs k).map (·.2)):=by
 induction r with
 | nil=>exact Wz
 | @cons p q ps qs hq t ih =>
   by_cases e:p.1=k
   · rw [bS e];have:XX (q::qs) k=some q.2:=by simp [XX,W7,<- hq.1,e]
     rw [this];exact hq.2.2
   · rw [bU e];have:XX (q::qs) k=XX qs k:=by simp [XX,W7,<- hq.1,e]
     rw [this];exact ih
theorem KTm.put {H:Hp} {f':List (aA×V)} {xs:List (aA×Ui×Ul)} (r:KTm H f' xs) (k:aA) {b:Ui} {y:V} {u:Ul} (hb:MKAt H k b) (ry:RelV y u):KTm H (putK f' k y) (Y7 xs k b u):=by
 have hv:=KTm.val r k;cases e:aV f' k with
 | none =>
   rw [e] at hv
   have hn:XX xs k=none:=by
    cases q:XX xs k with
    | none=>rfl
    | some p=>rw [q] at hv;exact hv.elim
   rw [ku y e,storedH_new hn];exact BB.P2.append r (.cons ⟨rfl,hb,ry⟩ .nil)
 | some v0 =>
   rw [e] at hv
   obtain ⟨p,hp⟩:∃ p,XX xs k=some p:=by
    cases q:XX xs k with
    | none=>rw [q] at hv;exact hv.elim
    | some p=>exact ⟨p,rfl⟩
   rw [storedH_old hp];unfold putK;rw [if_pos (by rw [dC,e];rfl)]
   have all:∀ {l:List (aA×V)} {m:List (aA×Ui×Ul)},KTm H l m->KTm H (l.map fun kv=>if kv.1=k then (kv.1,y) else kv) (m.map (putAt k u)):=by
    intro l m q;induction q with
    | nil=>exact .nil
    | @cons p q ps qs hq t ih =>
      refine .cons ?_ ih;unfold putAt;dsimp only;by_cases z:p.1=k
      · rw [if_pos z,if_pos (by rw [<- hq.1];exact z)];exact ⟨hq.1,hq.2.1,ry⟩
      · rw [if_neg z,if_neg (by rw [<- hq.1];exact z)];exact hq
   exact all r
section
variable {X:Cx} {pins:List (Ui×WA)} {σ:St} {H:Hp} {s:Ur} {o i value:VC} {pos pos':Yl} {td ty tv:TE}
inductive t7 (P:Uz) (w:UN) (x y:V) (H:Hp) (Q:VK):Prop
 | mk (a b:Ui) (k:aA) (f':List (aA×V)) (v:V) (z0:x=.ref a) (z1:y=.ref b) (z2:DM P w H a f') (z3:MKAt H k b) (z4:aV f' k=some v) (z5:Q v H):t7 P w x y H Q
def ui (P:Uz) (w:UN) (td ty:TE):TE:=fun σ H Q=>td σ H fun x H1=>ty σ H1 fun y H2=>t7 P w x y H2 Q
theorem pD (hu:X.A.units+2<V3) (ho:PE X o td) (hi:PE X i ty) (hs:wj i):PE X (.Subscript o i pos) (ui X.prog X.w td ty):=by
 intro pins s σ H Q I h;refine qQ PySem.F.slot_dict_getitem.lookup hs (thn (ho pins s σ H _ I h) fun u s1 ⟨x,H1,I1,rx,q1⟩=>thn (hi pins s1 σ H1 _ I1 q1) fun iv s2 ⟨y,H2,I2,ry,q2⟩=>?_);obtain ⟨a,b,k,f',v,rfl,rfl,hd,hk,hv,q⟩:=q2;obtain rfl:u=UZ a:=rx;obtain rfl:iv=UZ b:=ry;obtain ⟨_,_,xs,φ,ea,rel,dd⟩:=jz I2.hok hd;obtain ⟨w',hw,BK⟩:=RelO.some_of (v:=v) (o:=(XX xs k).map (·.2)) (by rw [<- hv];exact KTm.val rel k);obtain ⟨p,hp,Aj⟩:=UU.mp hw;refine ⟨dd.typeIs,wpAny_getItem_heap (knd:=cw X.prog X.w) (show X.A.units+1+1<V3 from hu) (fz I2.hok hk) dd hp ?_⟩;rw [Aj];exact ⟨v,H2,I2.tok _,BK,q⟩
inductive ub (P:Uz) (w:UN) (x y v:V) (H:Hp) (R:Hp->Prop):Prop
 | mk (a b:Ui) (k:aA) (f':List (aA×V)) (z0:x=.ref a) (z1:y=.ref b) (z2:DM P w H a f') (z3:MKAt H k b) (z4:f'.length<UD) (z5:∀ H',(∀ c o,c≠a->H c=some o->H' c=some o)->DM P w H' a (putK f' k v)->R H'):ub P w x y v H R
def vS (P:Uz) (w:UN) (td ty tv:TE):TS:=fun D σ H=>tv σ H fun v H1=>td σ H1 fun x H2=>ty σ H2 fun y H3=>ub P w x y v H3 fun H4=>D.nx σ H4
theorem sR (hu:X.A.units+2<V3) (ho:PE X o td) (hi:PE X i ty) (hv:PE X value tv) (hs:swapsWith value (some (.Subscript o i pos')) pos.line X.env=pure false) :
 PS X (.Assign [.Subscript o i pos'] value pos) (vS X.prog X.w td ty tv):=by
 intro pins s σ H D I h;refine wpAny_Assign_Subscript (thn (hv pins s σ H _ I h) fun r s1 ⟨v,H1,I1,rv,q1⟩=>thn (ho pins s1 σ H1 _ I1 q1) fun u s2 ⟨x,H2,I2,rx,q2⟩=>thn (hi pins s2 σ H2 _ I2 q2) fun iv s3 ⟨y,H3,I3,ry,q3⟩=>?_) hs;obtain ⟨a,b,k,f',rfl,rfl,hd,hk,hl,q⟩:=q3;obtain rfl:u=UZ a:=rx;obtain rfl:iv=UZ b:=ry;obtain ⟨z,zK,xs,φ,ea,rel,dd⟩:=jz I3.hok hd;have hz:xs.length<=UD:=by rw [<- Uv rel];exact z
 have Ks:(putK f' k v).length<=UD:=by have:=bZ f' k v;omega
 refine wpAny_setItem_heap (knd:=cw X.prog X.w) (hsz:=hz) (show X.A.units+1+1<V3 from hu) (fz I3.hok hk) dd fun h' BP hs=>?_;obtain ⟨ob,es,ep,hq,h2,h3,h4,_,h5⟩:=BP;have ne:o6 X.prog X.w (Y7 xs k b r) a h':=⟨ob,es,ep,hq,h2,h3,h4,h5⟩
 have I4:=gQ (ob:=.ext (o6 X.prog X.w (Y7 xs k b r) a)) (t':=s3.toks+(cw X.prog X.w).draws k) I3 (by rw [ea];exact Wz) hs ⟨ob,hq⟩ ⟨ne,⟨ob,hq⟩,fun h1 h2 p kk=>by
  obtain ⟨o1,Hu,Hv,g1,g2⟩:=p;exact ⟨o1,Hu,Hv,kk _ g1,g2⟩⟩
 have kt:BB.KT H3 (upd H3 a (.ext (o6 X.prog X.w (Y7 xs k b r) a))):=fun c ys ec=>by
  rw [ak (fP ec ea (fun z=>nomatch z))];exact ec
 exact ⟨σ,_,I4,q _ (fun c o hc e=>by rw [ak hc];exact e) ⟨Ks,zK,_,_,ab,fun _ p=>p,KTm.mono kt (KTm.put rel k hk rv)⟩⟩
def wu (P:Uz) (w:UN):TE:=fun _ H Q=>∀ p H',H p=none->Same H H'->DM P w H' p []->Q (.ref p) H'
theorem oU:PE X (.Dict [] [] pos) (wu X.prog X.w):=fun pins s σ H Q I h=>by
 have hn:H s.heap.objs.size=none:=I.hok.fresh (Uj _);have ne:o6 X.prog X.w [] s.heap.objs.size (s.heap.push { cls:=.type "dict",data:=.dict #[] }):=⟨_,#[],0,Uy _ rfl,⟨rfl,rfl,rfl⟩,rfl,rfl,YF⟩;refine wpAny_Dict_empty ⟨.ref s.heap.objs.size,_,I.laid (a:=s.heap.objs.size) (o:=.ext (o6 X.prog X.w [] s.heap.objs.size)) (t':=s.toks) (fun _ _ q=>Up _ q) (Uj _) ⟨ne,⟨_,Uy _ rfl⟩,fun h1 h2 p kk=>?_⟩,rfl,h _ _ hn (ad hn _) ⟨UO _,beq_eq_false_iff_ne.mpr (Wd (U2 I.big)),[],_,ab,fun _ p=>p,.nil⟩⟩;obtain ⟨o1,Hu,Hv,g1,g2⟩:=p;exact ⟨o1,Hu,Hv,kk _ g1,g2⟩
end
end L2
namespace L2
open PySem PySem.Spec PyProof.Rows
section
variable {X:Cx} {pins:List (Ui×WA)} {σ:St} {H:Hp} {s:Ur} {o i e f:VC} {pos apos yt:Yl} {td ty tx:TE}
theorem qP {f':List (aA×V)} {xs:List (aA×Ui×Ul)} (rel:KTm H f' xs) (k:aA):(aV f' k).isSome=(XX xs k).isSome:=by
 have q:=(KTm.val rel k).isSome_eq;rw [ZI] at q;exact q
inductive vK (f:Bool->Bool) (P:Uz) (w:UN) (y x:V) (H:Hp) (Q:VK):Prop
 | mk (a b:Ui) (k:aA) (f':List (aA×V)) (z0:x=.ref a) (z1:y=.ref b) (z2:DM P w H a f') (z3:MKAt H k b) (z4:Q (.bl (f (aV f' k).isSome)) H):vK f P w y x H Q
def vJ (f:Bool->Bool) (P:Uz) (w:UN) (ty td:TE):TE:=fun σ H Q=>ty σ H fun y H1=>td σ H1 fun x H2=>vK f P w y x H2 Q
theorem uH (hu:X.A.units+2<V3) (hi:PE X i ty) (ho:PE X o td):PC X .In i o (vJ (fun b=>b) X.prog X.w ty td):=by
 intro pins s σ H Q I h;refine thn (hi pins s σ H _ I h) fun iv s1 ⟨y,H1,I1,ry,q1⟩=>thn (ho pins s1 σ H1 _ I1 q1) fun u s2 ⟨x,H2,I2,rx,q2⟩=>?_;obtain ⟨a,b,k,f',rfl,rfl,hd,hk,q⟩:=q2;obtain rfl:u=UZ a:=rx;obtain rfl:iv=UZ b:=ry;obtain ⟨_,zK,xs,φ,ea,rel,dd⟩:=jz I2.hok hd;refine wpAny_in_heap (knd:=cw X.prog X.w) (show X.A.units+1+1<V3 from hu) (fz I2.hok hk) zK dd ?_;rw [<- qP rel k];exact ⟨.bl _,H2,I2.tok _,rfl,q⟩
theorem pP (hu:X.A.units+2<V3) (hi:PE X i ty) (ho:PE X o td):PC X .NotIn i o (vJ (fun b=>!b) X.prog X.w ty td):=by
 intro pins s σ H Q I h;refine thn (hi pins s σ H _ I h) fun iv s1 ⟨y,H1,I1,ry,q1⟩=>thn (ho pins s1 σ H1 _ I1 q1) fun u s2 ⟨x,H2,I2,rx,q2⟩=>?_;obtain ⟨a,b,k,f',rfl,rfl,hd,hk,q⟩:=q2;obtain rfl:u=UZ a:=rx;obtain rfl:iv=UZ b:=ry;obtain ⟨_,zK,xs,φ,ea,rel,dd⟩:=jz I2.hok hd;refine wpAny_notIn_heap (knd:=cw X.prog X.w) (show X.A.units+1+1<V3 from hu) (fz I2.hok hk) zK dd ?_;rw [<- qP rel k];exact ⟨.bl _,H2,I2.tok _,rfl,q⟩
inductive qS (P:Uz) (w:UN) (x y z:V) (H:Hp) (Q:VK):Prop
 | mk (a b:Ui) (k:aA) (f':List (aA×V)) (z0:x=.ref a) (z1:y=.ref b) (z2:DM P w H a f') (z3:MKAt H k b) (z4:Q ((aV f' k).getD z) H):qS P w x y z H Q
def uV (P:Uz) (w:UN) (td ty tx:TE):TE:=fun σ H Q=>td σ H fun x H1=>∃ a f',x=.ref a/\DM P w H1 a f'/\ty σ H1 fun y H2=>tx σ H2 fun z H3=>qS P w x y z H3 Q
theorem tw {a:Ui} {f':List (aA×V)} (I:Inv X pins σ H s) (d:DM X.prog X.w H a f'):s.TypeIs (.ref a) "dict"/\(∀ b,UZ a=.ref b->∃ ob,s.heap.get? b=some ob/\ob.dict=none):=by
 obtain ⟨_,hd,xs,φ,_,_,dd⟩:=jz I.hok d;refine ⟨dd.typeIs,fun b q=>?_⟩;cases q;obtain ⟨ob,_,_,h1,h2,_⟩:=dd;exact ⟨ob,h1,h2.2.1⟩
theorem sC (hu:X.A.units+2<V3) (ho:PE X o td) (he:PE X e ty) (hf:PE X f tx) (m:M2 X o "get" apos e f yt):PE X (.Call (.Attribute o "get" apos) [e,f] [] yt) (uV X.prog X.w td ty tx):=by
 intro pins s σ H Q I h;refine wpAny_Call_method m.base m.few m.line YW Xu PySem.F.type_dict_get (thn (ho pins s σ H _ I h) fun u s1 ⟨x,H1,I1,rx,a,QJ,ex,d,q1⟩=>?_);subst ex;obtain rfl:u=UZ a:=rx;obtain ⟨t1,t2⟩:=tw I1 d;refine ⟨t1,t2,?_⟩;rw [m.trees]
 refine XA rfl (YH (V2 (thn (he pins s1 σ H1 _ I1 q1) fun iv s2 ⟨y,H2,I2,ry,q2⟩ =>
  V2 (thn (hf pins s2 σ H2 _ I2 q2) fun fv s3 ⟨z,H3,I3,rz,q3⟩=>Wx ?_))))
 obtain ⟨a',b,k,f',QK,rfl,hd,hk,q⟩:=q3;cases QK;obtain rfl:iv=UZ b:=ry;obtain ⟨_,zK,xs,φ,ea,rel,dd⟩:=jz I3.hok hd;refine call_meetsIn Xu dd.typeIs Y3 (YY _ _ _) (meetsH_dict_get_default (cw X.prog X.w) a b zK fv) ⟨(show X.A.units+1+1<V3 from hu),k,xs,fz I3.hok hk,dd,?_⟩;exact ⟨_,H3,I3.tok _,(KTm.val rel k).getD rz,q⟩
inductive pA (P:Uz) (w:UN) (x:V) (vs:List V) (H:Hp) (Q:VK):Prop
 | mk (a b:Ui) (v:V) (k:aA) (f':List (aA×V)) (z0:x=.ref a) (z1:vs=[.ref b,v]) (z2:DM P w H a f') (z3:MKAt H k b) (z4:f'.length<UD)
  (z5:∀ u,aV f' k=some u->Q u H) (z6:aV f' k=none->∀ H',(∀ c o,c≠a->H c=some o->H' c=some o)->DM P w H' a (putK f' k v)->Q v H'):pA P w x vs H Q
theorem gC (hu:X.A.units+2<V3):MtM X "dict.setdefault" (pA X.prog X.w):=by
 intro pins s σ H x vs v us Q I rx rv h;obtain ⟨a,b,y,k,f',rfl,rfl,e,eb,l,q1,q2⟩:=h;cases rx;cases rv with
 | cons r1 rv =>
 cases rv with
 | cons r2 rv =>
 cases rv;cases r1;obtain ⟨z,hd,xs,φ,ea,rel,dd⟩:=jz I.hok e;have hz:xs.length<=UD:=by rw [<- Uv rel];exact z
 have hl:(putK f' k y).length<=UD:=by have:=bZ f' k y;omega
 have hT:s.TypeIs (.ref a) "dict":=dd.typeIs;refine call_meetsIn Yt hT PySem.F.entry_dict_setdefault (PySem.F.args_dict_setdefault_3 _ _ _) (bb_meets_setdefault (cw X.prog X.w) a b _ hd) ⟨(show X.A.units+1+1<V3 from hu),k,xs,fz I.hok eb,dd,hz,fun p hp=>?_,fun hn h' BP hs=>?_⟩
 · have hr:=KTm.val rel k;rw [hp] at hr;cases hv:aV f' k with
   | none=>rw [hv] at hr;exact hr.elim
   | some u =>
     rw [hv] at hr;exact ⟨u,H,I.tok _,hr,q1 u hv⟩
 · have hr:=KTm.val rel k;rw [hn] at hr;cases hv:aV f' k with
   | some u=>rw [hv] at hr;exact hr.elim
   | none =>
     obtain ⟨ob,es,ep,hq,h2,h3,h4,_,h5⟩:=BP;have ne:o6 X.prog X.w (Y7 xs k b _) a h':=⟨ob,es,ep,hq,h2,h3,h4,h5⟩
     have I4:=gQ (t':=s.toks+(cw X.prog X.w).draws k) I (by rw [ea];exact Wz) hs ⟨ob,hq⟩ (ob:=.ext (o6 X.prog X.w (Y7 xs k b _) a)) ⟨ne,⟨ob,hq⟩,fun h1 h2 p kk=>by
      obtain ⟨o1,Hu,Hv,g1,g2⟩:=p;exact ⟨o1,Hu,Hv,kk _ g1,g2⟩⟩
     have kt:∀ ψ:VH->Prop,BB.KT H (upd H a (.ext ψ)):=fun ψ c ys ec=>by
      rw [ak (fP ec ea (fun z=>nomatch z))];exact ec
     exact ⟨y,_,I4,r2,q2 hv _ (fun c o hc e=>by rw [ak hc];exact e) ⟨hl,hd,_,_,ab,fun _ p=>p,KTm.mono (kt _) (KTm.put rel k eb r2)⟩⟩
inductive tX (P:Uz) (w:UN) (xs:List V) (H:Hp) (Q:VK):Prop
 | mk (a:Ui) (f':List (aA×V)) (z0:xs=[.ref a]) (z1:DM P w H a f') (z2:∀ (l:Ui) (bs:List Ui),H l=none->UX (fun kv b=>MKAt H kv.1 b) f' bs->Q (.ref l) (upd H l (.lst (bs.map V.ref)))):tX P w xs H Q
theorem ue {f':List (aA×V)} {ys:List (aA×Ui×Ul)} (rel:KTm H f' ys):UX (fun kv b=>MKAt H kv.1 b) f' (ys.map fun y=>y.2.1):=by
 induction rel with
 | nil=>exact .nil
 | cons h t ih=>exact .cons (by rw [h.1];exact h.2.1) ih
theorem pK (hc:X.calm=true):g9 X (.type "list") (tX X.prog X.w):=by
 intro pins s σ H xs us Q I r h;obtain ⟨a,f',rfl,e,q⟩:=h;obtain ⟨u,rfl,rx⟩:=vals1 r;cases rx;obtain ⟨z,hd,ys,φ,ea,rel,dd⟩:=jz I.hok e;have hT:=dd.typeIs;obtain ⟨o,es,ep,ho,S9,JM,he,JK,hn⟩:=dd;obtain ⟨o',Ad,AS⟩:=hT;have eo:o'=o:=UR (Ad.symm.trans ho);subst eo;have hl:f'.length=ys.length:=Uv rel
 have Lm:es.toList.map (·.key)=ys.map fun y=>UZ y.2.1:=by
  rw [he,Wi];rfl
 have hsz:es.size<=UD:=by
  have:=congrArg Xc Lm;rw [Uc,Uc,U3] at this;omega
 have hh:X.A.in1.in1.handled=none:=I.ok.hd hc;refine bb_list_keys hh hd Ad AS JM hsz fun h' acc c hk hS yn=>?_;have hp:UX (fun kv b=>MKAt H kv.1 b) f' (ys.map fun y=>y.2.1):=ue rel;refine ⟨.ref s.heap.objs.size,upd H s.heap.objs.size (.lst ((ys.map fun y=>y.2.1).map V.ref)),?_,rfl,q _ _ I.fresh hp⟩;refine I.laid (t':=s.toks) hk (Uj _) ⟨by rw [Uc,Uc];omega,acc.toList,c,?_,hS⟩;rw [yn,Lm];clear hn JK he Lm yn hS hl z rel hp q;induction ys with
 | nil=>exact .nil
 | cons y ys ih=>exact .cons rfl ih
def xA (P:Uz) (w:UN) (r:V->List V->Hp->VK->Prop) (to:TE) (t:TA):TE:=fun σ H Q=>to σ H fun x H1=>(∃ a f',x=.ref a/\DM P w H1 a f')/\t σ H1 fun xs H2=>r x xs H2 Q
theorem tq {es:List VC} {to:TE} {t:TA} {name:US} {id:String} {r:V->List V->Hp->VK->Prop} (slot:Slot "dict" name id) (GP:typeOf (.builtin id)=pure (.type "method_descriptor")) (hm:MtR X id r) (ho:PE X o to) (ha:PA X (e::es) t)
 (AA:attributeBase o name X.env (WN o X.env)=WN o X.env:=by rfl)
 (ES:((Ys yt (Vm (e::es) X.env)).all (fun x=>!x.1) && (backToKw yt (keywordEach [] X.env)).all (fun x=>x.1.isSome)
  && decide ((e::es).length+([]:List Keyword).length+(if ([]:List Keyword).isEmpty then 0 else 1)<30))=true:=by rfl)
 (AB:(apos.endLine == yt.line)=true:=by rfl) (hs:Vm (e::es) X.env=(false,WN e X.env)::Vm es X.env:=by rfl) (Bc:(Ys yt (Vm es X.env)).any (·.1)=false:=by rfl) :
 PE X (.Call (.Attribute o name apos) (e::es) [] yt) (xA X.prog X.w r to t):=by
 intro pins s σ H Q I h;refine wpAny_Call_method_late AA ES AB rfl (thn (ho pins s σ H _ I h) fun v s1 ⟨x,H1,I1,r1,⟨a,f',ex,hd⟩,q1⟩=>?_);subst ex;obtain rfl:v=UZ a:=r1;obtain ⟨h1,h2⟩:=tw I1 hd;refine ⟨"dict",id,YW,slot,GP,h1,h2,?_⟩;have hA:=ha yt pins s1 σ H1 _ I1 q1;rw [hs] at hA ⊢;refine XA (by show (false || (Ys yt (Vm es X.env)).any (·.1))=false;rw [Bc] <;> rfl) (YH ?_);exact thn hA fun vs s2 ⟨xs,H2,I2,rv,q2⟩=>hm pins s2 σ H2 (.ref a) xs (.ref a) vs Q I2 rfl rv q2
end
end L2
namespace BB
open PySem L2
theorem mQ {K:Ug} {H:Hp}:∀ {ps:List (List Int×Th)} {as:List Ui},PsAtK K H ps as->∃ bs,UX (fun (p:List Int×Th) b=>H b=some (.tup (p.1.map V.int))) ps bs/\bs.length=as.length/\∀ (i:Nat) x b,(as.map V.ref)[i]?=some x->bs[i]?=some b->∃ a ta,x=.ref a/\H a=some (.tup [.ref b,.ref ta])
 | _,_,.nil=>⟨[],.nil,rfl,fun i x b h=>by simp at h⟩
 | _,_,.cons r h=>by
   obtain ⟨pa,ta,h1,h2,_⟩:=r;obtain ⟨bs,g1,g2,g3⟩:=mQ h;refine ⟨pa::bs,.cons h2 g1,by rw [Ut,Ut,g2],fun i x b hx hb=>?_⟩;cases i with
   | zero =>
     simp at hx hb;subst hx;subst hb;exact ⟨_,ta,rfl,h1⟩
   | succ i=>exact g3 i x b (by simpa using hx) (by simpa using hb)
theorem sY {α:Type} {F:Hp->α->Ui->Prop} {js:List (Option Nat)} {g:TG} {tt:TT} {te:TE} {σ:St} {J:It} {H:Hp} {xs:List V} {fin:Ui->Hp->Prop} (zs:List α) (p:α->Bool) (hF:∀ H1 H2 z p,KT H1 H2->F H1 z p->F H2 z p) (hz:zs.length=xs.length) (hn:xs.length<=1000000)
 (Cb:∀ i H2,L2.Same H H2->i<xs.length->J.go i H2) (zd:∀ H2,L2.Same H H2->J.stop xs.length H2) (Ag:∀ (i:Nat) H2 x H3,L2.Same H H2->i<xs.length->J.yld i H2 x H3->H3=H2/\xs[i]?=some x)
 (hb:∀ (i:Nat) x z H2 (R:VK) (W':Hp->Prop),xs[i]?=some x->zs[i]?=some z->L2.Same H H2->(p z=true->∀ H3 q,L2.Same H2 H3->F H3 z q->R (.ref q) H3)->(p z=false->∀ H3,L2.Same H2 H3->W' H3)->g x (cσ js σ) H2 fun yw H3=>tt yw H3 fun b H4=>if b=true then te yw H4 R else W' H4)
 (zB:∀ D H' as,H D=none->L2.Same H H'->H' D=some (.lst (as.map V.ref))->UX (F H') (zs.filter p) as->fin D H') :
 ∀ D,H D=none->∃ (n:Nat) (W:Nat->Hp->Prop),W 0 (upd H D (.lst []))/\fO js g tt te σ J D n W fun H'=>fin D H':=by
 intro D hD;refine ⟨xs.length,fun i H'=>i<=xs.length/\L2.Same H H'/\∃ as:List Ui,H' D=some (.lst (as.map V.ref))/\UX (F H') ((zs.take i).filter p) as,⟨UO _,ad hD _,[],by rw [ab];rfl,.nil⟩,?_⟩;rintro i H' ⟨hi,s1,as,e1,hp⟩;by_cases ym:i<xs.length
 · refine .inr ⟨ym,Cb i H' s1 ym,fun v H1 hy=>?_⟩;obtain ⟨e,hx⟩:=Ag i H' v H1 s1 ym hy;subst e;obtain ⟨z,zQ⟩:∃ z,zs[i]?=some z:=⟨_,Ue (by omega)⟩;have hl:((zs.take i).filter p).length=as.length:=Uv hp;have y4:=WZ p (zs.take i);rw [UQ] at y4;refine hb i v z _ _ _ hx zQ s1 (fun Ek H3 q s3 La=>⟨_,s3 _ _ e1,?_,ym,aw (s1.trans s3) hD,as++[q],?_,?_⟩) (fun Ek H3 s3=>⟨ym,s1.trans s3,as,s3 _ _ e1,?_⟩)
   · rw [Uc];have:UD=16777216:=Yj;omega
   · rw [ab,Ux];rfl
   · have kt:KT H3 (upd H3 D (.lst (as.map V.ref++[.ref q]))):=aS (s3 _ _ e1);rw [take_snoc zQ,X6,Wa,if_pos Ek,Zb];exact P2.append (P2.mp (fun x y e=>hF _ _ _ _ ((Same.kt s3).trans kt) e) hp) (.cons (hF _ _ _ _ kt La) .nil)
   · rw [take_snoc zQ,X6,Wa,if_neg (by rw [Ek];exact UI),Zb,U6];exact P2.mp (fun x y e=>hF _ _ _ _ (Same.kt s3) e) hp
 · have yX:i=xs.length:=by omega
   subst yX;refine .inl ⟨zd _ s1,zB D H' as hD s1 e1 ?_⟩;rw [Vx (by omega)] at hp;exact hp
def aT (ins:List (US×Int)):Th:=.knot (((ins.filter fun k=>decide (k.2=0))[0]?.map (·.1)).getD (Um "")) []
theorem eT {ins:List (US×Int)} {k:US×Int} (h:(ins.filter fun k=>decide (k.2=0))[0]?=some k):aT ins=.knot k.1 []:=by
 unfold aT;rw [h];rfl
theorem k9 {ins:List (US×Int)} (g:bN ins):∃ k,(ins.filter fun k=>decide (k.2=0))[0]?=some k/\k.2=0:=by
 obtain ⟨k,hk,hz⟩:=g.zero;have hm:k∈ins.filter fun k=>decide (k.2=0):=V7.mpr ⟨hk,decide_eq_true hz⟩;have hl:0<(ins.filter fun k=>decide (k.2=0)).length:=List.length_pos_of_mem hm;refine ⟨_,Ue hl,?_⟩;exact of_decide_eq_true (V7.mp (XN hl)).2
def cC (ins:List (US×Int)):Nat:=ins.findIdx fun k=>decide (k.2=0)
theorem eW:∀ {ins:List (US×Int)} {k:US×Int},(ins.filter fun k=>decide (k.2=0))[0]?=some k->ins[cC ins]?=some k
 | [],k,h=>by simp at h
 | x::xs,k,h=>by
   unfold cC;by_cases hx:x.2=0
   · rw [Wa,if_pos (decide_eq_true hx)] at h;rw [ZP,decide_eq_true hx];simpa using h
   · rw [Wa,if_neg (by simpa using hx)] at h;rw [ZP,decide_eq_false hx];simpa [cC] using eW h
def MkAt (H:Hp) (ins:List (US×Int)) (rows:List (List Th)) (f':List (List Key×V)):Prop :=
 ∀ (s k:Nat) (row:List Th) (p:Th),k<3->rows[s]?=some row->row[cC ins]?=some p->∃ a,aV f' [U4 (s:Int),U4 (k:Int)]=some (.ref a)/\At H p a
theorem MkAt.mono {H H':Hp} (kt:KT H H') {ins:List (US×Int)} {rows:List (List Th)} {f':List (List Key×V)} (h:MkAt H ins rows f'):MkAt H' ins rows f':=fun s k row p hk hr hp=>by
 obtain ⟨a,h1,h2⟩:=h s k row p hk hr hp;exact ⟨a,h1,h2.mono kt⟩
theorem qi:∀ {ts:List Th} {i:Nat},(dvs ts)[i]?=(ts[i]?).map Th.dv
 | [],i=>by rw [dvs];simp
 | t::ts,0=>by rw [dvs];rfl
 | t::ts,i+1=>by rw [dvs,Vf,Vf];exact qi
theorem qN:∀ ts:List Th,(dvs ts).length=ts.length
 | []=>by rw [dvs];rfl
 | t::ts=>by rw [dvs,Ut,Ut,qN ts]
theorem oQ {α:Type} {f:α->Th} {H:Hp}:∀ {zs:List α} {as:List Ui},UX (fun z a=>At H (f z) a) zs as->Ats H (zs.map f) as
 | _,_,.nil=>.nil
 | _,_,.cons r h=>.cons r (oQ h)
end BB
namespace BB
open PySem L2
theorem cZ {x:List Int×Th} {pre:List Int}:∀ {ts:List Th} {i:Int},x∈pls pre i ts↔∃ (j:Nat) (t:Th),ts[j]?=some t/\x∈t.pl (pre++[i+(j:Int)])
 | [],i=>by rw [pls];simp
 | t::ts,i=>by
   rw [pls,Ve,cZ (ts:=ts) (i:=i+1)];constructor
   · rintro (h | ⟨j,u,hu,h⟩)
     · exact ⟨0,t,rfl,by simpa using h⟩
     · refine ⟨j+1,u,by simpa using hu,?_⟩;rw [show i+((j+1:Nat):Int)=i+1+(j:Int) by omega];exact h
   · rintro ⟨j,u,hu,h⟩;cases j with
     | zero =>
       simp at hu;subst hu;exact .inl (by simpa using h)
     | succ j =>
       refine .inr ⟨j,u,by simpa using hu,?_⟩;rw [show i+1+(j:Int)=i+((j+1:Nat):Int) by omega];exact h
theorem pW {n:US} {ks:List Th} {pre:List Int} {j:Nat} {t:Th} (h:ks[j]?=some t) {x:List Int×Th} (hx:x∈t.pl (pre++[(j:Int)])):x∈(Th.knot n ks).pl pre:=by
 rw [Th.pl];refine UJ _ (cZ.mpr ⟨j,t,h,?_⟩);rw [VZ];exact hx
theorem gH (t:Th) (pre:List Int):(pre,t)∈t.pl pre:=by rw [Th.pl_eq];exact UH ..
theorem qc:∀ (n:Nat) (l r:Th) (pre:List Int),l.size<=n->∀ x∈(l.com r).pl pre,∃ u,(x.1,u)∈l.pl pre
 | 0,l,r,pre,hn=>by have:=l.size_pos;omega
 | n+1,.call a b,r,pre,hn=>fun x hx=>by
   rw [dI,aC] at hx
   · rw [if_neg UI,hole,Th.pl,pls] at hx;rw [UP.mp hx];exact ⟨_,gH _ _⟩
   · intro _ _ _ _ h;cases h
 | n+1,.knot m ks,r,pre,hn=>fun x hx=>by
   rw [dI] at hx;by_cases hs:aC (.knot m ks) r=true
   · rw [if_pos hs,Th.pl] at hx;rcases UK.mp hx with rfl | hx
     · exact ⟨_,gH _ _⟩
     · obtain ⟨j,t,ht,hx⟩:=cZ.mp hx;rw [VZ] at hx;rw [Uo,UU] at ht;obtain ⟨p,hp,rfl⟩:=ht;obtain ⟨h1,h2⟩:=VX.mp hp;rw [Th.size] at hn;have hz:p.1.size<=aq ks:=aN (Uh h1);obtain ⟨u,hu⟩:=qc n p.1 p.2 _ (by omega) x hx;exact ⟨u,pW h1 hu⟩
   · rw [if_neg hs,hole,Th.pl,pls] at hx;rw [UP.mp hx];exact ⟨_,gH _ _⟩
mutual
/-- a front with holes at some places -/
def Th.cut (D:List Int->Bool) (pre:List Int):Th->Th
 | .knot n ks=>if (Th.knot n ks).isHole=true∨D pre=true then hole else .knot n (dS D pre 0 ks)
 | .call _ _=>hole
def dS (D:List Int->Bool) (pre:List Int) (i:Int):List Th->List Th
 | []=>[]
 | t::ts=>t.cut D (pre++[i])::dS D pre (i+1) ts
end
theorem jc {D:List Int->Bool} {pre:List Int}:∀ {ts:List Th} {i:Int} {j:Nat},(dS D pre i ts)[j]?=(ts[j]?).map fun t=>t.cut D (pre++[i+(j:Int)])
 | [],i,j=>by rw [dS];simp
 | t::ts,i,0=>by rw [dS];simp
 | t::ts,i,j+1=>by
   rw [dS,Vf,Vf,jc,show i+1+(j:Int)=i+((j+1:Nat):Int) by omega]
theorem kK {D:List Int->Bool} {pre:List Int}:∀ {ts:List Th} {i:Int},(dS D pre i ts).length=ts.length
 | [],i=>by rw [dS]
 | t::ts,i=>by rw [dS,Ut,Ut,kK]
theorem kF:∀ {as bs:List Th},(∀ (i:Nat) (a b:Th),as[i]?=some a->bs[i]?=some b->a.lies b=true)->cj as bs=true
 | [],bs,_=>by rw [cj]
 | a::as,[],_=>by rw [cj]
 | a::as,b::bs,h=>by
   rw [cj,h 0 a b rfl rfl,kF fun i x y hx hy=>h (i+1) x y (by simpa using hx) (by simpa using hy)];rfl
theorem mV:∀ {as bs:List Th},cj as bs=true->∀ (i:Nat) (a b:Th),as[i]?=some a->bs[i]?=some b->a.lies b=true
 | [],bs,_,i,a,b,ha,_=>by simp at ha
 | x::as,[],_,i,a,b,_,hb=>by simp at hb
 | x::as,y::bs,h,i,a,b,ha,hb=>by
   rw [cj,Wn] at h;cases i with
   | zero =>
     simp at ha hb;subst ha;subst hb;exact h.1
   | succ i=>exact mV h.2 i a b (by simpa using ha) (by simpa using hb)
theorem gr {n:US} {ks:List Th} {r:Th} (h:aC (.knot n ks) r=true):∃ us,r=.knot n us/\ks.length=us.length/\(Th.knot n ks).isHole=false:=by
 cases r with
 | call a b=>rw [aC] at h;exact absurd h UI;intro _ _ _ _ _ h;cases h
 | knot m us =>
   rw [aC,Wn,Wn] at h;obtain ⟨⟨h1,h2⟩,h3⟩:=h;obtain rfl:=of_decide_eq_true h2;exact ⟨us,rfl,of_decide_eq_true h3,by simpa using h1⟩
theorem fj {n:US} {ks us:List Th} (h1:(Th.knot n ks).isHole=false) (h2:ks.length=us.length):aC (.knot n ks) (.knot n us)=true:=by
 rw [aC,h1,decide_eq_true rfl,decide_eq_true h2];rfl
theorem lies_of {n:US} {ks:List Th} {r:Th} (h:(Th.knot n ks).lies r=true) (hh:(Th.knot n ks).isHole=false):∃ us,r=.knot n us/\ks.length=us.length/\cj ks us=true:=by
 rw [Th.lies,hh,X3,Wn] at h;obtain ⟨us,rfl,hl,_⟩:=gr h.1;exact ⟨us,rfl,hl,h.2⟩
theorem fS {c:List Int×Int×Int} {ps:List (List Int×Th)}:c∈callsOf ps↔(c.1,Th.call c.2.1 c.2.2)∈ps:=by
 unfold callsOf;rw [ZA];constructor
 · rintro ⟨⟨pl,t⟩,hx,e⟩;cases t with
   | knot n ks=>rw [nu] at e;cases e
   | call a b=>rw [nu] at e;cases e;exact hx
 · intro h;exact ⟨_,h,by rw [nu]⟩
section
variable {D:Int->List Int->Bool} {mk f0:Int->Th}
end
theorem mW:∀ (n:Nat) (t:Th),t.size<=n->t.noCall->t.lies t=true
 | 0,t,hn,_=>by have:=t.size_pos;omega
 | n+1,.call a b,_,h=>by rw [Th.noCall] at h;exact h.elim
 | n+1,.knot m ks,hn,h=>by
   by_cases hh:(Th.knot m ks).isHole=true
   · rw [Th.lies,hh];rfl
   · have F9:(Th.knot m ks).isHole=false:=VT.mpr hh;rw [Th.size] at hn;rw [Th.noCall] at h;rw [Th.lies,fj F9 rfl]
     have:cj ks ks=true:=kF fun i a b ha hb=>by
      rw [ha] at hb;cases hb;have:=aN (Uh ha);exact mW n a (by omega) (cu h (Uh ha))
     show ((Th.knot m ks).isHole || (true && cj ks (Th.knot m ks).kids))=true;rw [show (Th.knot m ks).kids=ks from rfl,this,Bool.or_comm];rfl
def mkF (ins:List (US×Int)) (rows:List (List Th)) (l:Int):Th:=(rowOf rows l).getD (cC ins) hole
def frF (mk:Int->Th) (m:Th) (row:List Th):Th:=row.foldl (fun f p=>f.com (p.fill fun l _=>mk l)) m
theorem j4 (mk:Int->Th) (m:Th) (row:List Th) (p:Th):frF mk m (row++[p])=(frF mk m row).com (p.fill fun l _=>mk l):=by
 unfold frF;rw [ZN];rfl
theorem io {mk:Int->Th} {m:Th} (h:m.noCall):∀ row:List Th,(frF mk m row).noCall:=fun row=>by
 cases hr:row.reverse with
 | nil =>
   have:row=[]:=by simpa using hr
   subst this;exact h
 | cons p ps =>
   have:row=ps.reverse++[p]:=by
    have:=congrArg List.reverse hr;simpa using this
   rw [this,j4];exact ld _ _
theorem lc (mk:Int->Th) (m:Th) (row:List Th):(frF mk m row).size<=m.size/\(frF mk m row).tall<=m.tall:=by
 unfold frF;induction row generalizing m with
 | nil=>exact ⟨Uj _,Uj _⟩
 | cons p row ih =>
   rw [List.foldl_cons];have h1:=ih (m.com (p.fill fun l _=>mk l));have h2:=kX m (p.fill fun l _=>mk l);omega
theorem uk (mk:Int->Th) (m:Th) (row:List Th):∀ x∈(frF mk m row).pl [],∃ u,(x.1,u)∈m.pl []:=by
 unfold frF;induction row generalizing m with
 | nil=>exact fun x hx=>⟨x.2,hx⟩
 | cons p row ih =>
   rw [List.foldl_cons];intro x hx;obtain ⟨u,hu⟩:=ih _ x hx;exact qc _ m _ [] (Uj _) (x.1,u) hu
theorem oV {mk:Int->Th} (f:Th):∀ (row:List Th) (m:Th),f.lies (frF mk m row)=true->f.lies m=true/\∀ p∈row,f.lies (p.fill fun l _=>mk l)=true
 | [],m,h=>⟨h,fun p hp=>by cases hp⟩
 | p::row,m,h=>by
   have h':f.lies (frF mk (m.com (p.fill fun l _=>mk l)) row)=true:=h;obtain ⟨h1,h2⟩:=oV f row _ h';rw [oI,Wn] at h1;refine ⟨h1.1,fun x hx=>?_⟩;rcases UK.mp hx with rfl | hx
   · exact h1.2
   · exact h2 x hx
def nk (s:Int) (pl:List Int):aA:=(pl.map U4,U4 s)
theorem pR {s s':Int} {p p':List Int} (h:nk s p=nk s' p'):s=s'/\p=p':=by
 unfold nk at h;injection h with h1 h2;refine ⟨Xn h2,?_⟩;exact (YG (fun _ _ e=>Xn e)).mp h1
theorem lA {H:Hp} {s:Int} {pl:List Int} {b c:Ui} (h1:H b=some (.tup [.int s,.ref c])) (h2:H c=some (.tup (pl.map V.int))):MKAt H (nk s pl) b:=by
 refine ⟨c,h1,?_⟩;rw [h2];unfold nk;rw [Wi];rfl
def But (p:Ui) (H H':Hp):Prop:=∀ c o,c≠p->H c=some o->H' c=some o
theorem But.refl (p:Ui) (H:Hp):But p H H:=fun _ _ _ e=>e
theorem But.trans {p:Ui} {H H' Hw:Hp} (a:But p H H') (b:But p H' Hw):But p H Hw:=fun c o hc e=>b c o hc (a c o hc e)
theorem Same.but {p:Ui} {H H':Hp} (a:L2.Same H H'):But p H H':=fun c o _ e=>a c o e
theorem But.kt {p:Ui} {H H':Hp} {φ:VH->Prop} (a:But p H H') (e:H p=some (.ext φ)):KT H H':=fun c ys ec=>a c _ (fun z=>by rw [z,e] at ec;cases ec) ec
abbrev VlT:=Nat->aA->Th->Th->Prop
def PtV (H:Hp) (R:Th->Th->Prop) (v:V):Prop:=∃ (pr ta tb:Ui) (t1 t2:Th),v=.ref pr/\H pr=some (.tup [.ref ta,.ref tb])/\At H t1 ta/\At H t2 tb/\R t1 t2
theorem PtV.mono {H H':Hp} (k:KT H H') {R:Th->Th->Prop} {v:V} (h:PtV H R v):PtV H' R v:=by
 obtain ⟨pr,ta,tb,t1,t2,e,h1,h2,h3,h4⟩:=h;exact ⟨pr,ta,tb,t1,t2,e,k _ _ h1,h2.mono k,h3.mono k,h4⟩
structure Pt (P:Uz) (w:UN) (Vl:VlT) (H:Hp) (pt:Ui) (f':List (aA×V)) (Al:List aA):Prop where
 dm:DM P w H pt f'
 nd:(f'.map (·.1)).Nodup
 al:∀ p∈f',p.1∈Al
 vl:∀ (j:Nat) (p:aA×V),f'[j]?=some p->PtV H (Vl j p.1) p.2
theorem cr {P:Uz} {w:UN} {H:Hp} {a:Ui} {f':List (aA×V)} (h:DM P w H a f'):∃ φ,H a=some (.ext φ):=by
 obtain ⟨_,_,xs,φ,e,_⟩:=h;exact ⟨φ,e⟩
theorem Pt.same {P:Uz} {w:UN} {Vl:VlT} {H H':Hp} {pt:Ui} {f':List (aA×V)} {Al:List aA} (h:Pt P w Vl H pt f' Al) (s:L2.Same H H'):Pt P w Vl H' pt f' Al:=⟨h.dm.mono s,h.nd,h.al,fun j p hp=>(h.vl j p hp).mono (Same.kt s)⟩
theorem Pt.len {P:Uz} {w:UN} {Vl:VlT} {H:Hp} {pt:Ui} {f':List (aA×V)} {Al:List aA} (h:Pt P w Vl H pt f' Al):f'.length<=Al.length:=by
 have:=mj (m:=Al) h.nd fun k hk=>by
  obtain ⟨p,hp,rfl⟩:=U5.mp hk;exact h.al p hp
 rwa [Uc] at this
theorem cY {f':List (aA×V)} {k:aA} (h:aV f' k=none):k∉f'.map (·.1):=by
 intro hk;obtain ⟨p,hp,rfl⟩:=U5.mp hk;have:=dC p.1 f';rw [h] at this;have h2:(f'.any fun kv=>decide (kv.1=p.1))=true:=List.any_eq_true.mpr ⟨p,hp,decide_eq_true rfl⟩;rw [h2] at this;cases this
theorem eZ {f':List (aA×V)} {k:aA} {v:V} (h:aV f' k=some v):(k,v)∈f':=by
 induction f' with
 | nil=>cases h
 | cons p f' ih =>
   by_cases e:p.1=k
   · rw [bS e] at h;cases h;rw [<- e];exact UH ..
   · rw [bU e] at h;exact UJ _ (ih h)
theorem Pt.put {P:Uz} {w:UN} {Vl:VlT} {H H':Hp} {pt:Ui} {f':List (aA×V)} {Al:List aA} (h:Pt P w Vl H pt f' Al) {k:aA} {v:V} (hn:aV f' k=none) (hb:But pt H H') (hd:DM P w H' pt (putK f' k v)) (hv:PtV H (Vl f'.length k) v) (hk:k∈Al):Pt P w Vl H' pt (putK f' k v) Al/\(putK f' k v).map (·.1)=f'.map (·.1)++[k]:=by
 obtain ⟨φ,e⟩:=cr h.dm;have kt:=hb.kt e;rw [ku v hn] at hd ⊢;refine ⟨⟨hd,?_,fun p hp=>?_,fun j p hp=>?_⟩,by rw [Ux];rfl⟩
 · rw [Ux];refine YK.mpr ⟨h.nd,by simp,fun a ha b zM=>?_⟩;simp at zM;subst zM;exact fun z=>cY hn (z ▸ ha)
 · rcases Ve.mp hp with hp | hp
   · exact h.al p hp
   · rw [UP.mp hp];exact hk
 · by_cases hj:j<f'.length
   · rw [Wu hj] at hp;exact (h.vl j p hp).mono kt
   · rw [WW (by omega)] at hp
     have QL:j - f'.length=0:=by
      have:=(Uk.mp hp).1;have h1:[(k,v)].length=1:=rfl;omega
     rw [QL] at hp;have Bg:j=f'.length:=by omega
     cases hp;rw [Bg];exact hv.mono kt
mutual
theorem rc {u:Th}:∀ (t:Th) (pre:List Int),u∈t.walk->∃ pl,(pl,u)∈t.pl pre
 | .call a b,pre,h=>by
   rw [Th.walk] at h;rw [UP.mp h];exact ⟨pre,gH _ _⟩
 | .knot n ks,pre,h=>by
   rw [Th.walk] at h;rcases UK.mp h with rfl | h
   · exact ⟨pre,gH _ _⟩
   · obtain ⟨pl,hp⟩:=pF ks pre 0 h;exact ⟨pl,by rw [Th.pl];exact UJ _ hp⟩
theorem pF {u:Th}:∀ (ts:List Th) (pre:List Int) (i:Int),u∈walks ts->∃ pl,(pl,u)∈pls pre i ts
 | [],pre,i,h=>by rw [walks] at h;cases h
 | t::ts,pre,i,h=>by
   rw [walks] at h;rw [pls];rcases Ve.mp h with h | h
   · obtain ⟨pl,hp⟩:=rc t (pre++[i]) h;exact ⟨pl,Vi _ hp⟩
   · obtain ⟨pl,hp⟩:=pF ts pre (i+1) h;exact ⟨pl,Vc _ hp⟩
end
theorem sG {ks:List (US×Int)} {S C:Int} {t:Th} (h:t.FitS ks S C) {s k:Int} (hm:Th.call s k∈t.walk):0<=s/\s<S/\0<=k/\k<C:=by
 obtain ⟨pl,hp⟩:=rc t [] hm;exact gG t [] h (pl,s,k) (fS.mpr hp)
theorem d4 {ks:List (US×Int)} {S:Int}:∀ (n:Nat) (t:Th),t.size<=n->t.FitS ks S 0->t.noCall
 | 0,t,hn,_=>by have:=t.size_pos;omega
 | n+1,.call a b,_,h=>by rw [Th.FitS] at h;omega
 | n+1,.knot m us,hn,h=>by
   rw [Th.FitS] at h;rw [Th.size] at hn;rw [Th.noCall]
   have:∀ (l:List Th),(∀ t∈l,t.noCall)->cE l:=fun l=>by
    induction l with
    | nil=>intro _;rw [cE];trivial
    | cons x l ih=>intro hl;rw [cE];exact ⟨hl x (UH ..),ih fun t ht=>hl t (UJ _ ht)⟩
   refine this us fun t ht=>?_;have hz:=aN ht;exact d4 n t (by omega) (FitSs.mem' h.2 t ht)
mutual
theorem qu:∀ (t:Th) (a b:List Int),t.pl (a++b)=(t.pl b).map fun x=>(a++x.1,x.2)
 | .call s k,a,b=>by rw [Th.pl,Th.pl];rfl
 | .knot n ks,a,b=>by rw [Th.pl,Th.pl,U8,rC ks a b 0]
theorem rC:∀ (ts:List Th) (a b:List Int) (i:Int),pls (a++b) i ts=(pls b i ts).map fun x=>(a++x.1,x.2)
 | [],a,b,i=>by rw [pls,pls];rfl
 | t::ts,a,b,i=>by rw [pls,pls,Ux,Vo,qu t a (b++[i]),rC ts a b (i+1)]
end
theorem ft {t:Th} {a:List Int} {x:List Int×Th}:x∈t.pl a↔∃ r,x.1=a++r/\(r,x.2)∈t.pl []:=by
 have:=qu t a [];rw [U6] at this;rw [this,U5];constructor
 · rintro ⟨y,hy,rfl⟩;exact ⟨y.1,rfl,hy⟩
 · rintro ⟨r,h1,h2⟩;exact ⟨(r,x.2),h2,by rw [<- h1]⟩
theorem qF:∀ (n:Nat) {t u v:Th} {a r:List Int},t.size<=n->(a,u)∈t.pl []->(r,v)∈u.pl []->(a++r,v)∈t.pl []
 | 0,t,_,_,_,_,hn=>by have:=t.size_pos;omega
 | n+1,.call s k,u,v,a,r,hn=>fun h1 h2=>by
   rw [Th.pl] at h1;cases UP.mp h1;exact h2
 | n+1,.knot m ks,u,v,a,r,hn=>fun h1 h2=>by
   rw [Th.pl] at h1;rcases UK.mp h1 with h1 | h1
   · cases h1;exact h2
   · obtain ⟨j,t,ht,hx⟩:=cZ.mp h1;obtain ⟨r',e,BQ⟩:=ft.mp hx;dsimp only at e BQ;rw [VZ,Wh] at e;rw [Th.size] at hn;have hz:=aN (Uh ht);have:=qF n (by omega) BQ h2;refine pW ht (ft.mpr ⟨r'++r,?_,this⟩);show a++r=[]++[(j:Int)]++(r'++r);rw [e,Wh,Vo]
end BB
namespace BB
open PySem L2
theorem nI:∀ (n:Nat) {t u v:Th} {a:List Int},t.size<=n->(a,u)∈t.pl []->(a,v)∈t.pl []->u=v
 | 0,t,_,_,_,hn=>by have:=t.size_pos;omega
 | n+1,.call s k,u,v,a,hn=>fun h1 h2=>by
   rw [Th.pl] at h1 h2;cases UP.mp h1;cases UP.mp h2;rfl
 | n+1,.knot m ks,u,v,a,hn=>fun h1 h2=>by
   rw [Th.pl] at h1 h2;rcases UK.mp h1 with h1 | h1
   · cases h1;rcases UK.mp h2 with h2 | h2
     · cases h2;rfl
     · obtain ⟨j,t,ht,hx⟩:=cZ.mp h2;obtain ⟨r',e,_⟩:=ft.mp hx;cases e
   · obtain ⟨j,t,ht,hx⟩:=cZ.mp h1;obtain ⟨r',e,BQ⟩:=ft.mp hx;rcases UK.mp h2 with h2 | h2
     · cases h2;cases e
     · obtain ⟨j2,t2,E7,AL⟩:=cZ.mp h2;obtain ⟨r2,e2,E8⟩:=ft.mp AL;dsimp only at e e2 BQ E8;rw [e] at e2;have e3:(0+(j:Int))::r'=(0+(j2:Int))::r2:=e2;injection e3 with e4 e5;have:j=j2:=by omega
       subst this;rw [ht] at E7;cases E7;subst e5;rw [Th.size] at hn;have hz:=aN (Uh ht);exact nI n (by omega) BQ E8
abbrev LkT:=aA->Int->List Int->US×Int->Int->Prop
def LE (H:Hp) (ins:List (US×Int)) (Al:List aA) (Lk:LkT) (k0:aA) (a:Ui):Prop:=∃ (s kid:Int) (pl:List Int) (pa ka:Ui) (kd:US×Int),H a=some (.tup [.int s,.ref pa,.ref ka,.int kid])/\H pa=some (.tup (pl.map V.int))/\KAt H kd ka/\kd∈ins/\nk s pl∈Al/\Lk k0 s pl kd kid
theorem LE.mono {H H':Hp} (k:KT H H') {ins:List (US×Int)} {Al:List aA} {Lk:LkT} {k0:aA} {a:Ui} (h:LE H ins Al Lk k0 a):LE H' ins Al Lk k0 a:=by
 obtain ⟨s,kid,pl,pa,ka,kd,h1,h2,h3,h4,h5⟩:=h;exact ⟨s,kid,pl,pa,ka,kd,k _ _ h1,k _ _ h2,k _ _ h3,h4,h5⟩
abbrev LG:=List (aA×Ui×List Ui)
def lkv (G:LG):List (aA×V):=G.map fun g=>(g.1,V.ref g.2.1)
structure LkI (P:Uz) (w:UN) (ins:List (US×Int)) (Al:List aA) (Lk:LkT) (H0 H:Hp) (la:Ui) (G:LG) (N:Nat):Prop where
 sm:L2.Same H0 H
 la0:H0 la=none
 dm:DM P w H la (lkv G)
 kn:(G.map (·.1)).Nodup
 an:(G.map (·.2.1)).Nodup
 ls:∀ g∈G,H0 g.2.1=none/\H g.2.1=some (.lst (g.2.2.map V.ref))/\g.2.2.length<=N/\∀ a∈g.2.2,LE H ins Al Lk g.1 a
 le:G.length<=N
def gR (H:Hp) (G:LG) (k:aA) (s:Int) (pl:List Int):Prop:=∃ g∈G,g.1=k/\∃ a∈g.2.2,∃ (pa ka:Ui) (kid:Int),H a=some (.tup [.int s,.ref pa,.ref ka,.int kid])/\H pa=some (.tup (pl.map V.int))
def LSub (H H':Hp) (G G':LG):Prop:=∀ k s pl,gR H G k s pl->gR H' G' k s pl
theorem LSub.refl (H:Hp) (G:LG):LSub H H G G:=fun _ _ _ h=>h
theorem LSub.trans {H H' Hw:Hp} {G G' Oj:LG} (a:LSub H H' G G') (b:LSub H' Hw G' Oj):LSub H Hw G Oj:=fun k s pl h=>b k s pl (a k s pl h)
theorem LSub.kt {H H':Hp} (k:KT H H') (G:LG):LSub H H' G G:=fun _ _ _ ⟨g,hg,e,a,ha,pa,ka,kid,h1,h2⟩=>⟨g,hg,e,a,ha,pa,ka,kid,k _ _ h1,k _ _ h2⟩
theorem rF {P:Uz} {w:UN} {H H':Hp} {a:Ui} {f':List (aA×V)} (h:DM P w H a f') (k:KT H H') (e:∀ o,H a=some o->H' a=some o):DM P w H' a f':=by
 obtain ⟨z,hd,xs,φ,e1,f,r⟩:=h;exact ⟨z,hd,xs,φ,e _ e1,f,KTm.mono k r⟩
section
variable {P:Uz} {w:UN} {ins:List (US×Int)} {Al:List aA} {Lk:LkT} {H0 H:Hp} {la:Ui} {G:LG} {N:Nat}
theorem LkI.ne (h:LkI P w ins Al Lk H0 H la G N) {g:aA×Ui×List Ui} (hg:g∈G):g.2.1≠la:=fun z=>by
 obtain ⟨φ,e⟩:=cr h.dm;have:=(h.ls g hg).2.1;rw [z,e] at this;cases this
theorem LkI.same {H':Hp} (h:LkI P w ins Al Lk H0 H la G N) (s:L2.Same H H'):LkI P w ins Al Lk H0 H' la G N:=by
 refine ⟨h.sm.trans s,h.la0,h.dm.mono s,h.kn,h.an,fun g hg=>?_,h.le⟩;obtain ⟨a,b,c,d⟩:=h.ls g hg;exact ⟨a,s _ _ b,c,fun x hx=>(d x hx).mono (Same.kt s)⟩
theorem LkI.up (h:LkI P w ins Al Lk H0 H la G N) {M:Nat} (hm:N<=M):LkI P w ins Al Lk H0 H la G M:=by
 refine ⟨h.sm,h.la0,h.dm,h.kn,h.an,fun g hg=>?_,V4 h.le hm⟩;obtain ⟨a,b,c,d⟩:=h.ls g hg;exact ⟨a,b,V4 c hm,d⟩
theorem LkI.new {H':Hp} (h:LkI P w ins Al Lk H0 H la G N) {k:aA} {l:Ui} (hn:aV (lkv G) k=none) (hb:But la H H') (hd:DM P w H' la (putK (lkv G) k (.ref l))) (B9:H0 l=none) (hl:H l=some (.lst [])) (hf:∀ g∈G,g.2.1≠l):LkI P w ins Al Lk H0 H' la (G++[(k,l,[])]) (N+1)/\LSub H H' G (G++[(k,l,[])]):=by
 obtain ⟨φ,e⟩:=cr h.dm;have kt:=hb.kt e;have Ln:l≠la:=fun z=>by rw [z,e] at hl;cases hl
 refine ⟨⟨fun c o ec=>hb c o (fun z=>by rw [z,h.la0] at ec;cases ec) (h.sm _ _ ec),h.la0,?_,?_,?_,fun g hg=>?_,by rw [UE];have:=h.le;show G.length+1<=N+1;omega⟩,fun k' s pl h'=>?_⟩
 · rw [ku _ hn] at hd;unfold lkv at hd ⊢;rw [Ux];exact hd
 · rw [Ux];refine YK.mpr ⟨h.kn,by simp,fun a ha b zM=>?_⟩;simp at zM;subst zM;intro z;subst z;refine cY hn ?_;unfold lkv;rw [Wi];exact ha
 · rw [Ux];refine YK.mpr ⟨h.an,by simp,fun a ha b zM=>?_⟩;simp at zM;subst zM;obtain ⟨g,hg,rfl⟩:=U5.mp ha;exact hf g hg
 · rcases Ve.mp hg with hg | hg
   · obtain ⟨a,b,c,d⟩:=h.ls g hg;exact ⟨a,hb _ _ (h.ne hg) b,by omega,fun x hx=>(d x hx).mono kt⟩
   · rw [UP.mp hg];exact ⟨B9,hb _ _ Ln hl,UO _,fun x hx=>by cases hx⟩
 · obtain ⟨g,hg,r⟩:=LSub.kt kt G k' s pl h';exact ⟨g,Vi _ hg,r⟩
def fq (l en:Ui) (g:aA×Ui×List Ui):aA×Ui×List Ui:=if g.2.1=l then (g.1,g.2.1,g.2.2++[en]) else g
theorem dO (l en:Ui) (g:aA×Ui×List Ui):(fq l en g).1=g.1/\(fq l en g).2.1=g.2.1:=by
 unfold fq;split <;> exact ⟨rfl,rfl⟩
theorem LkI.app (h:LkI P w ins Al Lk H0 H la G N) {g:aA×Ui×List Ui} (hg:g∈G) {en:Ui} (he:LE H ins Al Lk g.1 en):LkI P w ins Al Lk H0 (upd H g.2.1 (.lst (g.2.2.map V.ref++[.ref en]))) la (G.map (fq g.2.1 en)) (N+1)/\KT H (upd H g.2.1 (.lst (g.2.2.map V.ref++[.ref en])))/\LSub H (upd H g.2.1 (.lst (g.2.2.map V.ref++[.ref en]))) G (G.map (fq g.2.1 en))/\(∀ (s:Int) (pl:List Int) (pa ka:Ui) (kid:Int),H en=some (.tup [.int s,.ref pa,.ref ka,.int kid])->H pa=some (.tup (pl.map V.int))->gR (upd H g.2.1 (.lst (g.2.2.map V.ref++[.ref en]))) (G.map (fq g.2.1 en)) g.1 s pl):=by
 obtain ⟨gl,ge,gn,QM⟩:=h.ls g hg;have kt:KT H (upd H g.2.1 (.lst (g.2.2.map V.ref++[.ref en]))):=aS ge;have BA:=h.ne hg;have k1:(G.map (fq g.2.1 en)).map (·.1)=G.map (·.1):=by rw [Wi];exact Yy fun x _=>(dO _ _ x).1
 have k2:(G.map (fq g.2.1 en)).map (·.2.1)=G.map (·.2.1):=by rw [Wi];exact Yy fun x _=>(dO _ _ x).2
 have k3:lkv (G.map (fq g.2.1 en))=lkv G:=by
  unfold lkv;rw [Wi];refine Yy fun x _=>?_;show ((fq g.2.1 en x).1,V.ref (fq g.2.1 en x).2.1)=_;rw [(dO _ _ x).1,(dO _ _ x).2]
 refine ⟨⟨aw h.sm gl,h.la0,?_,by rw [k1];exact h.kn,by rw [k2];exact h.an,fun x hx=>?_,by rw [Uc];have:=h.le;omega⟩,kt,fun k s pl hh=>?_,fun s pl pa ka kid h1 h2=>?_⟩
 · rw [k3];exact rF h.dm kt fun o eo=>by rw [ak BA.symm];exact eo
 · obtain ⟨y,hy,rfl⟩:=U5.mp hx;obtain ⟨a,b,c,d⟩:=h.ls y hy;by_cases hc:y.2.1=g.2.1
   · have QN:y=g:=by
      obtain ⟨i,hi⟩:=UG.mp hy;obtain ⟨j,hj⟩:=UG.mp hg
      have El:i=j:=by
       have h1:(G.map (·.2.1))[i]?=some y.2.1:=by rw [Uo,hi];rfl
       have h2:(G.map (·.2.1))[j]?=some y.2.1:=by rw [Uo,hj,hc];rfl
       exact (ZM (by have:=(Uk.mp h1).1;exact this) h.an).mp (h1.trans h2.symm)
      subst El;rw [hi] at hj;exact UR hj
     subst QN;unfold fq;rw [if_pos rfl];refine ⟨a,?_,?_,fun x hx=>?_⟩
     · show (upd H y.2.1 _) y.2.1=_;rw [ab];show some (HO.lst (y.2.2.map V.ref++[.ref en]))=some (.lst ((y.2.2++[en]).map V.ref));rw [Ux];rfl
     · show (y.2.2++[en]).length<=N+1;rw [UE];show y.2.2.length+1<=N+1;omega
     · rcases Ve.mp hx with hx | hx
       · exact (d x hx).mono kt
       · rw [UP.mp hx];exact he.mono kt
   · unfold fq;rw [if_neg hc];exact ⟨a,by rw [ak hc];exact b,by omega,fun x hx=>(d x hx).mono kt⟩
 · obtain ⟨x,hx,e,a,ha,pa,ka,kid,h1,h2⟩:=hh;refine ⟨fq g.2.1 en x,U5.mpr ⟨x,hx,rfl⟩,by rw [(dO _ _ x).1];exact e,a,?_,pa,ka,kid,kt _ _ h1,kt _ _ h2⟩;unfold fq;split
   · exact Vi _ ha
   · exact ha
 · refine ⟨fq g.2.1 en g,U5.mpr ⟨g,hg,rfl⟩,(dO _ _ g).1,en,?_,pa,ka,kid,kt _ _ h1,kt _ _ h2⟩;unfold fq;rw [if_pos rfl];exact Vc _ (UH ..)
end
theorem sV {K:Ug} {H:Hp}:∀ {ps:List (List Int×Th)} {as:List Ui},PsAtK K H ps as->∃ prs:List (List Key×V),UX (PrA H) prs as/\(∀ p∈prs,∃ x∈ps,p.1=x.1.map U4/\∃ a,p.2=.ref a/\AtK K H x.2 a)/\∀ x∈ps,∃ p∈prs,p.1=x.1.map U4
 | _,_,.nil=>⟨[],.nil,(fun p hp=>by cases hp),(fun p hp=>by cases hp)⟩
 | _,_,.cons (a:=x) r h=>by
   obtain ⟨pa,ta,h1,h2,h3⟩:=r;obtain ⟨prs,g1,g2,g3⟩:=sV h;refine ⟨(x.1.map U4,.ref ta)::prs,.cons ⟨pa,h1,by rw [h2,Wi];rfl⟩ g1,fun p hp=>?_,fun y hy=>?_⟩
   · rcases UK.mp hp with rfl | hp
     · exact ⟨x,UH ..,rfl,ta,rfl,h3⟩
     · obtain ⟨y,hy,r⟩:=g2 p hp;exact ⟨y,UJ _ hy,r⟩
   · rcases UK.mp hy with rfl | hy
     · exact ⟨_,UH ..,rfl⟩
     · obtain ⟨p,hp,e⟩:=g3 y hy;exact ⟨p,UJ _ hp,e⟩
structure LQ (P:Uz) (w:UN) (ins:List (US×Int)) (Al:List aA) (Lk:LkT) (H0:Hp) (la:Ui) (Hb:Hp) (Gb:LG) (Hc:Hp) (Gc:LG) (n:Nat):Prop where
 lk:LkI P w ins Al Lk H0 Hc la Gc n
 sub:LSub Hb Hc Gb Gc
 fr:∀ c o,Hb c=some o->c≠la->(∀ g∈Gb,g.2.1≠c)->Hc c=some o
 dom:∀ c o,Hb c=some o->∃ o',Hc c=some o'
 ext:∀ g∈Gc,(∃ g0∈Gb,g0.2.1=g.2.1)∨Hb g.2.1=none
section
variable {P:Uz} {w:UN} {ins:List (US×Int)} {Al:List aA} {Lk:LkT} {H0 Hb Hc Hd:Hp} {la:Ui} {Gb Gc Gd:LG} {n m:Nat}
theorem LQ.refl (h:LkI P w ins Al Lk H0 Hb la Gb n):LQ P w ins Al Lk H0 la Hb Gb Hb Gb n:=⟨h,LSub.refl _ _,fun _ _ e _ _=>e,fun c o e=>⟨o,e⟩,fun g hg=>.inl ⟨g,hg,rfl⟩⟩
theorem LQ.same (h:LQ P w ins Al Lk H0 la Hb Gb Hc Gc n) (s:L2.Same Hc Hd):LQ P w ins Al Lk H0 la Hb Gb Hd Gc n :=
 ⟨h.lk.same s,h.sub.trans (LSub.kt (Same.kt s) _),fun c o e h1 h2=>s _ _ (h.fr c o e h1 h2),fun c o e=>by obtain ⟨o',e'⟩:=h.dom c o e;exact ⟨o',s _ _ e'⟩,h.ext⟩
theorem LQ.up (h:LQ P w ins Al Lk H0 la Hb Gb Hc Gc n) (hm:n<=m):LQ P w ins Al Lk H0 la Hb Gb Hc Gc m:=⟨h.lk.up hm,h.sub,h.fr,h.dom,h.ext⟩
theorem LQ.trans (a:LQ P w ins Al Lk H0 la Hb Gb Hc Gc n) (b:LQ P w ins Al Lk H0 la Hc Gc Hd Gd m):LQ P w ins Al Lk H0 la Hb Gb Hd Gd m:=by
 refine ⟨b.lk,a.sub.trans b.sub,fun c o e h1 h2=>b.fr c o (a.fr c o e h1 h2) h1 fun g hg=>?_,fun c o e=>?_,fun g hg=>?_⟩
 · rcases a.ext g hg with ⟨g0,h3,h4⟩ | h3
   · rw [<- h4];exact h2 g0 h3
   · intro z;rw [z,e] at h3;cases h3
 · obtain ⟨o',e'⟩:=a.dom c o e;exact b.dom c o' e'
 · rcases b.ext g hg with ⟨g0,h3,h4⟩ | h3
   · rw [<- h4];exact a.ext g0 h3
   · refine .inr ?_;cases hh:Hb g.2.1 with
     | none=>rfl
     | some o =>
       obtain ⟨o',e'⟩:=a.dom _ o hh;rw [h3] at e';cases e'
theorem LQ.kt (h:LQ P w ins Al Lk H0 la Hb Gb Hc Gc n) (L:LkI P w ins Al Lk H0 Hb la Gb m):KT Hb Hc:=fun c ys e=>by
 obtain ⟨φ,el⟩:=cr L.dm;refine h.fr c _ e (fun z=>by rw [z,el] at e;cases e) fun g hg z=>?_;have:=(L.ls g hg).2.1;rw [z,e] at this;cases this
theorem LQ.newG (a:LQ P w ins Al Lk H0 la Hb Gb Hc Gc n) {k:aA} {l:Ui} {He:Hp} (hl:Hc l=none) (hn:aV (lkv Gc) k=none) (hb:But la (upd Hc l (.lst [])) He) (hd:DM P w He la (putK (lkv Gc) k (.ref l))):LQ P w ins Al Lk H0 la Hb Gb He (Gc++[(k,l,[])]) (n+1):=by
 have s1:L2.Same Hc (upd Hc l (.lst [])):=ad hl _;have L1:=a.lk.same s1
 obtain ⟨h1,h2⟩:=L1.new hn hb hd (a.lk.sm.free hl) ab fun g hg z=>by
  have:=(a.lk.ls g hg).2.1;rw [z,hl] at this;cases this
 refine a.trans ⟨h1,(LSub.kt (Same.kt s1) _).trans h2,fun c o e hc _=>hb c o hc (s1 _ _ e),fun c o e=>?_,fun g hg=>?_⟩
 · by_cases hc:c=la
   · obtain ⟨φ,e'⟩:=cr hd;exact ⟨_,by rw [hc];exact e'⟩
   · exact ⟨o,hb c o hc (s1 _ _ e)⟩
 · rcases Ve.mp hg with hg | hg
   · exact .inl ⟨g,hg,rfl⟩
   · rw [UP.mp hg];exact .inr hl
theorem LQ.appG (a:LQ P w ins Al Lk H0 la Hb Gb Hc Gc n) {g:aA×Ui×List Ui} (hg:g∈Gc) {en:Ui} (he:LE Hc ins Al Lk g.1 en):LQ P w ins Al Lk H0 la Hb Gb (upd Hc g.2.1 (.lst (g.2.2.map V.ref++[.ref en]))) (Gc.map (fq g.2.1 en)) (n+1)/\∀ (s:Int) (pl:List Int) (pa ka:Ui) (kid:Int),Hc en=some (.tup [.int s,.ref pa,.ref ka,.int kid])->Hc pa=some (.tup (pl.map V.int))->gR (upd Hc g.2.1 (.lst (g.2.2.map V.ref++[.ref en]))) (Gc.map (fq g.2.1 en)) g.1 s pl:=by
 obtain ⟨h1,h2,h3,h4⟩:=a.lk.app hg he;refine ⟨⟨h1,a.sub.trans h3,fun c o e hc hf=>?_,fun c o e=>?_,fun x hx=>?_⟩,h4⟩
 · rw [ak]
   · exact a.fr c o e hc hf
   · intro z;rcases a.ext g hg with ⟨g0,h5,h6⟩ | h5
     · exact hf g0 h5 (h6.trans z.symm)
     · rw [<- z,e] at h5;cases h5
 · by_cases hc:c=g.2.1
   · exact ⟨_,by rw [hc];exact ab⟩
   · rw [ak hc];exact a.dom c o e
 · obtain ⟨y,hy,rfl⟩:=U5.mp hx;rw [(dO _ _ y).2];exact a.ext y hy
theorem rg {G:LG} {k:aA} {u:V} (h:aV (lkv G) k=some u):∃ g∈G,g.1=k/\u=.ref g.2.1:=by
 have:=eZ h;unfold lkv at this;obtain ⟨g,hg,e⟩:=U5.mp this;cases e;exact ⟨g,hg,rfl,rfl⟩
end
theorem vL:∀ (n:Nat) (t:Th) (pre:List Int),t.size<=n->∀ x∈t.pl pre,x.2.size<=t.size/\x.2.tall<=t.tall
 | 0,t,_,hn=>by have:=t.size_pos;omega
 | n+1,.call a b,pre,hn=>fun x hx=>by
   rw [Th.pl] at hx;rw [UP.mp hx];exact ⟨Uj _,Uj _⟩
 | n+1,.knot m ks,pre,hn=>fun x hx=>by
   rw [Th.pl] at hx;rcases UK.mp hx with rfl | hx
   · exact ⟨Uj _,Uj _⟩
   · obtain ⟨j,t,ht,hx⟩:=cZ.mp hx;rw [Th.size] at hn;have hz:=aN (Uh ht);have E7:=bT (Uh ht);obtain ⟨h1,h2⟩:=vL n t _ (by omega) x hx;rw [Th.size,Th.tall];omega
theorem ff {n:Nat} (h:n<=16000000):n<UD:=by
 have:UD=16777216:=Yj;omega
theorem oR:∀ (n:Nat) (t:Th) (pre:List Int),t.size<=n->∀ x∈t.pl pre,x.1.length<=pre.length+t.tall
 | 0,t,_,hn=>by have:=t.size_pos;omega
 | n+1,.call a b,pre,hn=>fun x hx=>by
   rw [Th.pl] at hx;rw [UP.mp hx];exact WQ _ _
 | n+1,.knot m ks,pre,hn=>fun x hx=>by
   rw [Th.pl] at hx;rcases UK.mp hx with rfl | hx
   · exact WQ _ _
   · obtain ⟨j,t,ht,hx⟩:=cZ.mp hx;rw [Th.size] at hn;have hz:=aN (Uh ht);have E7:=bT (Uh ht);have h1:=oR n t _ (by omega) x hx;rw [UE] at h1;rw [Th.tall];have h2:[(0:Int)+(j:Int)].length=1:=rfl;omega
structure LkR (P:Uz) (w:UN) (ins:List (US×Int)) (Al:List aA) (Lk:LkT) (H:Hp) (la:Ui) (G:LG):Prop where
 dm:DM P w H la (lkv G)
 ls:∀ g∈G,H g.2.1=some (.lst (g.2.2.map V.ref))/\∀ a∈g.2.2,LE H ins Al Lk g.1 a
 kn:(G.map (·.1)).Nodup
theorem LkI.r {P:Uz} {w:UN} {ins:List (US×Int)} {Al:List aA} {Lk:LkT} {H0 H:Hp} {la:Ui} {G:LG} {N:Nat} (h:LkI P w ins Al Lk H0 H la G N):LkR P w ins Al Lk H la G:=⟨h.dm,fun g hg=>⟨(h.ls g hg).2.1,(h.ls g hg).2.2.2⟩,h.kn⟩
theorem LkR.but {P:Uz} {w:UN} {ins:List (US×Int)} {Al:List aA} {Lk:LkT} {H H':Hp} {la pt:Ui} {G:LG} {φ:VH->Prop} (h:LkR P w ins Al Lk H la G) (hb:But pt H H') (e:H pt=some (.ext φ)) (hn:pt≠la):LkR P w ins Al Lk H' la G:=by
 have kt:=hb.kt e;refine ⟨rF h.dm kt fun o eo=>hb _ _ hn.symm eo,fun g hg=>?_,h.kn⟩;obtain ⟨h1,h2⟩:=h.ls g hg;exact ⟨hb _ _ (fun z=>by rw [z,e] at h1;cases h1) h1,fun a ha=>(h2 a ha).mono kt⟩
theorem LkR.at {P:Uz} {w:UN} {ins:List (US×Int)} {Al:List aA} {Lk:LkT} {H:Hp} {la:Ui} {G:LG} (h:LkR P w ins Al Lk H la G) {g:aA×Ui×List Ui} (hg:g∈G) {s:Int} {pl:List Int} (hh:gR H G g.1 s pl):∃ a∈g.2.2,∃ (pa ka:Ui) (kid:Int),H a=some (.tup [.int s,.ref pa,.ref ka,.int kid])/\H pa=some (.tup (pl.map V.int)):=by
 obtain ⟨g',KQ,e,r⟩:=hh
 have:g'=g:=by
  obtain ⟨i,hi⟩:=UG.mp KQ;obtain ⟨j,hj⟩:=UG.mp hg;have h1:(G.map (·.1))[i]?=some g.1:=by rw [Uo,hi,<- e];rfl
  have h2:(G.map (·.1))[j]?=some g.1:=by rw [Uo,hj];rfl
  have El:i=j:=(ZM (by have:=(Uk.mp h1).1;exact this) h.kn).mp (h1.trans h2.symm);subst El;rw [hi] at hj;exact UR hj
 subst this;exact r
theorem tO {G:LG} {k:aA} (h:aV (lkv G) k=none) {H:Hp} {s:Int} {pl:List Int}:¬ gR H G k s pl:=fun ⟨g,hg,e,_⟩=>by
 refine cY h ?_;unfold lkv;rw [Wi];exact U5.mpr ⟨g,hg,e⟩
theorem oW {a b:List Int} (h:a.map V.int=b.map V.int):a=b:=(YG (fun _ _ e=>V.int.inj e)).mp h
theorem LkR.back {P:Uz} {w:UN} {ins:List (US×Int)} {Al:List aA} {Lk:LkT} {H H':Hp} {la:Ui} {G:LG} (R:LkR P w ins Al Lk H la G) (kt:KT H H') {k:aA} {s:Int} {pl:List Int} (hh:gR H' G k s pl):gR H G k s pl:=by
 obtain ⟨g,hg,e,a,ha,pa,ka,kid,h1,h2⟩:=hh;obtain ⟨s',Ak,zN,De,CJ,Ol,g1,g2,_⟩:=(R.ls g hg).2 a ha;have e1:=kt _ _ g1;rw [h1] at e1;cases e1;have e2:=kt _ _ g2;rw [h2] at e2;have:pl=zN:=oW (by injection e2 with e3;injection e3);subst this;exact ⟨g,hg,e,a,ha,pa,ka,kid,g1,g2⟩
def Dk (f':List (aA×V)) (s:Int) (pl:List Int):Bool:=(aV f' (nk s pl)).isSome
theorem qd {f':List (aA×V)} {s:Int} {pl:List Int}:Dk f' s pl=true↔nk s pl∈f'.map (·.1):=by
 unfold Dk;constructor
 · intro h;obtain ⟨v,hv⟩:=XY.mp h;exact U5.mpr ⟨_,eZ hv,rfl⟩
 · intro h;cases hv:aV f' (nk s pl) with
   | none=>exact absurd h (cY hv)
   | some v=>rfl
def iz (D:List Int->Bool) (As:List (List Int×Th)):List Th:=As.flatMap fun x=>(x.2.cut D x.1).walk
theorem oh (D:List Int->Bool) (a b:List (List Int×Th)):iz D (a++b)=iz D a++iz D b:=by unfold iz;rw [List.flatMap_append]
theorem mf (D:List Int->Bool) (pre:List Int):∀ (i:Int) (ks:List Th),iz D (cQ pre i ks)=walks (dS D pre i ks)
 | i,[]=>by rw [cQ,dS,walks];rfl
 | i,k::ks=>by
   rw [cQ,dS,walks,<- mf D pre (i+1) ks];rfl
theorem oK (D:List Int->Bool):∀ (n:Nat) (t:Th) (pre:List Int),t.size<=n->(t.cut D pre).size<=t.size
 | 0,t,_,hn=>by have:=t.size_pos;omega
 | n+1,.call a b,pre,hn=>by rw [Th.cut,eQ,Th.size];exact Uj _
 | n+1,.knot m ks,pre,hn=>by
   rw [Th.cut];split
   · rw [eQ,Th.size];omega
   · rw [Th.size] at hn;rw [Th.size,Th.size]
     have:∀ (us:List Th) (i:Int),aq us<=n->aq (dS D pre i us)<=aq us:=fun us=>by
      induction us with
      | nil=>intro i _;rw [dS];exact Uj _
      | cons u us ih =>
        intro i h;rw [aq] at h;rw [dS,aq,aq];have h1:=ih (i+1) (by omega);have h2:=oK D n u (pre++[i]) (by omega);omega
     have:=this ks 0 (by omega);omega
end BB
namespace BB
open PySem L2
inductive In:Th->List Int->Th->Prop
 | here {t:Th}:In t [] t
 | kid {n:US} {ks:List Th} {j:Nat} {u v:Th} {r:List Int} (h:ks[j]?=some u) (i:In u r v):In (.knot n ks) ((j:Int)::r) v
theorem In.of:∀ (n:Nat) {t v:Th} {pl:List Int},t.size<=n->(pl,v)∈t.pl []->In t pl v
 | 0,t,_,_,hn,_=>by have:=t.size_pos;omega
 | n+1,.call s k,v,pl,hn,h=>by
   rw [Th.pl] at h;cases UP.mp h;exact .here
 | n+1,.knot m ks,v,pl,hn,h=>by
   rw [Th.pl] at h;rcases UK.mp h with h | h
   · cases h;exact .here
   · obtain ⟨j,t,ht,hx⟩:=cZ.mp h;obtain ⟨r,e,hr⟩:=ft.mp hx;dsimp only at e hr;rw [VZ,Wh] at e;rw [Th.size] at hn;have hz:=aN (Uh ht);have e2:pl=(j:Int)::r:=e;rw [e2];exact .kid ht (In.of n (by omega) hr)
theorem In.to {t v:Th} {pl:List Int} (h:In t pl v):(pl,v)∈t.pl []:=by
 induction h with
 | here=>exact gH _ _
 | kid h i ih =>
   refine pW h (ft.mpr ⟨_,?_,ih⟩);rfl
theorem In.iff {t v:Th} {pl:List Int}:(pl,v)∈t.pl []↔In t pl v:=⟨In.of _ (Uj _),In.to⟩
theorem gK {f:Int->Int->Th}:∀ {ts:List Th} {j:Nat},(fills f ts)[j]?=(ts[j]?).map (Th.fill f)
 | [],j=>by rw [fills];simp
 | t::ts,0=>by rw [fills];rfl
 | t::ts,j+1=>by rw [fills,Vf,Vf];exact gK
theorem eV {ks:List (US×Int)} {S C:Int} {n:US} {us:List Th} (h:(Th.knot n us).FitS ks S C) {j:Nat} {u:Th} (hu:us[j]?=some u):u.FitS ks S C:=by
 rw [Th.FitS] at h;exact FitSs.mem' h.2 u (Uh hu)
theorem l9 {ks:List (US×Int)} {S C C':Int} {f:Int->Int->Th} (hf:∀ l k,0<=l->l<S->(f l k).FitS ks S C'):∀ (n:Nat) (p:Th),p.size<=n->p.FitS ks S C->(p.fill f).FitS ks S C'
 | 0,p,hn,_=>by have:=p.size_pos;omega
 | n+1,.call l k,_,h=>by
   rw [Th.FitS] at h;rw [Th.fill];exact hf l k h.1 h.2.1
 | n+1,.knot m us,hn,h=>by
   rw [Th.fill,Th.FitS,gM];have h0:=h;rw [Th.FitS] at h0;rw [Th.size] at hn;refine ⟨h0.1,FitSs.of fun t ht=>?_⟩;obtain ⟨j,hj⟩:=UG.mp ht;rw [gK,UU] at hj;obtain ⟨u,hu,rfl⟩:=hj;have hz:=aN (Uh hu);exact l9 hf n u (by omega) (eV h hu)
theorem qY {outs:List (US×Int)} (go:bN outs) {S:Int}:∀ (n:Nat) (f g m h:Th) (pl:List Int),f.size<=n->In (f.com g) pl h->h.isHole=true->(∀ v,In f pl v->v.isHole=false)->f.lies m=true->f.noCall->m.FitS outs S 0->g.FitS outs S 0->∃ m1 m2 k1 k2,m1≠m2/\In m pl (.knot m1 k1)/\In g pl (.knot m2 k2)
 | 0,f,_,_,_,_,hn=>by have:=f.size_pos;omega
 | n+1,.call a b,_,_,_,_,_=>fun _ _ _ _ hc=>by rw [Th.noCall] at hc;exact hc.elim
 | n+1,.knot nm ks,g,m,h,pl,hn=>fun hi hh hv hl hc fm fg=>by
   rw [dI] at hi;by_cases hs:aC (.knot nm ks) g=true
   · rw [if_pos hs] at hi;obtain ⟨vs,rfl,hlen,BC⟩:=gr hs;obtain ⟨us,rfl,Om,CO⟩:=lies_of hl BC;have yX:In (.knot nm ((ks.zip vs).map fun p=>p.1.com p.2)) pl h:=hi;cases yX with
     | here =>
       have:=hv _ .here;exfalso;rw [Th.isHole,decide_eq_true_iff] at hh;rw [Th.isHole,decide_eq_false_iff_not] at BC;refine BC ⟨hh.1,?_⟩;have h2:=congrArg Xc hh.2;rw [Uc,WH,<- hlen,Yz] at h2;exact VB.mp h2
     | kid hj hr =>
       rename_i j u r
       rw [Uo,UU] at hj;obtain ⟨p,hp,rfl⟩:=hj;obtain ⟨h1,h2⟩:=VX.mp hp;obtain ⟨w,hw⟩:∃ w,us[j]?=some w:=⟨_,Ue (by have:=(Uk.mp h1).1;omega)⟩;rw [Th.size] at hn;have hz:=aN (Uh h1);rw [Th.noCall] at hc;obtain ⟨m1,m2,k1,k2,e,a1,a2⟩:=qY go n p.1 p.2 w h r (by omega) hr hh (fun v yK=>hv v (.kid h1 yK)) (mV CO j _ _ h1 hw) (cu hc (Uh h1)) (eV fm hw) (eV fg h2);exact ⟨m1,m2,k1,k2,e,.kid hw a1,.kid h2 a2⟩
   · rw [if_neg hs] at hi;rw [hole] at hi;cases hi with
     | here =>
       have BC:=hv _ .here;obtain ⟨us,rfl,Om,CO⟩:=lies_of hl BC;cases g with
       | call a b=>rw [Th.FitS] at fg;omega
       | knot gm vs =>
         refine ⟨nm,gm,us,vs,fun e=>hs ?_,.here,.here⟩;subst e;rw [Th.FitS] at fm fg;obtain ⟨i1,g1⟩:=UG.mp fm.1;obtain ⟨i2,g2⟩:=UG.mp fg.1;have:=go.nd i1 i2 _ _ g1 g2 rfl;subst this;rw [g1] at g2;injection g2 with g2;injection g2 with _ g2;exact fj BC (by omega)
     | kid hj _=>simp at hj
inductive NmAt (ins:List (US×Int)) (rows:List (List Th)):Nat->Th->Th->List Int->US->Prop
 | here {m:US} {ks:List Th} {t:Th}:NmAt ins rows 0 (.knot m ks) t [] m
 | step {n:Nat} {nm m:US} {ks:List Th} {j:Nat} {u t:Th} {r:List Int} (h:ks[j]?=some u) (i:NmAt ins rows n u t r m):NmAt ins rows (n+1) (.knot nm ks) t ((j:Int)::r) m
 | call {n:Nat} {s k:Int} {tm vm m:US} {us vs:List Th} {row:List Th} {i:Nat} {kd:US×Int} {p:Th} {r:List Int} (hk:0<=k) (hs:0<=s) (hu:us[k.toNat]?=some (.knot vm vs)) (hr:rows[s.toNat]?=some row) (hi:ins[i]?=some kd) (hn:kd.1=vm) (hp:row[i]?=some p) (h:NmAt ins rows n p (.knot vm vs) r m):NmAt ins rows (n+1) (.call s k) (.knot tm us) r m
theorem NmAt.of {ins:List (US×Int)} {rows:List (List Th)} {t v:Th} {pl:List Int} (h:In t pl v):∀ {m:US} {ks:List Th} (tree:Th),v=.knot m ks->∃ n,NmAt ins rows n t tree pl m:=by
 induction h with
 | here=>intro m ks tree e;subst e;exact ⟨0,.here⟩
 | kid h i ih =>
   intro m ks tree e;obtain ⟨n,hn⟩:=ih tree e;exact ⟨n+1,.step h hn⟩
def qz (ins:List (US×Int)) (rows:List (List Th)) (s:Int) (t:Th) (pl:List Int) (m:US):Prop:=∃ (vm:US) (vs row:List Th) (i:Nat) (kd:US×Int) (p:Th) (n:Nat),0<=s/\t=.knot vm vs/\rows[s.toNat]?=some row/\ins[i]?=some kd/\kd.1=vm/\row[i]?=some p/\NmAt ins rows n p t pl m
theorem NmAt.goes {ins:List (US×Int)} {rows:List (List Th)} {p v:Th} {q r:List Int} (h:In p q v):∀ {l k:Int} {tm m:US} {us:List Th} {t1:Th},v=.call l k->0<=k->us[k.toNat]?=some t1->qz ins rows l t1 r m->∃ n,NmAt ins rows n p (.knot tm us) (q++r) m:=by
 induction h with
 | here =>
   intro l k tm m us t1 e hk hu hs;subst e;obtain ⟨vm,vs,row,i,kd,p,n,h0,rfl,hr,hi,hn,hp,h⟩:=hs;exact ⟨n+1,.call hk h0 hu hr hi hn hp h⟩
 | kid h i ih =>
   intro l k tm m us t1 e hk hu hs;obtain ⟨n,hn⟩:=ih e hk hu hs;exact ⟨n+1,.step h hn⟩
theorem NmAt.fill {ins outs:List (US×Int)} {rows:List (List Th)} {S C:Int} {f:Int->Int->Th} {us:List Th} {tm:US} (hf:∀ l k,0<=l->l<S->0<=k->k<C->∃ t1,us[k.toNat]?=some t1/\∀ pl m ks,In (f l k) pl (.knot m ks)->qz ins rows l t1 pl m):∀ (n:Nat) (p:Th) (pl:List Int) (m:US) (ks:List Th),p.size<=n->p.FitS outs S C->In (p.fill f) pl (.knot m ks)->∃ n,NmAt ins rows n p (.knot tm us) pl m
 | 0,p,_,_,_,hn,_,_=>by have:=p.size_pos;omega
 | n+1,.call l k,pl,m,ks,_,h,hi=>by
   rw [Th.FitS] at h;rw [Th.fill] at hi;obtain ⟨t1,h1,h2⟩:=hf l k h.1 h.2.1 h.2.2.1 h.2.2.2;have:=NmAt.goes (p:=.call l k) (q:=[]) (tm:=tm) .here rfl h.2.2.1 h1 (h2 pl m ks hi);exact this
 | n+1,.knot nm vs,pl,m,ks,hn,h,hi=>by
   rw [Th.fill] at hi;cases hi with
   | here=>exact ⟨0,.here⟩
   | kid hj hr =>
     rename_i j u r
     rw [gK,UU] at hj;obtain ⟨v,hv,rfl⟩:=hj;rw [Th.size] at hn;have hz:=aN (Uh hv);obtain ⟨k,hk⟩:=NmAt.fill hf n v r m ks (by omega) (eV h hv) hr;exact ⟨k+1,.step hv hk⟩
end BB
namespace BB
open PySem L2
structure FrK (ins outs:List (US×Int)) (rows:List (List Th)):Prop where
 gi:bN ins
 fit:wN ins outs (rows.length:Nat) rows
 le:rows.length<=20
 sz:∀ row∈rows,∀ p∈row,p.size<=200/\p.tall<=100
theorem FrK.mkd {ins outs:List (US×Int)} {rows:List (List Th)} (F:FrK ins outs rows) {l:Int} (h0:0<=l) (h1:l<(rows.length:Nat)):∃ row p,rows[l.toNat]?=some row/\row[cC ins]?=some p/\mkF ins rows l=p/\p.size<=200/\p.tall<=100/\p.FitS outs (rows.length:Nat) 0:=by
 obtain ⟨k0,zt,BN⟩:=k9 F.gi;have hI:=eW zt;obtain ⟨row,hr,er,hl,_⟩:=sr F.fit h0 h1;have QO:=(Uk.mp hI).1;obtain ⟨p,hp⟩:∃ p,row[cC ins]?=some p:=⟨_,Ue (by omega)⟩;have hm:=Uh hr;obtain ⟨z1,z2⟩:=F.sz row hm p (Uh hp);have hf:=(F.fit.row row hm).2 _ p k0 hp hI;rw [BN] at hf;exact ⟨row,p,hr,hp,by unfold mkF;rw [er,Y1,hp];rfl,z1,z2,hf⟩
def bY (ins:List (US×Int)) (n:Nat) (kid:Int) (t:Th):List Th:=(U1 n).map fun (i:Nat)=>if (i:Int)=kid then t else aT ins
theorem iH (ins:List (US×Int)) (n:Nat) (kid:Int) (t:Th):(bY ins n kid t).length=n:=by unfold bY;rw [Uc,UY]
theorem qp {ins:List (US×Int)} {n:Nat} {kid:Int} {t:Th} (h0:0<=kid) (h1:kid<(n:Int)):(bY ins n kid t)[kid.toNat]?=some t:=by
 unfold bY;rw [Uo,Vp (by omega),W6,if_pos (by omega)]
theorem qt {ins:List (US×Int)} {n:Nat} {kid:Int} {t u:Th} (h:u∈bY ins n kid t):u=t∨u=aT ins:=by
 unfold bY at h;obtain ⟨i,_,rfl⟩:=U5.mp h;by_cases hk:(i:Int)=kid
 · rw [if_pos hk];exact .inl rfl
 · rw [if_neg hk];exact .inr rfl
theorem iE (ins:List (US×Int)):(aT ins).size=1:=by unfold aT;rw [Th.size,aq]
theorem oo {ins:List (US×Int)} {n:Nat} (hn:n<=3) {kid:Int} {t:Th}:aq (bY ins n kid t)<=t.size+2:=by
 have h1:=iE ins;have h2:=t.size_pos
 have hp:∀ i:Nat,(if (i:Int)=kid then t else aT ins).size<=t.size/\((i:Int)≠kid->(if (i:Int)=kid then t else aT ins).size=1):=fun i=>by
  by_cases hk:(i:Int)=kid
  · rw [if_pos hk];exact ⟨Uj _,fun z=>absurd hk z⟩
  · rw [if_neg hk];exact ⟨by omega,fun _=>h1⟩
 obtain ⟨a0,b0⟩:=hp 0;obtain ⟨a1,b1⟩:=hp 1;obtain ⟨a2,b2⟩:=hp 2;have e0:aq (bY ins 0 kid t)=0:=by show aq []=0;rw [aq]
 have e1:aq (bY ins 1 kid t)=(if ((0:Nat):Int)=kid then t else aT ins).size:=by show aq [if ((0:Nat):Int)=kid then t else aT ins]=_;rw [aq,aq];omega
 have e2:aq (bY ins 2 kid t)=(if ((0:Nat):Int)=kid then t else aT ins).size+(if ((1:Nat):Int)=kid then t else aT ins).size:=by show aq [if ((0:Nat):Int)=kid then t else aT ins,if ((1:Nat):Int)=kid then t else aT ins]=_;rw [aq,aq,aq];omega
 have e3:aq (bY ins 3 kid t)=(if ((0:Nat):Int)=kid then t else aT ins).size+(if ((1:Nat):Int)=kid then t else aT ins).size+(if ((2:Nat):Int)=kid then t else aT ins).size:=by show aq [if ((0:Nat):Int)=kid then t else aT ins,if ((1:Nat):Int)=kid then t else aT ins,if ((2:Nat):Int)=kid then t else aT ins]=_;rw [aq,aq,aq,aq];omega
 generalize Oo:(if ((0:Nat):Int)=kid then t else aT ins).size=x0 at *;generalize Dx:(if ((1:Nat):Int)=kid then t else aT ins).size=x1 at *;generalize AL:(if ((2:Nat):Int)=kid then t else aT ins).size=x2 at *
 have hc:x0+x1+x2<=t.size+2:=by
  by_cases k0:((0:Nat):Int)=kid
  · have:=b1 (by omega);have:=b2 (by omega);omega
  · have:=b0 k0;by_cases k1:((1:Nat):Int)=kid
    · have:=b2 (by omega);omega
    · have:=b1 k1;omega
 match n,hn with
 | 0,_=>rw [e0];omega
 | 1,_=>rw [e1];omega
 | 2,_=>rw [e2];omega
 | 3,_=>rw [e3];omega
theorem jl {ins:List (US×Int)} (g:bN ins):(aT ins).FitS ins 0 0:=by
 obtain ⟨k0,zt,BN⟩:=k9 g;have hI:=eW zt;rw [eT zt,Th.FitS,FitSs];refine ⟨?_,trivial⟩;have:(k0.1,(([]:List Th).length:Int))=k0:=by rw [show (([]:List Th).length:Int)=k0.2 by rw [BN];rfl]
 rw [this];exact Uh hI
theorem oX {ins:List (US×Int)} (g:bN ins) {kd:US×Int} (hk:kd∈ins) {us:List Th} (hl:us.length=kd.2.toNat) (h:∀ u∈us,u.FitS ins 0 0):(Th.knot kd.1 us).FitS ins 0 0:=by
 rw [Th.FitS];refine ⟨?_,FitSs.of h⟩;have hn:=g.num kd hk;have:(kd.1,(us.length:Int))=kd:=by rw [show (us.length:Int)=kd.2 by omega]
 rw [this];exact hk
theorem oJ {ins outs:List (US×Int)} {rows:List (List Th)} (F:FrK ins outs rows) {l:Int} (h0:0<=l) (h1:l<(rows.length:Nat)) {pl:List Int} {m:US} {ks:List Th} (h:In (mkF ins rows l) pl (.knot m ks)):qz ins rows l (aT ins) pl m:=by
 obtain ⟨k0,zt,BN⟩:=k9 F.gi;have hI:=eW zt;obtain ⟨row,p,hr,hp,e,_⟩:=F.mkd h0 h1;rw [e] at h;obtain ⟨n,hn⟩:=NmAt.of (ins:=ins) (rows:=rows) h (aT ins) rfl;exact ⟨k0.1,[],row,cC ins,k0,p,n,h0,eT zt,hr,hI,rfl,hp,hn⟩
def frS (ins:List (US×Int)) (rows:List (List Th)) (s:Nat):Th:=frF (mkF ins rows) (mkF ins rows (s:Nat)) ((rows[s]?).getD [])
inductive Met (ins:List (US×Int)) (rows:List (List Th)):Nat->List Int->Prop
 | hol {s i:Nat} {row:List Th} {x:List Int×Th} (hr:rows[s]?=some row) (hi:i<=row.length) (hx:x∈(frF (mkF ins rows) (mkF ins rows (s:Nat)) (row.take i)).pl []) (hh:x.2.isHole=true):Met ins rows s x.1
 | lnk {s:Nat} {row:List Th} {p u:Th} {c:List Int×Int×Int} {x:List Int×Th} (hr:rows[s]?=some row) (hp:p∈row) (hc:c∈callsOf (p.pl [])) (hu:(c.1,u)∈(frS ins rows s).pl []) (hx:x∈u.pl []) (m:Met ins rows c.2.1.toNat x.1):Met ins rows s (c.1++x.1)
def Lk0 (ins:List (US×Int)) (rows:List (List Th)):LkT:=fun k s pl kd kid=>∃ (sn:Nat) (row:List Th) (i:Nat) (p:Th) (q x:List Int) (l:Int),s=(sn:Nat)/\rows[sn]?=some row/\row[i]?=some p/\ins[i]?=some kd/\In p q (.call l kid)/\k=nk l x/\pl=q++x/\(∃ u y,(q,u)∈(frS ins rows sn).pl []/\(x,y)∈u.pl [])
def Vt (ins:List (US×Int)) (rows:List (List Th)) (j:Nat) (s:Nat) (pl:List Int) (t:Th) (m:US):Prop:=t.FitS ins 0 0/\t.size<=4+3 * j/\qz ins rows (s:Nat) t pl m
def Vl0 (ins:List (US×Int)) (rows:List (List Th)):VlT:=fun j k t1 t2=>∃ (s:Nat) (pl:List Int) (m1 m2:US),k=nk (s:Nat) pl/\Met ins rows s pl/\m1≠m2/\Vt ins rows j s pl t1 m1/\Vt ins rows j s pl t2 m2
theorem uT {ins outs:List (US×Int)} {rows:List (List Th)} (F:FrK ins outs rows) (go:bN outs) {s:Nat} {row:List Th} (yc:rows[s]?=some row) (i:Nat) (p:Th) (kd:US×Int) (pl:List Int) (u:Th) (j:Nat) (hp:row[i]?=some p) (hk:ins[i]?=some kd) (hu:(pl,u)∈(frF (mkF ins rows) (mkF ins rows (s:Nat)) (row.take (i+1))).pl []) (hh:u.isHole=true) (hv:∀ v,(pl,v)∈(frF (mkF ins rows) (mkF ins rows (s:Nat)) (row.take i)).pl []->v.isHole=false) :
 Vl0 ins rows j (nk (s:Nat) pl) (aT ins) (.knot kd.1 (Wf kd.2.toNat (aT ins))):=by
 have hs:=(Uk.mp yc).1;have g:=F.gi;have Oq:=Uh hk;have BR:=g.num kd Oq;have Af:row.take (i+1)=row.take i++[p]:=by rw [Vs,hp];rfl
 have E9:Met ins rows s pl:=.hol (x:=(pl,u)) (i:=i+1) yc (by have:=(Uk.mp hp).1;omega) hu hh;rw [Af,j4,In.iff] at hu;obtain ⟨QP,p0,Lo,Ce,Df,_,_,f0⟩:=F.mkd (l:=(s:Nat)) (by omega) (by omega);have KG:(mkF ins rows (s:Nat)).noCall:=by rw [Df];exact d4 _ _ (Uj _) f0
 have hl:=(oV (mk:=mkF ins rows) (frF (mkF ins rows) (mkF ins rows (s:Nat)) (row.take i)) (row.take i) (mkF ins rows (s:Nat)) (mW _ _ (Uj _) (io KG _))).1;have JN:=(F.fit.row row (Uh yc)).2 i p kd hp hk
 have Hz:(p.fill fun l _=>mkF ins rows l).FitS outs (rows.length:Nat) 0:=l9 (fun l k h0 h1=>by
  obtain ⟨_,p1,_,_,e,_,_,f1⟩:=F.mkd h0 h1;rw [e];exact f1) _ p (Uj _) JN
 obtain ⟨m1,m2,k1,k2,yx,i1,i2⟩:=qY go _ _ _ (mkF ins rows (s:Nat)) u pl (Uj _) hu hh (fun v h=>hv v (In.iff.mpr h)) hl (io KG _) (by rw [Df];exact f0) Hz;refine ⟨s,pl,m1,m2,rfl,E9,yx,⟨jl g,by rw [iE];omega,oJ F (by omega) (by omega) i1⟩,⟨oX g Oq (Xv ..) fun u hu=>by rw [List.eq_of_mem_replicate hu];exact jl g,?_,?_⟩⟩
 · rw [Th.size]
   have:∀ n:Nat,aq (Wf n (aT ins))=n:=fun n=>by
    induction n with
    | zero=>rw [List.replicate_zero,aq]
    | succ n ih=>rw [List.replicate_succ,aq,ih,iE];omega
   rw [this];omega
 · obtain ⟨n,hn⟩:=NmAt.fill (ins:=ins) (rows:=rows) (tm:=kd.1) (us:=Wf kd.2.toNat (aT ins)) (fun l k h0 h1 h2 h3=>⟨aT ins,by rw [List.getElem?_replicate,if_pos (by omega)],fun pl m ks hi=>oJ F h0 h1 hi⟩) _ p pl m2 k2 (Uj _) JN i2;exact ⟨kd.1,_,row,i,kd,p,n,by omega,rfl,yc,hk,rfl,hp,hn⟩
theorem In.fit {ks:List (US×Int)} {S C:Int} {p v:Th} {q:List Int} (h:In p q v):p.FitS ks S C->v.FitS ks S C:=by
 induction h with
 | here=>exact fun h=>h
 | kid h i ih=>exact fun hf=>ih (eV hf h)
theorem wn {ins outs:List (US×Int)} {rows:List (List Th)} (F:FrK ins outs rows) (i j:Nat) (k:aA) (t1 t2:Th) (s:Int) (pl:List Int) (kd:US×Int) (kid:Int) (El:i<j) (hv:Vl0 ins rows i k t1 t2) (hk:kd∈ins) (hL:Lk0 ins rows k s pl kd kid) :
 Vl0 ins rows j (nk s pl) (.knot kd.1 (bY ins kd.2.toNat kid t1)) (.knot kd.1 (bY ins kd.2.toNat kid t2)):=by
 obtain ⟨s',zN,m1,m2,e,E9,yx,v1,v2⟩:=hv;obtain ⟨sn,row,i',p,q,x,l,rfl,hr,hp,hi,By,e2,rfl,u0,y0,Lp,QQ⟩:=hL;have e3:=e.symm.trans e2;obtain ⟨rfl,rfl⟩:=pR e3;have g:=F.gi;have BR:=g.num kd hk;have JN:=(F.fit.row row (Uh hr)).2 i' p kd hp hi;have hc:=By.fit JN;rw [Th.FitS] at hc
 have one:∀ (t:Th) (m:US),Vt ins rows i s' zN t m->Vt ins rows j sn (q++zN) (.knot kd.1 (bY ins kd.2.toNat kid t)) m:=fun t m ⟨a1,a2,a3⟩=>by
  refine ⟨oX g hk (iH ..) fun u hu=>?_,?_,?_⟩
  · rcases qt hu with rfl | rfl
    · exact a1
    · exact jl g
  · rw [Th.size];have:=oo (ins:=ins) (n:=kd.2.toNat) (by omega) (kid:=kid) (t:=t);omega
  · obtain ⟨n,hn⟩:=NmAt.goes (ins:=ins) (rows:=rows) (tm:=kd.1) By rfl hc.2.2.1 (qp (ins:=ins) (n:=kd.2.toNat) (t:=t) hc.2.2.1 (by omega)) a3;exact ⟨kd.1,_,row,i',kd,p,n,by omega,rfl,hr,hi,rfl,hp,hn⟩
 exact ⟨sn,q++zN,m1,m2,rfl,.lnk (c:=(q,((s':Nat):Int),kid)) (x:=(zN,y0)) hr (Uh hp) (fS.mpr (In.to By)) Lp QQ (by rw [Vh];exact E9),yx,one t1 m1 v1,one t2 m2 v2⟩
theorem qD {f':List (aA×V)} (hn:(f'.map (·.1)).Nodup) {j:Nat} {p:aA×V} (h:f'[j]?=some p) {v:V} (hv:aV f' p.1=some v):v=p.2:=by
 obtain ⟨i,hi⟩:=UG.mp (eZ hv);have h1:(f'.map (·.1))[i]?=some p.1:=by rw [Uo,hi];rfl
 have h2:(f'.map (·.1))[j]?=some p.1:=by rw [Uo,h];rfl
 have El:i=j:=(ZM (by have:=(Uk.mp h1).1;exact this) hn).mp (h1.trans h2.symm);subst El;rw [h] at hi;have e:=UR hi;rw [e]
theorem nF {ins:List (US×Int)} {rows:List (List Th)} {s:Nat} {row:List Th} (h:rows[s]?=some row):frS ins rows s=frF (mkF ins rows) (mkF ins rows (s:Nat)) row:=by
 unfold frS;rw [h];rfl
structure FrD (ins:List (US×Int)) (rows:List (List Th)) (ks:List aA):Prop where
 hl:∀ (s i:Nat) (row:List Th),rows[s]?=some row->i<=row.length->∀ x∈(frF (mkF ins rows) (mkF ins rows (s:Nat)) (row.take i)).pl [],x.2.isHole=true->nk (s:Nat) x.1∈ks
 cl:∀ (s:Nat) (row:List Th),rows[s]?=some row->∀ p∈row,∀ c∈callsOf (p.pl []),∀ u,(c.1,u)∈(frS ins rows s).pl []->∀ x∈u.pl [],nk c.2.1 x.1∈ks->nk (s:Nat) (c.1++x.1)∈ks
theorem FrD.hol {ins:List (US×Int)} {rows:List (List Th)} {ks:List aA} (h:FrD ins rows ks) (s:Nat) (hs:s<rows.length):∀ x∈(frS ins rows s).pl [],x.2.isHole=true->nk (s:Nat) x.1∈ks:=fun x hx hh=>by
 obtain ⟨row,hr⟩:∃ row,rows[s]?=some row:=⟨_,Ue hs⟩;rw [nF hr] at hx;exact h.hl s row.length row hr (Uj _) x (by rw [V9];exact hx) hh
theorem FrD.met {ins outs:List (US×Int)} {rows:List (List Th)} (F:FrK ins outs rows) {ks:List aA} (h:FrD ins rows ks) {s:Nat} {pl:List Int} (m:Met ins rows s pl):nk (s:Nat) pl∈ks:=by
 induction m with
 | hol hr hi hx hh=>exact h.hl _ _ _ hr hi _ hx hh
 | lnk hr hp hc hu hx m ih =>
   rename_i s row p u c x
   refine h.cl _ _ hr _ hp _ hc _ hu _ hx ?_;obtain ⟨j,hj⟩:=UG.mp hp;have BS:=(F.fit.row row (Uh hr)).1;obtain ⟨k0,zt⟩:∃ k0,ins[j]?=some k0:=⟨_,Ue (by have:=(Uk.mp hj).1;omega)⟩;have:=gG p [] ((F.fit.row row (Uh hr)).2 j p k0 hj zt) c hc;rw [Xg this.1] at ih;exact ih
def tf (ins:List (US×Int)) (rows:List (List Th)) (f':List (aA×V)):Prop:=∀ (s:Nat) (pl:List Int),Dk f' (s:Nat) pl=true↔Met ins rows s pl
theorem uP {ins outs:List (US×Int)} {rows:List (List Th)} (F:FrK ins outs rows) {f':List (aA×V)} (h:FrD ins rows (f'.map (·.1))) (hv:∀ p∈f',∃ j t1 t2,Vl0 ins rows j p.1 t1 t2):tf ins rows f':=fun s pl=>by
 constructor
 · intro hd;obtain ⟨p,hp,e⟩:=U5.mp (qd.mp hd);obtain ⟨j,t1,t2,s',zN,m1,m2,e2,hm,_⟩:=hv p hp;have e3:=e2.symm.trans e;obtain ⟨e4,rfl⟩:=pR e3;have:s'=s:=by omega
   subst this;exact hm
 · exact fun m=>qd.mpr (h.met F m)
end BB
namespace L2
open PySem PySem.Spec PyProof.Rows
def tP (K:Ug) (a:Ui):It:=⟨fun i H=>∃ xs x,SqL K H a xs/\xs[i]?=some x,fun i H x H'=>∃ p y,H p=none/\x=.ref p/\H'=upd H p (.tup [.int (i:Nat),y])/\∀ xs,SqL K H a xs->xs[i]?=some y,fun i H=>∃ xs,SqL K H a xs/\xs.length=i⟩
theorem pT {P:Uz} {w:UN} {K:Ug} {elts:List VC} {k1} {pos:Yl} (a e it:Ui):Turn P w K (.Tuple elts k1 pos) (tP K a) [e,it] e (fun i h=>(∃ old,IsEnum h e it ((i:Nat):Int) old)/\h.IsListIter it a i) where
 mem:=by simp
 obj:=fun i h st b hb=>by
  obtain ⟨⟨old,he⟩,o,e1,e2,e3⟩:=st;rcases UK.mp hb with rfl | hb
  · exact ⟨_,he,fun v z=>by cases z⟩
  · have:b=it:=by simpa using hb
    subst this;exact ⟨o,e1,fun v z=>by rw [e3] at z;cases z⟩
 keep:=fun i h h' st k=>by
  obtain ⟨⟨old,he⟩,o,e1,e2⟩:=st;exact ⟨⟨old,k e (by simp) _ he⟩,o,k it (by simp) _ e1,e2⟩
 item:=by
  intro X hP hw hK hc i pins s σ H E I hf st hg;subst hP hw hK;obtain ⟨xs,x,hq,hx⟩:=hg;obtain ⟨its,rv,p,hz⟩:=I.list hq;obtain ⟨u,hu,ru⟩:=rv.get hx;obtain ⟨⟨old,he⟩,hi⟩:=st
  have EV:e≠it:=by
   rintro rfl;obtain ⟨o,e1,e2,_⟩:=hi;rw [he] at e1;cases e1;exact absurd (Wb e2) (by decide)
  have EW:a≠it:=by
   rintro rfl;obtain ⟨o,e1,e2,_⟩:=hi;obtain ⟨o',Av,Au,_⟩:=p.isList;rw [Av] at e1;cases e1;rw [Au] at e2;exact absurd (Wb e2) (by decide)
  have KU:a≠e:=by
   rintro rfl;obtain ⟨o',Av,Au,_⟩:=p.isList;rw [he] at Av;cases Av;exact absurd (Wb Au) (by decide)
  have ym:i<its.toArray.size:=by
   have:=(Uk.mp hu).1;simpa using this
  have KW:e<s.heap.objs.size:=UA he;have zE:it<s.heap.objs.size:=by obtain ⟨o,e1,_⟩:=hi;exact UA e1
  refine wpAny_pyNext_enum_itemD (Draws.list (A:=X.A.in1) (show X.A.in1.handled=none from I.ok.hd hc) it a EW its.toArray) he ⟨hi,p.isList⟩ ym EV (by simp [EV,KU.symm]) fun y h1 tk hy ho F4 hT hsz hk=>?_
  have KY:y=u:=by
   have:its[i]?=some y:=by simpa using hy
   rw [hu] at this;exact (UR this).symm
  subst KY;refine ⟨_,rfl,wpAny_letOwnedTupleGo_enum ho fun h2 KZ Cv=>?_⟩;replace Cv:We e h1 h2:=Cv
  have yx:∀ b∈[e,it],b<s.heap.objs.size:=fun b hb=>by
   rcases UK.mp hb with rfl | hb
   · exact KW
   · have:b=it:=by simpa using hb
     subst this;exact zE
  have G5:H s.heap.objs.size=none:=I.hok.fresh (Uj _)
  have IA:Inv X pins σ (upd H s.heap.objs.size (.tup [.int (i:Nat),x])) { s with heap:=s.heap.push { cls:=.type "tuple",data:=.seq #[.int (i:Nat) tk,y] },toks:=tk } :=
   I.laid (o:=.tup [.int (i:Nat),x]) (fun b ob q=>Up _ q) (Uj _) ⟨by show 2<=UD;decide,[.int (i:Nat) tk,y],0,.cons ⟨tk,rfl⟩ (.cons ru .nil),Uy _ rfl⟩
  refine ⟨.ref s.heap.objs.size,upd H s.heap.objs.size (.tup [.int (i:Nat),x]),?_,rfl,⟨_,x,G5,rfl,rfl,fun ys G0=>by rw [I.list_inj G0 hq];exact hx⟩,⟨⟨y,by simpa using KZ⟩,?_⟩,fun b hb=>?_⟩
  · have IB:Inv X pins σ (upd H s.heap.objs.size (.tup [.int (i:Nat),x])) { s with heap:=h2,toks:=tk+1 }:=by
     refine Inv.turnedL (s:={ s with heap:=s.heap.push { cls:=.type "tuple",data:=.seq #[.int (i:Nat) tk,y] },toks:=tk }) (h':=h2) (fp:=[e,it]) (t':=tk+1) IA (fun b o hb q=>?_) fun b hb=>?_
     · have BJ:b≠e:=fun z=>hb (by simp [z]);have K0:b≠it:=fun z=>hb (by simp [z]);rw [Cv.2 b BJ];by_cases yC:b=s.heap.objs.size
       · subst yC;rw [hT];have q':(s.heap.push { cls:=.type "tuple",data:=.seq #[.int (i:Nat) tk,y] }).get? s.heap.objs.size=some o:=q;rw [Uy _ rfl] at q';exact q'
       · have zL:b<(s.heap.push { cls:=.type "tuple",data:=.seq #[.int (i:Nat) tk,y] }).objs.size:=UA q;rw [VF] at zL;refine hk b o BJ K0 ?_;have q':(s.heap.push { cls:=.type "tuple",data:=.seq #[.int (i:Nat) tk,y] }).get? b=some o:=q;rw [Heap.get?_push_ne _ _ _ yC] at q';exact q'
     · obtain ⟨f0,f1⟩:=hf b hb;exact ⟨by rw [ak (U2 (yx b hb))];exact f0,f1⟩
    exact IB
  · obtain ⟨o,e1,r⟩:=F4.1;exact ⟨o,(Cv.2 it (Wd EV)).trans e1,r⟩
  · rw [ak (U2 (yx b hb))];exact (hf b hb).1
 done:=by
  intro X hP hw hK hc i pins s σ H E I hf st hg;subst hP hw hK;obtain ⟨xs,hq,hx⟩:=hg;obtain ⟨its,rv,p,hz⟩:=I.list hq;obtain ⟨⟨old,he⟩,hi⟩:=st
  have EW:a≠it:=by
   rintro rfl;obtain ⟨o,e1,e2,_⟩:=hi;obtain ⟨o',Av,Au,_⟩:=p.isList;rw [Av] at e1;cases e1;rw [Au] at e2;exact absurd (Wb e2) (by decide)
  have hn:its.toArray.size=i:=by
   have:=rv.length;rw [Uu];omega
  refine wpAny_pyNext_enum_endD (Draws.list (A:=X.A.in1) (show X.A.in1.handled=none from I.ok.hd hc) it a EW its.toArray) he (by rw [hn];exact ⟨hi,p.isList⟩) fun h' eb=>⟨rfl,?_⟩;exact I.turnedL (fp:=[e,it]) (t':=s.toks) (fun b o hb q=>eb b o (fun z=>hb (by simp [z])) q) hf
 self:=fun _ _ _ _ _ st h=>by
  obtain ⟨⟨old,he⟩,_⟩:=st;exact Y4 he h
section
variable {X:Cx} {e:VC} {te:TE} {p2 yD:Yl}
def v9 (K:Ug) (tl:TE):TI:=fun σ H R=>tl σ H fun x H1=>∃ a,x=.ref a/\(∃ xs,SqL K H1 a xs)/\R (tP K a) H1
theorem ki {elts:List VC} {k1} {pos:Yl} (g2:Gl X "enumerate") (m2:X.mg "enumerate"=none) (he:PE X e te) (h2:Vm [e] X.env=[(false,WN e X.env)]:=by rfl):PI X (.Tuple elts k1 pos) (.Call (.Name "enumerate" p2) [e] [] yD) (v9 X.K te):=by
 intro pins s σ H R I h;refine V1 (cS I g2 m2 boot_enumerate (Vj ?_ h2 rfl));rw [h2];show UC _ _ (spliced ((false,WN e X.env)::[])) _ _ s;refine V2 (thn (he pins s σ H _ I h) fun u s1 ⟨x,H1,I1,r1,a,ex,⟨xs,hq⟩,q⟩=>Wx ?_);subst ex;cases r1;obtain ⟨its,rv,p,hz⟩:=I1.list hq;refine call_enumerate_list (show s1.heap.IsList a its.toArray from p.isList) fun h' g1 g2 g3 g4=>?_;refine Y4 (s:={ s1 with heap:=h' }) g1 ?_;refine ⟨s1.heap.objs.size+1,[s1.heap.objs.size+1,s1.heap.objs.size],_,_,H1,rfl,I1.kept (t':=s1.toks) g4,pT a _ _,⟨⟨_,g1⟩,g2⟩,fun b hb=>?_,q⟩
 have zM:s1.heap.objs.size<=b:=by
  rcases UK.mp hb with rfl | hb
  · omega
  · have:b=s1.heap.objs.size:=by simpa using hb
    exact ZL this.symm
 exact I1.fpOk zM (I1.hok.fresh zM)
end
theorem mS {K:Ug} {a:Ui} {xs:List V} {g:TG} {tb:TS} {D:Ends} {σ:St} {H:Hp} (Pv:Nat->St->Hp->Prop) (h0:Pv 0 σ H) (hl:∀ i σ H,i<=xs.length->Pv i σ H->SqL K H a xs)
 (hs:∀ i x p σ H,xs[i]?=some x->H p=none->Pv i σ H->g (.ref p) σ (upd H p (.tup [.int (i:Nat),x])) fun yw H2=>tb { D with nx:=Pv (i+1),ct:=Pv (i+1),bk:=D.nx } yw H2) (hd:∀ σ H,Pv xs.length σ H->D.nx σ H) :
 ∃ W:Nat->Nat->St->Hp->Prop,(∃ m,W 0 m σ H)/\∀ i m σ H,W i m σ H →
   ((tP K a).stop i H/\D.nx σ H)∨((tP K a).go i H/\∃ N:St->Hp->Prop,(∀ yd H',N yd H'->∃ m',m'<m/\W (i+1) m' yd H')/\∀ x H',(tP K a).yld i H x H'->g x σ H' fun yw H2=>tb { D with nx:=N,ct:=N,bk:=D.nx } yw H2):=by
 refine ⟨fun i m σ H=>m=xs.length - i/\i<=xs.length/\Pv i σ H,⟨xs.length,by simp,UO _,h0⟩,?_⟩;rintro i m σ H ⟨rfl,hi,p⟩;have q:=hl i σ H hi p;by_cases ym:i<xs.length
 · refine .inr ⟨⟨xs,xs[i],q,by simp [ym]⟩,Pv (i+1),fun yd H' p'=>⟨xs.length - (i+1),by omega,rfl,ym,p'⟩,fun x H' y=>?_⟩;obtain ⟨pa,y,hp,rfl,rfl,hy⟩:=y;exact hs i y pa σ H (hy xs q) hp p
 · have e:i=xs.length:=by omega
   subst e;exact .inl ⟨⟨xs,q,rfl⟩,hd σ H p⟩
end L2
namespace L2
open PySem PySem.Spec PySem.SeqAt PyProof.Rows BB
open Classical in
theorem sA {X:Cx} {pins:List (Ui×WA)} {σ:St} {H:Hp} {s:Ur} (I:Inv X pins σ H s) {ds es:List Dv} {vs ws:List V} {its yf:List Ul} {A:U9} (r1:Vals vs its) (r2:Vals ws yf) (Aw:DAtsK X.K H ds vs) (yO:DAtsK X.K H es ws) (hu:A.units+cq ds+2<V3) :
 ∀ j (h1:j<its.toArray.size) (h2:j<yf.toArray.size),EqAt A.in1 s its.toArray[j] yf.toArray[j] (decide (ds[j]?=es[j]?)):=by
 intro j h1 h2;have l1:its.length=ds.length:=by rw [<- r1.length,Aw.length]
 have l2:yf.length=es.length:=by rw [<- r2.length,yO.length]
 have AU:j<ds.length:=by rw [<- l1];simpa using h1
 have Ax:j<es.length:=by rw [<- l2];simpa using h2
 have e1:ds[j]?=some ds[j]:=Ue AU;have e2:es[j]?=some es[j]:=Ue Ax;obtain ⟨x',Cu,dx⟩:=Aw.at e1;obtain ⟨y',AD,dy⟩:=yO.at e2;obtain ⟨u',zA,CH⟩:=r1.get Cu;obtain ⟨v',yK,AK⟩:=r2.get AD;have e3:decide (ds[j]?=es[j]?)=decide (ds[j]=es[j]):=by rw [e1,e2];simp
 have e4:its.toArray[j]=u':=by
  rw [Ue (by rw [l1];exact AU)] at zA;simpa using zA
 have e5:yf.toArray[j]=v':=by
  rw [Ue (by rw [l2];exact Ax)] at yK;simpa using yK
 rw [e3,e4,e5];have q2:=dQ e1;refine ko I _ ds[j] es[j] (Uj _) x' y' u' v' A.in1 dx dy CH AK ?_;show A.units+1+_<V3;omega
def wM (K:Ug) (B:Nat):R2:=fun x y H Q=>∃ a b vs ws ds es,x=.ref a/\y=.ref b/\SqL K H a vs/\SqL K H b ws/\DAtsK K H ds vs/\DAtsK K H es ws/\cq ds<=B/\∀ b:Bool,(b=true↔ds≠es)->Q (.bl b) H
open Classical in
theorem uK {X:Cx} {B:Nat} (hu:X.A.units+B+2<V3):OpR X (Xr .NotEq) (wM X.K B):=by
 intro pins s σ H x y v u Q I rx ry h;obtain ⟨a,b,vs,ws,ds,es,rfl,rfl,ha,hb,Aw,yO,hB,q⟩:=h;cases rx;cases ry;obtain ⟨its,r1,p1,_⟩:=I.list ha;obtain ⟨yf,r2,p2,_⟩:=I.list hb;have l1:its.length=ds.length:=by rw [<- r1.length,Aw.length]
 have l2:yf.length=es.length:=by rw [<- r2.length,yO.length]
 by_cases hl:ds.length=es.length
 · have hsz:its.toArray.size=yf.toArray.size:=by rw [Uu,Uu];omega
   refine RcNeAt.lists p1.isList p2.isList hsz (by omega) (sA I r1 r2 Aw yO (by omega)) X.prog X.w X.xe _ ?_
   have e:(U1 its.toArray.size).all (fun j=>decide (ds[j]?=es[j]?))=decide (ds=es):=by
    rw [Uu,l1];exact qb hl
   refine ⟨.bl (!decide (ds=es)),H,I,by rw [e];rfl,q _ ?_⟩;simp
 · refine RcNeAt.lists_lengths p1.isList p2.isList (by rw [Uu,Uu,l1,l2];simpa using hl) (by omega) X.prog X.w X.xe _ ⟨.bl true,H,I,rfl,q _ ?_⟩;exact ⟨fun _ z=>hl (by rw [z]),fun _=>rfl⟩
end L2
namespace LAW
open PySem L2 BB
def top (i:Nat):Wk:=PySem.Challenge.pw_boughbook_k55_fronts_of_leaves.main.body.getD i (.Pass ⟨0,0,0,0⟩)
theorem scm {N P:List US} {sc:Yk} (a:sc.kind=.function:=by rfl) (b:sc.isCoroutine=false:=by rfl) (c:sc.isGenerator=false:=by rfl) (d:N.Nodup:=by decide +kernel) (e:N.take P.length=P:=by rfl) (f:∀ x∈P,sc.names.lookup x=some .local∨sc.names.lookup x=some .cell:=by decide +kernel) (g:∀ y∈sc.names,y.2≠.free:=by decide +kernel):aD N P sc:=⟨a,b,c,d,e,f,g⟩
abbrev jx:Wk:=top 3
theorem qq:aD ["thing"] ["thing"] (am jx):=scm
abbrev j8:Wk:=top 4
theorem gD:aD ["thing","met","ahead","part"] ["thing"] (am j8):=scm
abbrev kW:Wk:=top 5
theorem dz:aD ["thing","met","ahead","place","part","kids"] ["thing"] (am kW):=scm
abbrev nJ:Wk:=top 6
theorem jb:aD ["tops","done","top","many"] ["tops"] (am nJ):=scm
abbrev kC:Wk:=top 7
theorem sy:aD ["tree"] ["tree"] (am kC):=scm
abbrev jf:Wk:=top 10
theorem ql:aD ["thing"] ["thing"] (am jf):=scm
abbrev jg:Wk:=top 11
theorem qr:aD ["thing"] ["thing"] (am jg):=scm
abbrev jo:Wk:=top 12
theorem qw:aD ["thing"] ["thing"] (am jo):=scm
abbrev fV:Wk:=top 13
theorem og:aD ["call"] ["call"] (am fV):=scm
abbrev iB:Wk:=top 14
theorem oD:aD ["pattern"] ["pattern"] (am iB):=scm
abbrev iG:Wk:=top 15
theorem oC:aD ["front"] ["front"] (am iG):=scm
abbrev kM:Wk:=top 16
theorem mC:aD ["part","many"] ["part"] (am kM):=scm
abbrev lI:Wk:=top 17
theorem ju:aD ["pattern","table","tops","part"] ["pattern","table"] (am lI):=scm
abbrev iq:Wk:=top 18
theorem o9:aD ["one","two"] ["one","two"] (am iq):=scm
abbrev dH:Wk:=top 19
theorem ci:aD ["one","two","met","ahead","left","right"] ["one","two"] (am dH):=scm
abbrev kL:Wk:=top 20
theorem gI:aD ["one","two","tops","left","right"] ["one","two"] (am kL):=scm
abbrev kE:Wk:=top 22
theorem sk:aD ["book"] ["book"] (am kE):=scm
abbrev iy:Wk:=top 23
theorem pc:aD ["book"] ["book"] (am iy):=scm
abbrev gv:Wk:=top 24
theorem nN:aD ["book"] ["book"] (am gv):=scm
abbrev fx:Wk:=top 26
theorem l3:aD ["ins"] ["ins"] (am fx):=scm
abbrev fC:Wk:=top 27
theorem eE:aD ["ins","kind","kids","name","many"] ["ins","kind","kids"] (am fC):=scm
abbrev df:Wk:=top 28
theorem bq:aD ["book","names","at","made","state","patterns","kid"] ["book"] (am df):=scm
abbrev eL:Wk:=top 29
theorem bK:aD ["book","state","made","partings","ins","front","kind","pattern","place"] ["book","state","made","partings"] (am eL):=scm
abbrev gg:Wk:=top 30
theorem bQ:aD ["book","state","front","links","parts","kind","pattern","place","lower","kid","inner"] ["book","state","front","links"] (am gg):=scm
abbrev lh:Wk:=top 31
theorem ck:aD ["ins","links","partings","holes","at","one","two","state","place","kind","kid"] ["ins","links","partings"] (am lh):=scm
abbrev gA:Wk:=top 32
theorem cx:aD ["front","state","partings","tops","ahead","place","part","kids"] ["front","state","partings"] (am gA):=scm
abbrev dB:Wk:=top 33
theorem bD:aD ["book","made","partings","firsts","links","state","front"] ["book"] (am dB):=scm
abbrev gq:Wk:=top 34
theorem fu:aD ["book","fronts","partings"] ["book"] (am gq):=scm
abbrev eJ:Wk:=top 35
theorem bX:aD ["book","fronts","partings","told","state","front"] ["book"] (am eJ):=scm
abbrev gu:Wk:=top 37
theorem nj:aD ["script","k"] ["script","k"] (am gu):=scm
abbrev eB:Wk:=top 38
theorem dR:aD ["cells","many","found","k"] ["cells","many"] (am eB):=scm
abbrev fo:Wk:=top 39
theorem bc:aD ["cell","every","step","at","word","k","names","turn"] ["cell"] (am fo):=scm
abbrev fG:Wk:=top 40
theorem bw:aD ["cell","names","many","leaf","rest","kinds","k","count"] ["cell","names"] (am fG):=scm
abbrev fF:Wk:=top 41
theorem bv:aD ["left","outs","states","kids","digit","state","kid","fit","kind","made","k"] ["left","outs","states","kids"] (am fF):=scm
abbrev eO:Wk:=top 42
theorem cL:aD ["thing","found","k"] ["thing"] (am eO):=scm
abbrev ip:Wk:=top 43
theorem jC:aD ["thing","place","other","k"] ["thing","place","other"] (am ip):=scm
abbrev fw:Wk:=top 44
theorem eA:aD ["cell","k","number"] ["cell","k"] (am fw):=scm
abbrev f8:Wk:=top 45
theorem bf:aD ["cells","ins","outs","states","rows","state","own","base","spots","row","k","number","place","part"] ["cells","ins","outs","states"] (am f8):=scm
abbrev gw:Wk:=top 46
theorem iZ:aD ["cells","ins","outs","states","head"] ["cells","ins","outs","states"] (am gw):=scm
abbrev dG:Wk:=top 47
theorem bh:aD ["book","state","tree","place","names","thing","at"] ["book","state","tree","place"] (am dG):=scm
abbrev dD:Wk:=top 48
theorem bO:aD ["ins","tree","most","waiting","many","knot","deep"] ["ins","tree","most"] (am dD):=scm
abbrev dg:Wk:=top 49
theorem jh:aD ["outs","front"] ["outs","front"] (am dg):=scm
abbrev fh:Wk:=top 50
theorem db:aD ["front","found","k"] ["front"] (am fh):=scm
abbrev eF:Wk:=top 51
theorem lv:aD ["one","two"] ["one","two"] (am eF):=scm
abbrev cV:Wk:=top 52
theorem bB:aD ["script","names","ins","outs","states","cells"] ["script"] (am cV):=scm
abbrev iT:Wk:=top 53
theorem cJ:aD ["script","book","due","row","front","pattern","fronts","pairs","state","spots","k","pair","one"] ["script"] (am iT):=scm
structure FX (K:Ug) (mg:US->Option Ul) (n:US) (s:Wk) (ps:List US) where
 f:Ui
 d:XD
 F:Fun K n n s f d
 b:Binds K d ps []
 m:mg n=some (.ref f)
section
open PySem.W
variable {K:Frag} {mg:US->Option Ul} {h:VH} {n:US} {st:Wk} {f:Ui} {oc kV dc pm cd ct:Ul} {od an:Option Ui} {sl:Array (Option Ul)} (X:K.In h) (G:h.Ns Va mg)
noncomputable def fx1 {p0:US} (a:nsIn K Va n=some (some (.ref f)):=by k_is) (l:K.lookup f=some ⟨oc,od,.func (fnOf n n (cp st) (cg st) (am st) .none kV dc pm an cd ct),sl⟩:=by k_is) (c:codeIn K cd n=true:=by k_is) (k:keepIn K (.ref f)=true:=by k_is) (hb:∀ (kV dc pm:Ul) (an:Option Ui) (cd ct u0:Ul),bindArgs (fnOf n n (cp st) (cg st) (am st) .none kV dc pm an cd ct) ⟨[u0],[]⟩=pure [(p0,u0)]:=by intros;rfl):FX K mg n st [p0] :=
 ⟨f,_,fA l c k,(fA l c k).binds fun a b c d e f us hl=>by obtain ⟨u0,rfl⟩:=us1 hl;exact hb a b c d e f u0,mg_of X G a⟩
noncomputable def fx2 {p0 p1:US} (a:nsIn K Va n=some (some (.ref f)):=by k_is) (l:K.lookup f=some ⟨oc,od,.func (fnOf n n (cp st) (cg st) (am st) .none kV dc pm an cd ct),sl⟩:=by k_is) (c:codeIn K cd n=true:=by k_is) (k:keepIn K (.ref f)=true:=by k_is) (hb:∀ (kV dc pm:Ul) (an:Option Ui) (cd ct u0 u1:Ul),bindArgs (fnOf n n (cp st) (cg st) (am st) .none kV dc pm an cd ct) ⟨[u0,u1],[]⟩=pure [(p0,u0),(p1,u1)]:=by intros;rfl):FX K mg n st [p0,p1] :=
 ⟨f,_,fA l c k,(fA l c k).binds fun a b c d e f us hl=>by obtain ⟨u0,u1,rfl⟩:=us2 hl;exact hb a b c d e f u0 u1,mg_of X G a⟩
noncomputable def fx3 {p0 p1 p2:US} (a:nsIn K Va n=some (some (.ref f)):=by k_is) (l:K.lookup f=some ⟨oc,od,.func (fnOf n n (cp st) (cg st) (am st) .none kV dc pm an cd ct),sl⟩:=by k_is) (c:codeIn K cd n=true:=by k_is) (k:keepIn K (.ref f)=true:=by k_is) (hb:∀ (kV dc pm:Ul) (an:Option Ui) (cd ct u0 u1 u2:Ul),bindArgs (fnOf n n (cp st) (cg st) (am st) .none kV dc pm an cd ct) ⟨[u0,u1,u2],[]⟩=pure [(p0,u0),(p1,u1),(p2,u2)]:=by intros;rfl):FX K mg n st [p0,p1,p2] :=
 ⟨f,_,fA l c k,(fA l c k).binds fun a b c d e f us hl=>by obtain ⟨u0,u1,u2,rfl⟩:=us3 hl;exact hb a b c d e f u0 u1 u2,mg_of X G a⟩
noncomputable def fx4 {p0 p1 p2 p3:US} (a:nsIn K Va n=some (some (.ref f)):=by k_is) (l:K.lookup f=some ⟨oc,od,.func (fnOf n n (cp st) (cg st) (am st) .none kV dc pm an cd ct),sl⟩:=by k_is) (c:codeIn K cd n=true:=by k_is) (k:keepIn K (.ref f)=true:=by k_is) (hb:∀ (kV dc pm:Ul) (an:Option Ui) (cd ct u0 u1 u2 u3:Ul),bindArgs (fnOf n n (cp st) (cg st) (am st) .none kV dc pm an cd ct) ⟨[u0,u1,u2,u3],[]⟩=pure [(p0,u0),(p1,u1),(p2,u2),(p3,u3)]:=by intros;rfl):FX K mg n st [p0,p1,p2,p3] :=
 ⟨f,_,fA l c k,(fA l c k).binds fun a b c d e f us hl=>by obtain ⟨u0,u1,u2,u3,rfl⟩:=us4 hl;exact hb a b c d e f u0 u1 u2 u3,mg_of X G a⟩
end
theorem pcF {X:Cx} {kk k:Nat} {sp:Sp} {n:US} {st:Wk} {ps:List US} {e:VC} {es:List VC} {t:TA} {p pos:Yl} (g:FX X.K X.mg n st ps) (F:bp X.prog X.w X.K X.mg X.base CX0 k g.f g.d ps sp) (hr:Room kk X.A) (ha:PA X (e::es) t) (hle:k<=kk:=by first | decide | omega) (hg:Gl X n:=by rfl) (ER:(n == ("__debug__":US))=false:=by decide) (he:Vm (e::es) X.env=(false,WN e X.env)::Vm es X.env:=by rfl) (y8:(Ys pos (Vm es X.env)).any (·.1)=false:=by rfl):PE X (.Call (.Name n p) (e::es) [] pos) (fR sp [] E0 t) :=
 fB F (hr.mono hle) hg g.m g.F.kp g.b .nil lB ha ER he y8
structure TX (K:Ug) (mg:US->Option Ul) where
 c_CALL_SIGN:∃ tk,mg "CALL_SIGN"=some (.str (Um "?") tk)
 c_MOST_KIDS:∃ tk,mg "MOST_KIDS"=some (.int (3) tk)
 a_HOLE:Ui
 c_HOLE:mg "HOLE"=some (.ref a_HOLE)
 q_HOLE:∀ H:Hp,SqT K H a_HOLE [.str (Um "*")]
 g_kids_of:FX K mg "kids_of" jx ["thing"]
 g_walked:FX K mg "walked" j8 ["thing"]
 g_placed:FX K mg "placed" kW ["thing"]
 g_built:FX K mg "built" nJ ["tops"]
 g_places:FX K mg "places" kC ["tree"]
 g_is_call:FX K mg "is_call" jf ["thing"]
 g_is_hole:FX K mg "is_hole" jg ["thing"]
 g_is_knot:FX K mg "is_knot" jo ["thing"]
 g_called_by:FX K mg "called_by" fV ["call"]
 g_calls_in:FX K mg "calls_in" iB ["pattern"]
 g_holes_in:FX K mg "holes_in" iG ["front"]
 g_top_of:FX K mg "top_of" kM ["part"]
 g_filled:FX K mg "filled" lI ["pattern","table"]
 g_same_top:FX K mg "same_top" iq ["one","two"]
 g_side_by_side:FX K mg "side_by_side" dH ["one","two"]
 g_common:FX K mg "common" kL ["one","two"]
 g_ins_of:FX K mg "ins_of" kE ["book"]
 g_rules_of:FX K mg "rules_of" iy ["book"]
 g_states_of:FX K mg "states_of" gv ["book"]
 g_small_tree:FX K mg "small_tree" fx ["ins"]
 g_knot_above:FX K mg "knot_above" fC ["ins","kind","kids"]
 g_first_makings:FX K mg "first_makings" df ["book"]
 g_first_front:FX K mg "first_front" eL ["book","state","made","partings"]
 g_put_links:FX K mg "put_links" gg ["book","state","front","links"]
 g_spread:FX K mg "spread" lh ["ins","links","partings"]
 g_cut_front:FX K mg "cut_front" gA ["front","state","partings"]
 g_found_fronts:FX K mg "found_fronts" dB ["book"]
 g_fronts_of:FX K mg "fronts_of" gq ["book"]
 g_partings_of:FX K mg "partings_of" eJ ["book"]
 g__law_cell:FX K mg "_law_cell" gu ["script","k"]
 g__law_folded:FX K mg "_law_folded" eB ["cells","many"]
 g__law_names:FX K mg "_law_names" fo ["cell"]
 g__law_kinds:FX K mg "_law_kinds" fG ["cell","names"]
 g__law_thing:FX K mg "_law_thing" fF ["left","outs","states","kids"]
 g__law_places:FX K mg "_law_places" eO ["thing"]
 g__law_put:FX K mg "_law_put" ip ["thing","place","other"]
 g__law_mixed:FX K mg "_law_mixed" fw ["cell","k"]
 g__law_rows:FX K mg "_law_rows" f8 ["cells","ins","outs","states"]
 g__law_book:FX K mg "_law_book" gw ["cells","ins","outs","states"]
 g__law_name_at:FX K mg "_law_name_at" dG ["book","state","tree","place"]
 g__law_is_tree:FX K mg "_law_is_tree" dD ["ins","tree","most"]
 g__law_is_front:FX K mg "_law_is_front" dg ["outs","front"]
 g__law_holes:FX K mg "_law_holes" fh ["front"]
 g__law_common:FX K mg "_law_common" eF ["one","two"]
 g__law_leaf_book:FX K mg "_law_leaf_book" cV ["script"]
 g_law:FX K mg "law" iT ["script"]
 n_all:mg "all"=none
 n_dict:mg "dict"=none
 n_enumerate:mg "enumerate"=none
 n_isinstance:mg "isinstance"=none
 n_len:mg "len"=none
 n_list:mg "list"=none
 n_range:mg "range"=none
 n_reversed:mg "reversed"=none
 n_str:mg "str"=none
 n_tuple:mg "tuple"=none
 n_zip:mg "zip"=none
theorem uB:([Um "number",Um "kid",Um "place"]:List US).Nodup:=by decide +kernel
theorem xN:([Um "number",Um "done"]:List US).Nodup:=by decide +kernel
theorem wU:([Um "place",Um "knot"]:List US).Nodup:=by decide +kernel
theorem uA:([Um "place",Um "part"]:List US).Nodup:=by decide +kernel
theorem uN:([Um "name",Um "many"]:List US).Nodup:=by decide +kernel
theorem xP:([Um "kid",Um "kids",Um "ins"]:List US).Nodup:=by decide +kernel
theorem xU:([Um "state",Um "book",Um "made",Um "partings"]:List US).Nodup:=by decide +kernel
theorem wH:([Um "state",Um "front",Um "partings"]:List US).Nodup:=by decide +kernel
theorem xD:([Um "k",Um "cells"]:List US).Nodup:=by decide +kernel
theorem xL:([Um "kind",Um "left"]:List US).Nodup:=by decide +kernel
theorem vM:([Um "place",Um "k"]:List US).Nodup:=by decide +kernel
theorem w4:([Um "k",Um "names"]:List US).Nodup:=by decide +kernel
theorem wT:([Um "place",Um "partings",Um "state"]:List US).Nodup:=by decide +kernel
theorem xk:([Um "part",Um "outs"]:List US).Nodup:=by decide +kernel
theorem wW:([Um "k",Um "one",Um "two"]:List US).Nodup:=by decide +kernel
theorem xl:([Um "kind"]:List US).Nodup:=by decide +kernel
theorem xj:([Um "kid",Um "deep"]:List US).Nodup:=by decide +kernel
theorem w9:([Um "front",Um "book"]:List US).Nodup:=by decide +kernel
section
variable {P:Uz} {w:UN} {K:Ug} {mg:US->Option Ul} {base:VH} (T:TX K mg)
inductive jE (K:Ug) (vs:List V) (H:Hp) (Q:VK) (_E:XK):Prop
 | mk (a:Ui) (t:Th) (yp:vs=[.ref a]) (yq:AtK K H t a) (yz:∀ (r:Ui) (as:List Ui) (H':Hp),L2.Same H H'->H' r=some (.tup (as.map V.ref))->AtsK K H' t.kids as->Q (.ref r) H'):jE K vs H Q _E
def qm (K:Ug):Sp:=jE K
theorem ir:bp P w K mg base CX0 1 T.g_kids_of.f T.g_kids_of.d ["thing"] (qm K):=by
 refine T.g_kids_of.F.ok qq (fun vs H Q E h=>?_) (fun yl A outer s H vs Q E hr h=>?_)
 · obtain ⟨a,t,rfl,_⟩:=h;rfl
 obtain ⟨a,t,rfl,hA,k⟩:=h
 refine ⟨_,(ae (bI (aK cG (ay aB (pv 0) af (fun _ _=>rfl)) (gN (v:=.str (Um "?")) rfl T.c_CALL_SIGN.choose_spec ⟨_,rfl⟩) (aO _)) (ag (aE (aI ac))) bi)
  (ag (aE (bj dF (pv 0) (bA af) bR)))),?_⟩
 try dsimp only [yH,yh]
 cases t with
 | knot n ks =>
   rw [AtK] at hA;refine hid fun ZZ kZ=>?_;obtain ⟨hn,as,h1,h2⟩:=hA;refine kZ ?_;refine ⟨_,rfl,a,_,0,.str n,rfl,rfl,h1.sq,at0,rfl,_,rfl,?_⟩;refine cX (fun c=>absurd (of_decide_eq_true c) (fun z=>hn (V.str.inj z))) (fun _=>?_);refine ⟨_,rfl,1,rfl,a,_,rfl,h1.sq,?_,fun r hr=>?_⟩
   · intro z;have:=z.1;simp [HT.sIx] at this
   · rw [de];exact k r as _ (ad hr _) ab (h2.mono (dM hr))
 | call sn kn =>
   rw [AtK] at hA;refine ⟨_,rfl,a,_,0,.str q,rfl,rfl,hA.sq,at0,rfl,_,rfl,?_⟩;refine cX (fun _=>?_) (fun c=>absurd (decide_eq_true rfl) c);refine ⟨by show 0<=UD;decide,fun r hr=>?_⟩;exact k r [] _ (ad hr _) ab .nil
inductive j5 (K:Ug) (vs:List V) (H:Hp) (Q:VK) (_E:XK):Prop
 | mk (a:Ui) (t:Th) (yp:vs=[.ref a]) (yq:AtK K H t a) (yz:t.size<=100000) (yF:∀ (r:Ui) (as:List Ui) (H':Hp),L2.Same H H'->H r=none->H' r=some (.lst (as.map V.ref))->AtsK K H' t.walk as->Q (.ref r) H'):j5 K vs H Q _E
def rO (K:Ug):Sp:=j5 K
theorem sH:bp P w K mg base CX0 2 T.g_walked.f T.g_walked.d ["thing"] (rO K):=by
 refine T.g_walked.F.ok gD (fun vs H Q E h=>?_) (fun yl A outer s H vs Q E hr h=>?_)
 · obtain ⟨a,t,rfl,_⟩:=h;rfl
 obtain ⟨a,t,rfl,hA,hsz,k⟩:=h
 refine ⟨_,(ae (au (i:=1) gD.nd rfl (UB rfl) (bo ac))
  (ae (au (i:=2) gD.nd rfl (UB rfl) (bo (aa (pv 0) ac)))
  (ae (dA UW (aY (pv 2) (fun _=>rfl)) (ae (au (i:=3) gD.nd rfl (UB rfl) (jm Uw WY WX jd (pv 2)))
  (ae (aQ (bL Uw UM UL aL (pv 1) (aa (pv 3) ac)))
  (ag (aQ (bL Uw Xe Xd pS (pv 2) (aa (qI wf (pcF T.g_kids_of (ir T) hr (aa (pv 3) ac))) ac)))))))
  (ag (aE (pv 1)))))),?_⟩
 try dsimp only [yH,yh]
 refine ⟨by show 0<=UD;decide,fun mt Ay=>?_⟩;refine ⟨_,rfl,by show 1<=UD;decide,fun ah Am=>?_⟩;have Ab:H ah=none:=(ad Ay _).free Am;have yx:ah≠mt:=fun z=>by rw [z,ab] at Am;cases Am
 refine ⟨fun m σ H2=>Ex5 fun (ms as:List Ui) (Ms As:List Th) (p:Option V)=>An8 (σ=[some (.ref a),some (.ref mt),some (.ref ah),p]) (L2.Same H H2) (H2 mt=some (.lst (ms.map V.ref))) (H2 ah=some (.lst (as.map V.ref))) (AtsK K H2 Ms ms) (AtsK K H2 As as) (Ms++walks As.reverse=t.walk) (m=aq As),⟨_,[],[a],[],[t],none,rfl,?_,?_,?_,.nil,.cons (hA.mono ?_) .nil,?_,rfl⟩,?_⟩
 · exact aw (ad Ay _) Ab
 · rw [ak yx.symm,ab];rfl
 · rw [ab];rfl
 · exact Same.kt (aw (ad Ay _) Ab)
 · simp [walks]
 rintro m σ H2 ⟨ms,as,Ms,As,p,rfl,sm,e1,e2,a1,a2,hw,rfl⟩
 have hlen:ms.length+aq As<=100000:=by
  have h1:=congrArg Xc hw;rw [UE,jq,Th.walk_len,<- a1.length] at h1;have h2:=mX As;omega
 refine ⟨_,rfl,_,.inl ⟨_,SqL.of e2,rfl⟩,?_⟩;refine cX (fun c=>?_) (fun c=>?_)
 · -- a part is taken off
   refine ⟨fun yd H'=>∃ m',m'<aq As/\Ex5 fun (ms as:List Ui) (Ms As:List Th) (p:Option V)=>An8 (yd=[some (.ref a),some (.ref mt),some (.ref ah),p]) (L2.Same H H') (H' mt=some (.lst (ms.map V.ref))) (H' ah=some (.lst (as.map V.ref))) (AtsK K H' Ms ms) (AtsK K H' As as) (Ms++walks As.reverse=t.walk) (m'=aq As),fun yd H' h=>h,?_⟩;have zf:as≠[]:=by intro z;subst z;simp at c
   obtain ⟨yo,b,rfl⟩:∃ yo b,as=yo++[b]:=⟨as.dropLast,as.getLast zf,(Wj zf).symm⟩;obtain ⟨Us,x,rfl,a3,a4⟩:=a2.snoc_inv;have hs:aq (Us++[x])=aq Us+x.size:=by rw [bd,aq,aq];omega
   have HA:=x.size_eq;rw [hs] at hlen;refine ⟨_,rfl,.inl ⟨rfl,_,SqL.of e2⟩,ah,_,.ref b,rfl,rfl,e2,by simp,?_⟩;have d1:((yo++[b]).map V.ref).dropLast=yo.map V.ref:=by simp
   rw [d1];refine ⟨_,rfl,.inl ⟨rfl,_,SqL.of (by rw [ak yx.symm];exact e1)⟩,_,rfl,mt,_,.ref b,rfl,rfl,by rw [ak yx.symm];exact e1,aH (by rw [Uc];omega),?_⟩;have k1:KT H2 (upd (upd H2 ah (.lst (yo.map V.ref))) mt (.lst (ms.map V.ref++[.ref b]))):=(aS e2).trans (aS (xs:=ms.map V.ref) (by rw [ak yx.symm];exact e1));refine ⟨_,rfl,.inl ⟨rfl,_,SqL.of (by rw [ak yx,ab])⟩,_,rfl,b,x,rfl,a4.mono k1,fun r ks H3 s3 e3 a5=>?_⟩;refine ⟨r,_,rfl,SqT.of e3,fun l hl=>?_⟩;have l1:l≠ah:=fun z=>by rw [z,s3 ah _ (by rw [ak yx,ab])] at hl;cases hl
   have l2:l≠mt:=fun z=>by rw [z,s3 mt _ ab] at hl;cases hl
   refine ⟨ah,l,_,_,rfl,rfl,by rw [ak l1.symm];exact s3 ah _ (by rw [ak yx,ab]),SqT.of ab,XM (aH ?_),?_⟩
   · have q1:=a3.length;have q2:=a5.length;have q3:=bJ Us;have q4:=bJ x.kids;rw [Uc,VJ,Uc];omega
   · have k2:KT H2 (upd (upd H3 l (.tup (ks.map V.ref).reverse)) ah (.lst (yo.map V.ref++(ks.map V.ref).reverse))) :=
      k1.trans ((Same.kt s3).trans ((dM hl).trans (aS (xs:=yo.map V.ref) (by rw [ak l1.symm];exact s3 ah _ (by rw [ak yx,ab])))))
     have k3:KT H3 (upd (upd H3 l (.tup (ks.map V.ref).reverse)) ah (.lst (yo.map V.ref++(ks.map V.ref).reverse))) :=
      (dM hl).trans (aS (xs:=yo.map V.ref) (by rw [ak l1.symm];exact s3 ah _ (by rw [ak yx,ab])))
     refine ⟨aq (Us++x.kids.reverse),?_,ms++[b],yo++ks.reverse,Ms++[x],Us++x.kids.reverse,some (.ref b),rfl,?_,?_,?_,?_,?_,?_,rfl⟩
     · rw [bd,mX,hs];omega
     · have s4:L2.Same H (upd (upd H2 ah (.lst (yo.map V.ref))) mt (.lst (ms.map V.ref++[.ref b]))):=aw (aw sm Ab) Ay;have nl:H l=none:=s4.free (s3.free hl);exact aw (aw (s4.trans s3) nl) Ab
     · rw [ak yx.symm,ak l2.symm,s3 mt _ ab,Ux];rfl
     · rw [ab,Ux,Y0]
     · exact (a1.mono k2).append (.cons (a4.mono k2) .nil)
     · exact (a3.mono k2).append (a5.mono k3).reverse
     · rw [<- hw,Vo,VR,VR,Wl,iK];show Ms++([x]++(walks x.kids++walks Us.reverse))=Ms++walks (x::Us.reverse);rw [walks,x.walk_eq];rfl
 · have hz:as=[]:=by
    cases as with
    | nil=>rfl
    | cons y ys=>simp at c
   subst hz;have Dg:As=[]:=VB.mp a2.length.symm;subst Dg;refine ⟨_,rfl,k mt ms H2 sm Ay e1 ?_⟩;have Fb:Ms=t.walk:=by simpa [walks] using hw
   rw [<- Fb];exact a1
inductive kT (K:Ug) (vs:List V) (H:Hp) (Q:VK) (_E:XK):Prop
 | mk (a:Ui) (t:Th) (yp:vs=[.ref a]) (yq:AtK K H t a) (yz:t.size<=100000) (yF:t.tall<=100000) (yW:∀ (r:Ui) (as:List Ui) (H':Hp),L2.Same H H'->H r=none->H' r=some (.lst (as.map V.ref))->PsAtK K H' (t.pl []) as->Q (.ref r) H'):kT K vs H Q _E
def ss (K:Ug):Sp:=kT K
theorem gE:bp P w K mg base CX0 2 T.g_placed.f T.g_placed.d ["thing"] (ss K):=by
 refine T.g_placed.F.ok dz (fun vs H Q E h=>?_) (fun yl A outer s H vs Q E hr h=>?_)
 · obtain ⟨a,t,rfl,_⟩:=h;rfl
 obtain ⟨a,t,rfl,hA,hsz,yG,k⟩:=h
 refine ⟨_,(ae (au (i:=1) dz.nd rfl (UB rfl) (bo ac))
  (ae (au (i:=2) dz.nd rfl (UB rfl) (bo (aa (aI (aa (aI ac) (aa (pv 0) ac))) ac)))
  (ae (dA UW (aY (pv 2) (fun _=>rfl)) (ae (cO (jm Uw WY WX jd (pv 2)) (bz rfl (av (aj (i:=3) dz.nd rfl (Ym rfl)) (av (aj (i:=4) dz.nd rfl (UB rfl)) aX))))
  (ae (aQ (bL Uw UM UL aL (pv 1) (aa (aI (aa (pv 3) (aa (pv 4) ac))) ac)))
  (ae (fD (i:=5) (N:=[Um "number",Um "kid",Um "place"]) (js:=[none,none,some 3]) (g:=(lX K 2 (cR (aF 0) (cR (aF 1) l6)))) (tt:=bG) (te:=(ji (bm (tOp (kR K) (bn 2) (ji (bm (bn 0) dk))) (bm (bn 1) dk)))) dz.nd rfl (UB rfl) rfl (cB rfl (by decide +kernel) (by decide +kernel) rfl rfl rfl) (nQ rfl T.n_enumerate (pcF T.g_kids_of (ir T) hr (aa (pv 4) ac))) (fun _ _ _ _ _ _=>(bz rfl (av (aj (i:=0) uB rfl (UB rfl)) (av (aj (i:=1) uB rfl (UB rfl)) aX)))) (fY (bW aW (aR rfl) (bW aW (aR rfl) gx))) (fun _ _ _ _ _ _=>bM) (fun _ _ _ _ _ _=>(aI (aa (ax cM (pv 2) (aI (aa (pv 0) ac))) (aa (pv 1) ac)))))
  (ag (aQ (bL Uw Xe Xd gF (pv 2) (aa (qI uD (pv 5)) ac))))))))
  (ag (aE (pv 1)))))),?_⟩
 try dsimp only [yH,yh]
 refine ⟨ai (by show 0<=1000000;decide),fun mt Ay=>?_⟩;have s1:L2.Same H (upd H mt (.lst [])):=ad Ay _;have Fc:(upd H mt (.lst [])) mt=some (.lst []):=ab;generalize upd H mt (.lst [])=H1 at s1 Fc ⊢;refine ⟨ai (by show 0<=1000000;decide),fun p0 Ce=>?_⟩;refine ⟨_,rfl,ai (by show 2<=1000000;decide),fun p1 zT=>?_⟩;refine ⟨ai (by show 1<=1000000;decide),fun ah Am=>?_⟩;have s2:L2.Same H1 (upd (upd H1 p0 (.tup [])) p1 (.tup [.ref p0,.ref a])):=(ad Ce _).trans (ad zT _);have e1:(upd (upd H1 p0 (.tup [])) p1 (.tup [.ref p0,.ref a])) p1=some (.tup [.ref p0,.ref a]):=ab;have e0:(upd (upd H1 p0 (.tup [])) p1 (.tup [.ref p0,.ref a])) p0=some (.tup []):=ad zT _ _ _ ab;generalize (upd (upd H1 p0 (.tup [])) p1 (.tup [.ref p0,.ref a]))=H2 at s2 e1 e0 Am ⊢;have Bj:H1 ah=none:=s2.free Am;have Ab:H ah=none:=s1.free Bj;have yx:ah≠mt:=fun z=>by rw [z,Fc] at Bj;cases Bj
 refine ⟨fun m σ H3=>Ex7 fun (ms as:List Ui) (Ms As:List (List Int×Th)) (c3 c4 c5:Option V)=>An9 (σ=[some (.ref a),some (.ref mt),some (.ref ah),c3,c4,c5]) (L2.Same H H3) (H3 mt=some (.lst (ms.map V.ref))) (H3 ah=some (.lst (as.map V.ref))) (PsAtK K H3 Ms ms) (PsAtK K H3 As as) (Ms++plP As.reverse=t.pl []) ((∀ p∈As,p.1.length+p.2.tall<=100000)) (m=szP As),⟨_,[],[p1],[],[([],t)],none,none,none,rfl,?_,?_,?_,.nil,.cons ⟨p0,a,?_,?_,?_⟩ .nil,?_,?_,rfl⟩,?_⟩
 · exact aw (s1.trans s2) Ab
 · rw [ak yx.symm];exact s2 _ _ Fc
 · rw [ab];rfl
 · exact ad Am _ _ _ e1
 · exact ad Am _ _ _ e0
 · exact hA.mono (Same.kt (aw (s1.trans s2) Ab))
 · simp [plP]
 · intro p hp;rw [UP] at hp;subst hp;simpa using yG
 rintro m σ H3 ⟨ms,as,Ms,As,c3,c4,c5,rfl,sm,em,ea,a1,a2,hw,hb,rfl⟩
 have hlen:ms.length+szP As<=100000:=by
  have h1:=congrArg Xc hw;rw [UE,qE,Th.pl_len,jZ] at h1;have h2:=Uv a1;omega
 refine ⟨_,rfl,_,.inl ⟨_,SqL.of ea,rfl⟩,?_⟩;refine cX (fun c=>?_) (fun c=>?_)
 · refine ⟨fun yd H'=>∃ m',m'<szP As/\Ex7 fun (ms as:List Ui) (Ms As:List (List Int×Th)) (c3 c4 c5:Option V)=>An9 (yd=[some (.ref a),some (.ref mt),some (.ref ah),c3,c4,c5]) (L2.Same H H') (H' mt=some (.lst (ms.map V.ref))) (H' ah=some (.lst (as.map V.ref))) (PsAtK K H' Ms ms) (PsAtK K H' As as) (Ms++plP As.reverse=t.pl []) ((∀ p∈As,p.1.length+p.2.tall<=100000)) (m'=szP As),fun yd H' h=>h,?_⟩;have zf:as≠[]:=by intro z;subst z;simp at c
   refine hid fun ZZ kZ=>?_;obtain ⟨yo,b,rfl⟩:∃ yo b,as=yo++[b]:=⟨as.dropLast,as.getLast zf,(Wj zf).symm⟩;obtain ⟨Us,⟨pre,x⟩,rfl,a3,pa,ta,eb,zV,An⟩:=P2.snoc_inv a2;refine kZ ?_;have Dy:szP (Us++[(pre,x)])=szP Us+x.size:=by rw [cF,szP,szP];rfl
   have HA:=x.size_eq;rw [Dy] at hlen;have JO:=hb (pre,x) (by simp);simp only at JO zV An;refine ⟨_,rfl,.inl ⟨rfl,_,SqL.of ea⟩,ah,_,.ref b,rfl,rfl,ea,by simp,?_⟩;have d1:((yo++[b]).map V.ref).dropLast=yo.map V.ref:=by simp
   rw [d1];have k1:KT H3 (upd H3 ah (.lst (yo.map V.ref))):=aS ea;have Cf:L2.Same H (upd H3 ah (.lst (yo.map V.ref))):=aw sm Ab;have BD:(upd H3 ah (.lst (yo.map V.ref))) mt=some (.lst (ms.map V.ref)):=by rw [ak yx.symm];exact em
   have Fd:(upd H3 ah (.lst (yo.map V.ref))) ah=some (.lst (yo.map V.ref)):=ab;generalize (upd H3 ah (.lst (yo.map V.ref)))=H4 at k1 Cf BD Fd ⊢;refine ⟨b,_,rfl,SqT.of (k1 _ _ eb),rfl,_,_,rfl,_,_,rfl,rfl,?_⟩
   -- met.append((place,part))
   refine ⟨_,rfl,.inl ⟨rfl,_,SqL.of BD⟩,_,rfl,_,rfl,ai (by show 2<=1000000;decide),fun pr zX=>?_⟩;have Lq:mt≠pr:=aJ BD zX;refine ⟨mt,_,_,rfl,rfl,ad zX _ _ _ BD,aH (by rw [Uc];omega),?_⟩;have Lr:(upd H4 pr (.tup [.ref pa,.ref ta])) mt=some (.lst (ms.map V.ref)):=ad zX _ _ _ BD;have k2:KT H4 (upd (upd H4 pr (.tup [.ref pa,.ref ta])) mt (.lst (ms.map V.ref++[.ref pr]))):=(dM zX).trans (aS Lr);have Lu:L2.Same H (upd (upd H4 pr (.tup [.ref pa,.ref ta])) mt (.lst (ms.map V.ref++[.ref pr]))):=aw (aw Cf (Cf.free zX)) Ay;have Ot:(upd (upd H4 pr (.tup [.ref pa,.ref ta])) mt (.lst (ms.map V.ref++[.ref pr]))) mt=some (.lst ((ms++[pr]).map V.ref)):=by rw [ab,Ux];rfl
   have F':(upd (upd H4 pr (.tup [.ref pa,.ref ta])) mt (.lst (ms.map V.ref++[.ref pr]))) ah=some (.lst (yo.map V.ref)):=by rw [ak yx,ak (aJ Fd zX)];exact Fd
   have CP:(upd (upd H4 pr (.tup [.ref pa,.ref ta])) mt (.lst (ms.map V.ref++[.ref pr]))) pr=some (.tup [.ref pa,.ref ta]):=by rw [ak Lq.symm,ab]
   generalize (upd (upd H4 pr (.tup [.ref pa,.ref ta])) mt (.lst (ms.map V.ref++[.ref pr])))=H5 at k2 Lu Ot F' CP ⊢;have Ga:KT H3 H5:=k1.trans k2;have Lw:=Ga _ _ zV
   -- kids
   refine ⟨_,rfl,ta,x,rfl,An.mono Ga,fun r ks H6 s6 er zW=>⟨r,rfl,⟨_,SqT.of er⟩,?_⟩⟩;have ze:ks.length=x.kids.length:=zW.length;have Ge:=bJ x.kids;intro D hD;have Lx:=s6 _ _ Lw;refine ⟨ks.length,fun j H7=>An3 (j<=ks.length) (L2.Same H6 H7) (Ex1 fun (bs:List Ui)=>An2 (H7 D=some (.lst (bs.map V.ref))) (PsAtK K H7 ((cQ pre 0 x.kids).take j) bs)),⟨UO _,ad hD _,[],ab,.nil⟩,?_⟩;rintro j H7 ⟨hj,s7,bs,eD,yA⟩;by_cases AV:j=ks.length
   · left;refine ⟨⟨_,SqT.of (s7 _ _ er),by rw [Uc];exact AV.symm⟩,?_⟩;have yi:(cQ pre 0 x.kids).take j=cQ pre 0 x.kids:=by rw [AV,ze,<- gh pre 0 x.kids,V9]
     rw [yi] at yA;have Ly:=s7 _ _ (s6 _ _ F');have HB:=s7 _ _ (s6 _ _ Ot)
     have zL:bs.length=x.kids.length:=by
      have:=Uv yA;rw [gh] at this;exact this.symm
     refine ⟨_,rfl,.inl ⟨rfl,_,SqL.of Ly⟩,_,rfl,D,_,rfl,SqL.of eD,fun l hl=>?_⟩;have BA:ah≠l:=aJ Ly hl;have CQ:mt≠l:=aJ HB hl;have HC:(upd H7 l (.lst (bs.map V.ref).reverse)) ah=some (.lst (yo.map V.ref)):=by rw [ak BA];exact Ly
     have q3:yo.length=Us.length:=(Uv a3).symm;have q4:=nZ Us;refine ⟨ah,l,_,_,rfl,rfl,HC,ab,ai ?_,?_⟩
     · rw [Uc,VJ,Uc];omega
     have k8:KT H7 (upd (upd H7 l (.lst (bs.map V.ref).reverse)) ah (.lst (yo.map V.ref++(bs.map V.ref).reverse))):=(dM hl).trans (aS HC);have Em:KT H3 (upd (upd H7 l (.lst (bs.map V.ref).reverse)) ah (.lst (yo.map V.ref++(bs.map V.ref).reverse))):=Ga.trans ((Same.kt (s6.trans s7)).trans k8);refine ⟨szP (Us++(cQ pre 0 x.kids).reverse),?_,ms++[pr],yo++bs.reverse,Ms++[(pre,x)],Us++(cQ pre 0 x.kids).reverse,_,_,_,rfl,?_,?_,?_,?_,?_,?_,?_,rfl⟩
     · rw [cF,jZ,iV,Dy];omega
     · exact aw (aw ((Lu.trans s6).trans s7) ((Lu.trans s6).trans s7 |>.free hl)) Ab
     · rw [ak yx.symm,ak CQ];exact HB
     · rw [ab,Ux,Y0]
     · exact P2.append (a1.mono Em) (.cons ⟨pa,ta,k8 _ _ (s7 _ _ (s6 _ _ CP)),Em _ _ zV,An.mono Em⟩ .nil)
     · exact P2.append (PsAtK.mono Em a3) (P2.reverse (PsAtK.mono k8 yA))
     · rw [<- hw,Vo,VR,VR,Wl,kc,oY];show Ms++([(pre,x)]++(pls pre 0 x.kids++plP Us.reverse))=Ms++plP ((pre,x)::Us.reverse);rw [plP,x.pl_eq pre];rfl
     · intro p hp;rcases Ve.mp hp with hp | hp
       · exact hb p (Vi _ hp)
       · obtain ⟨g1,g2⟩:=kH pre 0 x.kids p (List.mem_reverse.mp hp);have:=nM g2;omega
   · right;have yv:j<ks.length:=by omega
     refine ⟨yv,⟨_,.ref ks[j],SqT.of (s7 _ _ er),by rw [Uo,Ue yv];rfl⟩,?_⟩;rintro y H8 ⟨p,v,hp,rfl,rfl,hv⟩;have yK:=hv _ (SqT.of (s7 _ _ er));obtain ⟨kd,rfl,CS⟩:=aU yK;obtain ⟨tk,Af,Lz⟩:=zW.get CS;have s8:L2.Same H7 (upd H7 p (.tup [.int (j:Nat),.ref kd])):=ad hp _;refine ⟨p,_,rfl,SqT.of ab,rfl,_,_,rfl,_,_,rfl,rfl,?_⟩;generalize (upd H7 p (.tup [.int (j:Nat),.ref kd]))=H8 at s8 ⊢;refine ⟨_,rfl,_,rfl,ai (by show 1<=1000000;decide),fun n1 JP=>?_⟩;have s9:L2.Same H8 (upd H8 n1 (.tup [.int (j:Nat)])):=ad JP _;have e9:(upd H8 n1 (.tup [.int (j:Nat)])) n1=some (.tup [.int (j:Nat)]):=ab;generalize (upd H8 n1 (.tup [.int (j:Nat)]))=H9 at s9 e9 ⊢;refine j1 (s9 _ _ (s8 _ _ (s7 _ _ Lx))) e9 (by rw [Uc];show pre.length+1<=1000000;omega) fun n2 yZ yJ Fe=>?_;refine ⟨_,rfl,ai (by show 2<=1000000;decide),fun n3 En=>?_⟩;have zi:L2.Same H7 (upd yZ n3 (.tup [.ref n2,.ref kd])):=(s8.trans (s9.trans yJ)).trans (ad En _);have HE:=zi _ _ eD;refine ⟨_,HE,aH ?_,yv,?_,bs++[n3],?_,?_⟩
     · have:=Uv yA;rw [UQ] at this;rw [Uc];omega
     · exact aw (s7.trans zi) hD
     · rw [ab,Ux];rfl
     · have JQ:KT (upd yZ n3 (.tup [.ref n2,.ref kd])) (upd (upd yZ n3 (.tup [.ref n2,.ref kd])) D (.lst (bs.map V.ref++[.ref n3]))):=aS HE;rw [Vs,kq pre 0 x.kids j tk Af];refine P2.append (PsAtK.mono ((Same.kt zi).trans JQ) yA) (.cons ⟨n2,kd,JQ _ _ ab,JQ _ _ (ad En _ _ _ ?_),?_⟩ .nil)
       · rw [Fe,Ux,VZ];rfl
       · exact Lz.mono ((Same.kt (s7.trans zi)).trans JQ)
 · have hz:as=[]:=by
    cases as with
    | nil=>rfl
    | cons y ys=>simp at c
   subst hz;have Dg:As=[]:=VB.mp (Uv a2);subst Dg;refine ⟨_,rfl,k mt ms H3 sm Ay em ?_⟩;have Fb:Ms=t.pl []:=by simpa [plP] using hw
   rw [<- Fb];exact a1
inductive mY (K:Ug) (vs:List V) (H:Hp) (Q:VK) (_E:XK):Prop
 | mk (l:Ui) (as:List Ui) (tops:List Top) (u:Th) (yp:vs=[.ref l]) (yq:H l=some (.lst (as.map V.ref))) (yz:UX (TopAtK K H) tops as) (yF:tops.length<=100000) (yW:TopsOk tops) (Aa:(∀ t,Top.th t∈tops->t.size<=100000)) (Cc:bl tops=[u]) (Cw:∀ (r:Ui) (H':Hp),L2.Same H H'->AtK K H' u r->Q (.ref r) H'):mY K vs H Q _E
def t6 (K:Ug):Sp:=mY K
theorem lr:bp P w K mg base CX0 1 T.g_built.f T.g_built.d ["tops"] (t6 K):=by
 refine T.g_built.F.ok jb (fun vs H Q E h=>?_) (fun yl A outer s H vs Q E hr h=>?_)
 · obtain ⟨l,as,tops,u,rfl,_⟩:=h;rfl
 obtain ⟨l,as,tops,u,rfl,el,hT,hlen,hok,LA,hu,k⟩:=h
 refine ⟨_,(ae (au (i:=1) jb.nd rfl (Ym rfl) (bo ac))
  (ae (bx UW rfl (ww rfl T.n_reversed (pv 0)) (bz rfl (av (aj (i:=2) jb.nd rfl (UB rfl)) (av (aj (i:=3) jb.nd rfl (UB rfl)) aX))) (ag (bI (aK mB (pv 3) af (aO _)) (ag (aQ (bL Uw UM UL aL (pv 1) (aa (ax cM (pv 2) (cy bV rfl T.n_tuple VI (aa (cf (N:=[Um "number",Um "done"]) (js:=[none,some 1]) (g:=(aF 0)) (tt:=bG) (te:=(wG K "list" (xf) (bn 1))) rfl (cB rfl (by decide +kernel) (by decide +kernel) rfl rfl rfl) (bC rfl T.n_range (aa (pv 3) ac)) (fun _ _ _ _ _ _=>(aj (i:=0) xN rfl (UB rfl))) (aR rfl) (fun _ _ _ _ _ _=>bM) (fun _ _ _ _ _ _=>(jm Uw WY WX jd (pv 1)))) ac))) ac)))) (ag (aQ (bL Uw UM UL aL (pv 1) (aa (pv 2) ac)))))))
  (ag (aE (ay aP (pv 1) af (fun _ _=>rfl)))))),?_⟩
 try dsimp only [yH,yh]
 have zS:tops.length=as.length:=Uv hT;refine ⟨ai (by show 0<=1000000;decide),fun dn JR=>?_⟩;refine ⟨_,rfl,l,_,rfl,SqL.of (ad JR _ _ _ el),?_⟩
 refine uF (K:=K) (a:=l) (xs:=as.map V.ref) (fun i σ H2=>Ex3 fun c2 c3 ds=>An4 (σ=[some (.ref l),some (.ref dn),c2,c3]) (L2.Same H H2) (H2 dn=some (.lst (ds.map V.ref))) (AtsK K H2 (bl (tops.drop (tops.length - i))).reverse ds))
  ⟨none,none,[],rfl,ad JR _,ab,by rw [ZJ,List.drop_length];exact .nil⟩ (fun i σ H2 _ ⟨_,_,_,_,s2,_,_⟩=>SqL.of (s2 _ _ el)) ?_ ?_
 · rintro i y σ H2 hi hy ⟨c2,c3,ds,rfl,s2,Dz,Ar⟩;rw [Uc,<- zS] at hi hy;obtain ⟨pr,rfl,zX⟩:=aU hy;obtain ⟨x,hx,LB⟩:=P2.get' hT zX;have Ou:=LB.mono (Same.kt s2);have hn:tops.length - 1 - i<tops.length:=by omega
   have Eo:tops.drop (tops.length - 1 - i)=x::tops.drop (tops.length - i):=by
    rw [XQ hn,show tops.length - 1 - i+1=tops.length - i by omega];congr 1;rw [Ue hn] at hx;exact UR hx
   have DA:=hok.drop (tops.length - 1 - i);rw [Eo] at DA;have Ep:tops.length - (i+1)=tops.length - 1 - i:=by omega
   have K6:(bl (tops.drop (tops.length - i))).length<=100000:=by
    have:=pO (tops.drop (tops.length - i));rw [VG] at this;omega
   generalize tops.drop (tops.length - i)=S at Eo Ar DA K6;refine hid fun ZZ kZ=>?_
   obtain ⟨ta,m,xs,CP,eta,hm,S',zB⟩:∃ (ta:Ui) (m:Nat) (xs:List V),H2 pr=some (.tup [.ref ta,.int (m:Nat)])/\TK K H2 ta xs/\m<=(bl S).length/\xs.length<=200000/\∀ (H':Hp) (p:Ui) (ks:List Ui),KT H2 H'->AtsK K H' ((bl S).take m) ks->TK K H' p (xs++ks.map V.ref)->∃ u',bl (x::S)=u'::(bl S).drop m/\AtK K H' u' p:=by
    cases x with
    | nm n m =>
      rw [TopsOk] at DA;obtain ⟨ta,h1,h2,h3⟩:=Ou;refine ⟨ta,m,_,h1,h3,DA.1,(by show 1<=200000;decide),fun H' p ks kt hk hp=>⟨_,by rw [bl],?_⟩⟩;rw [AtK];exact ⟨h2,ks,hp,hk⟩
    | th t =>
      obtain ⟨ta,h1,h2⟩:=Ou;obtain ⟨xs,h3,hw,h4⟩:=h2.whole;have zM:=LA t (Uh hx);refine ⟨ta,0,_,h1,h3,UO _,by omega,fun H' p ks kt hk hp=>⟨t,by rw [bl,WE],?_⟩⟩;rw [WV,AtsK] at hk;subst hk;rw [Wq,U6] at hp;exact h4 _ _ kt hp
   refine kZ ?_;refine ⟨pr,_,rfl,SqT.of CP,rfl,_,_,rfl,_,_,rfl,rfl,?_⟩;have LC:=Ar.length;rw [VJ] at LC;refine cI (fun b H'=>An2 (H'=H2) (b=decide ((0:Int)<(m:Int)))) (fun kk Cg=>?_) (fun H' hb=>?_) (fun H' hb=>?_)
   · exact ⟨_,rfl,_,_,rfl,rfl,_,rfl,Cg _ _ ⟨rfl,rfl⟩⟩
   rotate_left
   · obtain ⟨rfl,hb⟩:=hb
     have QR:m=0:=by
      have:=of_decide_eq_false hb.symm;omega
     subst QR;obtain ⟨u',zA,zY⟩:=zB H' ta [] (Same.kt (.refl _)) (by rw [WV];exact .nil) (by rw [Wq,U6];exact eta);refine ⟨_,rfl,.inl ⟨rfl,_,SqL.of Dz⟩,_,rfl,dn,_,_,rfl,rfl,Dz,aH (by rw [Uc];omega),?_⟩;have k6:KT H' (upd H' dn (.lst (ds.map V.ref++[.ref ta]))):=aS Dz;refine ⟨_,_,ds++[ta],rfl,?_,by rw [ab,Ux];rfl,?_⟩
     · intro b o e;rw [ak (aJ e JR)];exact s2 b o e
     · rw [Ep,Eo,zA,Vu];rw [WE];exact (Ar.mono k6).append (.cons (zY.mono k6) .nil)
   obtain ⟨rfl,hb⟩:=hb;refine ⟨_,rfl,.inl ⟨rfl,_,SqL.of Dz⟩,_,rfl,?_⟩;refine ⟨_,rfl,(m:Int),rfl,by omega,by omega,fun D hD=>?_⟩;have LD:D≠dn:=fun z=>by rw [z,Dz] at hD;cases hD
   have Ay:((m:Nat):Int).toNat=m:=Vh m
   refine ⟨m,fun j H3=>An3 (j<=m) ((∀ b o,H' b=some o->b≠dn->H3 b=some o)) (Ex2 fun (DB ks:List Ui)=>An4 (H3 dn=some (.lst (DB.map V.ref))) (H3 D=some (.lst (ks.map V.ref))) (AtsK K H3 ((bl S).drop j).reverse DB) (AtsK K H3 ((bl S).take j) ks)),
    ⟨UO _,fun b o e hb=>?_,ds,[],?_,?_,?_,?_⟩,?_⟩
   · rw [ak (aJ e hD)];exact e
   · rw [ak LD.symm];exact Dz
   · rw [ab];rfl
   · rw [WE];exact Ar.mono (dM hD)
   · rw [WV];exact .nil
   rintro j H3 ⟨hj,kp,DB,ks,ed,eD,Ff,hd2⟩;by_cases Ov:j=m
   · left;refine ⟨(by show ((m:Nat):Int).toNat<=j;rw [Ay,Ov];exact Uj _),?_⟩;subst Ov;have HF:KT H' H3:=fun b Ta e=>kp b _ e (fP e Dz (by intro z;cases z));refine ⟨D,_,rfl,.inl ⟨SqL.of eD,fun tp DC=>?_⟩⟩;have s4:L2.Same H3 (upd H3 tp (.tup (ks.map V.ref))):=ad DC _;have e4:(upd H3 tp (.tup (ks.map V.ref))) tp=some (.tup (ks.map V.ref)):=ab;generalize (upd H3 tp (.tup (ks.map V.ref)))=H4 at s4 e4 ⊢;have ze:=hd2.length;refine xF ((eta.mono HF).mono (Same.kt s4)) (.of e4) (by rw [Uc,ze,UQ];omega) fun p H5 s5 e5=>?_;have DD:=s4.trans s5;have Ow:=DD _ _ ed;have DE:=HF.trans (Same.kt DD);obtain ⟨u',zA,zY⟩:=zB H5 p ks DE (hd2.mono (Same.kt DD)) e5;have Bh:=Ff.length;rw [VJ,VG] at Bh;refine ⟨dn,_,_,rfl,rfl,Ow,aH (by rw [Uc];omega),?_⟩;have k6:KT H5 (upd H5 dn (.lst (DB.map V.ref++[.ref p]))):=aS Ow;refine ⟨_,_,DB++[p],rfl,?_,by rw [ab,Ux];rfl,?_⟩
     · intro b o e;have hb:b≠dn:=aJ e JR;rw [ak hb];exact DD _ _ (kp b o (s2 b o e) hb)
     · rw [Ep,Eo,zA,Vu];exact (Ff.mono ((Same.kt DD).trans k6)).append (.cons (zY.mono k6) .nil)
   · right;have yv:j<m:=by omega
     refine ⟨yv,(by show j<((m:Nat):Int).toNat;rw [Ay];exact yv),?_⟩;rintro x' H4 ⟨e1,e2⟩;have Au:H4=H3:=e1;subst Au;have Ox:j<(bl S).length:=by omega
     have QS:(bl S).drop j=(bl S)[j]::(bl S).drop (j+1):=XQ Ox;rw [QS,Vu] at Ff
     have yx:DB≠[]:=by
      intro z;subst z;have:=Ff.length;rw [UE] at this;simp at this
     refine hid fun ZZ kZ=>?_;obtain ⟨Fg,b,rfl⟩:∃ Fg b,DB=Fg++[b]:=⟨DB.dropLast,DB.getLast yx,(Wj yx).symm⟩;obtain ⟨Us,x2,e3,hU,yC⟩:=Ff.snoc_inv;have e4:=List.append_inj' e3 rfl;obtain ⟨e5,e6⟩:=e4;refine kZ ?_;cases e6;subst e5;refine ⟨_,rfl,.inl ⟨rfl,_,SqL.of ed⟩,dn,_,.ref b,rfl,rfl,ed,by simp,?_⟩;have d1:((Fg++[b]).map V.ref).dropLast=Fg.map V.ref:=by simp
     rw [d1];have JS:(upd H4 dn (.lst (Fg.map V.ref))) D=some (.lst (ks.map V.ref)):=by rw [ak LD];exact eD
     have k5:KT H4 (upd (upd H4 dn (.lst (Fg.map V.ref))) D (.lst (ks.map V.ref++[.ref b]))):=(aS ed).trans (aS JS);refine ⟨_,JS,aH (by rw [Uc,hd2.length,UQ];omega),yv,fun b' o e zM=>?_,Fg,ks++[b],?_,?_,hU.mono k5,?_⟩
     · rw [ak (aJ e hD),ak zM];exact kp b' o e zM
     · rw [ak LD.symm,ab]
     · rw [ab,Ux];rfl
     · rw [Vs,Ue Ox];exact (hd2.mono k5).append (.cons (yC.mono k5) .nil)
 · rintro σ H2 ⟨c2,c3,ds,rfl,s2,Dz,Ar⟩;rw [Uc,<- zS,ZK,WE,hu] at Ar;have HG:AtsK K H2 [u] ds:=Ar;rw [AtsK] at HG;obtain ⟨b,r,rfl,hb,E8⟩:=HG;exact ⟨_,rfl,dn,_,0,.ref b,rfl,rfl,SqL.of Dz,at0,k b H2 s2 hb⟩
inductive kU (K:Ug) (vs:List V) (H:Hp) (Q:VK) (_E:XK):Prop
 | mk (a:Ui) (t:Th) (yp:vs=[.ref a]) (yq:AtK K H t a) (yz:t.size<=100000) (yF:t.tall<=100000) (yW:∀ (r:Ui) (ps:List Ui) (H':Hp),L2.Same H H'->H r=none->H' r=some (.lst (ps.map V.ref))->UX (fun (p:List Int×Th) b=>H' b=some (.tup (p.1.map V.int))) (t.pl []) ps->Q (.ref r) H'):kU K vs H Q _E
def rS (K:Ug):Sp:=kU K
theorem sB:bp P w K mg base CX0 3 T.g_places.f T.g_places.d ["tree"] (rS K):=by
 refine T.g_places.F.ok sy (fun vs H Q E h=>?_) (fun yl A outer s H vs Q E hr h=>?_)
 · obtain ⟨a,t,rfl,_⟩:=h;rfl
 obtain ⟨a,t,rfl,hA,hsz,yG,k⟩:=h;refine ⟨_,(ag (aE (cf (N:=[Um "place",Um "knot"]) (js:=[none,none]) (g:=(lX K 2 (cR (aF 0) (cR (aF 1) l6)))) (tt:=bG) (te:=(bn 0)) rfl (cB rfl (by decide +kernel) (by decide +kernel) rfl rfl rfl) (cz (pcF T.g_placed (gE T) hr (aa (pv 0) ac))) (fun _ _ _ _ _ _=>(bz rfl (av (aj (i:=0) wU rfl (UB rfl)) (av (aj (i:=1) wU rfl (UB rfl)) aX)))) (fY (bW aW (aR rfl) (bW aW (aR rfl) gx))) (fun _ _ _ _ _ _=>bM) (fun _ _ _ _ _ _=>(pv 0))))),?_⟩
 try dsimp only [yH,yh]
 refine ⟨_,rfl,a,t,rfl,hA,hsz,yG,fun r as H1 s1 nr er yT=>⟨r,rfl,⟨_,SqL.of er⟩,?_⟩⟩;have zS:(t.pl []).length=as.length:=Uv yT;rw [Th.pl_len] at zS;refine hid fun ZZ kZ=>?_;obtain ⟨bs,Dh,yC,QT⟩:=mQ yT;refine kZ ?_;refine gU bs (fun _=>true) V.ref (SqL.of er) (by rw [Uc];exact yC) (by rw [Uc];omega) (fun i x z H2 R R0 hx hz sm g1 g2=>?_) (fun D hD=>?_)
 · obtain ⟨a',ta,rfl,ea⟩:=QT i x z hx hz;refine ⟨a',_,rfl,SqT.of (sm _ _ ea),rfl,_,_,rfl,_,_,rfl,rfl,?_⟩;refine oZ (B:=R0 H2) ?_;exact ⟨_,rfl,g1 rfl⟩
 · rw [filter_tt];exact k D bs _ (s1.trans (ad hD _)) (s1.free hD) ab (P2.mp (fun _ _ e=>ad hD _ _ _ e) Dh)
inductive jL (K:Ug) (vs:List V) (H:Hp) (Q:VK) (_E:XK):Prop
 | mk (a:Ui) (t:Th) (yp:vs=[.ref a]) (yq:AtK K H t a) (yz:Q (.bl t.isCall) H):jL K vs H Q _E
def lw (K:Ug):Sp:=jL K
theorem iu:bp P w K mg base CX0 1 T.g_is_call.f T.g_is_call.d ["thing"] (lw K):=by
 refine T.g_is_call.F.ok ql (fun vs H Q E h=>?_) (fun yl A outer s H vs Q E hr h=>?_)
 · obtain ⟨a,t,rfl,_⟩:=h;rfl
 obtain ⟨a,t,rfl,hA,k⟩:=h;refine ⟨_,(ag (aE (i7 cG (ay aB (pv 0) af (fun _ _=>rfl)) (gN (v:=.str (Um "?")) rfl T.c_CALL_SIGN.choose_spec ⟨_,rfl⟩) (aO _)))),?_⟩
 try dsimp only [yH,yh]
 cases t with
 | knot n ks =>
   rw [AtK] at hA;refine hid fun ZZ kZ=>?_;obtain ⟨hn,as,h1,h2⟩:=hA;refine kZ ?_;refine ⟨_,rfl,a,_,0,.str n,rfl,rfl,h1.sq,at0,rfl,?_⟩;have e:decide (V.str n=V.str (Um "?"))=false:=decide_eq_false (fun z=>hn (V.str.inj z));rw [e];exact k
 | call sn kn =>
   rw [AtK] at hA;refine ⟨_,rfl,a,_,0,.str q,rfl,rfl,hA.sq,at0,rfl,?_⟩;have e:decide (V.str q=V.str (Um "?"))=true:=decide_eq_true rfl;rw [e];exact k
inductive jA (K:Ug) (vs:List V) (H:Hp) (Q:VK) (_E:XK):Prop
 | mk (a:Ui) (t:Th) (yp:vs=[.ref a]) (yq:AtK K H t a) (yz:t.tall<=150) (yF:Q (.bl t.isHole) H):jA K vs H Q _E
def lg (K:Ug):Sp:=jA K
theorem iD:bp P w K mg base CX0 1 T.g_is_hole.f T.g_is_hole.d ["thing"] (lg K):=by
 refine T.g_is_hole.F.ok qr (fun vs H Q E h=>?_) (fun yl A outer s H vs Q E hr h=>?_)
 · obtain ⟨a,t,rfl,_⟩:=h;rfl
 obtain ⟨a,t,rfl,hA,yG,k⟩:=h;refine ⟨_,(ag (aE (i7 (uQ (B:=150) (lb hr)) (pv 0) (gN (v:=.ref T.a_HOLE) rfl T.c_HOLE rfl) (aO _)))),?_⟩
 try dsimp only [yH,yh]
 refine ⟨_,rfl,?_⟩;exact uU hA (TK.const T.q_HOLE) yG k
inductive jB (K:Ug) (vs:List V) (H:Hp) (Q:VK) (_E:XK):Prop
 | mk (a:Ui) (t:Th) (yp:vs=[.ref a]) (yq:AtK K H t a) (yz:t.tall<=150) (yF:Q (.bl t.isKnot) H):jB K vs H Q _E
def pX (K:Ug):Sp:=jB K
theorem pM:bp P w K mg base CX0 2 T.g_is_knot.f T.g_is_knot.d ["thing"] (pX K):=by
 refine T.g_is_knot.F.ok qw (fun vs H Q E h=>?_) (fun yl A outer s H vs Q E hr h=>?_)
 · obtain ⟨a,t,rfl,_⟩:=h;rfl
 obtain ⟨a,t,rfl,hA,yG,k⟩:=h;refine ⟨_,(ag (aE (qk (tW (pcF T.g_is_call (iu T) hr (aa (pv 0) ac))) (tz (tW (pcF T.g_is_hole (iD T) hr (aa (pv 0) ac))))))),?_⟩
 try dsimp only [yH,yh]
 refine ⟨_,rfl,a,t,rfl,hA,_,rfl,_,rfl,?_⟩;refine cX (fun c=>?_) (fun c=>?_)
 · refine ⟨_,rfl,a,t,rfl,hA,yG,_,rfl,?_⟩;have e:t.isKnot=!t.isHole:=by unfold Th.isKnot;rw [c];rfl
   rw [e] at k;exact k
 · have e:t.isKnot=false:=by unfold Th.isKnot;rw [VT.mpr c];rfl
   rw [e] at k;exact k
inductive hG (K:Ug) (vs:List V) (H:Hp) (Q:VK) (_E:XK):Prop
 | mk (a:Ui) (sn kn:Int) (yp:vs=[.ref a]) (yq:AtK K H (.call sn kn) a) (yz:∀ p,H p=none->Q (.ref p) (upd H p (.tup [.int sn,.int kn]))):hG K vs H Q _E
def iY (K:Ug):Sp:=hG K
theorem iJ:bp P w K mg base CX0 1 T.g_called_by.f T.g_called_by.d ["call"] (iY K):=by
 refine T.g_called_by.F.ok og (fun vs H Q E h=>?_) (fun yl A outer s H vs Q E hr h=>?_)
 · obtain ⟨a,sn,kn,rfl,_⟩:=h;rfl
 obtain ⟨a,sn,kn,rfl,hA,k⟩:=h;refine ⟨_,(ag (aE (aI (aa (ay aB (pv 0) af (fun _ _=>rfl)) (aa (ay aB (pv 0) af (fun _ _=>rfl)) ac))))),?_⟩
 try dsimp only [yH,yh]
 rw [AtK] at hA;exact ⟨_,rfl,a,_,1,_,rfl,rfl,hA.sq,at1,_,rfl,a,_,2,_,rfl,rfl,hA.sq,at2,ai (by show 2<=1000000;decide),fun p hp=>k p hp⟩
inductive i0 (K:Ug) (vs:List V) (H:Hp) (Q:VK) (_E:XK):Prop
 | mk (a:Ui) (t:Th) (yp:vs=[.ref a]) (yq:AtK K H t a) (yz:t.size<=100000) (yF:t.tall<=100000) (yW:∀ (r:Ui) (as:List Ui) (H':Hp),L2.Same H H'->H r=none->H' r=some (.lst (as.map V.ref))->CsAt H' (callsOf (t.pl [])) as->Q (.ref r) H'):i0 K vs H Q _E
def pp (K:Ug):Sp:=i0 K
theorem o8:bp P w K mg base CX0 3 T.g_calls_in.f T.g_calls_in.d ["pattern"] (pp K):=by
 refine T.g_calls_in.F.ok oD (fun vs H Q E h=>?_) (fun yl A outer s H vs Q E hr h=>?_)
 · obtain ⟨a,t,rfl,_⟩:=h;rfl
 obtain ⟨a,t,rfl,hA,hsz,yG,k⟩:=h;refine ⟨_,(ag (aE (cf (N:=[Um "place",Um "part"]) (js:=[none,none]) (g:=(lX K 2 (cR (aF 0) (cR (aF 1) l6)))) (tt:=(fun σ H Q=>(fR (lw K) [] E0 (bm (bn 1) dk)) σ H fun x H1=>∃ k,uI K x H1 k/\Q k H1)) (te:=(ji (bm (bn 0) (bm (fR (iY K) [] E0 (bm (bn 1) dk)) dk)))) rfl (cB rfl (by decide +kernel) (by decide +kernel) rfl rfl rfl) (cz (pcF T.g_placed (gE T) hr (aa (pv 0) ac))) (fun _ _ _ _ _ _=>(bz rfl (av (aj (i:=0) uA rfl (UB rfl)) (av (aj (i:=1) uA rfl (UB rfl)) aX)))) (fY (bW aW (aR rfl) (bW aW (aR rfl) gx))) (fun _ _ _ _ _ _=>j0 (aY (pcF T.g_is_call (iu T) hr (aa (pv 1) ac)) (fun _=>rfl))) (fun _ _ _ _ _ _=>(aI (aa (pv 0) (aa (pcF T.g_called_by (iJ T) hr (aa (pv 1) ac)) ac))))))),?_⟩
 try dsimp only [yH,yh]
 refine ⟨_,rfl,a,t,rfl,hA,hsz,yG,fun r as H1 s1 nr er yT=>⟨r,rfl,⟨_,SqL.of er⟩,?_⟩⟩;have zS:(t.pl []).length=as.length:=Uv yT;have y8:=Th.pl_len [] t;intro D hD;refine ⟨as.length,fun j H2=>An3 (j<=as.length) (L2.Same H1 H2) (Ex1 fun (bs:List Ui)=>An2 (H2 D=some (.lst (bs.map V.ref))) (CsAt H2 (callsOf ((t.pl []).take j)) bs)),⟨UO _,ad hD _,[],ab,.nil⟩,?_⟩;rintro j H2 ⟨hj,s2,bs,eD,yA⟩;by_cases AV:j=as.length
 · left;refine ⟨⟨_,SqL.of (s2 _ _ er),by rw [Uc,AV];exact Uj _⟩,?_⟩;have yi:(t.pl []).take j=t.pl []:=by rw [AV,<- zS,V9]
   rw [yi] at yA;exact k D bs H2 (s1.trans s2) (s1.free hD) eD yA
 · right;have yv:j<as.length:=by omega
   refine ⟨yv,⟨_,.ref as[j],SqL.of (s2 _ _ er),by rw [Uo,Ue yv];rfl⟩,?_⟩;rintro y H3 ⟨rfl,hv⟩;have yK:=hv _ (SqL.of (s2 _ _ er));refine hid fun ZZ kZ=>?_;obtain ⟨pr,rfl,zX⟩:=aU yK;obtain ⟨⟨p,u⟩,QU,pa,ta,e1,e2,e3⟩:=P2.get' (yT.mono (Same.kt s2)) zX;refine kZ ?_;simp only at e2 e3;have Af:(t.pl []).take (j+1)=(t.pl []).take j++[(p,u)]:=by rw [Vs,QU];rfl
   have zL:bs.length<=j:=by
    have g1:=Uv yA;have g2:=jM ((t.pl []).take j);rw [UQ] at g2;omega
   refine ⟨pr,_,rfl,SqT.of e1,rfl,_,_,rfl,_,_,rfl,rfl,?_⟩;refine ⟨_,rfl,ta,u,rfl,e3,_,rfl,?_⟩;cases u with
   | knot n ks =>
     refine cP ⟨yv,s2,bs,eD,?_⟩;rw [Af,dE];show CsAt H3 (callsOf ((t.pl []).take j)++[]) bs;rw [U6];exact yA
   | call sn kn =>
     refine oZ ?_;refine ⟨_,rfl,_,rfl,ta,sn,kn,rfl,e3,fun ca HH=>⟨ai (by show 2<=1000000;decide),fun n3 En=>?_⟩⟩;have s4:L2.Same H3 (upd (upd H3 ca (.tup [.int sn,.int kn])) n3 (.tup [.ref pa,.ref ca])):=(ad HH _).trans (ad En _);have HI:=s4 _ _ eD;refine ⟨_,HI,aH (by rw [Uc];omega),yv,aw (s2.trans s4) hD,bs++[n3],?_,?_⟩
     · rw [ab,Ux];rfl
     · have k5:KT (upd (upd H3 ca (.tup [.int sn,.int kn])) n3 (.tup [.ref pa,.ref ca])) (upd (upd (upd H3 ca (.tup [.int sn,.int kn])) n3 (.tup [.ref pa,.ref ca])) D (.lst (bs.map V.ref++[.ref n3]))):=aS HI;rw [Af,dE];exact P2.append (CsAt.mono ((Same.kt s4).trans k5) yA) (.cons ⟨pa,ca,k5 _ _ ab,k5 _ _ (s4 _ _ e2),k5 _ _ (ad En _ _ _ ab)⟩ .nil)
inductive i4 (K:Ug) (vs:List V) (H:Hp) (Q:VK) (_E:XK):Prop
 | mk (a:Ui) (t:Th) (yp:vs=[.ref a]) (yq:AtK K H t a) (yz:t.size<=100000) (yF:t.tall<=150) (yW:∀ (r:Ui) (ps:List Ui) (H':Hp),L2.Same H H'->H' r=some (.lst (ps.map V.ref))->UX (fun (p:List Int) b=>H' b=some (.tup (p.map V.int))) (((t.pl []).filter fun p=>p.2.isHole).map (·.1)) ps->Q (.ref r) H'):i4 K vs H Q _E
def pC (K:Ug):Sp:=i4 K
theorem jG:bp P w K mg base CX0 3 T.g_holes_in.f T.g_holes_in.d ["front"] (pC K):=by
 refine T.g_holes_in.F.ok oC (fun vs H Q E h=>?_) (fun yl A outer s H vs Q E hr h=>?_)
 · obtain ⟨a,t,rfl,_⟩:=h;rfl
 obtain ⟨a,t,rfl,hA,hsz,yG,k⟩:=h;refine ⟨_,(ag (aE (cf (N:=[Um "place",Um "part"]) (js:=[none,none]) (g:=(lX K 2 (cR (aF 0) (cR (aF 1) l6)))) (tt:=(fun σ H Q=>(fR (lg K) [] E0 (bm (bn 1) dk)) σ H fun x H1=>∃ k,uI K x H1 k/\Q k H1)) (te:=(bn 0)) rfl (cB rfl (by decide +kernel) (by decide +kernel) rfl rfl rfl) (cz (pcF T.g_placed (gE T) hr (aa (pv 0) ac))) (fun _ _ _ _ _ _=>(bz rfl (av (aj (i:=0) uA rfl (UB rfl)) (av (aj (i:=1) uA rfl (UB rfl)) aX)))) (fY (bW aW (aR rfl) (bW aW (aR rfl) gx))) (fun _ _ _ _ _ _=>j0 (aY (pcF T.g_is_hole (iD T) hr (aa (pv 1) ac)) (fun _=>rfl))) (fun _ _ _ _ _ _=>(pv 0))))),?_⟩
 try dsimp only [yH,yh]
 refine ⟨_,rfl,a,t,rfl,hA,hsz,by omega,fun r as H1 s1 nr er yT=>⟨r,rfl,⟨_,SqL.of er⟩,?_⟩⟩;have zS:(t.pl []).length=as.length:=Uv yT;have y8:=Th.pl_len [] t;obtain ⟨bs,Dh,yC⟩:=pick (G:=fun (p:List Int×Th) a b=>∃ ta,H1 a=some (.tup [.ref b,.ref ta])/\H1 b=some (.tup (p.1.map V.int))/\AtK K H1 p.2 ta) (fun p a ⟨pa,ta,h1,h2,h3⟩=>⟨pa,ta,h1,h2,h3⟩) yT;refine gU ((t.pl []).zip bs) (fun z=>z.1.2.isHole) (fun z=>V.ref z.2) (SqL.of er) (by rw [Uc,WH];omega) (by rw [Uc];omega) (fun i x z H2 R R0 hx hz sm g1 g2=>?_) (fun D hD=>?_)
 · rw [VX] at hz;refine hid fun ZZ kZ=>?_;obtain ⟨a',rfl,BM⟩:=aU hx;obtain ⟨ta,f1,f2,f3⟩:=yC i _ _ _ hz.1 BM hz.2;obtain ⟨_,_,_,Tb,_⟩:=tH t [] z.1.1 z.1.2 (Uh hz.1);refine kZ ?_;refine ⟨a',_,rfl,SqT.of (sm _ _ f1),rfl,_,_,rfl,_,_,rfl,rfl,?_⟩;refine ⟨_,rfl,ta,z.1.2,rfl,f3.mono (Same.kt sm),by omega,_,rfl,?_⟩;refine cX (fun c=>?_) (fun c=>?_)
   · exact ⟨_,rfl,g1 c⟩
   · exact g2 (VT.mpr c)
 · refine k D ((((t.pl []).zip bs).filter fun z=>z.1.2.isHole).map (·.2)) _ (s1.trans (ad hD _)) (by rw [ab,Wi];rfl) ?_;refine P2.mapl (·.1) (qT (xs:=t.pl []) (cs:=bs) (fun p:List Int×Th=>p.2.isHole) (by omega) fun i x c e1 e2=>?_);refine hid fun ZZ kZ=>?_;obtain ⟨a',BM⟩:∃ a',as[i]?=some a':=⟨_,Ue (by have:=(Uk.mp e2).1;omega)⟩;obtain ⟨ta,f1,f2,f3⟩:=yC i _ _ _ e1 BM e2;refine kZ ?_;exact ad hD _ _ _ f2
inductive kP (K:Ug) (vs:List V) (H:Hp) (Q:VK) (_E:XK):Prop
 | mk (a:Ui) (n:US) (ks:List Th) (yp:vs=[.ref a]) (yq:AtK K H (.knot n ks) a) (yz:∀ (r:Ui) (H':Hp),L2.Same H H'->TopAtK K H' (.nm n ks.length) r->Q (.ref r) H'):kP K vs H Q _E
def r8 (K:Ug):Sp:=kP K
theorem mo:bp P w K mg base CX0 2 T.g_top_of.f T.g_top_of.d ["part"] (r8 K):=by
 refine T.g_top_of.F.ok mC (fun vs H Q E h=>?_) (fun yl A outer s H vs Q E hr h=>?_)
 · obtain ⟨a,n,ks,rfl,_⟩:=h;rfl
 obtain ⟨a,n,ks,rfl,hA,k⟩:=h
 refine ⟨_,(ae (au (i:=1) mC.nd rfl (UB rfl) (az ao rfl T.n_len UT (aa (pcF T.g_kids_of (ir T) hr (aa (pv 0) ac)) ac)))
  (ag (aE (aI (aa (bj re (pv 0) bR (bA (ax f9 (az ao rfl T.n_len UT (aa (pv 0) ac)) (pv 1)))) (aa (pv 1) ac)))))),?_⟩
 try dsimp only [yH,yh]
 refine ⟨_,rfl,a,.knot n ks,rfl,hA,fun r as H1 s1 er zW=>⟨r,_,rfl,.inr (SqT.of er),?_⟩⟩;rw [AtK] at hA;refine hid fun ZZ kZ=>?_;obtain ⟨hn,ka,ea,yY⟩:=hA;refine kZ ?_;have ze:ka.length=ks.length:=yY.length;have zS:as.length=ks.length:=zW.length;refine ⟨_,rfl,_,rfl,a,_,rfl,.inr ((ea.mono (Same.kt s1)).sq),_,rfl,_,_,rfl,rfl,_,rfl,a,_,rfl,ea.mono (Same.kt s1),fun p H2 s2 e2=>?_⟩
 have e1:((V.str n::ka.map V.ref).length:Int) - ((as.map V.ref).length:Int)=1:=by
  rw [Ut,Uc,Uc,ze,zS];omega
 have e3:TK K H2 p [.str n]:=by
  have Au:TK K H2 p (du (V.str n::ka.map V.ref) none (some (((V.str n::ka.map V.ref).length:Int) - ((as.map V.ref).length:Int)))):=e2;rw [e1,qK] at Au;exact Au
 refine ⟨_,rfl,ai (by show 2<=1000000;decide),fun l hl=>?_⟩;refine k l _ (s1.trans (s2.trans (ad hl _))) ⟨p,?_,hn,e3.mono (dM hl)⟩;rw [ab,Uc,zS]
inductive ll (K:Ug) (vs:List V) (H:Hp) (Q:VK) (_E:XK):Prop
 | mk (a ta:Ui) (t:Th) (f:Int->Int->Th) (f':List (List Key×V)) (yp:vs=[.ref a,.ref ta]) (yq:AtK K H t a) (yz:t.size<=100000) (yF:Rd H ta (.dT f')) (yW:(∀ s k,Th.call s k∈t.walk->∃ v,aV f' [U4 s,U4 k]=some (.ref v)/\AtK K H (f s k) v/\(f s k).size<=100000)) (Aa:∀ (r:Ui) (H':Hp),L2.Same H H'->AtK K H' (t.fill f) r->Q (.ref r) H'):ll K vs H Q _E
def sL (K:Ug):Sp:=ll K
theorem sI:bp P w K mg base CX0 3 T.g_filled.f T.g_filled.d ["pattern","table"] (sL K):=by
 refine T.g_filled.F.ok ju (fun vs H Q E h=>?_) (fun yl A outer s H vs Q E hr h=>?_)
 · obtain ⟨a,ta,t,f,f',rfl,_⟩:=h;rfl
 obtain ⟨a,ta,t,f,f',rfl,hA,hsz,NZ,HJ,k⟩:=h
 refine ⟨_,(ae (au (i:=2) ju.nd rfl (UB rfl) (bo ac))
  (ae (bx UW rfl (cz (pcF T.g_walked (sH T) hr (aa (pv 0) ac))) (aj (i:=3) ju.nd rfl (UB rfl)) (ag (bI (aY (pcF T.g_is_call (iu T) hr (aa (pv 3) ac)) (fun _=>rfl)) (ag (aQ (bL Uw UM UL aL (pv 2) (aa (aI (aa (nE (mx hr) (pv 1) (pcF T.g_called_by (iJ T) hr (aa (pv 3) ac)) (fun _ _=>rfl)) (aa af ac))) ac)))) (ag (aQ (bL Uw UM UL aL (pv 2) (aa (pcF T.g_top_of (mo T) hr (aa (pv 3) ac)) ac)))))))
  (ag (aE (pcF T.g_built (lr T) hr (aa (pv 2) ac)))))),?_⟩
 try dsimp only [yH,yh]
 refine ⟨ai (by show 0<=1000000;decide),fun tl yG=>?_⟩;refine ⟨_,rfl,a,t,rfl,hA.mono (dM yG),hsz,fun wl as H1 s1 HK Oy hw=>?_⟩;have AR:as.length=t.walk.length:=hw.length;have Tc:=Th.walk_len t;have LF:L2.Same H H1:=(ad yG _).trans s1;have QV:wl≠tl:=fun z=>by rw [z,ab] at HK;cases HK
 refine ⟨wl,rfl,⟨_,SqL.of Oy⟩,?_⟩
 refine eX (K:=K) (a:=wl) (xs:=as.map V.ref) (fun i σ H2=>Ex2 fun c bs=>An6 (σ=[some (.ref a),some (.ref ta),some (.ref tl),c]) (L2.Same H H2) (H2 wl=some (.lst (as.map V.ref))) (AtsK K H2 t.walk as) (H2 tl=some (.lst (bs.map V.ref))) (UX (TopAtK K H2) ((t.walk.take i).map (dX f)) bs))
  ⟨none,[],rfl,LF,Oy,hw,s1 _ _ ab,.nil⟩ (fun i σ H2 _ ⟨_,_,_,_,e,_,_,_⟩=>SqL.of e) ?_ ?_
 · rintro i x σ H2 hx ⟨c,bs,rfl,s2,HL,LH,Bl,yA⟩;obtain ⟨xa,rfl,JT⟩:=aU hx;obtain ⟨tx,Oz,LI⟩:=LH.get JT;have QW:tx∈t.walk:=Uh Oz;have Af:t.walk.take (i+1)=t.walk.take i++[tx]:=by rw [Vs,Oz];rfl
   have zL:bs.length<=100000:=by
    have:=Uv yA;rw [Uc,UQ] at this;omega
   refine ⟨_,rfl,xa,tx,rfl,LI,_,rfl,?_⟩
   have push:∀ (H3:Hp) (p:Ui),L2.Same H2 H3->TopAtK K H3 (dX f tx) p->Ex2 fun c BE=>An6 (([some (.ref a),some (.ref ta),some (.ref tl),some (.ref xa)]:St)=[some (.ref a),some (.ref ta),some (.ref tl),c]) (L2.Same H (upd H3 tl (.lst (bs.map V.ref++[.ref p])))) ((upd H3 tl (.lst (bs.map V.ref++[.ref p]))) wl=some (.lst (as.map V.ref))) (AtsK K (upd H3 tl (.lst (bs.map V.ref++[.ref p]))) t.walk as) ((upd H3 tl (.lst (bs.map V.ref++[.ref p]))) tl=some (.lst (BE.map V.ref))) (UX (TopAtK K (upd H3 tl (.lst (bs.map V.ref++[.ref p])))) ((t.walk.take (i+1)).map (dX f)) BE):=by
    intro H3 p s3 hp;have k3:KT H3 (upd H3 tl (.lst (bs.map V.ref++[.ref p]))):=aS (s3 _ _ Bl);refine ⟨_,bs++[p],rfl,aw (s2.trans s3) yG,by rw [ak QV];exact s3 _ _ HL,LH.mono ((Same.kt s3).trans k3),by rw [ab,Ux];rfl,?_⟩;rw [Af,Ux];exact P2.append (dL ((Same.kt s3).trans k3) yA) (.cons (hp.mono k3) .nil)
   cases tx with
   | call sn kn =>
     refine oZ ?_;refine hid fun ZZ kZ=>?_;obtain ⟨v,hv,QX,_⟩:=HJ sn kn QW;refine kZ ?_;refine ⟨_,rfl,.inl ⟨rfl,_,SqL.of Bl⟩,_,rfl,_,rfl,xa,sn,kn,rfl,LI,fun cb QY=>?_⟩;have s3:L2.Same H2 (upd H2 cb (.tup [.int sn,.int kn])):=ad QY _
     have LJ:Rd (upd H2 cb (.tup [.int sn,.int kn])) ta (.dT f'):=by
      rcases NZ with h | ⟨o,h⟩
      · exact .inl (s3 _ _ (s2 _ _ h))
      · exact .inr ⟨o,s3 _ _ (s2 _ _ h)⟩
     refine ⟨ta,.ref v,rfl,.inr ⟨f',[U4 sn,U4 kn],cb,LJ,rfl,ab,hv.symm⟩,ai (by show 2<=1000000;decide),fun p hp=>?_⟩;have s4:=s3.trans (ad hp (.tup [.ref v,.int 0]));refine ⟨tl,_,_,rfl,rfl,s4 _ _ Bl,aH (by rw [Uc];omega),?_⟩;exact push _ p s4 ⟨v,ab,QX.mono (Same.kt (s2.trans s4))⟩
   | knot nm us =>
     refine cP ?_;refine ⟨_,rfl,.inl ⟨rfl,_,SqL.of Bl⟩,_,rfl,xa,nm,us,rfl,LI,fun p H3 s3 hp=>?_⟩;refine ⟨tl,_,_,rfl,rfl,s3 _ _ Bl,aH (by rw [Uc];omega),?_⟩;exact push _ p s3 hp
 · rintro σ H2 ⟨c,bs,rfl,s2,HL,LH,Bl,yA⟩;rw [Uc,AR,V9] at yA;obtain ⟨b1,b2⟩:=rA f t;refine ⟨_,rfl,tl,bs,_,t.fill f,rfl,Bl,yA,by rw [Uc];omega,b2,?_,b1,fun r H3 s3 HM=>k r H3 (s2.trans s3) HM⟩;intro u hu;obtain ⟨x,hx,e⟩:=U5.mp hu;cases x with
   | knot nm us=>cases e
   | call sn kn =>
     cases e;refine hid fun ZZ kZ=>?_;obtain ⟨v,_,_,hz⟩:=HJ sn kn hx;refine kZ ?_;exact hz
inductive i6 (K:Ug) (vs:List V) (H:Hp) (Q:VK) (_E:XK):Prop
 | mk (x y:Ui) (l r:Th) (yp:vs=[.ref x,.ref y]) (yq:AtK K H l x) (yz:AtK K H r y) (yF:l.tall<=150) (yW:Q (.bl (aC l r)) H):i6 K vs H Q _E
def pE (K:Ug):Sp:=i6 K
theorem jD:bp P w K mg base CX0 3 T.g_same_top.f T.g_same_top.d ["one","two"] (pE K):=by
 refine T.g_same_top.F.ok o9 (fun vs H Q E h=>?_) (fun yl A outer s H vs Q E hr h=>?_)
 · obtain ⟨x,y,l,r,rfl,_⟩:=h;rfl
 obtain ⟨x,y,l,r,rfl,hx,hy,yG,k⟩:=h;refine ⟨_,(ag (aE (qk (pcF T.g_is_knot (pM T) hr (aa (pv 0) ac)) (qk (i7 cG (ay aB (pv 0) af (fun _ _=>rfl)) (ay aB (pv 1) af (fun _ _=>rfl)) (aO _)) (tz (i7 cG (az ao rfl T.n_len UT (aa (pv 0) ac)) (az ao rfl T.n_len UT (aa (pv 1) ac)) (aO _))))))),?_⟩
 try dsimp only [yH,yh]
 rw [pH hx r] at k;refine hid fun ZZ kZ=>?_;obtain ⟨xr,ex,lx⟩:=hx.row;obtain ⟨yr,ey,ly⟩:=hy.row;refine kZ ?_;refine ⟨_,rfl,x,l,rfl,hx,yG,_,rfl,?_⟩;refine cX (fun c=>?_) (fun c=>?_)
 · rw [c] at k;refine ⟨_,rfl,x,_,0,.str l.name,rfl,rfl,ex.sq,at0,_,rfl,y,_,0,.str r.name,rfl,rfl,ey.sq,at0,rfl,_,rfl,?_⟩;refine cX (fun c2=>?_) (fun c2=>?_)
   · have e2:l.name=r.name:=V.str.inj (of_decide_eq_true c2);refine ⟨_,rfl,x,_,rfl,.inr (ex.sq),_,rfl,y,_,rfl,.inr (ey.sq),rfl,?_⟩
     have e3:decide (V.int ((V.str l.name::xr).length:Nat)=V.int ((V.str r.name::yr).length:Nat))=decide (l.wid=r.wid):=by
      rw [Ut,Ut,lx,ly];by_cases e:l.wid=r.wid
      · rw [e];simp
      · rw [decide_eq_false e,decide_eq_false];intro z;exact e (by have:=V.int.inj z;omega)
     rw [e3];rw [decide_eq_true e2] at k;exact k
   · have e2:l.name≠r.name:=fun e=>c2 (decide_eq_true (by rw [e]));rw [decide_eq_false e2] at k;exact k
 · rw [VT.mpr c] at k;exact k
inductive fb (K:Ug) (vs:List V) (H:Hp) (Q:VK) (_E:XK):Prop
 | mk (x y:Ui) (l r:Th) (yp:vs=[.ref x,.ref y]) (yq:AtK K H l x) (yz:AtK K H r y) (yF:l.tall<=150) (yW:l.size<=100000) (Aa:∀ (m:Ui) (as:List Ui) (H':Hp),L2.Same H H'->H m=none->H' m=some (.lst (as.map V.ref))->UX (PPK K H') (l.sbs r) as->Q (.ref m) H'):fb K vs H Q _E
def jT (K:Ug):Sp:=fb K
theorem jU:bp P w K mg base CX0 4 T.g_side_by_side.f T.g_side_by_side.d ["one","two"] (jT K):=by
 refine T.g_side_by_side.F.ok ci (fun vs H Q E h=>?_) (fun yl A outer s H vs Q E hr h=>?_)
 · obtain ⟨x,y,l,r,rfl,_⟩:=h;rfl
 obtain ⟨x,y,l,r,rfl,hx,hy,yG,hsz,k⟩:=h
 refine ⟨_,(ae (au (i:=2) ci.nd rfl (UB rfl) (bo ac))
  (ae (au (i:=3) ci.nd rfl (UB rfl) (bo (aa (aI (aa (pv 0) (aa (pv 1) ac))) ac)))
  (ae (dA UW (aY (pv 3) (fun _=>rfl)) (ae (cO (jm Uw WY WX jd (pv 3)) (bz rfl (av (aj (i:=4) ci.nd rfl (UB rfl)) (av (aj (i:=5) ci.nd rfl (UB rfl)) aX))))
  (ae (aQ (bL Uw UM UL aL (pv 2) (aa (aI (aa (pv 4) (aa (pv 5) ac))) ac)))
  (ag (bI (aY (pcF T.g_same_top (jD T) hr (aa (pv 4) (aa (pv 5) ac))) (fun _=>rfl)) (ag (aQ (bL Uw Xe Xd gF (pv 3) (aa (lm rfl rfl T.n_list rfl T.n_reversed (p9 rfl rfl T.n_list rfl T.n_zip (aa (bj dF (pv 4) (bA af) bR) (aa (bj dF (pv 5) (bA af) bR) ac)))) ac)))) bi)))))
  (ag (aE (pv 2)))))),?_⟩
 try dsimp only [yH,yh]
 refine ⟨by show 0<=UD;decide,fun mt Ay=>?_⟩;refine ⟨_,rfl,_,rfl,by show 2<=UD;decide,fun t0 OA=>⟨by show 1<=UD;decide,fun ah Am=>?_⟩⟩;have s0:L2.Same H (upd (upd H mt (.lst [])) t0 (.tup [.ref x,.ref y])):=(ad Ay _).trans (ad OA _);have e0:(upd (upd H mt (.lst [])) t0 (.tup [.ref x,.ref y])) mt=some (.lst []):=ad OA _ _ _ ab;have e1:(upd (upd H mt (.lst [])) t0 (.tup [.ref x,.ref y])) t0=some (.tup [.ref x,.ref y]):=ab;generalize (upd (upd H mt (.lst [])) t0 (.tup [.ref x,.ref y]))=H1 at s0 e0 e1 Am ⊢;have Ab:H ah=none:=s0.free Am;have yx:ah≠mt:=fun z=>by rw [z,e0] at Am;cases Am
 refine ⟨fun m σ H2=>Ex6 fun (ms as:List Ui) (Ms As:List (Th×Th)) (p p':Option V)=>wm (σ=[some (.ref x),some (.ref y),some (.ref mt),some (.ref ah),p,p']) (L2.Same H H2) (H2 mt=some (.lst (ms.map V.ref))) (H2 ah=some (.lst (as.map V.ref))) (UX (PPK K H2) Ms ms) (UX (PPK K H2) As as) (Ms++wks As.reverse=l.sbs r) ((∀ p∈As,p.1.tall<=150)) (Ms.length+szL As<=100000) (m=szL As),⟨_,[],[t0],[],[(l,r)],none,none,rfl,?_,?_,?_,.nil,.cons ⟨x,y,?_,hx.mono ?_,hy.mono ?_⟩ .nil,?_,?_,?_,rfl⟩,?_⟩
 · exact aw s0 Ab
 · rw [ak yx.symm];exact e0
 · rw [ab];rfl
 · rw [ak (aJ e1 Am)];exact e1
 · exact Same.kt (aw s0 Ab)
 · exact Same.kt (aw s0 Ab)
 · show wks [(l,r)]=_;rw [wks,wks,U6]
 · intro p hp;rw [UP] at hp;subst hp;exact yG
 · show 0+(l.size+0)<=100000;omega
 rintro m σ H2 ⟨ms,as,Ms,As,p,p',rfl,sm,e1,e2,a1,a2,hw,An,hlen,rfl⟩;have JU:Ms.length=ms.length:=Uv a1;refine ⟨_,rfl,_,.inl ⟨_,SqL.of e2,rfl⟩,?_⟩;refine cX (fun c=>?_) (fun c=>?_)
 · refine ⟨fun yd H'=>∃ m',m'<szL As/\Ex6 fun (ms as:List Ui) (Ms As:List (Th×Th)) (p p':Option V)=>wm (yd=[some (.ref x),some (.ref y),some (.ref mt),some (.ref ah),p,p']) (L2.Same H H') (H' mt=some (.lst (ms.map V.ref))) (H' ah=some (.lst (as.map V.ref))) (UX (PPK K H') Ms ms) (UX (PPK K H') As as) (Ms++wks As.reverse=l.sbs r) ((∀ p∈As,p.1.tall<=150)) (Ms.length+szL As<=100000) (m'=szL As),fun yd H' h=>h,?_⟩;have zf:as≠[]:=by intro z;subst z;simp at c
   refine hid fun ZZ kZ=>?_;obtain ⟨yo,b,rfl⟩:∃ yo b,as=yo++[b]:=⟨as.dropLast,as.getLast zf,(Wj zf).symm⟩;obtain ⟨Us,u,rfl,a3,u1,u2,a4,a5,a6⟩:=P2.snoc_inv a2;obtain ⟨ul,ur⟩:=u;refine kZ ?_;simp only at a5 a6;have hs:szL (Us++[(ul,ur)])=szL Us+ul.size:=by rw [dJ,szL,szL];rfl
   have HA:=ul.size_eq;rw [hs] at hlen;have JV:ul.tall<=150:=An (ul,ur) (by simp);have OB:∀ p∈Us,p.1.tall<=150:=fun p hp=>An p (by simp [hp]);refine ⟨_,rfl,.inl ⟨rfl,_,SqL.of e2⟩,ah,_,.ref b,rfl,rfl,e2,by simp,?_⟩;have d1:((yo++[b]).map V.ref).dropLast=yo.map V.ref:=by simp
   rw [d1];have k0:KT H2 (upd H2 ah (.lst (yo.map V.ref))):=aS e2;have f1:(upd H2 ah (.lst (yo.map V.ref))) mt=some (.lst (ms.map V.ref)):=by rw [ak yx.symm];exact e1
   have f2:(upd H2 ah (.lst (yo.map V.ref))) ah=some (.lst (yo.map V.ref)):=ab;have s3:L2.Same H (upd H2 ah (.lst (yo.map V.ref))):=aw sm Ab;generalize (upd H2 ah (.lst (yo.map V.ref)))=H3 at k0 f1 f2 s3 ⊢;refine ⟨b,_,rfl,SqT.of (k0 _ _ a4),rfl,_,_,rfl,_,_,rfl,rfl,?_⟩;refine ⟨_,rfl,.inl ⟨rfl,_,SqL.of f1⟩,_,rfl,_,rfl,by show 2<=UD;decide,fun t1 QZ=>?_⟩;have s4:L2.Same H3 (upd H3 t1 (.tup [.ref u1,.ref u2])):=ad QZ _;have e4:(upd H3 t1 (.tup [.ref u1,.ref u2])) t1=some (.tup [.ref u1,.ref u2]):=ab;generalize (upd H3 t1 (.tup [.ref u1,.ref u2]))=H4 at s4 e4 ⊢;refine ⟨mt,_,_,rfl,rfl,s4 _ _ f1,aH (by rw [Uc];omega),?_⟩;have k5:KT H4 (upd H4 mt (.lst (ms.map V.ref++[.ref t1]))):=aS (s4 _ _ f1);have g1:(upd H4 mt (.lst (ms.map V.ref++[.ref t1]))) mt=some (.lst ((ms++[t1]).map V.ref)):=by rw [ab,Ux];rfl
   have g2:(upd H4 mt (.lst (ms.map V.ref++[.ref t1]))) ah=some (.lst (yo.map V.ref)):=by rw [ak yx];exact s4 _ _ f2
   have s5:L2.Same H (upd H4 mt (.lst (ms.map V.ref++[.ref t1]))):=aw (s3.trans s4) Ay;generalize (upd H4 mt (.lst (ms.map V.ref++[.ref t1])))=H5 at k5 g1 g2 s5 ⊢;have DF:KT H2 H5:=(k0.trans (Same.kt s4)).trans k5;have aM:UX (PPK K H5) (Ms++[(ul,ur)]) (ms++[t1]):=P2.append (dw DF a1) (.cons ⟨u1,u2,k5 _ _ e4,a5.mono DF,a6.mono DF⟩ .nil);refine ⟨_,rfl,_,rfl,u1,u2,ul,ur,rfl,a5.mono DF,a6.mono DF,JV,_,rfl,?_⟩
   have Fh:Ms++((ul,ur)::((if aC ul ur=true then wks (ul.kids.zip ur.kids) else [])++wks Us.reverse))=l.sbs r:=by
    rw [<- hw,VR];show _=Ms++wks ((ul,ur)::Us.reverse);rw [tI]
   refine cX (fun ct=>?_) (fun ct=>?_)
   · refine hid fun ZZ kZ=>?_;obtain ⟨n,ks,us,rfl,rfl,OC,BC⟩:=bu ct;have OD:=a5.mono DF;have OE:=a6.mono DF;rw [AtK] at OD OE;obtain ⟨JP,ka,ek,yY⟩:=OD;obtain ⟨N2,ua,eu,Er⟩:=OE;refine kZ ?_;rw [if_pos ct] at Fh;have hz:=i3 ks us;refine ⟨_,rfl,.inl ⟨rfl,_,SqL.of g2⟩,_,rfl,1,rfl,u1,_,rfl,ek.sq,?_,fun c1 JW=>?_⟩
     · intro z;have:=z.1;simp [HT.sIx] at this
     rw [de];have s6:L2.Same H5 (upd H5 c1 (.tup (ka.map V.ref))):=ad JW _;have e6:(upd H5 c1 (.tup (ka.map V.ref))) c1=some (.tup (ka.map V.ref)):=ab;generalize (upd H5 c1 (.tup (ka.map V.ref)))=H6 at s6 e6 ⊢;refine ⟨_,rfl,1,rfl,u2,_,rfl,(eu.mono (Same.kt s6)).sq,?_,fun c2 B7=>?_⟩
     · intro z;have:=z.1;simp [HT.sIx] at this
     rw [de];have s7:L2.Same H6 (upd H6 c2 (.tup (ua.map V.ref))):=ad B7 _;have e7:(upd H6 c2 (.tup (ua.map V.ref))) c2=some (.tup (ua.map V.ref)):=ab;generalize (upd H6 c2 (.tup (ua.map V.ref)))=H7 at s7 e7 ⊢;refine ⟨c1,c2,_,_,rfl,SqT.of (s7 _ _ e6),SqT.of e7,fun zl zs H8 s8 Td Q0 Hq=>?_⟩;have Bm:L2.Same H5 H8:=s6.trans (s7.trans s8);have OF:UX (PPK K H8) (ks.zip us) zs:=oA (yY.mono (Same.kt Bm)) (Er.mono (Same.kt Bm)) Hq;have Oe:(ks.zip us).length=zs.length:=Uv OF;have Te:(ks.zip us).length<=szL (ks.zip us):=nL _;refine ⟨true,zl,_,rfl,SqB.l (SqL.of Q0),fun rl BS=>?_⟩;have s9:L2.Same H8 (upd H8 rl (.lst (zs.map V.ref).reverse)):=ad BS _;have e9:(upd H8 rl (.lst (zs.map V.ref).reverse)) rl=some (.lst (zs.map V.ref).reverse):=ab;have Tf:H5 rl=none:=Bm.free BS;generalize (upd H8 rl (.lst (zs.map V.ref).reverse))=H9 at s9 e9 ⊢;have Ci:=Bm.trans s9;have OG:Us.length=yo.length:=Uv a3;have Tg:=nL Us;refine ⟨ah,rl,_,_,rfl,rfl,Ci _ _ g2,e9,XM (aH ?_),?_⟩
     · rw [Uc,VJ,Uc];simp only [Th.kids] at HA;omega
     have OH:KT H9 (upd H9 ah (.lst (yo.map V.ref++(zs.map V.ref).reverse))):=aS (Ci _ _ g2);have OI:KT H5 (upd H9 ah (.lst (yo.map V.ref++(zs.map V.ref).reverse))):=(Same.kt Ci).trans OH;simp only [Th.kids] at HA Fh;refine ⟨szL (Us++(ks.zip us).reverse),?_,ms++[t1],yo++zs.reverse,Ms++[(.knot n ks,.knot n us)],Us++(ks.zip us).reverse,_,_,rfl,?_,?_,?_,dw OI aM,?_,?_,?_,?_,rfl⟩
     · rw [dJ,qO,hs];omega
     · exact aw (s5.trans Ci) Ab
     · rw [ak yx.symm];exact Ci _ _ g1
     · rw [ab,Ux,Y0]
     · exact P2.append (dw (DF.trans OI) a3) (P2.reverse (dw ((Same.kt s9).trans OH) OF))
     · rw [VR,Wl,kx,<- Fh,Vo];rfl
     · intro p hp;rcases Ve.mp hp with hp | hp
       · exact OB p hp
       · have zh:=(Xs (List.mem_reverse.mp hp)).1;have:=bT zh;rw [Th.tall] at JV;omega
     · rw [dJ,qO,UE];show Ms.length+1+_<=_;omega
   · rw [if_neg ct] at Fh;refine ⟨szL Us,?_,ms++[t1],yo,Ms++[(ul,ur)],Us,_,_,rfl,s5,g1,g2,aM,dw DF a3,?_,OB,?_,rfl⟩
     · rw [hs];omega
     · rw [<- Fh,Vo];rfl
     · rw [UE];show Ms.length+1+_<=_;omega
 · have hz:as=[]:=by
    cases as with
    | nil=>rfl
    | cons y ys=>simp at c
   subst hz;have Dg:As=[]:=VB.mp (Uv a2);subst Dg;refine ⟨_,rfl,k mt ms H2 sm Ay e1 ?_⟩
   have Fb:Ms=l.sbs r:=by
    rw [<- hw,List.reverse_nil,wks,U6]
   rw [<- Fb];exact a1
inductive lL (K:Ug) (vs:List V) (H:Hp) (Q:VK) (_E:XK):Prop
 | mk (x y:Ui) (l r:Th) (yp:vs=[.ref x,.ref y]) (yq:AtK K H l x) (yz:AtK K H r y) (yF:l.tall<=150) (yW:l.size<=100000) (Aa:∀ (m:Ui) (H':Hp),L2.Same H H'->AtK K H' (l.com r) m->Q (.ref m) H'):lL K vs H Q _E
def si (K:Ug):Sp:=lL K
theorem r9:bp P w K mg base CX0 5 T.g_common.f T.g_common.d ["one","two"] (si K):=by
 refine T.g_common.F.ok gI (fun vs H Q E h=>?_) (fun yl A outer s H vs Q E hr h=>?_)
 · obtain ⟨x,y,l,r,rfl,_⟩:=h;rfl
 obtain ⟨x,y,l,r,rfl,hx,hy,yG,hsz,k⟩:=h
 refine ⟨_,(ae (au (i:=2) gI.nd rfl (UB rfl) (bo ac))
  (ae (bx UW rfl (cz (pcF T.g_side_by_side (jU T) hr (aa (pv 0) (aa (pv 1) ac)))) (bz rfl (av (aj (i:=3) gI.nd rfl (UB rfl)) (av (aj (i:=4) gI.nd rfl (UB rfl)) aX))) (ag (bI (aY (pcF T.g_same_top (jD T) hr (aa (pv 3) (aa (pv 4) ac))) (fun _=>rfl)) (ag (aQ (bL Uw UM UL aL (pv 2) (aa (pcF T.g_top_of (mo T) hr (aa (pv 3) ac)) ac)))) (ag (aQ (bL Uw UM UL aL (pv 2) (aa (aI (aa (gN (v:=.ref T.a_HOLE) rfl T.c_HOLE rfl) (aa af ac))) ac)))))))
  (ag (aE (pcF T.g_built (lr T) hr (aa (pv 2) ac)))))),?_⟩
 try dsimp only [yH,yh]
 refine ⟨ai (by show 0<=1000000;decide),fun tl DG=>?_⟩;refine ⟨_,rfl,_,rfl,x,y,l,r,rfl,hx.mono (dM DG),hy.mono (dM DG),yG,hsz,fun m as H1 s1 nm em hp=>⟨m,rfl,⟨_,SqL.of em⟩,?_⟩⟩;have y8:(l.sbs r).length=as.length:=Uv hp;have OJ:=uE l r;have LF:L2.Same H H1:=(ad DG _).trans s1;have Ay:m≠tl:=fun z=>by rw [z,ab] at nm;cases nm
 refine eX (K:=K) (a:=m) (xs:=as.map V.ref) (fun i σ H2=>Ex3 fun c c' bs=>An6 (σ=[some (.ref x),some (.ref y),some (.ref tl),c,c']) (L2.Same H H2) (H2 m=some (.lst (as.map V.ref))) (UX (PPK K H2) (l.sbs r) as) (H2 tl=some (.lst (bs.map V.ref))) (UX (TopAtK K H2) (((l.sbs r).take i).map topC) bs)) ⟨none,none,[],rfl,LF,em,hp,s1 _ _ ab,.nil⟩ (fun i σ H2 _ ⟨_,_,_,_,_,e,_,_,_⟩=>SqL.of e) ?_ ?_
 · rintro i v σ H2 hv ⟨c,c',bs,rfl,s2,BD,Aj,Bl,yA⟩;refine hid fun ZZ kZ=>?_;obtain ⟨b,rfl,hb⟩:=aU hv;obtain ⟨⟨ul,ur⟩,hu,u1,u2,e1,e2,e3⟩:=P2.get' Aj hb;refine kZ ?_;simp only at e2 e3;have hm:=uO (Uh hu);simp only at hm;have Af:((l.sbs r).take (i+1)).map topC=((l.sbs r).take i).map topC++[topC (ul,ur)]:=by rw [Vs,hu,Ux];rfl
   have zL:bs.length<=100000:=by
    have:=Uv yA;rw [Uc,UQ] at this;omega
   refine ⟨b,_,rfl,SqT.of e1,rfl,_,_,rfl,_,_,rfl,rfl,?_⟩
   have push:∀ (H3:Hp) (p:Ui),L2.Same H2 H3->TopAtK K H3 (topC (ul,ur)) p->Ex3 fun c c' BE=>An6 (([some (.ref x),some (.ref y),some (.ref tl),some (.ref u1),some (.ref u2)]:St)=[some (.ref x),some (.ref y),some (.ref tl),c,c']) (L2.Same H (upd H3 tl (.lst (bs.map V.ref++[.ref p])))) ((upd H3 tl (.lst (bs.map V.ref++[.ref p]))) m=some (.lst (as.map V.ref))) (UX (PPK K (upd H3 tl (.lst (bs.map V.ref++[.ref p])))) (l.sbs r) as) ((upd H3 tl (.lst (bs.map V.ref++[.ref p]))) tl=some (.lst (BE.map V.ref))) (UX (TopAtK K (upd H3 tl (.lst (bs.map V.ref++[.ref p])))) (((l.sbs r).take (i+1)).map topC) BE):=by
    intro H3 p s3 HN;have k3:KT H3 (upd H3 tl (.lst (bs.map V.ref++[.ref p]))):=aS (s3 _ _ Bl);refine ⟨_,_,bs++[p],rfl,aw (s2.trans s3) DG,by rw [ak Ay];exact s3 _ _ BD,dw ((Same.kt s3).trans k3) Aj,by rw [ab,Ux];rfl,?_⟩;rw [Af];exact P2.append (dL ((Same.kt s3).trans k3) yA) (.cons (HN.mono k3) .nil)
   refine ⟨_,rfl,_,rfl,u1,u2,ul,ur,rfl,e2,e3,by omega,_,rfl,?_⟩;refine cX (fun ct=>?_) (fun ct=>?_)
   · have ht:topC (ul,ur)=.nm ul.name ul.kids.length:=by unfold topC;rw [if_pos ct]
     obtain ⟨n,ks,us,rfl,rfl,_,_⟩:=bu ct;refine ⟨_,rfl,.inl ⟨rfl,_,SqL.of Bl⟩,_,rfl,u1,n,ks,rfl,e2,fun p H3 s3 HN=>?_⟩;refine ⟨tl,_,_,rfl,rfl,s3 _ _ Bl,aH (by rw [Uc];omega),?_⟩;exact push _ p s3 (by rw [ht];exact HN)
   · have ht:topC (ul,ur)=.th hole:=by unfold topC;rw [if_neg ct]
     refine ⟨_,rfl,.inl ⟨rfl,_,SqL.of Bl⟩,ai (by show 2<=1000000;decide),fun p Q1=>?_⟩;have s3:L2.Same H2 (upd H2 p (.tup [.ref T.a_HOLE,.int 0])):=ad Q1 _;refine ⟨tl,_,_,rfl,rfl,s3 _ _ Bl,aH (by rw [Uc];omega),?_⟩;exact push _ p s3 (by rw [ht];exact ⟨T.a_HOLE,ab,uu (TK.const T.q_HOLE)⟩)
 · rintro σ H2 ⟨c,c',bs,rfl,s2,BD,Aj,Bl,yA⟩;rw [Uc,<- y8,V9] at yA;obtain ⟨b1,b2⟩:=wd l r;refine ⟨_,rfl,tl,bs,_,l.com r,rfl,Bl,yA,by rw [Uc];omega,b2,?_,b1,fun rr H3 s3 HM=>k rr H3 (s2.trans s3) HM⟩;intro u hu;obtain ⟨p,zh,e⟩:=U5.mp hu;unfold topC at e;split at e
   · cases e
   · cases e;rw [eQ];omega
inductive kG (vs:List V) (H:Hp) (Q:VK) (_E:XK):Prop
 | mk (b:Ui) (v1 v2 v3 v4:V) (yp:vs=[.ref b]) (yq:H b=some (.tup [v1,v2,v3,v4])) (yz:Q v1 H):kG  vs H Q _E
def sN:Sp:=kG
inductive iU (vs:List V) (H:Hp) (Q:VK) (_E:XK):Prop
 | mk (b:Ui) (v1 v2 v3 v4:V) (yp:vs=[.ref b]) (yq:H b=some (.tup [v1,v2,v3,v4])) (yz:Q v4 H):iU  vs H Q _E
def ol:Sp:=iU
theorem fe:bp P w K mg base CX0 1 T.g_ins_of.f T.g_ins_of.d ["book"] sN:=by
 refine T.g_ins_of.F.ok sk (fun vs H Q E h=>?_) (fun yl A outer s H vs Q E hr h=>?_)
 · obtain ⟨b,v1,v2,v3,v4,rfl,_⟩:=h;rfl
 obtain ⟨b,v1,v2,v3,v4,rfl,e,q⟩:=h;refine ⟨_,(ag (aE (ay aB (pv 0) af (fun _ _=>rfl)))),?_⟩
 try dsimp only [yH,yh]
 exact ⟨_,rfl,b,_,0,v1,rfl,rfl,SqT.of e,at0,q⟩
theorem dY:bp P w K mg base CX0 1 T.g_rules_of.f T.g_rules_of.d ["book"] ol:=by
 refine T.g_rules_of.F.ok pc (fun vs H Q E h=>?_) (fun yl A outer s H vs Q E hr h=>?_)
 · obtain ⟨b,v1,v2,v3,v4,rfl,_⟩:=h;rfl
 obtain ⟨b,v1,v2,v3,v4,rfl,e,q⟩:=h;refine ⟨_,(ag (aE (ay aB (pv 0) af (fun _ _=>rfl)))),?_⟩
 try dsimp only [yH,yh]
 exact ⟨_,rfl,b,_,3,v4,rfl,rfl,SqT.of e,ce (j:=3) rfl,q⟩
inductive gY (vs:List V) (H:Hp) (Q:VK) (_E:XK):Prop
 | mk (b:Ui) (v1 v2 v3:V) (ra:Ui) (xs:List V) (yp:vs=[.ref b]) (yq:H b=some (.tup [v1,v2,v3,.ref ra])) (yz:H ra=some (.tup xs)) (yF:Q (.int xs.length) H):gY  vs H Q _E
def mZ:Sp:=gY
theorem ni:bp P w K mg base CX0 2 T.g_states_of.f T.g_states_of.d ["book"] mZ:=by
 refine T.g_states_of.F.ok nN (fun vs H Q E h=>?_) (fun yl A outer s H vs Q E hr h=>?_)
 · obtain ⟨b,v1,v2,v3,ra,xs,rfl,_⟩:=h;rfl
 obtain ⟨b,v1,v2,v3,ra,xs,rfl,e,e2,q⟩:=h;refine ⟨_,(ag (aE (az ao rfl T.n_len UT (aa (pcF T.g_rules_of (dY T) hr (aa (pv 0) ac)) ac)))),?_⟩
 try dsimp only [yH,yh]
 exact ⟨_,rfl,b,_,_,_,_,rfl,e,ra,_,rfl,.inr (SqT.of e2),q⟩
inductive gB (vs:List V) (H:Hp) (Q:VK) (_E:XK):Prop
 | mk (ia:Ui) (yk:List Ui) (ins:List (US×Int)) (yp:vs=[.ref ia]) (yq:H ia=some (.tup (yk.map V.ref))) (yz:KsAt H ins yk) (yF:bN ins) (yW:∀ (r:Ui) (H':Hp),L2.Same H H'->At H' (aT ins) r->Q (.ref r) H'):gB  vs H Q _E
def ii:Sp:=gB
theorem eK:bp P w K mg base CX0 1 T.g_small_tree.f T.g_small_tree.d ["ins"] ii:=by
 refine T.g_small_tree.F.ok l3 (fun vs H Q E h=>?_) (fun yl A outer s H vs Q E hr h=>?_)
 · obtain ⟨ia,yk,ins,rfl,_⟩:=h;rfl
 obtain ⟨ia,yk,ins,rfl,ei,zO,g,q⟩:=h;refine ⟨_,(ag (aE (ay aP (cf (N:=[Um "name",Um "many"]) (js:=[none,none]) (g:=(lX K 2 (cR (aF 0) (cR (aF 1) l6)))) (tt:=(qL (tOp (rEq) (bn 1) (tC (.int 0))))) (te:=(ji (bm (bn 0) dk))) rfl (cB rfl (by decide +kernel) (by decide +kernel) rfl rfl rfl) (f6 (pv 0)) (fun _ _ _ _ _ _=>(bz rfl (av (aj (i:=0) uN rfl (UB rfl)) (av (aj (i:=1) uN rfl (UB rfl)) aX)))) (fY (bW aW (aR rfl) (bW aW (aR rfl) gx))) (fun _ _ _ _ _ _=>j0 (aK cG (pv 1) af (aO _))) (fun _ _ _ _ _ _=>(aI (aa (pv 0) ac)))) af (fun _ _=>rfl)))),?_⟩
 try dsimp only [yH,yh]
 have zE:ins.length=yk.length:=Uv zO;have Di:=g.le;refine ⟨_,rfl,ia,rfl,⟨_,SqT.of ei⟩,sY (F:=fun H (k:US×Int) a=>At H (.knot k.1 []) a) (xs:=yk.map V.ref) ins (fun k=>decide (k.2=0)) (fun H1 H2 z p kt h=>h.mono kt) (by rw [Uc];exact zE) (by rw [Uc];omega) (fun i Hx sx hi=>⟨_,_,SqT.of (sx _ _ ei),Ue hi⟩) (fun Hx sx=>⟨_,SqT.of (sx _ _ ei),Uj _⟩) (fun i Hx x Hy sx hi hy=>⟨hy.1,hy.2 _ (SqT.of (sx _ _ ei))⟩) (fun i x z Hx R W' hx Ao sx hR hW=>?_) (fun D H1 as hD s1 eD Bn=>?_)⟩
 · obtain ⟨ka,rfl,yY⟩:=aU hx;obtain ⟨z',zQ,ez⟩:=P2.get' zO yY;rw [Ao] at zQ;cases zQ;have LK:Hx ka=some (.tup [.str z.1,.int z.2]):=sx _ _ ez;refine ⟨ka,_,rfl,SqT.of LK,rfl,_,_,rfl,_,_,rfl,rfl,_,rfl,rfl,_,rfl,?_⟩;have hm:=Uh Ao;by_cases hc:z.2=0
   · rw [if_pos (decide_eq_true (by rw [hc]))];refine ⟨_,rfl,ai (by show 1<=1000000;decide),fun p hp=>hR (decide_eq_true hc) _ p (ad hp _) ?_⟩;rw [At];exact ⟨rE (g.low z hm).1,[],ab,.nil⟩
   · rw [if_neg (fun z2=>hc (V.int.inj (of_decide_eq_true z2)))];exact hW (decide_eq_false hc) _ (.refl _)
 · refine hid fun ZZ kZ=>?_;obtain ⟨k0,zt,BN⟩:=k9 g;obtain ⟨r,LL,hA⟩:=P2.get Bn (i:=0) zt;refine kZ ?_;exact ⟨D,_,0,.ref r,rfl,rfl,SqL.of eD,at_nonneg (Int.le_refl _) (by rw [Uo];show Option.map V.ref as[0]?=_;rw [LL];rfl),q r H1 s1 (by rw [eT zt];exact hA)⟩
def vq (H:Hp) (ins:List (US×Int)) (f':List (Key×V)) (us:List Th):Prop:=∀ (i:Nat) (u:Th),us[i]?=some u->(∃ a,aV f' (U4 (i:Int))=some (.ref a)/\At H u a)∨(aV f' (U4 (i:Int))=none/\u=aT ins)
inductive fU (vs:List V) (H:Hp) (Q:VK) (_E:XK):Prop
 | mk (ia ka da:Ui) (yk:List Ui) (ins:List (US×Int)) (kd:US×Int) (f':List (Key×V)) (us:List Th) (yp:vs=[.ref ia,.ref ka,.ref da]) (yq:H ia=some (.tup (yk.map V.ref))) (yz:KsAt H ins yk) (yF:bN ins) (yW:KAt H kd ka) (Aa:kd∈ins) (Cc:H da=some (.dK f')) (Cw:us.length=kd.2.toNat) (Fi:vq H ins f' us) (Gf:∀ (r:Ui) (H':Hp),L2.Same H H'->At H' (.knot kd.1 us) r->Q (.ref r) H'):fU  vs H Q _E
def lV:Sp:=fU
set_option maxHeartbeats 1000000 in
theorem eN:bp P w K mg base CX0 2 T.g_knot_above.f T.g_knot_above.d ["ins","kind","kids"] lV:=by
 refine T.g_knot_above.F.ok eE (fun vs H Q E h=>?_) (fun yl A outer s H vs Q E hr h=>?_)
 · obtain ⟨ia,ka,da,yk,ins,kd,f',us,rfl,_⟩:=h;rfl
 obtain ⟨ia,ka,da,yk,ins,kd,f',us,rfl,ei,zO,g,ek,hm,ed,LM,GQ,q⟩:=h
 refine ⟨_,(ae (cO (pv 1) (bz rfl (av (aj (i:=3) eE.nd rfl (UB rfl)) (av (aj (i:=4) eE.nd rfl (UB rfl)) aX))))
  (ag (aE (ax cM (aI (aa (pv 3) ac)) (cy bV rfl T.n_tuple VI (aa (cf (N:=[Um "kid",Um "kids",Um "ins"]) (js:=[none,some 2,some 0]) (g:=(aF 0)) (tt:=bG) (te:=(sS (bn 1) (bn 0) (fR ii [] E0 (bm (bn 2) dk)))) rfl (cB rfl (by decide +kernel) (by decide +kernel) rfl rfl rfl) (bC rfl T.n_range (aa (pv 4) ac)) (fun _ _ _ _ _ _=>(aj (i:=0) xP rfl (UB rfl))) (aR rfl) (fun _ _ _ _ _ _=>bM) (fun _ _ _ _ _ _=>(tU (mx hr) (pv 1) (pv 0) (pcF T.g_small_tree (eK T) hr (aa (pv 2) ac)) ⟨rfl,rfl,rfl,rfl⟩))) ac)))))),?_⟩
 try dsimp only [yH,yh]
 have BR:=g.num kd hm;have Q2:H ka=some (.tup [.str kd.1,.int kd.2]):=ek;refine ⟨_,rfl,ka,_,rfl,SqT.of Q2,rfl,_,_,rfl,_,_,rfl,rfl,?_⟩;refine ⟨_,rfl,ai (by show 1<=1000000;decide),fun p1 zT=>?_⟩;dsimp only;have s1:L2.Same H (upd H p1 (.tup [.str kd.1])):=ad zT _;have e1:(upd H p1 (.tup [.str kd.1])) p1=some (.tup [.str kd.1]):=ab;generalize (upd H p1 (.tup [.str kd.1]))=H1 at s1 e1 ⊢;have hlen:us.length=((U1 kd.2.toNat).map fun i=>V.int (i:Nat)).length:=by rw [LM,Uc,UY]
 refine ⟨_,rfl,kd.2,rfl,by omega,by omega,gO (F:=At) (xs:=(U1 kd.2.toNat).map fun i=>V.int (i:Nat)) us (fun H1 H2 z p kt h=>h.mono kt) hlen (by rw [Uc,UY];omega) (fun i Hx sx hi=>by rw [Uc,UY] at hi;exact hi) (fun Hx sx=>by rw [Uc,UY];exact Uj _) (fun i Hx x Hy sx hi hy=>⟨hy.1,?_⟩) (fun i y z Hx R W' hy Ao sx hR=>?_) (fun D H2 as hD s2 eD Bn=>?_)⟩
 · rw [Uc,UY] at hi;rw [Uo,Vp hi,hy.2];show some (V.int ((i:Nat):Int))=some (V.int (0+((i:Nat):Int)));rw [VZ]
 · have hi:i<kd.2.toNat:=by have:=(Uk.mp Ao).1;rwa [LM] at this
   rw [Uo,Vp hi] at hy;cases hy;have JX:=s1.trans sx;have OK:Hx da=some (.dK f'):=JX _ _ ed;refine ⟨_,rfl,da,rfl,.inl ⟨f',.inl OK⟩,_,rfl,_,rfl,ia,yk,ins,rfl,JX _ _ ei,zO.mono (Same.kt JX),g,fun r H3 s3 HM=>?_⟩;refine ⟨_,DGet.k (k:=U4 ((i:Nat):Int)) (s3 _ _ OK),?_⟩;rcases GQ i z Ao with ⟨a,hv,ha⟩ | ⟨hv,rfl⟩
   · rw [hv];exact hR H3 a s3 (ha.mono (Same.kt (JX.trans s3)))
   · rw [hv];exact hR H3 r s3 HM
 have zS:=Uv Bn;refine ⟨D,_,rfl,.inl ⟨SqL.of eD,fun tp DC=>?_⟩⟩;have s3:L2.Same H2 (upd H2 tp (.tup (as.map V.ref))):=ad DC _;have e3:(upd H2 tp (.tup (as.map V.ref))) tp=some (.tup (as.map V.ref)):=ab;generalize (upd H2 tp (.tup (as.map V.ref)))=H3 at s3 e3 ⊢;refine j1 ((s2.trans s3) _ _ e1) e3 (by rw [Uc];show 1+as.length<=1000000;omega) fun p H4 s4 e4=>?_;refine q p H4 (s1.trans (s2.trans (s3.trans s4))) ?_;rw [At];exact ⟨rE (g.low kd hm).1,as,e4,(lN Bn).mono (Same.kt (s3.trans s4))⟩
theorem tL {k:Nat} {A:U9} (hr:L2.Room k A):A.units+148+4<V3:=by
 have:=lb hr;omega
inductive dZ (vs:List V) (H:Hp) (Q:VK) (_E:XK):Prop
 | mk (b:Ui) (ins outs:List (US×Int)) (head:Th) (rows:List (List Th)) (yp:vs=[.ref b]) (yq:Bk H ins outs head rows b) (yz:bN ins) (yF:rows.length<=100) (yW:(∀ row∈rows,row.length=ins.length)) (Aa:∀ (r:Ui) (f':List (List Key×V)) (H':Hp),L2.Same H H'->H r=none->H' r=some (.dT f')->MkAt H' ins rows f'->Q (.ref r) H'):dZ  vs H Q _E
def jt:Sp:=dZ
def wQ (H:Hp) (ins:List (US×Int)) (rows:List (List Th)) (f':List (List Key×V)) (i j:Nat):Prop :=
 ∀ (s k:Nat) (row:List Th) (p:Th),k<3->(s<i∨(s=i/\k<j))->rows[s]?=some row->row[cC ins]?=some p->∃ a,aV f' [U4 (s:Int),U4 (k:Int)]=some (.ref a)/\At H p a
set_option maxHeartbeats 2000000 in
theorem jy:bp P w K mg base CX0 2 T.g_first_makings.f T.g_first_makings.d ["book"] jt:=by
 refine T.g_first_makings.F.ok bq (fun vs H Q E h=>?_) (fun yl A outer s H vs Q E hr h=>?_)
 · obtain ⟨b,ins,outs,head,rows,rfl,_⟩:=h;rfl
 obtain ⟨b,ins,outs,head,rows,rfl,hB,g,BS,HP,q⟩:=h;refine hid fun ZZ kZ=>?_;obtain ⟨ia,oa,ha,ra,yk,yB,yV,hB⟩:=hB;refine kZ ?_
 refine ⟨_,(ae (fD (i:=1) (N:=[Um "name",Um "many"]) (js:=[none,none]) (g:=(lX K 2 (cR (aF 0) (cR (aF 1) l6)))) (tt:=bG) (te:=(ji (bm (bn 0) dk))) bq.nd rfl (UB rfl) rfl (cB rfl (by decide +kernel) (by decide +kernel) rfl rfl rfl) (f6 (pcF T.g_ins_of (fe T) hr (aa (pv 0) ac))) (fun _ _ _ _ _ _=>(bz rfl (av (aj (i:=0) uN rfl (UB rfl)) (av (aj (i:=1) uN rfl (UB rfl)) aX)))) (fY (bW aW (aR rfl) (bW aW (aR rfl) gx))) (fun _ _ _ _ _ _=>bM) (fun _ _ _ _ _ _=>(aI (aa (pv 0) ac))))
  (ae (au (i:=2) bq.nd rfl (UB rfl) (bL Uw Xh YV (sg (B:=148) (tL hr)) (pv 1) (aa (pcF T.g_small_tree (eK T) hr (aa (pcF T.g_ins_of (fe T) hr (aa (pv 0) ac)) ac)) ac)))
  (ae (au (i:=3) bq.nd rfl (UB rfl) tu)
  (ae (bx UW rfl (nQ rfl T.n_enumerate (pcF T.g_rules_of (dY T) hr (aa (pv 0) ac))) (bz rfl (av (aj (i:=4) bq.nd rfl (UB rfl)) (av (aj (i:=5) bq.nd rfl (UB rfl)) aX))) (ag (bx UW rfl (bC rfl T.n_range (aa (gN (v:=.int (3)) rfl T.c_MOST_KIDS.choose_spec ⟨_,rfl⟩) ac)) (aj (i:=6) bq.nd rfl (UB rfl)) (ag (uM (mx hr) (pv 3) (aI (aa (pv 4) (aa (pv 6) ac))) (ay aB (pv 5) (pv 2) (fun _ _=>rfl)) rfl)))))
  (ag (aE (pv 3))))))),?_⟩
 try dsimp only [yH,yh]
 have zE:ins.length=yk.length:=Uv hB.inK;have DH:rows.length=yV.length:=Uv hB.rw;have Di:=g.le;refine ⟨_,rfl,b,_,_,_,_,rfl,hB.bk,ia,rfl,⟨_,SqT.of hB.inE⟩,gO (F:=fun H (k:US×Int) a=>At H (.knot k.1 []) a) (xs:=yk.map V.ref) ins (fun H1 H2 z p kt h=>h.mono kt) (by rw [Uc];exact zE) (by rw [Uc];omega) (fun i Hx sx hi=>⟨_,_,SqT.of (sx _ _ hB.inE),Ue hi⟩) (fun Hx sx=>⟨_,SqT.of (sx _ _ hB.inE),Uj _⟩) (fun i Hx x Hy sx hi hy=>⟨hy.1,hy.2 _ (SqT.of (sx _ _ hB.inE))⟩) (fun i x z Hx R W' hx Ao sx hR=>?_) (fun D H1 as hD s1 eD Bn=>?_)⟩
 · obtain ⟨ka,rfl,yY⟩:=aU hx;obtain ⟨z',zQ,ez⟩:=P2.get' hB.inK yY;rw [Ao] at zQ;cases zQ;have LK:Hx ka=some (.tup [.str z.1,.int z.2]):=sx _ _ ez;refine ⟨ka,_,rfl,SqT.of LK,rfl,_,_,rfl,_,_,rfl,rfl,?_⟩;refine ⟨_,rfl,ai (by show 1<=1000000;decide),fun p hp=>hR _ p (ad hp _) ?_⟩;rw [At];exact ⟨rE (g.low z (Uh Ao)).1,[],ab,.nil⟩
 -- at
 obtain ⟨k0,zt,BN⟩:=k9 g;have hI:=eW zt;refine ⟨_,rfl,.inl ⟨rfl,_,SqL.of eD⟩,_,rfl,b,_,_,_,_,rfl,s1 _ _ hB.bk,ia,yk,ins,rfl,s1 _ _ hB.inE,hB.inK.mono (Same.kt s1),g,fun st H2 s2 yM=>?_⟩;have AW:=s1.trans s2;have LN:Ats H2 (ins.map fun k=>Th.knot k.1 []) as:=(oQ Bn).mono (Same.kt s2);refine ⟨D,.ref st,_,(aT ins).dv,dvs (ins.map fun k=>Th.knot k.1 []),cC ins,rfl,rfl,SqL.of (s2 _ _ eD),yM.dv,LN.dvs,?_,?_,fun i hi hz=>?_,?_,?_⟩
 · have h1:=iO (ins.map fun k=>Th.knot k.1 [])
   have h2:bE (ins.map fun k=>Th.knot k.1 [])<=1:=ml fun u hu=>by
    obtain ⟨k,_,rfl⟩:=U5.mp hu;rw [Th.tall,bE];exact Uj _
   omega
 · rw [qi,Uo,hI,eT zt];rfl
 · rw [qi,Uo] at hz;cases HQ:ins[i]? with
   | none=>rw [HQ] at hz;cases hz
   | some k =>
     rw [HQ,eT zt] at hz;have OL:(Th.knot k.1 []).dv=(Th.knot k0.1 []).dv:=UR hz;rw [Th.dv,Th.dv] at OL;have Q3:=Dv.tup.inj OL;injection Q3 with Q4 _;injection Q4 with Q5;have:=g.nd i (cC ins) k k0 HQ hI Q5;omega
 · rw [qN,Uc];omega
 -- made
 intro td OM;dsimp only [aF];have s3:L2.Same H2 (upd H2 td (.dT [])):=ad OM _;have e3:(upd H2 td (.dT [])) td=some (.dT []):=ab;have HR:H td=none:=AW.free OM;generalize (upd H2 td (.dT []))=H3 at s3 e3 ⊢;have Fj:=AW.trans s3;refine ⟨_,rfl,b,_,_,_,_,rfl,Fj _ _ hB.bk,ra,rfl,⟨_,SqT.of (Fj _ _ hB.rl)⟩,?_⟩
 refine t5 (K:=K) (a:=ra) (xs:=yV.map V.ref) (fun i σ H4=>Ex4 fun (c4 c5 c6:Option V) (tk:List (List Key×V))=>An5 (σ=[some (.ref b),some (.ref D),some (.int (cC ins:Nat)),some (.ref td),c4,c5,c6]) (L2.Same H H4) (H4 td=some (.dT tk)) (tk.length<=3 * i) (wQ H4 ins rows tk i 0))
  ⟨none,none,none,[],rfl,Fj,e3,UO _,fun s k row p _ h=>by rcases h with h | ⟨_,h⟩ <;> cases h⟩ (fun i σ H4 _ ⟨_,_,_,_,_,s4,_,_,_⟩=>SqT.of (s4 _ _ hB.rl)) ?_ ?_
 · rintro i x pr σ H4 hx zX ⟨c4,c5,c6,tk,rfl,s4,LO,hlen,yi⟩;refine hid fun ZZ kZ=>?_;obtain ⟨rwa,rfl,LP⟩:=aU hx;obtain ⟨row,yc,Bo,DI,Es⟩:=P2.get' hB.rw LP;refine kZ ?_;have Q6:i<100:=by have:=(Uk.mp yc).1;omega
   have Q7:=HP row (Uh yc);have DJ:=Es.length;have QO:=(Uk.mp hI).1;have s5:L2.Same H4 (upd H4 pr (.tup [.int ((i:Nat):Int),.ref rwa])):=ad zX _;have e5:(upd H4 pr (.tup [.int ((i:Nat):Int),.ref rwa])) pr=some (.tup [.int ((i:Nat):Int),.ref rwa]):=ab;generalize (upd H4 pr (.tup [.int ((i:Nat):Int),.ref rwa]))=H5 at s5 e5 ⊢;have DK:=s4.trans s5;refine ⟨pr,_,rfl,SqT.of e5,rfl,_,_,rfl,_,_,rfl,rfl,?_⟩;dsimp only [aF];refine ⟨3,rfl,by decide,by decide,?_⟩
   refine bP (n:=3) (fun j σ H6=>Ex2 fun (c6:Option V) (tk:List (List Key×V))=>An5 (σ=[some (.ref b),some (.ref D),some (.int (cC ins:Nat)),some (.ref td),some (.int ((i:Nat):Int)),some (.ref rwa),c6]) (L2.Same H H6) (H6 td=some (.dT tk)) (tk.length<=3 * i+j) (wQ H6 ins rows tk i j))
    ⟨_,tk,rfl,DK,s5 _ _ LO,hlen,fun s k row p hk h h1 h2=>by
     obtain ⟨a,a1,a2⟩:=yi s k row p hk h h1 h2;exact ⟨a,a1,a2.mono (Same.kt s5)⟩⟩ ?_ ?_
   · rintro j σ H6 hj ⟨c6,tk,rfl,s6,LR,hlen,yi⟩;refine hid fun ZZ kZ=>?_;obtain ⟨pa,Dd⟩:∃ a,Bo[cC ins]?=some a:=⟨_,Ue (by omega)⟩;obtain ⟨p0,Ce,CT⟩:=Es.get Dd;refine kZ ?_;refine ⟨_,rfl,_,rfl,rwa,_,_,.ref pa,rfl,rfl,SqT.of (s6 _ _ DI),ce (by rw [Uo,Dd];rfl),_,rfl,_,rfl,_,rfl,ai (by show 2<=1000000;decide),fun kp BU=>?_⟩;have s7:L2.Same H6 (upd H6 kp (.tup [.int ((i:Nat):Int),.int (0+((j:Nat):Int))])):=ad BU _;have e7:(upd H6 kp (.tup [.int ((i:Nat):Int),.int (0+((j:Nat):Int))])) kp=some (.tup ([U4 ((i:Nat):Int),U4 (0+((j:Nat):Int))].map kV)):=ab;generalize (upd H6 kp (.tup [.int ((i:Nat):Int),.int (0+((j:Nat):Int))]))=H7 at s7 e7 ⊢;have ON:=s7 _ _ LR;refine ⟨td,_,rfl,DPut.t ON e7 (aH (by omega)),?_⟩
     have BV:KT H7 (upd H7 td (.dT (putK tk [U4 ((i:Nat):Int),U4 (0+((j:Nat):Int))] (.ref pa)))):=fun c ys ec=>by
      rw [ak (fP ec ON (fun z=>nomatch z))];exact ec
     refine ⟨_,_,rfl,aw (s6.trans s7) HR,ab,?_,fun s k Ap p' hk h h1 h2=>?_⟩
     · have:=bZ tk [U4 ((i:Nat):Int),U4 (0+((j:Nat):Int))] (V.ref pa);omega
     · rw [iR];by_cases Cg:([U4 ((s:Nat):Int),U4 ((k:Nat):Int)]:List Key)=[U4 ((i:Nat):Int),U4 (0+((j:Nat):Int))]
       · rw [if_pos Cg];injection Cg with e1 e2;have Av:((s:Nat):Int)=(i:Nat):=Xn e1;have:s=i:=by omega
         subst this;rw [yc] at h1;cases h1;rw [Ce] at h2;cases h2;exact ⟨pa,rfl,CT.mono ((Same.kt (s6.trans s7)).trans BV)⟩
       · rw [if_neg Cg]
         have Q8:s<i∨(s=i/\k<j):=by
          rcases h with h | ⟨rfl,h⟩
          · exact .inl h
          · refine .inr ⟨rfl,?_⟩;by_cases Q9:k=j
            · exact absurd (by rw [Q9,VZ]) Cg
            · omega
         obtain ⟨a,a1,a2⟩:=yi s k Ap p' hk Q8 h1 h2;exact ⟨a,a1,a2.mono ((Same.kt s7).trans BV)⟩
   · rintro σ H6 ⟨c6,tk,rfl,s6,LR,hlen,yi⟩;exact ⟨_,_,_,tk,rfl,s6,LR,by omega,fun s k row p hk h h1 h2=>yi s k row p hk (by rcases h with h | ⟨_,h⟩;(· by_cases hs:s=i;exact .inr ⟨hs,hk⟩;exact .inl (by omega));exact absurd h (X4 _)) h1 h2⟩
 · rintro σ H4 ⟨c4,c5,c6,tk,rfl,s4,LO,hlen,yi⟩;refine ⟨_,rfl,q td tk H4 s4 HR LO fun s k row p hk h1 h2=>yi s k row p hk (.inl ?_) h1 h2⟩;rw [Uc,<- DH];exact (Uk.mp h1).1
inductive fK (P:Uz) (w:UN) (K:Ug) (vs:List V) (H:Hp) (Q:VK) (_E:XK):Prop
 | mk (b md pt:Ui) (s:Nat) (ins outs:List (US×Int)) (head:Th) (rows:List (List Th)) (row:List Th) (Aq:List (List Key×V)) (f':List (aA×V)) (Al:List aA) (Vl:VlT) (yp:vs=[.ref b,.int (s:Nat),.ref md,.ref pt]) (yq:Bk H ins outs head rows b) (yz:FrK ins outs rows) (yF:rows[s]?=some row) (yW:H md=some (.dT Aq)) (Aa:MkAt H ins rows Aq) (Cc:Pt P w Vl H pt f' Al) (Cw:Al.length<=1000000) (Fi:(∀ x∈(mkF ins rows (s:Nat)).pl [],nk (s:Nat) x.1∈Al)) (Gf:(∀ x∈(mkF ins rows (s:Nat)).pl [],x.2.isHole=false)) (Fl:(∀ (i:Nat) (p:Th) (kd:US×Int) (pl:List Int) (u:Th) (j:Nat),row[i]?=some p->ins[i]?=some kd->(pl,u)∈(frF (mkF ins rows) (mkF ins rows (s:Nat)) (row.take (i+1))).pl []->u.isHole=true->(∀ v,(pl,v)∈(frF (mkF ins rows) (mkF ins rows (s:Nat)) (row.take i)).pl []->v.isHole=false)->Vl j (nk (s:Nat) pl) (aT ins) (.knot kd.1 (Wf kd.2.toNat (aT ins))))) (Fm:∀ (r:Ui) (zb:List (aA×V)) (H':Hp),But pt H H'->AtK K H' (frF (mkF ins rows) (mkF ins rows (s:Nat)) row) r->Pt P w Vl H' pt zb Al->(∀ k∈f'.map (·.1),k∈zb.map (·.1))->(∀ i,i<=row.length->∀ x∈(frF (mkF ins rows) (mkF ins rows (s:Nat)) (row.take i)).pl [],x.2.isHole=true->nk (s:Nat) x.1∈zb.map (·.1))->Q (.ref r) H'):fK P w K vs H Q _E
def gz (P:Uz) (w:UN) (K:Ug):Sp:=fK P w K
set_option maxHeartbeats 4000000 in
theorem lG:bp P w K mg base CX0 6 T.g_first_front.f T.g_first_front.d ["book","state","made","partings"] (gz P w K):=by
 refine T.g_first_front.F.ok bK (fun vs H Q E h=>?_) (fun yl A outer s0 H vs Q E hr h=>?_)
 · obtain ⟨b,md,pt,s,ins,outs,head,rows,row,Aq,f',Al,Vl,rfl,_⟩:=h;rfl
 obtain ⟨b,md,pt,s,ins,outs,head,rows,row,Aq,f',Al,Vl,rfl,hB,F,yc,Gg,DL,Et,JY,By,Bb,hV,q⟩:=h;refine hid fun ZZ kZ=>?_;obtain ⟨ia,oa,ha,ra,yk,yB,yV,hB⟩:=hB;refine kZ ?_
 refine ⟨_,(ae (au (i:=4) bK.nd rfl (UB rfl) (pcF T.g_ins_of (fe T) hr (aa (pv 0) ac)))
  (ae (au (i:=5) bK.nd rfl (UB rfl) (nE (mx hr) (pv 2) (aI (aa (pv 1) (aa af ac))) (fun _ _=>rfl)))
  (ae (bx UW rfl (sU rfl T.n_zip (aa (pv 4) (aa (ay aB (pcF T.g_rules_of (dY T) hr (aa (pv 0) ac)) (pv 1) (fun _ _=>rfl)) ac))) (bz rfl (av (aj (i:=6) bK.nd rfl (UB rfl)) (av (aj (i:=7) bK.nd rfl (UB rfl)) aX))) (ae (au (i:=5) bK.nd rfl (UB rfl) (pcF T.g_common (r9 T) hr (aa (pv 5) (aa (pcF T.g_filled (sI T) hr (aa (pv 7) (aa (pv 2) ac))) ac))))
  (ag (bx UW rfl (cz (pcF T.g_holes_in (jG T) hr (aa (pv 5) ac))) (aj (i:=8) bK.nd rfl (UB rfl)) (ag (aQ (tq Yt PySem.F.type_dict_setdefault (gC (fZ hr)) (pv 3) (aa (aI (aa (pv 1) (aa (pv 8) ac))) (aa (aI (aa (pcF T.g_small_tree (eK T) hr (aa (pv 4) ac)) (aa (pcF T.g_knot_above (eN T) hr (aa (pv 4) (aa (pv 6) (aa tZ ac)))) ac))) ac)))))))))
  (ag (aE (pv 5)))))),?_⟩
 try dsimp only [yH,yh]
 have g:=F.gi;have zE:ins.length=yk.length:=Uv hB.inK;have DH:rows.length=yV.length:=Uv hB.rw;have Di:=g.le;have OJ:=(Uk.mp yc).1;obtain ⟨φ,DN⟩:=cr Et.dm;have HS:md≠pt:=fun z=>by rw [z,DN] at Gg;cases Gg
 -- ins,front
 refine ⟨_,rfl,b,_,_,_,_,rfl,hB.bk,?_⟩;refine hid fun ZZ kZ=>?_;obtain ⟨Ap,p0,Lo,Ce,Df,z1,z2,f0⟩:=F.mkd (l:=(s:Nat)) (by omega) (by omega);rw [Vh,yc] at Lo;cases Lo;obtain ⟨fa,Ra,Dg⟩:=DL s 0 row p0 (by decide) yc Ce;refine kZ ?_;refine ⟨_,rfl,_,rfl,ai (by show 2<=1000000;decide),fun kp BU=>?_⟩;have s1:L2.Same H (upd H kp (.tup [.int ((s:Nat):Int),.int 0])):=ad BU _;have e1:(upd H kp (.tup [.int ((s:Nat):Int),.int 0])) kp=some (.tup (([U4 ((s:Nat):Int),U4 0]:List Key).map kV)):=ab;generalize (upd H kp (.tup [.int ((s:Nat):Int),.int 0]))=H1 at s1 e1 ⊢;refine ⟨md,.ref fa,rfl,.inr ⟨Aq,_,kp,.inl (s1 _ _ Gg),rfl,e1,Ra.symm⟩,?_⟩
 -- AQ loop
 refine hid fun ZZ kZ=>?_;obtain ⟨zg,zH,Bo,DI,AM⟩:=P2.get hB.rw yc;refine kZ ?_;have y8:=AM.length;have CU:=(F.fit.row row (Uh yc)).1;refine ⟨_,rfl,_,rfl,b,_,_,_,_,rfl,s1 _ _ hB.bk,_,rfl,ra,_,_,.ref zg,rfl,rfl,SqT.of (s1 _ _ hB.rl),ce (by rw [Uo,zH];rfl),ia,zg,rfl,⟨_,SqT.of (s1 _ _ hB.inE)⟩,⟨_,SqT.of (s1 _ _ DI)⟩,?_⟩
 have HU:∀ (i:Nat) (p:Th),row[i]?=some p->∀ l k,Th.call l k∈p.walk->∃ v,aV Aq [U4 l,U4 k]=some (.ref v)/\At H (mkF ins rows l) v/\(mkF ins rows l).size<=200:=fun i p hp l k hc=>by
  have ym:=(Uk.mp hp).1;obtain ⟨kd,CS⟩:∃ kd,ins[i]?=some kd:=⟨_,Ue (by omega)⟩;have hf:=(F.fit.row row (Uh yc)).2 i p kd hp CS;have BR:=g.num kd (Uh CS);obtain ⟨a1,a2,a3,a4⟩:=sG hf hc;obtain ⟨Rb,p1,b1,b2,b3,b4,_⟩:=F.mkd a1 a2;obtain ⟨v,v1,v2⟩:=DL l.toNat k.toNat Rb p1 (by omega) b1 b2;rw [Xg a1,Xg a3] at v1;exact ⟨v,v1,by rw [b3];exact v2,by rw [b3];exact b4⟩
 have Rc:∀ i',i'<=0->∀ x∈(frF (mkF ins rows) (mkF ins rows (s:Nat)) (row.take i')).pl [],x.2.isHole=true->nk (s:Nat) x.1∈f'.map (·.1):=fun i' yX x hx hh=>by
  rw [Nat.le_zero.mp yX,WV] at hx;have:=Bb x hx;rw [hh] at this;cases this
 refine rf (K:=K) (a:=ia) (b:=zg) (xs:=yk.map V.ref) (ys:=Bo.map V.ref) (by rw [Uc,Uc];omega) (fun i σ H2=>Ex5 fun (fa:Ui) (c6 c7 c8:Option V) (zk:List (aA×V))=>An6 (σ=[some (.ref b),some (.int ((s:Nat):Int)),some (.ref md),some (.ref pt),some (.ref ia),some (.ref fa),c6,c7,c8]) (But pt H H2) (AtK K H2 (frF (mkF ins rows) (mkF ins rows (s:Nat)) (row.take i)) fa) (Pt P w Vl H2 pt zk Al) ((∀ k∈f'.map (·.1),k∈zk.map (·.1))) ((∀ i',i'<=i->∀ x∈(frF (mkF ins rows) (mkF ins rows (s:Nat)) (row.take i')).pl [],x.2.isHole=true->nk (s:Nat) x.1∈zk.map (·.1))))
  ⟨fa,none,none,none,f',rfl,Same.but s1,by rw [WV,Df];exact (Dg.mono (Same.kt s1)).k,Et.same s1,fun _ h=>h,Rc⟩ (fun i σ H2 _ ⟨_,_,_,_,_,_,b2,_,_,_,_⟩=>?_) ?_ ?_
 · have kt:=b2.kt DN;exact ⟨SqT.of (kt _ _ hB.inE),SqT.of (kt _ _ DI)⟩
 · rintro i x y p2 σ H2 hx hy Aj ⟨fa,c6,c7,c8,zk,rfl,b2,y3,zI,zy,Gh⟩;refine hid fun ZZ kZ=>?_;obtain ⟨ka,rfl,yY⟩:=aU hx;obtain ⟨pa,rfl,Dd⟩:=aU hy;obtain ⟨kd,hk,ek⟩:=P2.get' hB.inK yY;obtain ⟨p,hp,CT⟩:=AM.get Dd;refine kZ ?_;have LS:=b2.kt DN;have s3:L2.Same H2 (upd H2 p2 (.tup [.ref ka,.ref pa])):=ad Aj _;have e3:(upd H2 p2 (.tup [.ref ka,.ref pa])) p2=some (.tup [.ref ka,.ref pa]):=ab;generalize (upd H2 p2 (.tup [.ref ka,.ref pa]))=H3 at s3 e3 ⊢;have HV:=LS.trans (Same.kt s3);have b3:=b2.trans (Same.but s3);refine ⟨p2,_,rfl,SqT.of e3,rfl,_,_,rfl,_,_,rfl,rfl,?_⟩;dsimp only [aF]
   -- filled,common
   have Ek:=F.sz row (Uh yc) p (Uh hp);refine ⟨_,rfl,_,rfl,_,rfl,pa,md,p,(fun l _=>mkF ins rows l),Aq,rfl,(CT.mono HV).k,by omega,.inl (b3 _ _ HS Gg),fun l k hc=>?_,fun fl H4 s4 BW=>?_⟩
   · refine hid fun ZZ kZ=>?_;obtain ⟨v,v1,v2,v3⟩:=HU i p hp l k hc;refine kZ ?_;exact ⟨v,v1,(v2.mono HV).k,by omega⟩
   have hsz:=lc (mkF ins rows) (mkF ins rows (s:Nat)) (row.take i);rw [Df] at hsz;have HW:=y3.mono (Same.kt (s3.trans s4));rw [Df] at HW;refine ⟨fa,fl,_,_,rfl,HW,BW,by omega,by omega,fun cm H5 s5 HX=>?_⟩;have Af:row.take (i+1)=row.take i++[p]:=by rw [Vs,hp];rfl
   have HY:AtK K H5 (frF (mkF ins rows) (mkF ins rows (s:Nat)) (row.take (i+1))) cm:=by
    rw [Af,j4,Df];exact HX
   have b5:=b3.trans (Same.but (s4.trans s5));have LU:=zI.same (s3.trans (s4.trans s5));have Ti:=b5.kt DN;have LV:=lc (mkF ins rows) (mkF ins rows (s:Nat)) (row.take (i+1));rw [Df] at LV;have HZ:=HY;rw [Df] at HZ
   -- holes
   refine ⟨_,rfl,cm,_,rfl,HZ,by omega,by omega,fun hl bs H6 s6 Fn yA=>?_⟩;rw [<- Df] at yA;have b6:=b5.trans (Same.but s6);have Ia:=LU.same s6;have Dj:=b6.kt DN;obtain ⟨Rf,BX⟩:=cr Ia.dm;have LW:=HY.mono (Same.kt s6);have Eu:hl≠pt:=fun z=>by rw [z,BX] at Fn;cases Fn
   have ze:=Uv yA;have Rg:=WZ (fun p:List Int×Th=>p.2.isHole) ((frF (mkF ins rows) (mkF ins rows (s:Nat)) (row.take (i+1))).pl []);rw [Th.pl_len] at Rg;have BR:=g.num kd (Uh hk);refine ⟨hl,rfl,⟨_,SqL.of Fn⟩,?_⟩
   refine eX (K:=K) (a:=hl) (xs:=bs.map V.ref) (fun j σ H7=>Ex2 fun (c8:Option V) (DO:List (aA×V))=>An5 (σ=[some (.ref b),some (.int ((s:Nat):Int)),some (.ref md),some (.ref pt),some (.ref ia),some (.ref cm),some (.ref ka),some (.ref pa),c8]) (But pt H6 H7) (Pt P w Vl H7 pt DO Al) ((∀ k∈zk.map (·.1),k∈DO.map (·.1))) (∀ (j':Nat) (pl:List Int),j'<j->((((frF (mkF ins rows) (mkF ins rows (s:Nat)) (row.take (i+1))).pl []).filter fun p=>p.2.isHole).map (·.1))[j']?=some pl->nk (s:Nat) pl∈DO.map (·.1)))
    ⟨_,zk,rfl,But.refl _ _,Ia,fun _ h=>h,fun _ _ h=>absurd h (X4 _)⟩ (fun j σ H7 _ ⟨_,_,_,b7,_,_,_⟩=>SqL.of (b7 _ _ Eu Fn)) ?_ ?_
   · rintro j x σ H7 hx ⟨c8,DO,rfl,b7,CV,zu,yi⟩;refine hid fun ZZ kZ=>?_;obtain ⟨pb,rfl,BF⟩:=aU hx;obtain ⟨pl,DQ,LX⟩:=P2.get' yA BF;have BV:=b7.kt BX;have LY:=Dj.trans BV;have Gi:=BV _ _ LX
     obtain ⟨Lp,Oo,Rh⟩:∃ u,(pl,u)∈(frF (mkF ins rows) (mkF ins rows (s:Nat)) (row.take (i+1))).pl []/\u.isHole=true:=by
      obtain ⟨x,Dx,rfl⟩:=U5.mp (Uh DQ);exact ⟨x.2,(V7.mp Dx).1,(V7.mp Dx).2⟩
     refine kZ ?_
     have LZ:nk (s:Nat) pl∈Al:=by
      obtain ⟨x,Dx,rfl⟩:=U5.mp (Uh DQ);obtain ⟨u,hu⟩:=uk (mkF ins rows) (mkF ins rows (s:Nat)) (row.take (i+1)) x (V7.mp Dx).1;exact By (x.1,u) hu
     have Tj:=CV.len;refine ⟨_,rfl,⟨pt,DO,rfl,CV.dm⟩,_,rfl,_,rfl,ai (by show 2<=1000000;decide),fun E3 L3=>?_⟩;have s8:L2.Same H7 (upd H7 E3 (.tup [.int ((s:Nat):Int),.ref pb])):=ad L3 _;have e8:(upd H7 E3 (.tup [.int ((s:Nat):Int),.ref pb])) E3=some (.tup [.int ((s:Nat):Int),.ref pb]):=ab;generalize (upd H7 E3 (.tup [.int ((s:Nat):Int),.ref pb]))=H8 at s8 e8 ⊢;have BY:=LY.trans (Same.kt s8);refine ⟨_,rfl,ia,yk,ins,rfl,BY _ _ hB.inE,hB.inK.mono BY,g,fun st H9 s9 yM=>?_⟩;have L4:=BY.trans (Same.kt s9);refine ⟨_,rfl,_,rfl,fun dd JZ=>?_⟩;have yJ:L2.Same H9 (upd H9 dd (.dK [])):=ad JZ _;have Fe:(upd H9 dd (.dK [])) dd=some (.dK []):=ab;generalize (upd H9 dd (.dK []))=yZ at yJ Fe ⊢;have Fp:=L4.trans (Same.kt yJ);refine ⟨ia,ka,dd,yk,ins,kd,[],Wf kd.2.toNat (aT ins),rfl,Fp _ _ hB.inE,hB.inK.mono Fp,g,Fp _ _ ek,Uh hk,Fe,by rw [Xv],fun i' u hu=>.inr ⟨rfl,List.eq_of_mem_replicate (Uh hu)⟩,fun r2 zm zi E8=>?_⟩;refine ⟨ai (by show 2<=1000000;decide),fun pr zX=>?_⟩;have yL:L2.Same zm (upd zm pr (.tup [.ref st,.ref r2])):=ad zX _;have BZ:(upd zm pr (.tup [.ref st,.ref r2])) pr=some (.tup [.ref st,.ref r2]):=ab;generalize (upd zm pr (.tup [.ref st,.ref r2]))=Cj at yL BZ ⊢;have Fq:=yJ.trans (zi.trans yL);have DR:=s8.trans (s9.trans Fq);have CW:=CV.same DR;refine ⟨pt,E3,.ref pr,nk (s:Nat) pl,DO,rfl,rfl,CW.dm,lA ((s9.trans Fq) _ _ e8) (DR _ _ Gi),aH (by omega),fun u hu=>?_,fun hn Dm OO L6=>?_⟩
     · refine ⟨_,DO,rfl,b7.trans (Same.but DR),CW,zu,fun j' zN yv zh=>?_⟩;by_cases CY:j'=j
       · subst CY;rw [DQ] at zh;cases zh;exact U5.mpr ⟨_,eZ hu,rfl⟩
       · exact yi j' zN (by omega) zh
     · have Ri:∀ v,(pl,v)∈(frF (mkF ins rows) (mkF ins rows (s:Nat)) (row.take i)).pl []->v.isHole=false:=fun v hv=>by
        cases Rj:v.isHole with
        | false=>rfl
        | true =>
          exfalso;exact cY hn (zu _ (Gh i (Uj _) (pl,v) hv Rj))
       obtain ⟨Gj,Ib⟩:=CW.put hn OO L6 ⟨pr,st,r2,_,_,rfl,BZ,yM.mono (Same.kt Fq),E8.mono (Same.kt yL),hV i p kd pl Lp _ hp hk Oo Rh Ri⟩ LZ;refine ⟨_,_,rfl,(b7.trans (Same.but DR)).trans OO,Gj,fun k Cg=>by rw [Ib];exact Vi _ (zu k Cg),fun j' zN yv zh=>?_⟩;rw [Ib];by_cases CY:j'=j
       · subst CY;rw [DQ] at zh;cases zh;exact Vc _ (UH ..)
       · exact Vi _ (yi j' zN (by omega) zh)
   · rintro σ H7 ⟨c8,DO,rfl,b7,CV,zu,yi⟩;refine ⟨cm,_,_,_,DO,rfl,b6.trans b7,LW.mono (b7.kt BX),CV,fun k Cg=>zu k (zy k Cg),fun i' yX x hx hh=>?_⟩;by_cases Rk:i'<=i
     · exact zu _ (Gh i' Rk x hx hh)
     obtain rfl:i'=i+1:=by omega
     have hm:x.1∈(((frF (mkF ins rows) (mkF ins rows (s:Nat)) (row.take (i+1))).pl []).filter fun p=>p.2.isHole).map (·.1):=U5.mpr ⟨x,V7.mpr ⟨hx,hh⟩,rfl⟩;obtain ⟨j',yv⟩:=UG.mp hm;exact yi j' x.1 (by have:=(Uk.mp yv).1;rw [Uc];omega) yv
 · rintro σ H2 ⟨fa,c6,c7,c8,zk,rfl,b2,y3,zI,zy,hh⟩;rw [Uc] at y3 hh;rw [Vx (by omega)] at y3;exact ⟨_,rfl,q fa zk H2 b2 y3 zI zy fun i hi=>hh i (by omega)⟩
def LDone (H:Hp) (G:LG) (s:Nat) (ps:List Th) (f0:Th):Prop:=∀ p∈ps,∀ c∈callsOf (p.pl []),∀ u,(c.1,u)∈f0.pl []->∀ x∈u.pl [],gR H G (nk c.2.1 x.1) (s:Nat) (c.1++x.1)
theorem LDone.sub {H H':Hp} {G G':LG} {s:Nat} {ps:List Th} {f0:Th} (h:LDone H G s ps f0) (k:LSub H H' G G'):LDone H' G' s ps f0:=fun p hp c hc u hu x hx=>k _ _ _ (h p hp c hc u hu x hx)
inductive gX (P:Uz) (w:UN) (K:Ug) (vs:List V) (H:Hp) (Q:VK) (_E:XK):Prop
 | mk (b fa la:Ui) (s:Nat) (ins outs:List (US×Int)) (head:Th) (rows:List (List Th)) (row:List Th) (f0:Th) (H0:Hp) (G:LG) (N:Nat) (Al:List aA) (Lk:LkT) (yp:vs=[.ref b,.int (s:Nat),.ref fa,.ref la]) (yq:Bk H ins outs head rows b) (yz:FrK ins outs rows) (yF:rows[s]?=some row) (yW:AtK K H f0 fa) (Aa:f0.size<=200) (Cc:f0.tall<=100) (Cw:LkI P w ins Al Lk H0 H la G N) (Fi:N<=15000000) (Gf:(∀ x∈f0.pl [],nk (s:Nat) x.1∈Al)) (Fl:(∀ (i:Nat) (p:Th) (kd:US×Int) (c:List Int×Int×Int) (u:Th) (x:List Int×Th),row[i]?=some p->ins[i]?=some kd->c∈callsOf (p.pl [])->(c.1,u)∈f0.pl []->x∈u.pl []->Lk (nk c.2.1 x.1) (s:Nat) (c.1++x.1) kd c.2.2)) (Fm:∀ (G':LG) (H':Hp),KT H H'->LkI P w ins Al Lk H0 H' la G' (N+640000)->LSub H H' G G'->LDone H' G' s row f0->Q .non H'):gX P w K vs H Q _E
def nW (P:Uz) (w:UN) (K:Ug):Sp:=gX P w K
set_option maxHeartbeats 4000000 in
theorem m7:bp P w K mg base CX0 6 T.g_put_links.f T.g_put_links.d ["book","state","front","links"] (nW P w K):=by
 refine T.g_put_links.F.ok bQ (fun vs H Q E h=>?_) (fun yl A outer s0 H vs Q E hr h=>?_)
 · obtain ⟨b,fa,la,s,ins,outs,head,rows,row,f0,H0,G,N,Al,Lk,rfl,_⟩:=h;rfl
 obtain ⟨b,fa,la,s,ins,outs,head,rows,row,f0,H0,G,N,Al,Lk,rfl,hB,F,yc,y3,Tn,To,L,hN,By,hL,q⟩:=h;refine hid fun ZZ kZ=>?_;obtain ⟨ia,oa,ha,ra,yk,yB,yV,hB⟩:=hB;refine kZ ?_
 refine ⟨_,(ae (au (i:=4) bQ.nd rfl (UB rfl) (cy (lF (uW hr) rfl) rfl T.n_dict PyProof.Rows.boot_dict (aa (pcF T.g_placed (gE T) hr (aa (pv 2) ac)) ac)))
  (ag (bx UW rfl (sU rfl T.n_zip (aa (pcF T.g_ins_of (fe T) hr (aa (pv 0) ac)) (aa (ay aB (pcF T.g_rules_of (dY T) hr (aa (pv 0) ac)) (pv 1) (fun _ _=>rfl)) ac))) (bz rfl (av (aj (i:=5) bQ.nd rfl (UB rfl)) (av (aj (i:=6) bQ.nd rfl (UB rfl)) aX))) (ag (bx UW rfl (cz (pcF T.g_calls_in (o8 T) hr (aa (pv 6) ac))) (bz rfl (av (aj (i:=7) bQ.nd rfl (UB rfl)) (av (bz rfl (av (aj (i:=8) bQ.nd rfl (UB rfl)) (av (aj (i:=9) bQ.nd rfl (UB rfl)) aX))) aX))) (ag (bI (qB (vR (mx hr) (pv 7) (pv 4))) (ag (bx UW rfl (cz (pcF T.g_places (sB T) hr (aa (nE (mx hr) (pv 4) (pv 7) (fun _ _=>rfl)) ac))) (aj (i:=10) bQ.nd rfl (UB rfl)) (ag (aQ (bL Uw UM UL aL (tq Yt PySem.F.type_dict_setdefault (gC (fZ hr)) (pv 3) (aa (aI (aa (pv 8) (aa (pv 10) ac))) (aa (bo ac) ac))) (aa (aI (aa (pv 1) (aa (ax cM (pv 7) (pv 10)) (aa (pv 5) (aa (pv 9) ac))))) ac)))))) bi))))))),?_⟩
 try dsimp only [yH,yh]
 have g:=F.gi;have zE:ins.length=yk.length:=Uv hB.inK;have Di:=g.le;have OJ:=(Uk.mp yc).1
 -- parts
 refine ⟨_,rfl,fa,f0,rfl,y3,by omega,by omega,fun Rl J0 H1 s1 Tp Fs yT=>?_⟩;have L9:(f0.pl []).length=J0.length:=Uv yT;rw [Th.pl_len] at L9;refine hid fun ZZ kZ=>?_;obtain ⟨prs,Bp,Ma,Mb⟩:∃ prs:List (List Key×V),UX (PrA H1) prs J0/\(∀ p∈prs,∃ x∈f0.pl [],p.1=x.1.map U4/\∃ a,p.2=.ref a/\AtK K H1 x.2 a)/\∀ x∈f0.pl [],∃ p∈prs,p.1=x.1.map U4:=sV yT;refine kZ ?_;have OP:prs.length=J0.length:=Uv Bp;refine ⟨Rl,J0,prs,rfl,Fs,Bp,by omega,fun pd Rm=>?_⟩;have s2:L2.Same H1 (upd H1 pd (.dT (cn [] prs))):=ad Rm _;have e2:(upd H1 pd (.dT (cn [] prs))) pd=some (.dT (cn [] prs)):=ab;generalize (upd H1 pd (.dT (cn [] prs)))=H2 at s2 e2 ⊢;refine hid fun ZZ kZ=>?_;obtain ⟨f1,f2⟩:=jN (R:=fun k v=>∃ x∈f0.pl [],k=x.1.map U4/\∃ a,v=.ref a/\AtK K H1 x.2 a) prs [] (fun k v hv=>by cases hv) Ma;have AW:=s1.trans s2;have Ft:=L.same AW;obtain ⟨zg,zH,Bo,DI,AM⟩:=P2.get hB.rw yc;refine kZ ?_;have y8:=AM.length;have CU:=(F.fit.row row (Uh yc)).1
 have Mc:∀ (q:List Int) (u:Th),(q,u)∈f0.pl []->∃ a,aV (cn [] prs) (q.map U4)=some (.ref a)/\AtK K H1 u a:=fun q u hu=>by
  obtain ⟨p,hp,e⟩:=Mb (q,u) hu;obtain ⟨v,hv⟩:=f2 (q.map U4) (.inr ⟨p,hp,e⟩);obtain ⟨x,hx,ex,a,rfl,ha⟩:=f1 _ v hv;have hq:q=x.1:=(YG (fun _ _ e=>Xn e)).mp ex;have:u=x.2:=nI _ (Uj _) hu (by rw [hq];exact hx);rw [this];exact ⟨a,hv,ha⟩
 have Md:∀ (q:List Int) (v:V),aV (cn [] prs) (q.map U4)=some v->∃ u a,(q,u)∈f0.pl []/\v=.ref a/\AtK K H1 u a:=fun q v hv=>by
  obtain ⟨x,hx,ex,a,rfl,ha⟩:=f1 _ v hv;have hq:q=x.1:=(YG (fun _ _ e=>Xn e)).mp ex;exact ⟨x.2,a,by rw [hq];exact hx,rfl,ha⟩
 have Ew:pd≠la:=fun z=>by
  obtain ⟨φ,e⟩:=cr Ft.dm;rw [z,e] at e2;cases e2
 have Me:∀ g∈G,g.2.1≠pd:=fun g hg z=>by
  have:=(Ft.ls g hg).2.1;rw [z,e2] at this;cases this
 refine ⟨_,rfl,b,_,_,_,_,rfl,AW _ _ hB.bk,_,rfl,b,_,_,_,_,rfl,AW _ _ hB.bk,_,rfl,ra,_,_,.ref zg,rfl,rfl,SqT.of (AW _ _ hB.rl),ce (by rw [Uo,zH];rfl),ia,zg,rfl,⟨_,SqT.of (AW _ _ hB.inE)⟩,⟨_,SqT.of (AW _ _ DI)⟩,?_⟩
 refine rf (K:=K) (a:=ia) (b:=zg) (xs:=yk.map V.ref) (ys:=Bo.map V.ref) (by rw [Uc,Uc];omega) (fun i σ H3=>Ex7 fun (c5 c6 c7 c8 c9 y6:Option V) (G3:LG)=>An3 (σ=[some (.ref b),some (.int ((s:Nat):Int)),some (.ref fa),some (.ref la),some (.ref pd),c5,c6,c7,c8,c9,y6]) (LQ P w ins Al Lk H0 la H2 G H3 G3 (N+i * 80000)) (LDone H3 G3 s (row.take i) f0))
  ⟨none,none,none,none,none,none,G,rfl,(LQ.refl Ft).up (by omega),fun p hp=>by rw [WV] at hp;cases hp⟩ (fun i σ H3 _ ⟨_,_,_,_,_,_,_,_,q3,_⟩=>?_) ?_ ?_
 · have kt:=(Same.kt AW).trans (q3.kt Ft);exact ⟨SqT.of (kt _ _ hB.inE),SqT.of (kt _ _ DI)⟩
 · rintro i x y p2 σ H3 hx hy Aj ⟨c5,c6,c7,c8,c9,y6,G3,rfl,q3,d3⟩;refine hid fun ZZ kZ=>?_;obtain ⟨ka,rfl,yY⟩:=aU hx;obtain ⟨pa,rfl,Dd⟩:=aU hy;obtain ⟨kd,hk,ek⟩:=P2.get' hB.inK yY;obtain ⟨p,hp,CT⟩:=AM.get Dd;refine kZ ?_;have Rn:i<8:=by have:=(Uk.mp hk).1;omega
   have s4:L2.Same H3 (upd H3 p2 (.tup [.ref ka,.ref pa])):=ad Aj _;have e4:(upd H3 p2 (.tup [.ref ka,.ref pa])) p2=some (.tup [.ref ka,.ref pa]):=ab;generalize (upd H3 p2 (.tup [.ref ka,.ref pa]))=H4 at s4 e4 ⊢;have q4:=q3.same s4;have Fu:=(Same.kt AW).trans (q4.kt Ft);refine ⟨p2,_,rfl,SqT.of e4,rfl,_,_,rfl,_,_,rfl,rfl,?_⟩;dsimp only [aF];have Ek:=F.sz row (Uh yc) p (Uh hp);refine ⟨_,rfl,pa,p,rfl,(CT.mono Fu).k,by omega,by omega,fun cl cs H5 s5 Ro J1 B8=>?_⟩;have q5:=q4.same s5;have d5:=d3.sub (LSub.kt (Same.kt (s4.trans s5)) G3);have L5:=q5.lk;have Mf:(callsOf (p.pl [])).length=cs.length:=Uv B8;have Mg:=jM (p.pl []);rw [Th.pl_len] at Mg
   have Mh:∀ g∈G3,g.2.1≠cl:=fun g hg z=>by
    have:=(q4.lk.ls g hg).2.1;rw [z,Ro] at this;cases this
   have Ic:cl≠la:=fun z=>by
    obtain ⟨φ,e⟩:=cr L5.dm;rw [z,e] at J1;cases J1
   refine ⟨cl,rfl,⟨_,SqL.of J1⟩,?_⟩
   refine eX (K:=K) (a:=cl) (xs:=cs.map V.ref) (fun j σ H6=>Ex5 fun (c7 c8 c9 y6:Option V) (G6:LG)=>An3 (σ=[some (.ref b),some (.int ((s:Nat):Int)),some (.ref fa),some (.ref la),some (.ref pd),some (.ref ka),some (.ref pa),c7,c8,c9,y6]) (LQ P w ins Al Lk H0 la H5 G3 H6 G6 (N+i * 80000+j * 400)) (∀ (j':Nat) (c:List Int×Int×Int),j'<j->(callsOf (p.pl []))[j']?=some c->∀ u,(c.1,u)∈f0.pl []->∀ x∈u.pl [],gR H6 G6 (nk c.2.1 x.1) (s:Nat) (c.1++x.1)))
    ⟨_,_,_,_,G3,rfl,(LQ.refl L5).up (by omega),fun _ _ h=>absurd h (X4 _)⟩ (fun j σ H6 _ ⟨_,_,_,_,_,_,q6,_⟩=>SqL.of (q6.fr _ _ J1 Ic Mh)) ?_ ?_
   · rintro j x σ H6 hx ⟨c7,c8,c9,y6,G6,rfl,q6,d6⟩;refine hid fun ZZ kZ=>?_;obtain ⟨ca,rfl,HH⟩:=aU hx;obtain ⟨c,hc,OQ,Rq,Rr,OR,Mi⟩:=P2.get' B8 HH;refine kZ ?_;have Dj:=q6.kt L5;have F6:j<200:=by have:=(Uk.mp hc).1;omega
     have Ie:H5 pd=some (.dT (cn [] prs)):=q5.fr _ _ e2 Ew Me
     have Ig:∀ g∈G3,g.2.1≠pd:=fun g hg z=>by
      have:=(L5.ls g hg).2.1;rw [z,Ie] at this;cases this
     have Ih:=q6.fr _ _ Ie Ew Ig
     have OS:H6 OQ=some (.tup ((c.1.map U4).map kV)):=by
      rw [Dj _ _ OR,Wi];rfl
     have DS:=(Same.kt s2).trans ((q5.kt Ft).trans Dj);refine ⟨ca,_,rfl,SqT.of (Dj _ _ Rr),rfl,_,_,rfl,_,_,rfl,Rq,_,rfl,SqT.of (Dj _ _ Mi),rfl,_,_,rfl,_,_,rfl,rfl,rfl,?_⟩;refine cI (fun bb H'=>An2 (H6=H') (bb=(aV (cn [] prs) (c.1.map U4)).isSome)) (fun k2 zJ=>?_) (fun H' yC=>?_) (fun H' yC=>?_)
     · exact ⟨_,rfl,_,rfl,pd,_,rfl,DGet.t Ih OS,_,rfl,zJ _ _ ⟨rfl,rfl⟩⟩
     · refine hid fun ZZ kZ=>?_;obtain ⟨rfl,yC⟩:=yC;obtain ⟨v,hv⟩:=XY.mp yC.symm;obtain ⟨u,ua,hu,rfl,Er⟩:=Md c.1 v hv;obtain ⟨GQ,Rt⟩:=vL _ f0 [] (Uj _) _ hu;refine kZ ?_;dsimp only at GQ Rt;refine ⟨_,rfl,_,rfl,pd,.ref ua,rfl,by rw [<- hv];exact DGet.t Ih OS,ua,u,rfl,Er.mono DS,by omega,by omega,fun il OT H7 s7 nil J2 Ii=>⟨il,rfl,⟨_,SqL.of J2⟩,?_⟩⟩;have q7:=q6.same s7;have L7:=q7.lk;have d7:∀ (j':Nat) (c:List Int×Int×Int),j'<j->(callsOf (p.pl []))[j']?=some c->∀ u,(c.1,u)∈f0.pl []->∀ x∈u.pl [],gR H7 G6 (nk c.2.1 x.1) (s:Nat) (c.1++x.1):=fun j' c h1 h2 u h3 x h4=>LSub.kt (Same.kt s7) G6 _ _ _ (d6 j' c h1 h2 u h3 x h4);have Mj:(u.pl []).length=OT.length:=Uv Ii;rw [Th.pl_len] at Mj
       have Mk:∀ g∈G6,g.2.1≠il:=fun g hg z=>by
        have:=(q6.lk.ls g hg).2.1;rw [z,nil] at this;cases this
       have Ij:il≠la:=fun z=>by
        obtain ⟨φ,e⟩:=cr L7.dm;rw [z,e] at J2;cases J2
       have BV:=Dj.trans (Same.kt s7);have Ml:=(Fu.trans (Same.kt s5)).trans BV
       refine eX (K:=K) (a:=il) (xs:=OT.map V.ref) (fun m σ H8=>Ex2 fun (y6:Option V) (G8:LG)=>An3 (σ=[some (.ref b),some (.int ((s:Nat):Int)),some (.ref fa),some (.ref la),some (.ref pd),some (.ref ka),some (.ref pa),some (.ref OQ),some (.int c.2.1),some (.int c.2.2),y6]) (LQ P w ins Al Lk H0 la H7 G6 H8 G8 (N+i * 80000+j * 400+2 * m)) (∀ (m':Nat) (x:List Int×Th),m'<m->(u.pl [])[m']?=some x->gR H8 G8 (nk c.2.1 x.1) (s:Nat) (c.1++x.1)))
        ⟨_,G6,rfl,LQ.refl L7,fun _ _ h=>absurd h (X4 _)⟩ (fun m σ H8 _ ⟨_,_,_,q8,_⟩=>SqL.of (q8.fr _ _ J2 Ij Mk)) ?_ ?_
       · rintro m x σ H8 hx ⟨y6,G8,rfl,q8,d8⟩;refine hid fun ZZ kZ=>?_;obtain ⟨ib,rfl,Ru⟩:=aU hx;obtain ⟨y,hy,Mm⟩:=P2.get' Ii Ru;have Tq:m<200:=by have:=(Uk.mp hy).1;rw [Th.pl_len] at this;omega
         have Mn:=q8.kt L7;have L8:=q8.lk;have Ck:=L8.le;have Mo:=Mn _ _ Mm;have OU:=Mn _ _ (BV _ _ OR);have OV:KAt H8 kd ka:=Mn _ _ (Ml _ _ ek);obtain ⟨Tr,Rv⟩:=cr L8.dm;refine kZ ?_;have JW:c.1.length<=100:=by have:=oR _ f0 [] (Uj _) _ hu;rw [WI] at this;dsimp only at this;omega
         have Tt:y.1.length<=100:=by have:=oR _ u [] (Uj _) y (Uh hy);rw [WI] at this;omega
         have OW:nk (s:Nat) (c.1++y.1)∈Al:=By (c.1++y.1,y.2) (qF _ (Uj _) hu (Uh hy));have OX:Lk (nk c.2.1 y.1) (s:Nat) (c.1++y.1) kd c.2.2:=hL i p kd c u y hp hk (Uh hc) hu (Uh hy);refine ⟨_,rfl,⟨la,_,rfl,L8.dm⟩,_,rfl,_,rfl,ai (by show 2<=1000000;decide),fun kp BU=>?_⟩;have s9:L2.Same H8 (upd H8 kp (.tup [.int c.2.1,.ref ib])):=ad BU _;have e9:(upd H8 kp (.tup [.int c.2.1,.ref ib])) kp=some (.tup [.int c.2.1,.ref ib]):=ab;dsimp only;generalize (upd H8 kp (.tup [.int c.2.1,.ref ib]))=H9 at s9 e9 ⊢;refine ⟨ai (by show 0<=1000000;decide),fun l0 B9=>?_⟩;have yJ:L2.Same H9 (upd H9 l0 (.lst [])):=ad B9 _;have q9:LQ P w ins Al Lk H0 la H8 G8 H9 G8 (N+i * 80000+j * 400+2 * m):=(LQ.refl L8).same s9;have J3:=Same.kt (s9.trans yJ);refine ⟨la,kp,.ref l0,nk c.2.1 y.1,lkv G8,rfl,rfl,L8.dm.mono (s9.trans yJ),lA (yJ _ _ e9) ((s9.trans yJ) _ _ Mo),ff (by unfold lkv;rw [Uc];omega),fun u hu=>?_,fun hn yZ Rw Mp=>?_⟩
         · obtain ⟨g,hg,Ik,rfl⟩:=rg hu;have qs:LQ P w ins Al Lk H0 la H8 G8 (upd H9 l0 (.lst [])) G8 (N+i * 80000+j * 400+2 * m+1):=(q9.same yJ).up (by omega);generalize (upd H9 l0 (.lst []))=Hs at qs J3 ⊢;have Ls:=qs.lk;refine hid fun ZZ kZ=>?_;obtain ⟨_,gl,gn,_⟩:=Ls.ls g hg;refine kZ ?_;refine ⟨.inl ⟨rfl,_,SqL.of gl⟩,_,rfl,_,rfl,_,rfl,?_⟩;refine j1 (J3 _ _ OU) (J3 _ _ Mo) (by rw [Uc,Uc];omega) fun pj zm zi Dn=>?_;rw [<- Ux] at Dn;refine ⟨_,rfl,_,rfl,ai (by show 4<=1000000;decide),fun en Mq=>?_⟩;have yL:L2.Same zm (upd zm en (.tup [.int ((s:Nat):Int),.ref pj,.ref ka,.int c.2.2])):=ad Mq _;have BZ:(upd zm en (.tup [.int ((s:Nat):Int),.ref pj,.ref ka,.int c.2.2])) en=some (.tup [.int ((s:Nat):Int),.ref pj,.ref ka,.int c.2.2]):=ab;generalize (upd zm en (.tup [.int ((s:Nat):Int),.ref pj,.ref ka,.int c.2.2]))=Cj at yL BZ ⊢;have Bq:=zi.trans yL;refine ⟨g.2.1,_,_,rfl,rfl,Bq _ _ gl,ff (by rw [Uc];omega),?_⟩;obtain ⟨Il,has⟩:=(qs.same Bq).appG hg (en:=en) ⟨_,_,c.1++y.1,pj,ka,kd,BZ,yL _ _ Dn,(Same.kt Bq) _ _ (J3 _ _ OV),Uh hk,OW,by rw [Ik];exact OX⟩;refine ⟨_,_,rfl,(q8.trans Il).up (by omega),fun m' x2 Ei AL=>?_⟩;by_cases Mr:m'=m
           · rw [Mr,hy] at AL;cases AL;have hh:=has _ _ _ _ _ BZ (yL _ _ Dn);rw [Ik] at hh;exact hh
           · exact Il.sub _ _ _ (d8 m' x2 (by omega) AL)
         · have qs:=q9.newG B9 hn Rw Mp;have Mt:=qs.kt L8;refine hid fun ZZ kZ=>?_;obtain ⟨g,hg,Ik,Rx⟩:∃ g∈G8++[(nk c.2.1 y.1,l0,[])],g.1=nk c.2.1 y.1/\g.2.1=l0:=⟨_,Vc _ (UH ..),rfl,rfl⟩;refine kZ ?_;rw [<- Rx] at qs hg ⊢;have Ls:=qs.lk;refine hid fun ZZ kZ=>?_;obtain ⟨_,gl,gn,_⟩:=Ls.ls g hg;refine kZ ?_;refine ⟨.inl ⟨rfl,_,SqL.of gl⟩,_,rfl,_,rfl,_,rfl,?_⟩;refine j1 (Mt _ _ OU) (Mt _ _ Mo) (by rw [Uc,Uc];omega) fun pj zm zi Dn=>?_;rw [<- Ux] at Dn;refine ⟨_,rfl,_,rfl,ai (by show 4<=1000000;decide),fun en Mq=>?_⟩;have yL:L2.Same zm (upd zm en (.tup [.int ((s:Nat):Int),.ref pj,.ref ka,.int c.2.2])):=ad Mq _;have BZ:(upd zm en (.tup [.int ((s:Nat):Int),.ref pj,.ref ka,.int c.2.2])) en=some (.tup [.int ((s:Nat):Int),.ref pj,.ref ka,.int c.2.2]):=ab;generalize (upd zm en (.tup [.int ((s:Nat):Int),.ref pj,.ref ka,.int c.2.2]))=Cj at yL BZ ⊢;have Bq:=zi.trans yL;refine ⟨g.2.1,_,_,rfl,rfl,Bq _ _ gl,ff (by rw [Uc];omega),?_⟩;obtain ⟨Il,has⟩:=(qs.same Bq).appG hg (en:=en) ⟨_,_,c.1++y.1,pj,ka,kd,BZ,yL _ _ Dn,(Same.kt Bq) _ _ (Mt _ _ OV),Uh hk,OW,by rw [Ik];exact OX⟩;refine ⟨_,_,rfl,(q8.trans Il).up (by omega),fun m' x2 Ei AL=>?_⟩;by_cases Mr:m'=m
           · rw [Mr,hy] at AL;cases AL;have hh:=has _ _ _ _ _ BZ (yL _ _ Dn);rw [Ik] at hh;exact hh
           · exact Il.sub _ _ _ (d8 m' x2 (by omega) AL)
       · rintro σ H8 ⟨y6,G8,rfl,q8,d8⟩;refine ⟨_,_,_,_,G8,rfl,(q7.trans q8).up (by rw [Uc];omega),fun j' c' yv zw u' zA x2 AL=>?_⟩;by_cases CY:j'=j
         · subst CY;rw [hc] at zw;cases zw;have:u'=u:=nI _ (Uj _) zA hu;subst this;obtain ⟨m',Ei⟩:=UG.mp AL;exact d8 m' x2 (by have:=(Uk.mp Ei).1;rw [Th.pl_len] at this;rw [Uc];omega) Ei
         · exact q8.sub _ _ _ (d7 j' c' (by omega) zw u' zA x2 AL)
     · obtain ⟨rfl,yC⟩:=yC;refine ⟨_,_,_,_,G6,rfl,q6.up (by omega),fun j' c' yv zw u' zA x2 AL=>?_⟩;by_cases CY:j'=j
       · subst CY;rw [hc] at zw;cases zw;obtain ⟨a,ha,_⟩:=Mc c.1 u' zA;rw [ha] at yC;cases yC
       · exact d6 j' c' (by omega) zw u' zA x2 AL
   · rintro σ H6 ⟨c7,c8,c9,y6,G6,rfl,q6,d6⟩;refine ⟨_,_,_,_,_,_,G6,rfl,(q5.trans q6).up ?_,?_⟩
     · rw [Uc];have:cs.length * 400<=200 * 400:=Zj _ (by omega);omega
     · intro p' zh;rw [Vs,hp] at zh;rcases Ve.mp zh with zh | zh
       · exact (d5.sub q6.sub) p' zh
       · cases UP.mp zh;intro c HX;obtain ⟨j',yv⟩:=UG.mp HX;exact d6 j' c (by have:=(Uk.mp yv).1;rw [Uc];omega) yv
 · rintro σ H3 ⟨c5,c6,c7,c8,c9,y6,G3,rfl,q3,d3⟩;rw [Uc] at q3 d3;rw [Vx (by omega)] at d3;have hmul:yk.length * 80000<=8 * 80000:=Zj _ (by omega);exact q G3 H3 ((Same.kt AW).trans (q3.kt Ft)) (q3.lk.up (by omega)) ((LSub.kt (Same.kt AW) G).trans q3.sub) d3
theorem mw (k:Key) (v:V):jp [] [(k,v)]=[(k,v)]:=rfl
theorem pk {H:Hp} {ins:List (US×Int)} {n:Nat} {kid:Int} {t:Th} {a:Ui} (h:At H t a):vq H ins [(U4 kid,.ref a)] (bY ins n kid t):=fun i u hu=>by
 unfold bY at hu;rw [Uo,UU] at hu;obtain ⟨j,hj,rfl⟩:=hu;have Tu:j<n:=by have:=WD.mp (Uh hj);exact this
 have El:i=j:=by
  have hi:i<n:=by have:=(Uk.mp hj).1;rwa [UY] at this
  rw [Vp hi] at hj;exact UR hj
 subst El;by_cases hk:(i:Int)=kid
 · rw [if_pos hk];exact .inl ⟨a,by rw [bS (by rw [hk])],h⟩
 · rw [if_neg hk];exact .inr ⟨by rw [bU (fun z=>hk (Xn z).symm)];rfl,rfl⟩
def SpI (P:Uz) (w:UN) (Vl:VlT) (H:Hp) (ia la pt hl:Ui) (G:LG) (f':List (aA×V)) (Al:List aA) (m:Nat) (σ:St) (H2:Hp):Prop:=∃ (i:Nat) (zk:List (aA×V)) (Br:List Ui) (c5 c6 c7 c8 c9 y6:Option V),σ=[some (.ref ia),some (.ref la),some (.ref pt),some (.ref hl),some (.int (i:Nat)),c5,c6,c7,c8,c9,y6]/\But pt H H2/\H2 hl=some (.lst (Br.map V.ref))/\Pt P w Vl H2 pt zk Al/\UX (fun k b=>MKAt H2 k b) (zk.map (·.1)) Br/\(∀ k∈f'.map (·.1),k∈zk.map (·.1))/\i<=zk.length/\(∀ (j:Nat) (k:aA),j<i->(zk.map (·.1))[j]?=some k->∀ s pl,gR H2 G k s pl->nk s pl∈zk.map (·.1))/\m=Al.length+1 - i
inductive kf (P:Uz) (w:UN) (vs:List V) (H:Hp) (Q:VK) (_E:XK):Prop
 | mk (ia la pt:Ui) (yk:List Ui) (ins:List (US×Int)) (G:LG) (f':List (aA×V)) (Al:List aA) (Vl:VlT) (Lk:LkT) (yp:vs=[.ref ia,.ref la,.ref pt]) (yq:H ia=some (.tup (yk.map V.ref))) (yz:KsAt H ins yk) (yF:bN ins) (yW:LkR P w ins Al Lk H la G) (Aa:Pt P w Vl H pt f' Al) (Cc:Al.length<=1000000) (Cw:pt≠la) (Fi:(∀ (i j:Nat) (k:aA) (t1 t2:Th) (s:Int) (pl:List Int) (kd:US×Int) (kid:Int),i<j->Vl i k t1 t2->kd∈ins->Lk k s pl kd kid->Vl j (nk s pl) (.knot kd.1 (bY ins kd.2.toNat kid t1)) (.knot kd.1 (bY ins kd.2.toNat kid t2)))) (Gf:∀ (zb:List (aA×V)) (H':Hp),But pt H H'->Pt P w Vl H' pt zb Al->(∀ k∈f'.map (·.1),k∈zb.map (·.1))->(∀ k∈zb.map (·.1),∀ s pl,gR H' G k s pl->nk s pl∈zb.map (·.1))->Q .non H'):kf P w vs H Q _E
def sO (P:Uz) (w:UN):Sp:=kf P w
set_option maxHeartbeats 4000000 in
theorem rV:bp P w K mg base CX0 3 T.g_spread.f T.g_spread.d ["ins","links","partings"] (sO P w):=by
 refine T.g_spread.F.ok ck (fun vs H Q E h=>?_) (fun yl A outer s0 H vs Q E hr h=>?_)
 · obtain ⟨ia,la,pt,yk,ins,G,f',Al,Vl,Lk,rfl,_⟩:=h;rfl
 obtain ⟨ia,la,pt,yk,ins,G,f',Al,Vl,Lk,rfl,ei,zO,g,R,Et,JY,yx,hS,q⟩:=h
 refine ⟨_,(ae (au (i:=3) ck.nd rfl (UB rfl) (cy (pK rfl) rfl T.n_list Yb (aa (pv 2) ac)))
  (ae (au (i:=4) ck.nd rfl (UB rfl) af)
  (ag (dA UW (aK mJ (pv 4) (az ao rfl T.n_len UT (aa (pv 3) ac)) (aO _)) (ae (cO (pD (fZ hr) (pv 2) (ay aP (pv 3) (pv 4) (fun _ _=>rfl)) (fun _ _=>rfl)) (bz rfl (av (aj (i:=5) ck.nd rfl (UB rfl)) (av (aj (i:=6) ck.nd rfl (UB rfl)) aX))))
  (ae (bx UW rfl (cz (sC (fZ hr) (pv 1) (ay aP (pv 3) (pv 4) (fun _ _=>rfl)) (bo ac) ⟨rfl,rfl,rfl,rfl⟩)) (bz rfl (av (aj (i:=7) ck.nd rfl (UB rfl)) (av (aj (i:=8) ck.nd rfl (UB rfl)) (av (aj (i:=9) ck.nd rfl (UB rfl)) (av (aj (i:=10) ck.nd rfl (UB rfl)) aX))))) (ag (bI (qB (pP (fZ hr) (aI (aa (pv 7) (aa (pv 8) ac))) (pv 2))) (ae (sR (fZ hr) (pv 2) (aI (aa (pv 7) (aa (pv 8) ac))) (aI (aa (pcF T.g_knot_above (eN T) hr (aa (pv 0) (aa (pv 9) (aa (qH (oq (pv 10) (pv 5) rp) rfl rfl (by decide) (by decide)) ac)))) (aa (pcF T.g_knot_above (eN T) hr (aa (pv 0) (aa (pv 9) (aa (qH (oq (pv 10) (pv 6) rp) rfl rfl (by decide) (by decide)) ac)))) ac))) rfl)
  (ag (aQ (bL Uw UM UL aL (pv 3) (aa (aI (aa (pv 7) (aa (pv 8) ac))) ac))))) bi)))
  (ag (vP (i:=4) ck.nd rfl (UB rfl) af wx)))))))),?_⟩
 try dsimp only [yH,yh]
 obtain ⟨φ,DN⟩:=cr Et.dm;have zE:ins.length=yk.length:=Uv zO;refine ⟨_,rfl,pt,f',rfl,Et.dm,fun hl bs Eu yA=>?_⟩;have s1:L2.Same H (upd H hl (.lst (bs.map V.ref))):=ad Eu _;have e1:(upd H hl (.lst (bs.map V.ref))) hl=some (.lst (bs.map V.ref)):=ab;generalize (upd H hl (.lst (bs.map V.ref)))=H1 at s1 e1 ⊢;have OY:hl≠pt:=fun z=>by rw [z,DN] at Eu;cases Eu
 have Mu:UX (fun k b=>MKAt H1 k b) (f'.map (·.1)) bs:=P2.mapl _ (P2.mp (fun _ _ e=>e.mono (Same.kt s1)) yA);refine ⟨SpI P w Vl H ia la pt hl G f' Al,⟨_,0,f',bs,none,none,none,none,none,none,rfl,Same.but s1,e1,Et.same s1,Mu,fun _ h=>h,UO _,fun _ _ h=>absurd h (X4 _),rfl⟩,?_⟩;rintro m σ H2 ⟨i,zk,Br,c5,c6,c7,c8,c9,y6,rfl,b2,Bs,zI,Fv,Ex,HQ,Bd,rfl⟩;have Mv:(zk.map (·.1)).length=Br.length:=Uv Fv;rw [Uc] at Mv;have Tv:=zI.len;have LS:=b2.kt DN;obtain ⟨J4,B0⟩:=cr zI.dm;refine ⟨_,rfl,_,rfl,hl,_,rfl,.inl (SqL.of Bs),_,_,rfl,rfl,?_⟩;refine ⟨_,rfl,?_⟩;refine cX (fun cc=>?_) (fun cc=>?_)
 · have ym:i<Br.length:=by
    have:=of_decide_eq_true cc;rw [Uc] at this;omega
   refine hid fun ZZ kZ=>?_;obtain ⟨bk,J5⟩:∃ bk,Br[i]?=some bk:=⟨_,Ue ym⟩;obtain ⟨k,hk,DL⟩:=P2.get' Fv J5
   obtain ⟨v,hv⟩:∃ v,aV zk k=some v:=by
    cases CZ:aV zk k with
    | none=>exact absurd (Uh hk) (cY CZ)
    | some v=>exact ⟨v,rfl⟩
   obtain ⟨kv,Gk,Im⟩:∃ kv,zk[i]?=some kv/\kv.1=k:=by
    rw [Uo,UU] at hk;exact hk
   obtain ⟨pr,ta,tb,t1,t2,ev,CP,An,J6,OZ⟩:=zI.vl i kv Gk;refine kZ ?_;rw [<- Im] at hv;rw [<- qD zI.nd Gk hv] at ev;subst ev;rw [Im] at hv OZ;have Dq:atI (Br.map V.ref) ((i:Nat):Int)=some (.ref bk):=ce (by rw [Uo,J5];rfl);refine ⟨fun yd H'=>∃ m',m'<Al.length+1 - i/\SpI P w Vl H ia la pt hl G f' Al m' yd H',fun yd H' h=>h,?_⟩;refine ⟨_,rfl,_,rfl,_,rfl,hl,_,_,.ref bk,rfl,rfl,SqL.of Bs,Dq,?_⟩;refine ⟨pt,bk,k,zk,.ref pr,rfl,rfl,zI.dm,DL,hv,?_⟩;refine ⟨pr,_,rfl,SqT.of CP,rfl,_,_,rfl,_,_,rfl,rfl,?_⟩;dsimp only [aF];have R2:=R.but b2 DN yx
   -- AQ links of this one
   refine jr (fun yd H'=>Ex6 fun (zD:List (aA×V)) (AN:List Ui) (d7 d8 d9 Gm:Option V)=>An8 (yd=[some (.ref ia),some (.ref la),some (.ref pt),some (.ref hl),some (.int (i:Nat)),some (.ref ta),some (.ref tb),d7,d8,d9,Gm]) (But pt H H') (KT H2 H') (H' hl=some (.lst (AN.map V.ref))) (Pt P w Vl H' pt zD Al) (UX (fun k b=>MKAt H' k b) (zD.map (·.1)) AN) ((∃ more,zD.map (·.1)=zk.map (·.1)++more)) (∀ s pl,gR H' G k s pl->nk s pl∈zD.map (·.1))) (fun kk Cg=>?_) ?_
   · refine ⟨_,rfl,la,_,rfl,R2.dm,_,rfl,_,rfl,hl,_,_,.ref bk,rfl,rfl,SqL.of Bs,Dq,ai (by show 0<=1000000;decide),fun l0 B9=>?_⟩;have s3:L2.Same H2 (upd H2 l0 (.lst [])):=ad B9 _;have e3:(upd H2 l0 (.lst [])) l0=some (.lst (([]:List Ui).map V.ref)):=ab;generalize (upd H2 l0 (.lst []))=H3 at s3 e3 ⊢;have R3:=R2.but (Same.but s3 (p:=pt)) B0 yx;have Mw:l0≠hl:=fun z=>by rw [z,Bs] at B9;cases B9
     refine ⟨la,bk,k,lkv G,rfl,rfl,R3.dm,DL.mono (Same.kt s3),?_⟩;refine hid fun ZZ kZ=>?_
     obtain ⟨l,as,el,O0,Ry,Rz,hle,RA⟩:∃ (l:Ui) (as:List Ui),(aV (lkv G) k).getD (.ref l0)=.ref l/\H3 l=some (.lst (as.map V.ref))/\l≠hl/\l≠pt/\(∀ a∈as,LE H3 ins Al Lk k a)/\∀ s pl,gR H3 G k s pl->∃ a∈as,∃ (pa ka:Ui) (kid:Int),H3 a=some (.tup [.int s,.ref pa,.ref ka,.int kid])/\H3 pa=some (.tup (pl.map V.int)):=by
      have B1:H3 pt=some (.ext J4):=s3 _ _ B0;cases O1:aV (lkv G) k with
      | none=>exact ⟨l0,[],rfl,e3,Mw,(fun z=>by rw [z,B1] at e3;cases e3),(fun a ha=>by cases ha),fun s pl hh=>absurd hh (tO O1)⟩
      | some u =>
        obtain ⟨g,hg,rfl,rfl⟩:=rg O1;obtain ⟨h1,h2⟩:=R3.ls g hg;refine ⟨g.2.1,g.2.2,rfl,h1,(fun z=>?_),(fun z=>by rw [z,B1] at h1;cases h1),h2,fun s pl hh=>R3.at hg hh⟩;have:=(R.ls g hg).1;rw [z,Eu] at this;cases this
     refine kZ ?_;rw [el];refine ⟨l,rfl,⟨_,SqL.of O0⟩,?_⟩;have b3:=b2.trans (Same.but s3 (p:=pt))
     refine eX (K:=K) (a:=l) (xs:=as.map V.ref) (fun j σ H4=>Ex6 fun (zD:List (aA×V)) (AN:List Ui) (d7 d8 d9 Gm:Option V)=>An8 (σ=[some (.ref ia),some (.ref la),some (.ref pt),some (.ref hl),some (.int (i:Nat)),some (.ref ta),some (.ref tb),d7,d8,d9,Gm]) (But pt H H4) ((∀ c o,c≠pt->c≠hl->H3 c=some o->H4 c=some o)) (H4 hl=some (.lst (AN.map V.ref))) (Pt P w Vl H4 pt zD Al) (UX (fun k b=>MKAt H4 k b) (zD.map (·.1)) AN) ((∃ more,zD.map (·.1)=zk.map (·.1)++more)) (∀ (j':Nat) (a:Ui),j'<j->as[j']?=some a->∀ (s:Int) (pl:List Int) (pa ka:Ui) (kid:Int),H3 a=some (.tup [.int s,.ref pa,.ref ka,.int kid])->H3 pa=some (.tup (pl.map V.int))->nk s pl∈zD.map (·.1)))
      ⟨zk,Br,_,_,_,_,rfl,b3,fun _ _ _ _ e=>e,s3 _ _ Bs,zI.same s3,P2.mp (fun _ _ e=>e.mono (Same.kt s3)) Fv,⟨[],by rw [U6]⟩,fun _ _ h=>absurd h (X4 _)⟩ (fun j σ H4 _ ⟨_,_,_,_,_,_,_,_,f4,_,_,_,_,_⟩=>SqL.of (f4 _ _ Rz Ry O0)) ?_ ?_
     · rintro j x σ H4 hx ⟨zD,AN,d7,d8,d9,Gm,rfl,b4,f4,B2,zC,Bt,yU,yi⟩;have B1:H3 pt=some (.ext J4):=s3 _ _ B0;have Bu:KT H3 H4:=fun c ys ec=>f4 c _ (fun z=>by rw [z,B1] at ec;cases ec) (fun z=>by rw [z,s3 _ _ Bs] at ec;cases ec) ec;have DT:=(Same.kt s3).trans Bu;have Mx:=LS.trans DT;refine hid fun ZZ kZ=>?_;obtain ⟨Tw,My⟩:=cr zC.dm;have RB:=zC.len;have Mz:(zD.map (·.1)).length=AN.length:=Uv Bt;rw [Uc] at Mz;obtain ⟨a,rfl,ha⟩:=aU hx;obtain ⟨s',kid,pl,pa,ka,kd,g1,g2,g3,g4,g5,g6⟩:=hle a (Uh ha);refine kZ ?_;have ea:=Bu _ _ g1;have zV:=Bu _ _ g2;have O2:KAt H4 kd ka:=Bu _ _ g3
       have Io:∀ (s:Int) (zN:List Int) (De CJ:Ui) (Ak:Int),H3 a=some (.tup [.int s,.ref De,.ref CJ,.int Ak])->H3 De=some (.tup (zN.map V.int))->nk s zN=nk s' pl:=fun s zN De CJ Ak h1 h2=>by
        rw [g1] at h1;cases h1;rw [g2] at h2;have:pl=zN:=oW (by injection h2 with h3;injection h3);rw [this]
       refine ⟨a,_,rfl,SqT.of ea,rfl,_,_,rfl,_,_,rfl,_,_,rfl,_,_,rfl,rfl,?_⟩;dsimp only [aF];refine cI (fun bb H'=>An2 (L2.Same H4 H') (bb=!(aV zD (nk s' pl)).isSome)) (fun k2 zJ=>?_) (fun H5 yC=>?_) (fun H5 yC=>?_)
       · refine ⟨_,rfl,_,rfl,ai (by show 2<=1000000;decide),fun kp BU=>?_⟩;have s5:=ad BU (.tup [.int s',.ref pa]);exact ⟨_,rfl,pt,kp,nk s' pl,zD,rfl,rfl,zC.dm.mono s5,lA ab (s5 _ _ zV),_,rfl,zJ _ _ ⟨s5,rfl⟩⟩
       · obtain ⟨s5,yC⟩:=yC
         have hn:aV zD (nk s' pl)=none:=by
          cases CZ:aV zD (nk s' pl) with
          | none=>rfl
          | some u=>rw [CZ] at yC;cases yC
         have Ip:=Mx.trans (Same.kt s5);have DE:=DT.trans (Same.kt s5)
         -- AQ first tree
         refine ⟨_,rfl,_,rfl,fun dd JZ=>?_⟩;refine ⟨_,rfl,_,rfl,ab,[(U4 kid,.ref ta)],rfl,(by show 1<=15;decide),?_⟩;rw [mw];have s6:L2.Same H5 (upd (upd H5 dd (.dK [])) dd (.dK [(U4 kid,.ref ta)])):=aw (ad JZ _) JZ;have e6:(upd (upd H5 dd (.dK [])) dd (.dK [(U4 kid,.ref ta)])) dd=some (.dK [(U4 kid,.ref ta)]):=ab;generalize (upd (upd H5 dd (.dK [])) dd (.dK [(U4 kid,.ref ta)]))=H6 at s6 e6 ⊢;have DS:=Ip.trans (Same.kt s6);refine ⟨ia,ka,dd,yk,ins,kd,_,bY ins kd.2.toNat kid t1,rfl,DS _ _ ei,zO.mono DS,g,(s5.trans s6) _ _ O2,g4,e6,iH ..,pk (An.mono (DE.trans (Same.kt s6))),fun r1 H7 s7 LL=>?_⟩
         -- AQ second
         refine ⟨_,rfl,_,rfl,fun d2 hd2=>?_⟩;refine ⟨_,rfl,_,rfl,ab,[(U4 kid,.ref tb)],rfl,(by show 1<=15;decide),?_⟩;rw [mw];have s8:L2.Same H7 (upd (upd H7 d2 (.dK [])) d2 (.dK [(U4 kid,.ref tb)])):=aw (ad hd2 _) hd2;have e8:(upd (upd H7 d2 (.dK [])) d2 (.dK [(U4 kid,.ref tb)])) d2=some (.dK [(U4 kid,.ref tb)]):=ab;generalize (upd (upd H7 d2 (.dK [])) d2 (.dK [(U4 kid,.ref tb)]))=H8 at s8 e8 ⊢;have Bm:=s6.trans (s7.trans s8);have BY:=Ip.trans (Same.kt Bm);refine ⟨ia,ka,d2,yk,ins,kd,_,bY ins kd.2.toNat kid t2,rfl,BY _ _ ei,zO.mono BY,g,(s5.trans Bm) _ _ O2,g4,e8,iH ..,pk (J6.mono (DE.trans (Same.kt Bm))),fun r2 H9 s9 E8=>?_⟩;refine ⟨ai (by show 2<=1000000;decide),fun p2 Aj=>?_⟩;have yJ:L2.Same H9 (upd H9 p2 (.tup [.ref r1,.ref r2])):=ad Aj _;have Fe:(upd H9 p2 (.tup [.ref r1,.ref r2])) p2=some (.tup [.ref r1,.ref r2]):=ab;generalize (upd H9 p2 (.tup [.ref r1,.ref r2]))=yZ at yJ Fe ⊢;refine ⟨_,rfl,_,rfl,_,rfl,ai (by show 2<=1000000;decide),fun kp BU=>?_⟩;have zi:L2.Same yZ (upd yZ kp (.tup [.int s',.ref pa])):=ad BU _;have Dn:(upd yZ kp (.tup [.int s',.ref pa])) kp=some (.tup [.int s',.ref pa]):=ab;generalize (upd yZ kp (.tup [.int s',.ref pa]))=zm at zi Dn ⊢;have B3:=s5.trans (Bm.trans (s9.trans (yJ.trans zi)));have Ey:=zC.same B3;refine ⟨pt,kp,nk s' pl,zD,rfl,rfl,Ey.dm,lA Dn (B3 _ _ zV),ff (by omega),fun Cj MA MB=>?_⟩;have J7:But pt zm Cj:=MA
         have MC:i<zD.length:=by
          obtain ⟨more,hm⟩:=id yU;have:=congrArg Xc hm;rw [Uc,UE,Uc] at this;omega
         obtain ⟨RC,Fw⟩:=Ey.put hn J7 MB ⟨p2,r1,r2,_,_,rfl,zi _ _ Fe,LL.mono (Same.kt (s8.trans (s9.trans (yJ.trans zi)))),E8.mono (Same.kt (yJ.trans zi)),hS i _ k t1 t2 s' pl kd kid MC OZ g4 g6⟩ g5;have C0:Cj hl=some (.lst (AN.map V.ref)):=J7 _ _ OY (B3 _ _ B2);have Ez:KT H4 Cj:=(Same.kt B3).trans (J7.kt (B3 _ _ My));dsimp only [aF];refine ⟨_,rfl,.inl ⟨rfl,_,SqL.of C0⟩,_,rfl,_,rfl,ai (by show 2<=1000000;decide),fun EA MD=>?_⟩;have AX:L2.Same Cj (upd Cj EA (.tup [.int s',.ref pa])):=ad MD _;have J8:(upd Cj EA (.tup [.int s',.ref pa])) EA=some (.tup [.int s',.ref pa]):=ab;generalize (upd Cj EA (.tup [.int s',.ref pa]))=Dm at AX J8 ⊢;refine ⟨hl,_,_,rfl,rfl,AX _ _ C0,ff (by rw [Uc];omega),?_⟩;have DU:KT Dm (upd Dm hl (.lst (AN.map V.ref++[.ref EA]))):=aS (AX _ _ C0);have Iq:=(Ez.trans (Same.kt AX)).trans DU;have Gj:=RC.same AX;have RD:Pt P w Vl (upd Dm hl (.lst (AN.map V.ref++[.ref EA]))) pt _ Al:=⟨rF Gj.dm DU fun o eo=>by rw [ak OY.symm];exact eo,Gj.nd,Gj.al,fun j p hp=>(Gj.vl j p hp).mono DU⟩;obtain ⟨more,yU⟩:=yU
         have go:∀ c o,c≠pt->c≠hl->H4 c=some o->(upd Dm hl (.lst (AN.map V.ref++[.ref EA]))) c=some o:=fun c o h1 h2 e=>by
          rw [ak h2];exact AX _ _ (J7 _ _ h1 (B3 _ _ e))
         refine ⟨_,AN++[EA],_,_,_,_,rfl,fun c o hc e=>go c o hc (fun z=>by rw [z,Eu] at e;cases e) (b4 _ _ hc e),fun c o h1 h2 e=>go c o h1 h2 (f4 c o h1 h2 e),by rw [ab,Ux];rfl,RD,?_,⟨more++[nk s' pl],by rw [Fw,yU,Vo]⟩,fun j' a' yv BM s zN De CJ Ak h1 h2=>?_⟩
         · rw [Fw];exact P2.append (P2.mp (fun _ _ e=>e.mono Iq) Bt) (.cons ((lA J8 (AX _ _ (Ez _ _ zV))).mono DU) .nil)
         · rw [Fw];by_cases CY:j'=j
           · rw [CY,ha] at BM;cases BM;rw [Io s zN De CJ Ak h1 h2];exact Vc _ (UH ..)
           · exact Vi _ (yi j' a' (by omega) BM s zN De CJ Ak h1 h2)
       · obtain ⟨s5,yC⟩:=yC
         obtain ⟨u,hu⟩:∃ u,aV zD (nk s' pl)=some u:=by
          cases CZ:aV zD (nk s' pl) with
          | none=>rw [CZ] at yC;cases yC
          | some u=>exact ⟨u,rfl⟩
         refine ⟨zD,AN,_,_,_,_,rfl,b4.trans (Same.but s5),fun c o h1 h2 e=>s5 _ _ (f4 c o h1 h2 e),s5 _ _ B2,zC.same s5,P2.mp (fun _ _ e=>e.mono (Same.kt s5)) Bt,yU,fun j' a' yv BM s zN De CJ Ak h1 h2=>?_⟩;by_cases CY:j'=j
         · rw [CY,ha] at BM;cases BM;rw [Io s zN De CJ Ak h1 h2];exact U5.mpr ⟨_,eZ hu,rfl⟩
         · exact yi j' a' (by omega) BM s zN De CJ Ak h1 h2
     · rintro σ H4 ⟨zD,AN,d7,d8,d9,Gm,rfl,b4,f4,B2,zC,Bt,yU,yi⟩;have B1:H3 pt=some (.ext J4):=s3 _ _ B0;have Bu:KT H3 H4:=fun c ys ec=>f4 c _ (fun z=>by rw [z,B1] at ec;cases ec) (fun z=>by rw [z,s3 _ _ Bs] at ec;cases ec) ec;refine Cg _ _ ⟨zD,AN,_,_,_,_,rfl,b4,(Same.kt s3).trans Bu,B2,zC,Bt,yU,fun s pl hh=>?_⟩;refine hid fun ZZ kZ=>?_;obtain ⟨a,ha,pa,ka,kid,h1,h2⟩:=RA s pl (R3.back Bu hh);obtain ⟨j',yv⟩:=UG.mp ha;refine kZ ?_;exact yi j' a (by have:=(Uk.mp yv).1;rw [Uc];exact this) yv s pl pa ka kid h1 h2
   · rintro yd H4 ⟨zD,AN,d7,d8,d9,Gm,rfl,b4,DT,B2,zC,Bt,⟨more,yU⟩,ME⟩;have RB:=zC.len;have hlen:=congrArg Xc yU;rw [Uc,UE,Uc] at hlen;refine ⟨_,rfl,_,_,rfl,rfl,Al.length+1 - (i+1),by omega,i+1,zD,AN,_,_,_,_,_,_,rfl,b4,B2,zC,Bt,fun k' zz=>by rw [yU];exact Vi _ (Ex k' zz),by omega,fun j k' hj zz s pl hh=>?_,rfl⟩;have Bg:j<(zk.map (·.1)).length:=by rw [Uc];omega
     have zJ:(zk.map (·.1))[j]?=some k':=by rw [yU,Wu Bg] at zz;exact zz
     by_cases Ir:j=i
     · rw [Ir,hk] at zJ;cases zJ;exact ME s pl hh
     · rw [yU];exact Vi _ (Bd j k' (by omega) zJ s pl (R2.back DT hh))
 · have MF:¬ i<Br.length:=fun z=>cc (decide_eq_true (by rw [Uc];omega));refine q zk H2 b2 zI Ex fun k hk s pl hh=>?_;obtain ⟨j,hj⟩:=UG.mp hk;exact Bd j k (by have:=(Uk.mp hj).1;rw [Uc] at this;omega) hj s pl hh
inductive ig (P:Uz) (w:UN) (K:Ug) (vs:List V) (H:Hp) (Q:VK) (_E:XK):Prop
 | mk (fa pt:Ui) (s:Nat) (t:Th) (f':List (aA×V)) (Al:List aA) (Vl:VlT) (yp:vs=[.ref fa,.int (s:Nat),.ref pt]) (yq:AtK K H t fa) (yz:t.size<=200) (yF:t.tall<=100) (yW:t.noCall) (Aa:Pt P w Vl H pt f' Al) (Cc:∀ (r:Ui) (H':Hp),L2.Same H H'->AtK K H' (t.cut (Dk f' (s:Nat)) []) r->Q (.ref r) H'):ig P w K vs H Q _E
def iP (P:Uz) (w:UN) (K:Ug):Sp:=ig P w K
def wI (K:Ug) (D:List Int->Bool) (fa pt tl ah:Ui) (s:Nat) (t:Th) (H:Hp) (m:Nat) (σ:St) (H3:Hp):Prop:=∃ (ts as:List Ui) (Ts:List Th) (As:List (List Int×Th)) (c5 c6 c7:Option V),σ=[some (.ref fa),some (.int (s:Nat)),some (.ref pt),some (.ref tl),some (.ref ah),c5,c6,c7]/\L2.Same H H3/\H3 tl=some (.lst (ts.map V.ref))/\H3 ah=some (.lst (as.map V.ref))/\UX (TopAtK K H3) (Ts.map (dX Th.call)) ts/\PsAtK K H3 As as/\Ts++iz D As.reverse=(t.cut D []).walk/\(∀ p∈As,p.1.length+p.2.tall<=100/\p.2.noCall)/\Ts.length+szP As<=200/\m=szP As
set_option maxHeartbeats 4000000 in
theorem nK:bp P w K mg base CX0 3 T.g_cut_front.f T.g_cut_front.d ["front","state","partings"] (iP P w K):=by
 refine T.g_cut_front.F.ok cx (fun vs H Q E h=>?_) (fun yl A outer s0 H vs Q E hr h=>?_)
 · obtain ⟨fa,pt,s,t,f',Al,Vl,rfl,_⟩:=h;rfl
 obtain ⟨fa,pt,s,t,f',Al,Vl,rfl,hA,hsz,yG,RE,Et,k⟩:=h
 refine ⟨_,(ae (au (i:=3) cx.nd rfl (UB rfl) (bo ac))
  (ae (au (i:=4) cx.nd rfl (UB rfl) (bo (aa (aI (aa (aI ac) (aa (pv 0) ac))) ac)))
  (ae (dA UW (aY (pv 4) (fun _=>rfl)) (ae (cO (jm Uw WY WX jd (pv 4)) (bz rfl (av (aj (i:=5) cx.nd rfl (Ym rfl)) (av (aj (i:=6) cx.nd rfl (UB rfl)) aX))))
  (ag (bI (PW.pt (dj (aY (pcF T.g_is_hole (iD T) hr (aa (pv 6) ac)) (fun _=>rfl)) (dh (qB (uH (fZ hr) (aI (aa (pv 1) (aa (pv 5) ac))) (pv 2)))))) (ag (aQ (bL Uw UM UL aL (pv 3) (aa (aI (aa (gN (v:=.ref T.a_HOLE) rfl T.c_HOLE rfl) (aa af ac))) ac)))) (ae (aQ (bL Uw UM UL aL (pv 3) (aa (aI (aa (bj re (pv 6) bR (bA af)) (aa (ax f9 (az ao rfl T.n_len UT (aa (pv 6) ac)) af) ac))) ac)))
  (ae (fD (i:=7) (N:=[Um "number",Um "kid",Um "place"]) (js:=[none,none,some 5]) (g:=(lX K 2 (cR (aF 0) (cR (aF 1) l6)))) (tt:=bG) (te:=(ji (bm (tOp (kR K) (bn 2) (ji (bm (bn 0) dk))) (bm (bn 1) dk)))) cx.nd rfl (UB rfl) rfl (cB rfl (by decide +kernel) (by decide +kernel) rfl rfl rfl) (nQ rfl T.n_enumerate (bj dF (pv 6) (bA af) bR)) (fun _ _ _ _ _ _=>(bz rfl (av (aj (i:=0) uB rfl (UB rfl)) (av (aj (i:=1) uB rfl (UB rfl)) aX)))) (fY (bW aW (aR rfl) (bW aW (aR rfl) gx))) (fun _ _ _ _ _ _=>bM) (fun _ _ _ _ _ _=>(aI (aa (ax cM (pv 2) (aI (aa (pv 0) ac))) (aa (pv 1) ac)))))
  (ag (aQ (bL Uw Xe Xd gF (pv 4) (aa (lm rfl rfl T.n_list rfl T.n_reversed (pv 7)) ac))))))))))
  (ag (aE (pcF T.g_built (lr T) hr (aa (pv 3) ac))))))),?_⟩
 try dsimp only [yH,yh]
 generalize RF:Dk f' (s:Nat)=D at k;refine ⟨ai (by show 0<=1000000;decide),fun tl Fx=>?_⟩;have s1:L2.Same H (upd H tl (.lst [])):=ad Fx _;have Fc:(upd H tl (.lst [])) tl=some (.lst []):=ab;generalize upd H tl (.lst [])=H1 at s1 Fc ⊢;refine ⟨ai (by show 0<=1000000;decide),fun p0 Ce=>?_⟩;refine ⟨_,rfl,ai (by show 2<=1000000;decide),fun p1 zT=>?_⟩;refine ⟨ai (by show 1<=1000000;decide),fun ah Am=>?_⟩;have s2:L2.Same H1 (upd (upd H1 p0 (.tup [])) p1 (.tup [.ref p0,.ref fa])):=(ad Ce _).trans (ad zT _);have e1:(upd (upd H1 p0 (.tup [])) p1 (.tup [.ref p0,.ref fa])) p1=some (.tup [.ref p0,.ref fa]):=ab;have e0:(upd (upd H1 p0 (.tup [])) p1 (.tup [.ref p0,.ref fa])) p0=some (.tup []):=ad zT _ _ _ ab;generalize (upd (upd H1 p0 (.tup [])) p1 (.tup [.ref p0,.ref fa]))=H2 at s2 e1 e0 Am ⊢;have Bj:H1 ah=none:=s2.free Am;have Ab:H ah=none:=s1.free Bj;have yx:ah≠tl:=fun z=>by rw [z,Fc] at Bj;cases Bj
 have RG:szP [(([]:List Int),t)]=t.size:=by rw [szP,szP];rfl
 refine ⟨wI K D fa pt tl ah s t H,⟨_,[],[p1],[],[([],t)],none,none,none,rfl,aw (s1.trans s2) Ab,by rw [ak yx.symm];exact s2 _ _ Fc,by rw [ab];rfl,.nil,.cons ⟨p0,fa,ad Am _ _ _ e1,ad Am _ _ _ e0,hA.mono (Same.kt (aw (s1.trans s2) Ab))⟩ .nil,by show []++((t.cut D []).walk++[])=_;rw [Wh,U6],fun p hp=>by rw [UP.mp hp];exact ⟨by simpa using yG,RE⟩,by rw [RG];simpa using hsz,rfl⟩,?_⟩;rintro m σ H3 ⟨ts,as,Ts,As,c5,c6,c7,rfl,sm,em,ea,a1,a2,hw,hb,hlen,rfl⟩;have Tx:Ts.length=ts.length:=by have:=Uv a1;rwa [Uc] at this
 refine ⟨_,rfl,_,.inl ⟨_,SqL.of ea,rfl⟩,?_⟩;refine cX (fun c=>?_) (fun c=>?_)
 · refine ⟨fun yd H'=>∃ m',m'<szP As/\wI K D fa pt tl ah s t H m' yd H',fun yd H' h=>h,?_⟩;have zf:as≠[]:=by intro z;subst z;simp at c
   refine hid fun ZZ kZ=>?_;obtain ⟨yo,b,rfl⟩:∃ yo b,as=yo++[b]:=⟨as.dropLast,as.getLast zf,(Wj zf).symm⟩;obtain ⟨Us,⟨pre,x⟩,rfl,a3,pa,ta,eb,zV,An⟩:=P2.snoc_inv a2;have Dy:szP (Us++[(pre,x)])=szP Us+x.size:=by rw [cF,szP,szP];rfl
   have HA:=x.size_eq;rw [Dy] at hlen;obtain ⟨JO,Iu⟩:=hb (pre,x) (by simp);refine kZ ?_;simp only at JO Iu zV An;have OG:Us.length=yo.length:=Uv a3;have q4:=nZ Us;refine ⟨_,rfl,.inl ⟨rfl,_,SqL.of ea⟩,ah,_,.ref b,rfl,rfl,ea,by simp,?_⟩;have d1:((yo++[b]).map V.ref).dropLast=yo.map V.ref:=by simp
   rw [d1];have k1:KT H3 (upd H3 ah (.lst (yo.map V.ref))):=aS ea;have Cf:L2.Same H (upd H3 ah (.lst (yo.map V.ref))):=aw sm Ab;have BD:(upd H3 ah (.lst (yo.map V.ref))) tl=some (.lst (ts.map V.ref)):=by rw [ak yx.symm];exact em
   have Fd:(upd H3 ah (.lst (yo.map V.ref))) ah=some (.lst (yo.map V.ref)):=ab;generalize (upd H3 ah (.lst (yo.map V.ref)))=H4 at k1 Cf BD Fd ⊢;refine ⟨b,_,rfl,SqT.of (k1 _ _ eb),rfl,_,_,rfl,_,_,rfl,rfl,?_⟩
   try dsimp only [aF]
   have zC:=Et.same Cf;refine cI (fun bb H'=>An2 (L2.Same H4 H') (bb=(x.isHole || D pre))) (fun k2 zJ=>?_) (fun H5 yC=>?_) (fun H5 yC=>?_)
   · refine ⟨_,rfl,ta,x,rfl,An.mono k1,by omega,_,rfl,?_⟩;refine cX (fun ch=>zJ _ _ ⟨.refl _,by rw [ch];rfl⟩) (fun ch=>?_);have RH:x.isHole=false:=VT.mpr ch;refine ⟨_,rfl,_,rfl,ai (by show 2<=1000000;decide),fun kp BU=>?_⟩;have s5:=ad BU (.tup [.int ((s:Nat):Int),.ref pa]);refine ⟨_,rfl,pt,kp,nk (s:Nat) pre,f',rfl,rfl,zC.dm.mono s5,lA ab (s5 _ _ (k1 _ _ zV)),_,rfl,zJ _ _ ⟨s5,?_⟩⟩;rw [RH,X3,<- RF];rfl
   · obtain ⟨s5,yC⟩:=yC
     have Fy:x.cut D pre=hole:=by
      cases x with
      | call u v=>rw [Th.cut]
      | knot n ks =>
        rw [Th.cut,if_pos];rcases Bool.or_eq_true_iff.mp yC.symm with h | h
        · exact .inl h
        · exact .inr h
     refine ⟨_,rfl,.inl ⟨rfl,_,SqL.of (s5 _ _ BD)⟩,ai (by show 2<=1000000;decide),fun p hp=>?_⟩;have s6:L2.Same H5 (upd H5 p (.tup [.ref T.a_HOLE,.int 0])):=ad hp _;have e6:(upd H5 p (.tup [.ref T.a_HOLE,.int 0])) p=some (.tup [.ref T.a_HOLE,.int 0]):=ab;generalize (upd H5 p (.tup [.ref T.a_HOLE,.int 0]))=H6 at s6 e6 ⊢;have O3:=(s5.trans s6) _ _ BD;refine ⟨tl,_,_,rfl,rfl,O3,aH (by rw [Uc];omega),?_⟩;have k7:KT H6 (upd H6 tl (.lst (ts.map V.ref++[.ref p]))):=aS O3;have O4:=(k1.trans (Same.kt (s5.trans s6))).trans k7;refine ⟨szP Us,by omega,ts++[p],yo,Ts++[hole],Us,_,_,_,rfl,aw (Cf.trans (s5.trans s6)) Fx,by rw [ab,Ux];rfl,by rw [ak yx];exact (s5.trans s6) _ _ Fd,?_,PsAtK.mono O4 a3,?_,fun p' zh=>hb p' (Vi _ zh),?_,rfl⟩
     · rw [Ux];exact P2.append (dL O4 a1) (.cons ⟨T.a_HOLE,k7 _ _ e6,vU,(TK.const T.q_HOLE)⟩ .nil)
     · rw [<- hw,VR,Vo];show Ts++([hole]++iz D Us.reverse)=Ts++iz D ((pre,x)::Us.reverse);unfold iz;rw [ZO,Fy];rfl
     · rw [UE];show Ts.length+1+szP Us<=200;omega
   · obtain ⟨s5,yC⟩:=yC;obtain ⟨hh,Iv⟩:=Bool.or_eq_false_iff.mp yC.symm;cases x with
     | call u v=>rw [Th.noCall] at Iu;exact Iu.elim
     | knot n ks =>
     have Fy:(Th.knot n ks).cut D pre=.knot n (dS D pre 0 ks):=by
      rw [Th.cut,if_neg];rintro (h | h)
      · rw [hh] at h;cases h
      · rw [Iv] at h;cases h
     have Ga:=k1.trans (Same.kt s5);have Iw:=An.mono Ga;rw [AtK] at Iw;refine hid fun ZZ kZ=>?_;obtain ⟨Gn,yy,MG,yS⟩:=Iw;refine kZ ?_;have ze:yy.length=ks.length:=yS.length;rw [Th.size] at hlen;have Ge:=bJ ks;rw [Th.noCall] at Iu;rw [Th.tall] at JO;refine ⟨_,rfl,.inl ⟨rfl,_,SqL.of (s5 _ _ BD)⟩,_,rfl,_,rfl,ta,_,rfl,MG,fun p2 H6 s6 e6=>?_⟩
     have RI:TK K H6 p2 [.str n]:=by
      have e7:TK K H6 p2 (du (V.str n::yy.map V.ref) none (some 1)):=e6;rw [qK] at e7;exact e7
     refine ⟨_,rfl,ta,_,rfl,.inr ((MG.mono (Same.kt s6)).sq),_,_,rfl,rfl,ai (by show 2<=1000000;decide),fun tp DC=>?_⟩
     have Iy:((V.str n::yy.map V.ref).length:Int) - 1=((ks.length:Nat):Int):=by
      rw [Ut,Uc];omega
     dsimp only [dk,rh];rw [Iy];have s7:L2.Same H6 (upd H6 tp (.tup [.ref p2,.int (ks.length:Nat)])):=ad DC _;have e7:(upd H6 tp (.tup [.ref p2,.int (ks.length:Nat)])) tp=some (.tup [.ref p2,.int (ks.length:Nat)]):=ab;generalize (upd H6 tp (.tup [.ref p2,.int (ks.length:Nat)]))=H7 at s7 e7 ⊢;have Gp:=s5.trans (s6.trans s7);have HB:=Gp _ _ BD;refine ⟨tl,_,_,rfl,rfl,HB,aH (by rw [Uc];omega),?_⟩;have k8:KT H7 (upd H7 tl (.lst (ts.map V.ref++[.ref tp]))):=aS HB;have MH:L2.Same H (upd H7 tl (.lst (ts.map V.ref++[.ref tp]))):=aw (Cf.trans Gp) Fx;have O5:(upd H7 tl (.lst (ts.map V.ref++[.ref tp]))) tl=some (.lst ((ts++[tp]).map V.ref)):=by rw [ab,Ux];rfl
     have HC:(upd H7 tl (.lst (ts.map V.ref++[.ref tp]))) ah=some (.lst (yo.map V.ref)):=by rw [ak yx];exact Gp _ _ Fd
     generalize (upd H7 tl (.lst (ts.map V.ref++[.ref tp])))=H8 at k8 MH O5 HC ⊢;have MI:=(Same.kt (s6.trans s7)).trans k8;have Em:=Ga.trans MI
     have MJ:UX (TopAtK K H8) ((Ts++[Th.knot n (dS D pre 0 ks)]).map (dX Th.call)) (ts++[tp]):=by
      rw [Ux];refine P2.append (dL Em a1) (.cons ⟨p2,?_,Gn,RI.mono ((Same.kt s7).trans k8)⟩ .nil);show H8 tp=some (.tup [.ref p2,.int ((dS D pre 0 ks).length:Nat)]);rw [kK];exact k8 _ _ e7
     try dsimp only [aF]
     -- kids
     refine ⟨_,rfl,1,rfl,ta,_,rfl,(MG.mono MI).sq,?_,fun p3 Fz=>?_⟩
     · rintro ⟨z,_⟩;rw [Ut,show (1:Int)=((1:Nat):Int) by rfl,HT.sIx_nat] at z;omega
     dsimp only;rw [de];have s9:L2.Same H8 (upd H8 p3 (.tup (yy.map V.ref))):=ad Fz _;have e9:(upd H8 p3 (.tup (yy.map V.ref))) p3=some (.tup (yy.map V.ref)):=ab;generalize (upd H8 p3 (.tup (yy.map V.ref)))=H9 at s9 e9 ⊢;have MK:=s9 _ _ (Em _ _ zV);have ML:=yS.mono (MI.trans (Same.kt s9));refine ⟨p3,rfl,⟨_,SqT.of e9⟩,?_⟩;intro Dl FA;refine ⟨yy.length,fun j yZ=>An3 (j<=yy.length) (L2.Same H9 yZ) (Ex1 fun (bs:List Ui)=>An2 (yZ Dl=some (.lst (bs.map V.ref))) (PsAtK K yZ ((cQ pre 0 ks).take j) bs)),⟨UO _,ad FA _,[],ab,.nil⟩,?_⟩;rintro j yZ ⟨hj,yJ,bs,eD,yA⟩;by_cases AV:j=yy.length
     · left;refine ⟨⟨_,SqT.of (yJ _ _ e9),by rw [Uc];exact AV.symm⟩,?_⟩;have yi:(cQ pre 0 ks).take j=cQ pre 0 ks:=by rw [AV,ze,<- gh pre 0 ks,V9]
       rw [yi] at yA;have FC:=yJ _ _ (s9 _ _ HC);have Iz:=yJ _ _ (s9 _ _ O5)
       have zL:bs.length=ks.length:=by
        have:=Uv yA;rw [gh] at this;exact this.symm
       try dsimp only [aF]
       refine ⟨_,rfl,.inl ⟨rfl,_,SqL.of FC⟩,_,rfl,true,Dl,_,rfl,SqB.l (SqL.of eD),fun l hl=>?_⟩;have BA:ah≠l:=aJ FC hl;have CQ:tl≠l:=aJ Iz hl;have IC:(upd yZ l (.lst (bs.map V.ref).reverse)) ah=some (.lst (yo.map V.ref)):=by rw [ak BA];exact FC
       refine ⟨ah,l,_,_,rfl,rfl,IC,ab,ai ?_,?_⟩
       · rw [Uc,VJ,Uc];omega
       have ID:KT yZ (upd (upd yZ l (.lst (bs.map V.ref).reverse)) ah (.lst (yo.map V.ref++(bs.map V.ref).reverse))):=(dM hl).trans (aS IC);have IE:=(Same.kt (s9.trans yJ)).trans ID;have MM:=Em.trans IE;refine ⟨szP (Us++(cQ pre 0 ks).reverse),?_,ts++[tp],yo++bs.reverse,Ts++[.knot n (dS D pre 0 ks)],Us++(cQ pre 0 ks).reverse,_,_,_,rfl,?_,?_,?_,dL IE MJ,P2.append (PsAtK.mono MM a3) (P2.reverse (PsAtK.mono ID yA)),?_,?_,?_,rfl⟩
       · rw [cF,jZ,iV,Dy,Th.size];omega
       · exact aw (aw ((MH.trans s9).trans yJ) ((MH.trans s9).trans yJ |>.free hl)) Ab
       · rw [ak yx.symm,ak CQ];exact Iz
       · rw [ab,Ux,Y0]
       · rw [<- hw,Vo,VR,VR,Wl,oh,mf];show Ts++([Th.knot n (dS D pre 0 ks)]++(walks (dS D pre 0 ks)++iz D Us.reverse))=Ts++iz D ((pre,Th.knot n ks)::Us.reverse);have:iz D ((pre,Th.knot n ks)::Us.reverse)=((Th.knot n ks).cut D pre).walk++iz D Us.reverse:=by unfold iz;rw [ZO]
         rw [this,Fy,Th.walk];rfl
       · intro p hp;rcases Ve.mp hp with hp | hp
         · exact hb p (Vi _ hp)
         · obtain ⟨g1,g2⟩:=kH pre 0 ks p (List.mem_reverse.mp hp);have:=bT g2;exact ⟨by omega,cu Iu g2⟩
       · rw [UE,cF,jZ,iV];show Ts.length+1+(szP Us+aq ks)<=200;omega
     · right;have yv:j<yy.length:=by omega
       refine ⟨yv,⟨_,.ref yy[j],SqT.of (yJ _ _ e9),by rw [Uo,Ue yv];rfl⟩,?_⟩;rintro y zm ⟨p,v,hp,rfl,rfl,hv⟩;have yK:=hv _ (SqT.of (yJ _ _ e9));obtain ⟨kd,rfl,CS⟩:=aU yK;obtain ⟨tk,Af,Lz⟩:=ML.get CS;have zi:L2.Same yZ (upd yZ p (.tup [.int (j:Nat),.ref kd])):=ad hp _;refine ⟨p,_,rfl,SqT.of ab,rfl,_,_,rfl,_,_,rfl,rfl,?_⟩;generalize (upd yZ p (.tup [.int (j:Nat),.ref kd]))=zm at zi ⊢;refine ⟨_,rfl,_,rfl,ai (by show 1<=1000000;decide),fun n1 JP=>?_⟩;have yL:L2.Same zm (upd zm n1 (.tup [.int (j:Nat)])):=ad JP _;have BZ:(upd zm n1 (.tup [.int (j:Nat)])) n1=some (.tup [.int (j:Nat)]):=ab;generalize (upd zm n1 (.tup [.int (j:Nat)]))=Cj at yL BZ ⊢;refine j1 (yL _ _ (zi _ _ (yJ _ _ MK))) BZ (by rw [Uc];show pre.length+1<=1000000;omega) fun n2 Dm AX J8=>?_;refine ⟨_,rfl,ai (by show 2<=1000000;decide),fun n3 En=>?_⟩;have AY:L2.Same yZ (upd Dm n3 (.tup [.ref n2,.ref kd])):=(zi.trans (yL.trans AX)).trans (ad En _);have IF:=AY _ _ eD;refine ⟨_,IF,aH ?_,yv,?_,bs++[n3],?_,?_⟩
       · have:=Uv yA;rw [UQ] at this;rw [Uc];omega
       · exact aw (yJ.trans AY) FA
       · rw [ab,Ux];rfl
       · have J9:KT (upd Dm n3 (.tup [.ref n2,.ref kd])) (upd (upd Dm n3 (.tup [.ref n2,.ref kd])) Dl (.lst (bs.map V.ref++[.ref n3]))):=aS IF;rw [Vs,kq pre 0 ks j tk Af];refine P2.append (PsAtK.mono ((Same.kt AY).trans J9) yA) (.cons ⟨n2,kd,J9 _ _ ab,J9 _ _ (ad En _ _ _ ?_),?_⟩ .nil)
         · rw [J8,Ux,VZ];rfl
         · exact Lz.mono ((Same.kt (yJ.trans AY)).trans J9)
 · have hz:as=[]:=by
    cases as with
    | nil=>rfl
    | cons y ys=>simp at c
   subst hz;have Dg:As=[]:=VB.mp (Uv a2);subst Dg;have Fb:Ts=(t.cut D []).walk:=by simpa [iz] using hw
   subst Fb;obtain ⟨b1,b2⟩:=rA Th.call (t.cut D []);rw [iW] at b1;refine ⟨_,rfl,tl,ts,_,t.cut D [],rfl,em,a1,by rw [Uc];omega,b2,?_,b1,fun r H4 s4 RJ=>k r H4 (sm.trans s4) RJ⟩;intro u hu;obtain ⟨y,hy,e⟩:=U5.mp hu;cases y with
   | knot n us=>cases e
   | call sn kn =>
     cases e;rw [Th.size];decide
def iA (ins:List (US×Int)) (rows:List (List Th)):List aA:=(U1 rows.length).flatMap fun s=>((mkF ins rows (s:Nat)).pl []).map fun x=>nk (s:Nat) x.1
theorem oO {α β:Type} {f:α->List β} {B:Nat}:∀ {l:List α},(∀ x∈l,(f x).length<=B)->(l.flatMap f).length<=l.length * B
 | [],_=>UO _
 | x::l,h=>by
   rw [ZO,UE,Ut,Nat.succ_mul];have h1:=h x (UH ..);have h2:=oO (l:=l) fun y hy=>h y (UJ _ hy);omega
theorem ut {ins outs:List (US×Int)} {rows:List (List Th)} (F:FrK ins outs rows):(iA ins rows).length<=1000000:=by
 have h:=oO (l:=U1 rows.length) (f:=fun s=>((mkF ins rows (s:Nat)).pl []).map fun x=>nk (s:Nat) x.1) (B:=200) fun s hs=>by
  rw [Uc,Th.pl_len];have zo:=WD.mp hs;obtain ⟨row,p,_,_,e,z,_⟩:=F.mkd (l:=(s:Nat)) (by omega) (by omega);rw [e];exact z
 rw [UY] at h;have:=F.le;show ((U1 rows.length).flatMap _).length<=_;omega
theorem oH {ins:List (US×Int)} {rows:List (List Th)} {s:Nat} (hs:s<rows.length) {x:List Int×Th} (hx:x∈(mkF ins rows (s:Nat)).pl []):nk (s:Nat) x.1∈iA ins rows:=List.mem_flatMap.mpr ⟨s,WD.mpr hs,U5.mpr ⟨x,hx,rfl⟩⟩
theorem vc {ins:List (US×Int)} {rows:List (List Th)} {s:Nat} (hs:s<rows.length) {x:List Int×Th} (hx:x∈(frS ins rows s).pl []):nk (s:Nat) x.1∈iA ins rows:=by
 obtain ⟨u,hu⟩:=uk _ _ _ x hx;exact oH (x:=(x.1,u)) hs hu
theorem xp {P:Uz} {w:UN} {Vl:VlT} {H H':Hp} {pt:Ui} {f':List (aA×V)} {Al:List aA} (h:Pt P w Vl H pt f' Al) (k:KT H H') (e:∀ o,H pt=some o->H' pt=some o):Pt P w Vl H' pt f' Al:=⟨rF h.dm k e,h.nd,h.al,fun j p hp=>(h.vl j p hp).mono k⟩
theorem oF {p:Ui} {H0 H H':Hp} (hb:But p H H') (s:L2.Same H0 H) (h0:H0 p=none):L2.Same H0 H':=fun c o e=>hb c o (fun z=>by rw [z,h0] at e;cases e) (s c o e)
theorem m5 {ins outs:List (US×Int)} {rows:List (List Th)} (F:FrK ins outs rows) {s:Nat} (hs:s<rows.length):(frS ins rows s).size<=200/\(frS ins rows s).tall<=100/\(frS ins rows s).noCall:=by
 refine hid fun ZZ kZ=>?_;obtain ⟨row,p,hr,hp,e,z1,z2,hf⟩:=F.mkd (l:=(s:Nat)) (by omega) (by omega);refine kZ ?_;have h:=lc (mkF ins rows) (mkF ins rows (s:Nat)) ((rows[s]?).getD []);have hn:(mkF ins rows (s:Nat)).noCall:=by rw [e];exact d4 _ _ (Uj _) hf
 unfold frS;rw [e] at h hn;rw [e];exact ⟨by omega,by omega,io hn _⟩
theorem kh {outs:List (US×Int)} (go:bN outs) {S C:Int} {t v:Th} {pl:List Int} (h:t.FitS outs S C) (hi:In t pl v):v.isHole=false:=by
 have:=hi.fit h;cases v with
 | call a b=>rw [Th.isHole]
 | knot m ks =>
   rw [Th.FitS] at this;rw [Th.isHole,decide_eq_false_iff_not];rintro ⟨rfl,_⟩;exact om (go.low _ this.1).1 rfl
theorem se {ins outs:List (US×Int)} {rows:List (List Th)} (F:FrK ins outs rows) (go:bN outs) {s:Nat} (hs:s<rows.length):∀ x∈(mkF ins rows (s:Nat)).pl [],x.2.isHole=false:=fun x hx=>by
 refine hid fun ZZ kZ=>?_;obtain ⟨_,p,_,_,e,_,_,f⟩:=F.mkd (l:=(s:Nat)) (by omega) (by omega);refine kZ ?_;rw [e] at hx;exact kh go f (In.of _ (Uj _) (pl:=x.1) (v:=x.2) hx)
inductive eU (P:Uz) (w:UN) (K:Ug) (vs:List V) (H:Hp) (Q:VK) (_E:XK):Prop
 | mk (b:Ui) (ins outs:List (US×Int)) (head:Th) (rows:List (List Th)) (yp:vs=[.ref b]) (yq:Bk H ins outs head rows b) (yz:FrK ins outs rows) (yF:bN outs) (yW:∀ (r fl pt:Ui) (fs:List Ui) (f':List (aA×V)) (H':Hp),L2.Same H H'->H' r=some (.tup [.ref fl,.ref pt])->H' fl=some (.lst (fs.map V.ref))->UX (fun s a=>AtK K H' ((frS ins rows s).cut (Dk f' (s:Nat)) []) a) (U1 rows.length) fs->Pt P w (Vl0 ins rows) H' pt f' (iA ins rows)->FrD ins rows (f'.map (·.1))->tf ins rows f'->Q (.ref r) H'):eU P w K vs H Q _E
def jQ (P:Uz) (w:UN) (K:Ug):Sp:=eU P w K
set_option maxHeartbeats 4000000 in
theorem fJ:bp P w K mg base CX0 7 T.g_found_fronts.f T.g_found_fronts.d ["book"] (jQ P w K):=by
 refine T.g_found_fronts.F.ok bD (fun vs H Q E h=>?_) (fun yl A outer s0 H vs Q E hr h=>?_)
 · obtain ⟨b,ins,outs,head,rows,rfl,_⟩:=h;rfl
 obtain ⟨b,ins,outs,head,rows,rfl,hB,F,go,k⟩:=h
 refine ⟨_,(ae (au (i:=1) bD.nd rfl (Ym rfl) (pcF T.g_first_makings (jy T) hr (aa (pv 0) ac)))
  (ae (au (i:=2) bD.nd rfl (Ym rfl) oU)
  (ae (fD (i:=3) (N:=[Um "state",Um "book",Um "made",Um "partings"]) (js:=[none,some 0,some 1,some 2]) (g:=(aF 0)) (tt:=bG) (te:=(fR (gz P w K) [] E0 (bm (bn 1) (bm (bn 0) (bm (bn 2) (bm (bn 3) dk)))))) bD.nd rfl (UB rfl) rfl (cB rfl (by decide +kernel) (by decide +kernel) rfl rfl rfl) (bC rfl T.n_range (aa (pcF T.g_states_of (ni T) hr (aa (pv 0) ac)) ac)) (fun _ _ _ _ _ _=>(aj (i:=0) xU rfl (UB rfl))) (aR rfl) (fun _ _ _ _ _ _=>bM) (fun _ _ _ _ _ _=>(pcF T.g_first_front (lG T) hr (aa (pv 1) (aa (pv 0) (aa (pv 2) (aa (pv 3) ac)))))))
  (ae (au (i:=4) bD.nd rfl (UB rfl) oU)
  (ae (bx UW rfl (ki rfl T.n_enumerate (pv 3)) (bz rfl (av (aj (i:=5) bD.nd rfl (UB rfl)) (av (aj (i:=6) bD.nd rfl (UB rfl)) aX))) (ag (aQ (pcF T.g_put_links (m7 T) hr (aa (pv 0) (aa (pv 5) (aa (pv 6) (aa (pv 4) ac))))))))
  (ae (aQ (pcF T.g_spread (rV T) hr (aa (pcF T.g_ins_of (fe T) hr (aa (pv 0) ac)) (aa (pv 4) (aa (pv 2) ac)))))
  (ag (aE (aI (aa (cf (N:=[Um "state",Um "front",Um "partings"]) (js:=[none,none,some 2]) (g:=(lX K 2 (cR (aF 0) (cR (aF 1) l6)))) (tt:=bG) (te:=(fR (iP P w K) [] E0 (bm (bn 1) (bm (bn 0) (bm (bn 2) dk))))) rfl (cB rfl (by decide +kernel) (by decide +kernel) rfl rfl rfl) (ki rfl T.n_enumerate (pv 3)) (fun _ _ _ _ _ _=>(bz rfl (av (aj (i:=0) wH rfl (UB rfl)) (av (aj (i:=1) wH rfl (UB rfl)) aX)))) (fY (bW aW (aR rfl) (bW aW (aR rfl) gx))) (fun _ _ _ _ _ _=>bM) (fun _ _ _ _ _ _=>(pcF T.g_cut_front (nK T) hr (aa (pv 1) (aa (pv 0) (aa (pv 2) ac)))))) (aa (pv 2) ac))))))))))),?_⟩
 try dsimp only [yH,yh]
 have hle:=F.le;refine ⟨_,rfl,b,ins,outs,head,rows,rfl,hB,F.gi,by omega,fun row yc=>(F.fit.row row yc).1,fun md Aq H1 s1 RK Gg DL=>?_⟩;intro pt H2 IG s2 O6;have MN:=hB.mono (Same.kt s1);refine hid fun ZZ kZ=>?_;obtain ⟨ia,oa,ha,ra,yk,yB,yV,Dh⟩:=id MN;have DH:rows.length=yV.length:=Uv Dh.rw;have JY:=ut F;obtain ⟨J4,B0⟩:=cr O6;refine kZ ?_;refine ⟨_,rfl,b,_,_,_,ra,_,rfl,s2 _ _ Dh.bk,s2 _ _ Dh.rl,_,rfl,by omega,by rw [Uc];omega,fun D hD=>?_⟩;have Iv:D≠pt:=fun z=>by rw [z,B0] at hD;cases hD
 have RL:H1 D=none:=s2.free hD;refine ⟨rows.length,fun j H'=>An3 (j<=rows.length) (L2.Same H1 H') (Ex2 fun (as:List Ui) (f':List (aA×V))=>An4 (H' D=some (.lst (as.map V.ref))) (UX (fun s a=>AtK K H' (frS ins rows s) a) (U1 j) as) (Pt P w (Vl0 ins rows) H' pt f' (iA ins rows)) (∀ (s i:Nat) (row:List Th),s<j->rows[s]?=some row->i<=row.length->∀ x∈(frF (mkF ins rows) (mkF ins rows (s:Nat)) (row.take i)).pl [],x.2.isHole=true->nk (s:Nat) x.1∈f'.map (·.1))),⟨UO _,s2.trans (ad hD _),[],[],ab,.nil,⟨O6.mono (ad hD _),YF,fun p hp=>(Xi hp).elim,fun j p hp=>by simp at hp⟩,fun s i row hs=>by omega⟩,?_⟩;rintro j H' ⟨hj,sj,as,f',eD,has,Gq,IH⟩;obtain ⟨Tz,DV⟩:=cr Gq.dm;by_cases AV:j=rows.length
 · left;subst AV;refine ⟨by show _<=_;rw [Uc];omega,?_⟩;intro la H5 BA s5 RM;have L0:LkI P w ins (iA ins rows) (Lk0 ins rows) H' H5 la [] 0:=⟨s5,BA,RM,YF,YF,fun g hg=>(Xi hg).elim,Uj _⟩;have DJ:(U1 rows.length).length=as.length:=Uv has;rw [UY] at DJ;refine ⟨_,rfl,D,rfl,⟨_,SqL.of (s5 _ _ eD)⟩,?_⟩
   refine mS (K:=K) (a:=D) (xs:=as.map V.ref) (fun i σ H6=>Ex3 fun (c5 c6:Option V) (G:LG)=>An3 (σ=[some (.ref b),some (.ref md),some (.ref pt),some (.ref D),some (.ref la),c5,c6]) (LkI P w ins (iA ins rows) (Lk0 ins rows) H' H6 la G (i * 640000)) (∀ s<i,∀ row,rows[s]?=some row->LDone H6 G s row (frS ins rows s)))
    ⟨none,none,[],rfl,by rw [Nat.zero_mul];exact L0,fun s hs=>by omega⟩ (fun i σ H6 _ ⟨_,_,_,_,L,_⟩=>SqL.of (L.sm _ _ eD)) ?_ ?_
   · rintro i x pr σ H6 hx zX ⟨c5,c6,G,rfl,L,BG⟩;obtain ⟨fa,rfl,y3⟩:=aU hx;have zE:=(Uk.mp y3).1;have EB:i<rows.length:=by omega
     obtain ⟨s',zo,zY⟩:=P2.get' has y3;rw [Vp EB] at zo;cases zo;obtain ⟨row,yc⟩:∃ row,rows[i]?=some row:=⟨_,Ue EB⟩;have s7:L2.Same H6 (upd H6 pr (.tup [.int ((i:Nat):Int),.ref fa])):=ad zX _;have e7:(upd H6 pr (.tup [.int ((i:Nat):Int),.ref fa])) pr=some (.tup [.int ((i:Nat):Int),.ref fa]):=ab;generalize (upd H6 pr (.tup [.int ((i:Nat):Int),.ref fa]))=H7 at s7 e7 ⊢;refine ⟨pr,_,rfl,SqT.of e7,rfl,_,_,rfl,_,_,rfl,rfl,?_⟩;dsimp only [aF];have L7:=L.same s7;obtain ⟨z1,z2,z3⟩:=m5 F EB;refine ⟨_,rfl,_,rfl,_,rfl,_,rfl,b,fa,la,i,ins,outs,head,rows,row,frS ins rows i,H',G,i * 640000,iA ins rows,Lk0 ins rows,rfl,MN.mono (Same.kt (sj.trans L7.sm)),F,yc,zY.mono (Same.kt L7.sm),z1,z2,L7,by omega,fun x hx=>vc EB hx,fun i2 p kd c u x hp hk hc hu hx=>⟨i,row,i2,p,c.1,x.1,c.2.1,rfl,yc,hp,hk,In.iff.mp (fS.mp hc),rfl,rfl,u,x.2,hu,hx⟩,fun G' H8 k8 L8 MO II=>?_⟩;refine ⟨_,_,G',rfl,by rw [Nat.succ_mul];exact L8,fun s hs Ap C1=>?_⟩;by_cases RN:s=i
     · subst RN;rw [yc] at C1;cases C1;exact II
     · exact ((BG s (by omega) Ap C1).sub (LSub.kt (Same.kt s7) _)).sub MO
   · rintro σ H6 ⟨c5,c6,G,rfl,L,BG⟩;rw [Uc,<- DJ] at BG;have IJ:=Gq.same L.sm;obtain ⟨Rf,BX⟩:=cr IJ.dm;have FD:=sj.trans L.sm
     have y8:pt≠la:=fun z=>by
      rw [z] at DV;rw [L.la0] at DV;cases DV
     refine ⟨_,rfl,b,_,_,_,_,rfl,FD _ _ Dh.bk,_,rfl,_,rfl,ia,la,pt,yk,ins,G,f',iA ins rows,Vl0 ins rows,Lk0 ins rows,rfl,FD _ _ Dh.inE,Dh.inK.mono (Same.kt FD),F.gi,L.r,IJ,JY,y8,wn F,fun zb H7 Gr FE zu MP=>?_⟩;have O7:L2.Same H1 H7:=oF Gr FD IG;have BV:=(Same.kt L.sm).trans (Gr.kt BX);have J':H7 D=some (.lst (as.map V.ref)):=Gr _ _ Iv (L.sm _ _ eD);refine ⟨_,rfl,D,rfl,⟨_,SqL.of J'⟩,fun Dl FA=>?_⟩;have RO:H1 Dl=none:=O7.free FA;refine ⟨rows.length,fun j H8=>An3 (j<=rows.length) (L2.Same H7 H8) (Ex1 fun (bs:List Ui)=>An2 (H8 Dl=some (.lst (bs.map V.ref))) (UX (fun s a=>AtK K H8 ((frS ins rows s).cut (Dk zb (s:Nat)) []) a) (U1 j) bs)),⟨UO _,ad FA _,[],ab,.nil⟩,?_⟩;rintro j H8 ⟨TB,s8,bs,Ka,yA⟩;by_cases RP:j=rows.length
     · left;subst RP;refine ⟨⟨_,SqL.of (s8 _ _ J'),by rw [Uc];exact DJ.symm⟩,?_⟩;refine ⟨_,rfl,ai (by show 2<=1000000;decide),fun r RQ=>?_⟩;have s9:L2.Same H8 (upd H8 r (.tup [.ref Dl,.ref pt])):=ad RQ _
       have O8:FrD ins rows (zb.map (·.1)):=⟨fun s i row hr hi x hx hh=>zu _ (IH s i row (Uk.mp hr).1 hr hi x hx hh),fun s row yc p hp c hc u hu x hx hk=>by
        have hs:=(Uk.mp yc).1;exact MP _ hk _ _ (LSub.kt (Gr.kt BX) G _ _ _ (BG s hs row yc p hp c hc u hu x hx))⟩
       refine k r Dl pt bs zb _ (s1.trans (O7.trans (s8.trans s9))) ab (s9 _ _ Ka) (P2.mp (fun _ _ h=>h.mono (Same.kt s9)) yA) (FE.same (s8.trans s9)) O8 (uP F O8 fun p hp=>by
        refine hid fun ZZ kZ=>?_;obtain ⟨j,hj⟩:=UG.mp hp;obtain ⟨_,_,_,t1,t2,_,_,_,_,hv⟩:=FE.vl j p hj;refine kZ ?_;exact ⟨j,t1,t2,hv⟩)
     · right;have yv:j<rows.length:=by omega
       obtain ⟨fa,y3⟩:∃ fa,as[j]?=some fa:=⟨_,Ue (by omega)⟩;refine ⟨yv,⟨_,.ref fa,SqL.of (s8 _ _ J'),by rw [Uo,y3];rfl⟩,?_⟩;rintro y H9 ⟨p,v,hp,rfl,rfl,hv⟩;have yK:=hv _ (SqL.of (s8 _ _ J'));rw [Uo,y3] at yK;cases yK;obtain ⟨s',zo,zY⟩:=P2.get' has y3;rw [Vp yv] at zo;cases zo;have s9:L2.Same H8 (upd H8 p (.tup [.int (j:Nat),.ref fa])):=ad hp _;refine ⟨p,_,rfl,SqT.of ab,rfl,_,_,rfl,_,_,rfl,rfl,?_⟩;generalize (upd H8 p (.tup [.int (j:Nat),.ref fa]))=H9 at s9 ⊢;obtain ⟨z1,z2,z3⟩:=m5 F yv;refine ⟨_,rfl,_,rfl,_,rfl,fa,pt,j,frS ins rows j,zb,iA ins rows,Vl0 ins rows,rfl,zY.mono (BV.trans (Same.kt (s8.trans s9))),z1,z2,z3,FE.same (s8.trans s9),fun q yZ yJ hq=>?_⟩;have IK:=(s9.trans yJ) _ _ Ka;have zL:(U1 j).length=bs.length:=Uv yA;rw [UY] at zL;have ID:KT yZ (upd yZ Dl (.lst (bs.map V.ref++[.ref q]))):=aS IK;refine ⟨_,IK,aH (by rw [Uc];omega),yv,aw (s8.trans (s9.trans yJ)) FA,bs++[q],by rw [ab,Ux];rfl,?_⟩;rw [Y9];exact P2.append (P2.mp (fun _ _ h=>h.mono ((Same.kt (s9.trans yJ)).trans ID)) yA) (.cons (hq.mono ID) .nil)
 · right;have yv:j<rows.length:=by omega
   obtain ⟨row,yc⟩:∃ row,rows[j]?=some row:=⟨_,Ue yv⟩;refine ⟨yv,by show _<_;rw [Uc];omega,?_⟩;rintro y H9 ⟨rfl,rfl⟩;rw [VZ];refine ⟨_,rfl,_,rfl,_,rfl,_,rfl,b,md,pt,j,ins,outs,head,rows,row,Aq,f',iA ins rows,Vl0 ins rows,rfl,MN.mono (Same.kt sj),F,yc,sj _ _ Gg,DL.mono (Same.kt sj),Gq,JY,fun x hx=>oH yv hx,se F go yv,uT F go yc,fun r zb H4 MQ zY MR zy IL=>?_⟩;have Fu:=MQ.kt DV;have HI:=MQ _ _ Iv eD;have zS:(U1 j).length=as.length:=Uv has;rw [UY] at zS;have k5:KT H4 (upd H4 D (.lst (as.map V.ref++[.ref r]))):=aS HI;rw [<- nF yc] at zY;refine ⟨_,HI,aH (by rw [Uc];omega),yv,aw (oF MQ sj IG) RL,as++[r],zb,by rw [ab,Ux];rfl,?_,xp MR k5 (fun o e=>by rw [ak Iv.symm];exact e),fun s i Ap hs BQ hi x hx hh=>?_⟩
   · rw [Y9];exact P2.append (P2.mp (fun _ _ h=>h.mono (Fu.trans k5)) has) (.cons (zY.mono k5) .nil)
   · by_cases RR:s=j
     · subst RR;rw [yc] at BQ;cases BQ;exact IL i hi x hx hh
     · exact zy _ (IH s i Ap (by omega) BQ hi x hx hh)
inductive gf (vs:List V) (H:Hp) (Q:VK) (_E:XK):Prop
 | mk (c k:Int) (yp:vs=[.int c,.int k]) (yq:∀ z:Int,Q (.int z) H):gf  vs H Q _E
def l5:Sp:=gf
theorem eC:bp P w K mg base CX0 1 T.g__law_mixed.f T.g__law_mixed.d ["cell","k"] l5:=by
 refine T.g__law_mixed.F.ok eA (fun vs H Q E h=>?_) (fun yl A outer s H vs Q E hr h=>?_)
 · obtain ⟨c,k,rfl,_⟩:=h;rfl
 obtain ⟨c,k,rfl,q⟩:=h
 refine ⟨_,(ae (au (i:=2) eA.nd rfl (UB rfl) (ax bH (ax bF (ax bF (ax cT (ax bH (pv 0) (ax qy af af)) af) (ax cT af (pv 1))) af) af))
  (ae (au (i:=2) eA.nd rfl (UB rfl) (ax bH (ax cT (pv 2) (pv 2)) af))
  (ag (aE (ax bF (ax cT (pv 2) af) (ax cT af (pv 1))))))),?_⟩
 try dsimp only [yH,yh]
 refine ⟨_,rfl,_,_,rfl,rfl,⟨by decide,by decide,by decide⟩,_,_,rfl,rfl,(by show (0:Int)<10 ^ 40;decide),_,_,rfl,rfl,.inr ⟨by decide,by decide⟩,_,rfl,_,_,rfl,rfl,.inl ⟨by decide,by decide⟩,_,_,rfl,rfl,_,_,rfl,rfl,_,_,rfl,rfl,(by show (0:Int)<2305843009213693951;decide),?_⟩
 try dsimp only [aF]
 generalize c%(10:Int) ^ (40:Int).toNat * 99999999977+7919 * k+1234567890123=z;have z0:=VD z (show (2305843009213693951:Int)≠0 by decide);have z1:=Vw z (show (0:Int)<2305843009213693951 by decide);generalize z%2305843009213693951=y at z0 z1;refine ⟨_,rfl,_,rfl,_,_,rfl,rfl,.inl ⟨by omega,by omega⟩,_,_,rfl,rfl,(by show (0:Int)<2305843009213693951;decide),?_⟩;exact ⟨_,rfl,_,_,rfl,rfl,.inr ⟨by decide,by decide⟩,_,rfl,_,_,rfl,rfl,.inl ⟨by decide,by decide⟩,_,_,rfl,rfl,q _⟩
theorem rM (ns:List Int) (lo hi:Option Int):∃ cs:List Int,du (ns.map V.int) lo hi=cs.map V.int/\cs.length<=ns.length:=by
 unfold du;rw [<- Zw,<- List.map_take];exact ⟨_,rfl,by rw [UQ,VG];omega⟩
inductive fQ (vs:List V) (H:Hp) (Q:VK) (_E:XK):Prop
 | mk (a:Ui) (cs:List Int) (many:Int) (yp:vs=[.ref a,.int many]) (yq:H a=some (.lst (cs.map V.int))) (yz:cs.length<=1000) (yF:1<=many) (yW:many<=1000) (Aa:∀ (r:Ui) (ds:List Int) (H':Hp),L2.Same H H'->H' r=some (.lst (ds.map V.int))->ds.length=many.toNat->Q (.ref r) H'):fQ  vs H Q _E
def kD:Sp:=fQ
set_option maxHeartbeats 1000000 in
theorem lK:bp P w K mg base CX0 1 T.g__law_folded.f T.g__law_folded.d ["cells","many"] kD:=by
 refine T.g__law_folded.F.ok dR (fun vs H Q E h=>?_) (fun yl A outer s H vs Q E hr h=>?_)
 · obtain ⟨a,cs,many,rfl,_⟩:=h;rfl
 obtain ⟨a,cs,many,rfl,ea,AS,m1,m2,q⟩:=h
 refine ⟨_,(ae (fD (i:=2) (N:=[Um "k",Um "cells"]) (js:=[none,some 0]) (g:=(aF 0)) (tt:=bG) (te:=(tIf (qL (tOp (rI0 fun i j=>.bl (decide (i<j))) (bn 0) (tCB (uq K) (bm (bn 1) dk)))) (tOp (vb K) (bn 1) (bn 0)) (tC (.int 0)))) dR.nd rfl (UB rfl) rfl (cB rfl (by decide +kernel) (by decide +kernel) rfl rfl rfl) (bC rfl T.n_range (aa (pv 1) ac)) (fun _ _ _ _ _ _=>(aj (i:=0) xD rfl (UB rfl))) (aR rfl) (fun _ _ _ _ _ _=>bM) (fun _ _ _ _ _ _=>(uc (aK mJ (pv 0) (az ao rfl T.n_len UT (aa (pv 1) ac)) (aO _)) (ay aP (pv 1) (pv 0) (fun _ _=>rfl)) af)))
  (ae (bx UW rfl (gJ rfl T.n_range (aa (pv 1) (aa (az ao rfl T.n_len UT (aa (pv 0) ac)) ac))) (aj (i:=3) dR.nd rfl (UB rfl)) (ag (cO (ax bF (ax bH (ax cT (ay aP (pv 2) (ax bH (pv 3) (pv 1)) (fun _ _=>rfl)) af) (ax qy af af)) (ax bH (ay aP (pv 0) (pv 3) (fun _ _=>rfl)) (ax qy af af))) (jv (pv 2) (ax bH (pv 3) (pv 1)) set_list))))
  (ag (aE (pv 2))))),?_⟩
 try dsimp only [yH,yh]
 refine ⟨_,rfl,many,rfl,by omega,by omega,nh (xs:=(U1 many.toNat).map fun (i:Nat)=>V.int (0+(i:Int))) ((U1 many.toNat).map fun (i:Nat)=>cs.getD i 0) V.int (by rw [Uc,Uc]) (by rw [Uc,UY];omega) (fun i Hx sx hi=>by rw [Uc,UY] at hi;exact hi) (fun Hx sx=>by rw [Uc,UY];exact Uj _) (fun i Hx x Hy sx hi hy=>⟨hy.1,?_⟩) (fun i x z Hx R W' hx hz sx hR=>?_) (fun kl H2 ze s2 e2=>?_)⟩
 · rw [Uc,UY] at hi;rw [hy.2,Uo,Vp hi];rfl
 · have hi:i<many.toNat:=by
    have:=(Uk.mp hz).1;rw [Uc,UY] at this;exact this
   rw [Uo,Vp hi] at hx hz;cases hx;cases hz;refine ⟨_,rfl,_,rfl,a,_,rfl,.inl (SqL.of (sx _ _ ea)),_,_,rfl,rfl,_,rfl,?_⟩;refine cX (fun c=>?_) (fun c=>?_)
   · have c':(0+(i:Int))<(((cs.map V.int).length:Nat):Int):=of_decide_eq_true c;rw [Uc] at c';refine ⟨_,rfl,_,rfl,a,_,_,.int (cs.getD i 0),rfl,rfl,SqL.of (sx _ _ ea),at_nonneg (by omega) ?_,hR _ (.refl _)⟩;rw [show (0+(i:Int)).toNat=i by omega,Uo,Y1,Ue (by omega)];rfl
   · have c':¬ (0+(i:Int))<(((cs.map V.int).length:Nat):Int):=fun z=>c (decide_eq_true z);rw [Uc] at c';have:cs.getD i 0=0:=by rw [Y1,Vq (by omega)];rfl
     dsimp only at hR;rw [this] at hR;exact hR _ (.refl _)
 have RS:H kl=none:=ze;refine ⟨_,rfl,_,rfl,a,_,rfl,.inl (SqL.of (s2 _ _ ea)),many,_,rfl,⟨by omega,by omega,by omega,by rw [Uc];omega⟩,?_⟩
 refine bP (n:=((((cs.map V.int).length:Nat):Int) - many).toNat) (fun i σ H3=>Ex2 fun (kv:Option V) (ds:List Int)=>An4 (σ=[some (.ref a),some (.int many),some (.ref kl),kv]) (L2.Same H H3) (H3 kl=some (.lst (ds.map V.int))) (ds.length=many.toNat))
  ⟨none,_,rfl,s2,e2,by rw [Uc,UY]⟩ ?_ ?_
 · rintro i σ H3 hi ⟨kv,ds,rfl,s3,e3,Bh⟩
   have yX:(i:Int)<((cs.length:Nat):Int) - many:=by
    have h1:i<((((cs.map V.int).length:Nat):Int) - many).toNat:=hi;rw [Uc] at h1;omega
   have y0:=VD (many+(i:Int)) (show many≠0 by omega);have y1:=Vw (many+(i:Int)) (show 0<many by omega);refine hid fun ZZ kZ=>?_;obtain ⟨ix,Dq⟩:∃ ix:Nat,(many+(i:Int))%many=(ix:Int):=⟨_,(Xg y0).symm⟩;obtain ⟨c,hc⟩:∃ c,ds[ix]?=some c:=⟨_,Ue (by omega)⟩;obtain ⟨x,hx⟩:∃ x,cs[(many+(i:Int)).toNat]?=some x:=⟨_,Ue (by omega)⟩;refine kZ ?_;refine ⟨_,rfl,_,rfl,_,rfl,_,_,rfl,rfl,(by show 0<many;omega),kl,_,_,.int c,rfl,rfl,SqL.of e3,at_nonneg y0 (by rw [Dq,Vh,Uo,hc];rfl),_,_,rfl,rfl,.inr ⟨by decide,by decide⟩,?_⟩;refine ⟨_,_,rfl,rfl,⟨by decide,by decide,by decide⟩,_,_,rfl,rfl,(by show (0:Int)<10 ^ 40;decide),?_⟩;refine ⟨_,rfl,_,rfl,a,_,_,.int x,rfl,rfl,SqL.of (s3 _ _ ea),at_nonneg (by omega) (by rw [Uo,hx];rfl),_,_,rfl,rfl,⟨by decide,by decide,by decide⟩,_,_,rfl,rfl,(by show (0:Int)<10 ^ 40;decide),_,_,rfl,rfl,?_⟩;refine ⟨_,rfl,_,rfl,_,rfl,_,_,rfl,rfl,(by show 0<many;omega),kl,_,_,ix,rfl,rfl,e3,?_,?_⟩
   · rw [Dq];unfold ixN;rw [if_pos (by omega),if_pos (by rw [Uc];omega)];simp
   · refine ⟨_,ds.set ix (c * 31%10 ^ 40+x%10 ^ 40),rfl,aw s3 RS,?_,by rw [Za];exact Bh⟩;rw [ab,List.map_set];rfl
 · rintro σ H3 ⟨kv,ds,rfl,s3,e3,Bh⟩;exact ⟨_,rfl,q kl ds H3 s3 e3 Bh⟩
def lW:Sp:=fun vs H Q _=>∃ c:Int,vs=[.int c]/\∀ (r:Ui) (ws:List US) (H':Hp),L2.Same H H'->H' r=some (.lst (ws.map V.str))->nP ws->Q (.ref r) H'
set_option maxHeartbeats 1000000 in
theorem gW:bp P w K mg base CX0 1 T.g__law_names.f T.g__law_names.d ["cell"] lW:=by
 refine T.g__law_names.F.ok bc (fun vs H Q E h=>?_) (fun yl A outer s H vs Q E hr h=>?_)
 · obtain ⟨c,rfl,_⟩:=h;rfl
 obtain ⟨c,rfl,q⟩:=h
 refine ⟨_,(ae (au (i:=1) bc.nd rfl (UB rfl) eG)
  (ae (au (i:=2) bc.nd rfl (UB rfl) (ax bF af (ax bH (ax b9 (pv 0) af) af)))
  (ae (au (i:=3) bc.nd rfl (UB rfl) (ax b9 (pv 0) af))
  (ae (au (i:=4) bc.nd rfl (UB rfl) eG)
  (ae (bx UW rfl (bC rfl T.n_range (aa af ac)) (aj (i:=5) bc.nd rfl (UB rfl)) (ag (au (i:=4) bc.nd rfl (UB rfl) (ax iC (pv 4) (ay tY (pv 1) (ax bH (ax b9 (pv 3) (ax bF (pv 5) af)) af) (fun _ _=>rfl))))))
  (ae (au (i:=6) bc.nd rfl (UB rfl) (bo ac))
  (ae (bx UW rfl (bC rfl T.n_range (aa af ac)) (aj (i:=5) bc.nd rfl (UB rfl)) (ae (au (i:=7) bc.nd rfl (UB rfl) (ay tY (pv 1) (ax bH (ax bF (pv 3) (ax cT (ax cT af (pv 2)) (pv 5))) af) (fun _ _=>rfl)))
  (ag (bI (aK cG (ax bH (pv 0) af) af (aO _)) (ag (aQ (bL Uw UM UL aL (pv 6) (aa (pv 7) ac)))) (ag (bI (aK cG (ax bH (pv 0) af) af (aO _)) (ag (aQ (bL Uw UM UL aL (pv 6) (aa (ax iC (pv 7) (bj qo (pv 4) (bA af) (bA af))) ac)))) (ag (bI (aK cG (ax bH (pv 0) af) af (aO _)) (ag (aQ (bL Uw UM UL aL (pv 6) (aa (ax iC (bj qo (pv 4) bR (bA af)) (pv 7)) ac)))) (ag (aQ (bL Uw UM UL aL (pv 6) (aa (bj qo (pv 4) bR (bA (ax bF (ax cT af (pv 5)) af))) ac))))))))))))
  (ag (aE (pv 6)))))))))),?_⟩
 try dsimp only [yH,yh]
 have z0:=VD (c / 4) (show (4:Int)≠0 by decide);have z1:=Vw (c / 4) (show (0:Int)<4 by decide);refine ⟨_,rfl,_,_,rfl,rfl,⟨by decide,by decide⟩,_,_,rfl,rfl,(by show (0:Int)<4;decide),_,_,rfl,rfl,?_⟩;refine ⟨_,rfl,_,_,rfl,rfl,⟨by decide,by decide⟩,?_⟩
 try dsimp only [aF]
 have F4:1<=1+c / 4%4:=by omega
 have O9:1+c / 4%4<=4:=by omega
 generalize 1+c / 4%4=st at F4 O9 ⊢;generalize c / 16=a;refine ⟨8,rfl,by decide,by decide,?_⟩
 refine bP (n:=8) (fun i σ H2=>Ex2 fun (word:US) (kv:Option V)=>An4 (σ=[some (.int c),some (.str dq),some (.int st),some (.int a),some (.str word),kv,none,none]) (H2=H) (Low word) (word.length=i))
  ⟨Um "",none,rfl,rfl,(fun x hx=>by have:x∈([]:List Nat):=hx;cases this),rfl⟩ ?_ ?_
 · rintro i σ H2 hi ⟨word,kv,rfl,rfl,C2,hlen⟩;have Di:i<8:=hi;have y0:=VD (a / (0+(i:Int)+1)) (show (26:Int)≠0 by decide);have y1:=Vw (a / (0+(i:Int)+1)) (show (0:Int)<26 by decide);refine ⟨_,rfl,_,rfl,_,rfl,_,rfl,_,_,rfl,rfl,_,_,rfl,rfl,⟨by show (0:Int)<0+(i:Int)+1;omega,by show 0+(i:Int)+1<1073741824;omega⟩,_,_,rfl,rfl,(by show (0:Int)<26;decide),dq,_,_,rfl,rfl,ai (by rw [jI];decide),mq y0 y1,?_⟩;refine ⟨_,_,rfl,rfl,ai (by show word.length+1<=1000000;omega),_,_,rfl,rfl,nB C2 (jX (by omega) (by omega)),?_⟩;rw [strLen_append];show word.length+1=i+1;omega
 rintro σ H2 ⟨word,kv,rfl,rfl,C2,hlen⟩;have C3:word.length=8:=hlen;refine ⟨ai (by show 0<=1000000;decide),fun nl Ck=>?_⟩;refine ⟨4,rfl,by decide,by decide,?_⟩
 refine bP (n:=4) (fun i σ H3=>Ex3 fun (kv tv:Option V) (ws:List US)=>An5 (σ=[some (.int c),some (.str dq),some (.int st),some (.int a),some (.str word),kv,some (.ref nl),tv]) (L2.Same H2 H3) (H3 nl=some (.lst (ws.map V.str))) (ws.length=i) (∀ (j:Nat) (x:US),ws[j]?=some x->x=je (c%4) a st word j))
  ⟨kv,none,[],rfl,ad Ck _,ab,rfl,fun j x hj=>by simp at hj⟩ ?_ ?_
 · rintro i σ H3 hi ⟨kv,tv,ws,rfl,s3,e3,AR,yO⟩;have RT:i<4:=hi;have y0:=VD (a+5 * st * (0+(i:Int))) (show (26:Int)≠0 by decide);have y1:=Vw (a+5 * st * (0+(i:Int))) (show (0:Int)<26 by decide);refine ⟨_,rfl,_,rfl,_,rfl,_,_,rfl,rfl,.inl ⟨by decide,by decide⟩,_,rfl,_,_,rfl,rfl,.inl ⟨by omega,by omega⟩,_,_,rfl,rfl,_,_,rfl,rfl,(by show (0:Int)<26;decide),dq,_,_,rfl,rfl,ai (by rw [jI];decide),mq y0 y1,?_⟩;have Gs:97+((a+5 * st * (0+(i:Int)))%26).toNat=gS a st i:=by unfold gS;rw [VZ]
   try dsimp only
   rw [Gs]
   have fin:∀ x,x=je (c%4) a st word i->∀ yd,yd=[some (.int c),some (.str dq),some (.int st),some (.int a),some (.str word),some (.int (0+(i:Int))),some (.ref nl),some (.str ⟨#[gS a st i]⟩)]->Ex3 fun (kv tv:Option V) (BH:List US)=>An5 (yd=[some (.int c),some (.str dq),some (.int st),some (.int a),some (.str word),kv,some (.ref nl),tv]) (L2.Same H2 (upd H3 nl (.lst (ws.map V.str++[.str x])))) ((upd H3 nl (.lst (ws.map V.str++[.str x]))) nl=some (.lst (BH.map V.str))) (BH.length=i+1) (∀ (j:Nat) (x:US),BH[j]?=some x->x=je (c%4) a st word j):=fun x hx yd MS=>by
    refine ⟨_,_,ws++[x],MS,aw s3 Ck,by rw [ab,Ux];rfl,by rw [UE,AR];rfl,fun j y hj=>?_⟩;by_cases Ir:j<ws.length
    · rw [Wu Ir] at hj;exact yO j y hj
    · have Bg:=(Uk.mp hj).1;rw [UE] at Bg
      have:j=ws.length:=by
       have:([x]:List US).length=1:=rfl;omega
      subst this;rw [WW (Uj _),ZK] at hj;have:x=y:=by simpa using hj
      rw [<- this,hx,AR]
   have RU:ws.length<=4:=by omega
   refine ⟨_,rfl,_,_,rfl,rfl,(by show (0:Int)<4;decide),rfl,_,rfl,?_⟩;refine cX (fun c0=>?_) (fun c0=>?_)
   · have h0:c%4=0:=V.int.inj (of_decide_eq_true c0);exact ⟨_,rfl,.inl ⟨rfl,_,SqL.of e3⟩,_,rfl,nl,_,_,rfl,rfl,e3,aH (by rw [Uc];omega),fin _ (by unfold je;rw [if_pos h0]) _ rfl⟩
   have n0:¬ c%4=0:=fun z=>c0 (decide_eq_true (congrArg V.int z));refine ⟨_,rfl,_,_,rfl,rfl,(by show (0:Int)<4;decide),rfl,_,rfl,?_⟩;refine cX (fun c1=>?_) (fun c1=>?_)
   · have h1:c%4=1:=V.int.inj (of_decide_eq_true c1);refine ⟨_,rfl,.inl ⟨rfl,_,SqL.of e3⟩,_,rfl,_,rfl,_,rfl,_,rfl,_,rfl,ai (by omega),_,_,rfl,rfl,ai (by rw [pw C3];show 1+3<=1000000;decide),nl,_,_,rfl,rfl,e3,aH (by rw [Uc];omega),fin _ (by unfold je;rw [if_neg n0,if_pos h1]) _ rfl⟩
   have n1:¬ c%4=1:=fun z=>c1 (decide_eq_true (congrArg V.int z));refine ⟨_,rfl,_,_,rfl,rfl,(by show (0:Int)<4;decide),rfl,_,rfl,?_⟩;refine cX (fun c2=>?_) (fun c2=>?_)
   · have h2:c%4=2:=V.int.inj (of_decide_eq_true c2);have TC:=(eS (z:=word) (n:=5) (by omega)).2;refine ⟨_,rfl,.inl ⟨rfl,_,SqL.of e3⟩,_,rfl,_,rfl,_,rfl,ai (by omega),_,rfl,_,_,rfl,rfl,ai (by show (dU word none (some ((5:Nat):Int))).length+1<=1000000;omega),nl,_,_,rfl,rfl,e3,aH (by rw [Uc];omega),fin _ (by unfold je;rw [if_neg n0,if_neg n1,if_pos h2]) _ rfl⟩
   have n2:¬ c%4=2:=fun z=>c2 (decide_eq_true (congrArg V.int z));refine ⟨_,rfl,.inl ⟨rfl,_,SqL.of e3⟩,_,rfl,_,rfl,_,_,rfl,rfl,.inl ⟨by decide,by decide⟩,_,_,rfl,rfl,_,rfl,_,rfl,ai (by omega),nl,_,_,rfl,rfl,e3,aH (by rw [Uc];omega),fin _ (by unfold je;rw [if_neg n0,if_neg n1,if_neg n2,VZ]) _ rfl⟩
 · rintro σ H3 ⟨kv,tv,ws,rfl,s3,e3,AR,yO⟩;refine ⟨_,rfl,q nl ws H3 s3 e3 ⟨AR,fun x hx=>?_,fun i j x hi hj=>?_⟩⟩
   · obtain ⟨j,hj⟩:=UG.mp hx;have Bg:=(Uk.mp hj).1;rw [yO j x hj];exact t9 C2 C3 (by omega)
   · have zE:=(Uk.mp hi).1;have Bg:=(Uk.mp hj).1;have h1:=yO i x hi;have h2:=yO j x hj;exact uv F4 O9 C3 (by omega) (by omega) (h1.symm.trans h2)
inductive f7 (vs:List V) (H:Hp) (Q:VK) (_E:XK):Prop
 | mk (c:Int) (na:Ui) (ws:List US) (yp:vs=[.int c,.ref na]) (yq:H na=some (.lst (ws.map V.str))) (yz:nP ws) (yF:∀ (r:Ui) (as:List Ui) (ks:List (US×Int)) (H':Hp),L2.Same H H'->H' r=some (.tup (as.map V.ref))->KsAt H' ks as->bN ks->ks.length<=4->Q (.ref r) H'):f7  vs H Q _E
def lS:Sp:=f7
set_option maxHeartbeats 1000000 in
theorem lU:bp P w K mg base CX0 1 T.g__law_kinds.f T.g__law_kinds.d ["cell","names"] lS:=by
 refine T.g__law_kinds.F.ok bw (fun vs H Q E h=>?_) (fun yl A outer s H vs Q E hr h=>?_)
 · obtain ⟨c,na,ws,rfl,_⟩:=h;rfl
 obtain ⟨c,na,ws,rfl,MT,yO,q⟩:=h
 refine ⟨_,(ae (au (i:=2) bw.nd rfl (UB rfl) (ax bF af (ax bH (pv 0) af)))
  (ae (au (i:=3) bw.nd rfl (UB rfl) (ax bH (ax b9 (pv 0) af) (pv 2)))
  (ae (au (i:=4) bw.nd rfl (UB rfl) (ax b9 (pv 0) af))
  (ae (au (i:=5) bw.nd rfl (UB rfl) (bo ac))
  (ae (bx UW rfl (bC rfl T.n_range (aa (pv 2) ac)) (aj (i:=6) bw.nd rfl (UB rfl)) (ae (au (i:=7) bw.nd rfl (UB rfl) (ax bH (pv 4) af))
  (ae (au (i:=4) bw.nd rfl (UB rfl) (ax b9 (pv 4) af))
  (ae (bI (aK cG (pv 6) (pv 3) (aO _)) (ag (au (i:=7) bw.nd rfl (UB rfl) af)) bi)
  (ag (aQ (bL Uw UM UL aL (pv 5) (aa (aI (aa (ay aP (pv 1) (pv 6) (fun _ _=>rfl)) (aa (pv 7) ac))) ac))))))))
  (ag (aE (cy bV rfl T.n_tuple VI (aa (pv 5) ac))))))))),?_⟩
 try dsimp only [yH,yh]
 have z0:=VD c (show (3:Int)≠0 by decide);have z1:=Vw c (show (0:Int)<3 by decide);refine ⟨_,rfl,_,_,rfl,rfl,(by show (0:Int)<3;decide),_,_,rfl,rfl,?_⟩
 try dsimp only [aF]
 have m2:2<=2+c%3:=by omega
 have m4:2+c%3<=4:=by omega
 generalize 2+c%3=many at m2 m4 ⊢;have y0:=VD (c / 3) (show many≠0 by omega);have y1:=Vw (c / 3) (show 0<many by omega);refine ⟨_,rfl,_,_,rfl,rfl,⟨by decide,by decide⟩,_,rfl,_,_,rfl,rfl,(by show 0<many;omega),?_⟩
 try dsimp only [aF]
 generalize c / 3%many=leaf at y0 y1 ⊢;refine ⟨_,rfl,_,_,rfl,rfl,⟨by decide,by decide⟩,?_⟩;refine ⟨ai (by show 0<=1000000;decide),fun kl ze=>?_⟩;refine ⟨_,rfl,many,rfl,by omega,by omega,?_⟩;have AR:=yO.len
 refine bP (n:=many.toNat) (fun i σ H3=>Ex5 fun (rest:Int) (kv cv:Option V) (as:List Ui) (ks:List (US×Int))=>An6 (σ=[some (.int c),some (.ref na),some (.int many),some (.int leaf),some (.int rest),some (.ref kl),kv,cv]) (L2.Same H H3) (H3 kl=some (.lst (as.map V.ref))) (KsAt H3 ks as) (ks.length=i) (∀ (j:Nat) (k:US×Int),ks[j]?=some k->ws[j]?=some k.1/\0<=k.2/\k.2<=3/\((j:Int)=leaf->k.2=0)))
  ⟨c / 12,none,none,[],[],rfl,ad ze _,ab,.nil,rfl,fun j k hj=>by simp at hj⟩ ?_ ?_
 · rintro i σ H3 hi ⟨rest,kv,cv,as,ks,rfl,s3,e3,zW,MU,hinv⟩;have RT:i<many.toNat:=hi;have x0:=VD rest (show (4:Int)≠0 by decide);have x1:=Vw rest (show (0:Int)<4 by decide);refine ⟨_,rfl,_,_,rfl,rfl,(by show (0:Int)<4;decide),?_⟩
   try dsimp only [aF]
   refine ⟨_,rfl,_,_,rfl,rfl,⟨by decide,by decide⟩,?_⟩
   try dsimp only [aF]
   refine jr (fun yd H'=>An2 (H3=H') (Ex1 fun (ct:Int)=>An4 (0<=ct) (ct<=3) (((i:Int)=leaf->ct=0)) (yd=[some (.int c),some (.ref na),some (.int many),some (.int leaf),some (.int (rest / 4)),some (.ref kl),some (.int (0+(i:Int))),some (.int ct)]))) (fun kk hk=>?_) ?_
   · refine ⟨_,rfl,_,rfl,rfl,_,rfl,?_⟩;refine cX (fun c1=>?_) (fun c1=>?_)
     · exact hk _ _ ⟨rfl,0,by decide,by decide,fun _=>rfl,rfl⟩
     · exact hk _ _ ⟨rfl,_,x0,by omega,fun z=>absurd (decide_eq_true (by rw [<- z];congr 1;omega)) c1,rfl⟩
   rintro yd H' ⟨rfl,ct,RV,RW,RX,rfl⟩;obtain ⟨x,hx⟩:∃ x,ws[i]?=some x:=⟨_,Ue (by omega)⟩;have zS:ks.length=as.length:=Uv zW;refine ⟨_,rfl,.inl ⟨rfl,_,SqL.of e3⟩,_,rfl,_,rfl,na,_,_,.str x,rfl,rfl,SqL.of (s3 _ _ MT),at_nonneg (by omega) (by rw [show (0+(i:Int)).toNat=i by omega,Uo,hx];rfl),_,rfl,ai (by show 2<=1000000;decide),fun p hp=>?_⟩;have s4:L2.Same H3 (upd H3 p (.tup [.str x,.int ct])):=ad hp _;have e4:(upd H3 p (.tup [.str x,.int ct])) p=some (.tup [.str x,.int ct]):=ab;generalize (upd H3 p (.tup [.str x,.int ct]))=H4 at s4 e4 ⊢;have O':=s4 _ _ e3;refine ⟨kl,_,_,rfl,rfl,O',aH (by rw [Uc];omega),?_⟩;have kt:KT H4 (upd H4 kl (.lst (as.map V.ref++[.ref p]))):=aS O';refine ⟨_,_,_,as++[p],ks++[(x,ct)],rfl,aw (s3.trans s4) ze,by rw [ab,Ux];rfl,?_,by rw [UE,MU];rfl,fun j k hj=>?_⟩
   · exact P2.append (P2.mp (fun _ _ e=>kt _ _ (s4 _ _ e)) zW) (.cons (kt _ _ e4) .nil)
   · by_cases Ir:j<ks.length
     · rw [Wu Ir] at hj;exact hinv j k hj
     · have Bg:=(Uk.mp hj).1;rw [UE] at Bg
       have:j=ks.length:=by
        have:([(x,ct)]:List (US×Int)).length=1:=rfl;omega
       subst this;rw [WW (Uj _),ZK] at hj;have:(x,ct)=k:=by simpa using hj
       rw [<- this,MU];exact ⟨hx,RV,RW,RX⟩
 · rintro σ H3 ⟨rest,kv,cv,as,ks,rfl,s3,e3,zW,MU,hinv⟩;refine ⟨_,rfl,kl,_,rfl,.inl ⟨SqL.of e3,fun p hp=>?_⟩⟩;have s4:=ad hp (.tup (as.map V.ref));refine q p as ks _ (s3.trans s4) ab (zW.mono (Same.kt s4)) ⟨by omega,by omega,fun k hk=>?_,fun k hk=>?_,?_,fun i j k l hk hl e=>?_⟩ (by omega)
   · obtain ⟨j,hj⟩:=UG.mp hk;exact yO.low _ (Uh (hinv j k hj).1)
   · obtain ⟨j,hj⟩:=UG.mp hk;exact ⟨(hinv j k hj).2.1,(hinv j k hj).2.2.1⟩
   · have hl:leaf.toNat<ks.length:=by omega
     exact ⟨ks[leaf.toNat],XN hl,(hinv leaf.toNat _ (Ue hl)).2.2.2 (by omega)⟩
   · refine yO.inj i j k.1 (hinv i k hk).1 ?_;rw [e];exact (hinv j l hl).1
inductive fX (n:Nat) (vs:List V) (H:Hp) (Q:VK) (_E:XK):Prop
 | mk (l oa:Ui) (x b:Int) (yB:List Ui) (outs:List (US×Int)) (S C:Int) (yp:vs=[.ref l,.ref oa,.int S,.int C]) (yq:H l=some (.lst [.int x,.int b])) (yz:H oa=some (.tup (yB.map V.ref))) (yF:KsAt H outs yB) (yW:bN outs) (Aa:S<1000000) (Cc:C<1000000) (Cw:0<=b) (Fi:b<(n:Int)) (Gf:∀ (t:Th) (r:Ui) (x' b':Int) (H':Hp),SameB l H H'->H' l=some (.lst [.int x',.int b'])->At H' t r->t.FitS outs S C->0<=b'->(t.size:Int)+b'=b+1->Q (.ref r) H'):fX n vs H Q _E
def l7 (n:Nat):Sp:=fX n
set_option maxHeartbeats 2000000 in
theorem cD:∀ n:Nat,bp P w K mg base CX0 (n+1) T.g__law_thing.f T.g__law_thing.d ["left","outs","states","kids"] (l7 n)
 | 0=>⟨fun _ _ _ _ h=>by obtain ⟨_,_,_,_,_,_,_,_,_,_,_,_,_,_,_,h1,h2,_⟩:=h;omega,fun _ _ _ _ _ _ _ _ _ _ _ _ _ h=>by obtain ⟨_,_,_,_,_,_,_,_,_,_,_,_,_,_,_,h1,h2,_⟩:=h;omega⟩
 | n+1=>by
   have ih:=cD n;refine T.g__law_thing.F.ok bv (fun vs H Q E h=>?_) (fun yl A outer s H vs Q E hr h=>?_)
   · obtain ⟨l,oa,x,b,yB,outs,S,C,rfl,_⟩:=h;rfl
   obtain ⟨l,oa,x,b,yB,outs,S,C,rfl,el,eo,zW,g,RY,RZ,b0,b1,q⟩:=h
   refine ⟨_,(ae (au (i:=4) bv.nd rfl (UB rfl) (ax bH (ay aP (pv 0) af (fun _ _=>rfl)) af))
    (ae (cO (ax b9 (ay aP (pv 0) af (fun _ _=>rfl)) af) (jv (pv 0) af set_list))
    (ae (bI (PW.pt (um (aK mB (pv 2) af (aO _)) (um (aK mB (pv 3) af (aO _)) (u5 (aK mJ (pv 4) af (aO _)))))) (ae (au (i:=5) bv.nd rfl (UB rfl) (ax bH (ay aP (pv 0) af (fun _ _=>rfl)) (pv 2)))
    (ae (cO (ax b9 (ay aP (pv 0) af (fun _ _=>rfl)) (pv 2)) (jv (pv 0) af set_list))
    (ae (au (i:=6) bv.nd rfl (UB rfl) (ax bH (ay aP (pv 0) af (fun _ _=>rfl)) (pv 3)))
    (ae (cO (ax b9 (ay aP (pv 0) af (fun _ _=>rfl)) (pv 3)) (jv (pv 0) af set_list))
    (ag (aE (aI (aa eG (aa (pv 5) (aa (pv 6) ac)))))))))) bi)
    (ae (fD (i:=7) (N:=[Um "kind",Um "left"]) (js:=[none,some 0]) (g:=(aF 0)) (tt:=(qL (tOp (rI0 fun i j=>.bl (decide (i<=j))) (tOp (rN K) (bn 0) (tC (.int 1))) (tOp (vb K) (bn 1) (tC (.int 1)))))) (te:=(bn 0)) bv.nd rfl (UB rfl) rfl (cB rfl (by decide +kernel) (by decide +kernel) rfl rfl rfl) (f6 (pv 1)) (fun _ _ _ _ _ _=>(aj (i:=0) xL rfl (UB rfl))) (aR rfl) (fun _ _ _ _ _ _=>j0 (aK xm (ay aB (pv 0) af (fun _ _=>rfl)) (ay aP (pv 1) af (fun _ _=>rfl)) (aO _))) (fun _ _ _ _ _ _=>(pv 0)))
    (ae (au (i:=8) bv.nd rfl (UB rfl) (ay aP (pv 7) (ax bH (ay aP (pv 0) af (fun _ _=>rfl)) (az ao rfl T.n_len UT (aa (pv 7) ac))) (fun _ _=>rfl)))
    (ae (cO (ax b9 (ay aP (pv 0) af (fun _ _=>rfl)) (az ao rfl T.n_len UT (aa (pv 7) ac))) (jv (pv 0) af set_list))
    (ae (cO (ax f9 (ay aP (pv 0) af (fun _ _=>rfl)) (ay aB (pv 8) af (fun _ _=>rfl))) (jv (pv 0) af set_list))
    (ae (au (i:=9) bv.nd rfl (UB rfl) (aI (aa (ay aB (pv 8) af (fun _ _=>rfl)) ac)))
    (ae (bx UW rfl (bC rfl T.n_range (aa (ay aB (pv 8) af (fun _ _=>rfl)) ac)) (aj (i:=10) bv.nd rfl (UB rfl)) (ag (au (i:=9) bv.nd rfl (UB rfl) (ax cM (pv 9) (aI (aa (fB (ih) (hr.mono (Uj _)) rfl T.g__law_thing.m T.g__law_thing.F.kp T.g__law_thing.b .nil lB (aa (pv 0) (aa (pv 1) (aa (pv 2) (aa (pv 3) ac))))) ac))))))
    (ag (aE (pv 9)))))))))))),?_⟩
   try dsimp only [yH,yh]
   have ze:outs.length=yB.length:=Uv zW;have TF:=g.le;have Kb:=g.ne;have P4:oa≠l:=fP eo el (by intro z;cases z);refine ⟨_,rfl,l,_,0,.int x,rfl,rfl,SqL.of el,at0,_,_,rfl,rfl,(by show (0:Int)<7;decide),?_⟩
   try dsimp only [aF]
   generalize x%7=digit;refine ⟨_,rfl,l,_,0,.int x,rfl,rfl,SqL.of el,at0,_,_,rfl,rfl,⟨by decide,by decide⟩,_,rfl,l,_,_,0,rfl,rfl,el,rfl,?_⟩;have s1:SameB l H (upd H l (.lst [.int (x / 7),.int b])):=.set;have e1:(upd H l (.lst [.int (x / 7),.int b])) l=some (.lst [.int (x / 7),.int b]):=ab
   try dsimp only [List.set]
   generalize (upd H l (.lst [.int (x / 7),.int b]))=H1 at s1 e1 ⊢;generalize x / 7=x1 at e1;have Pa:KT H H1:=s1.kt el;refine jr (fun yd H'=>An2 (H1=H') (yd=[some (.ref l),some (.ref oa),some (.int S),some (.int C),some (.int digit),none,none,none,none,none,none])) (fun kk hk=>?_) ?_
   · refine cI (fun c H'=>An2 (H1=H') ((c=true->0<S/\0<C))) (fun k2 zJ=>?_) (fun H' hb=>?_) (fun H' hb=>?_)
     · refine ⟨_,rfl,_,_,rfl,rfl,_,rfl,?_⟩;refine cX (fun c1=>?_) (fun c1=>zJ _ _ ⟨rfl,fun z=>by cases z⟩);refine ⟨_,rfl,_,_,rfl,rfl,_,rfl,?_⟩;refine cX (fun c2=>?_) (fun c2=>zJ _ _ ⟨rfl,fun z=>by cases z⟩);exact ⟨_,rfl,_,_,rfl,rfl,_,rfl,zJ _ _ ⟨rfl,fun _=>⟨of_decide_eq_true c1,of_decide_eq_true c2⟩⟩⟩
     · obtain ⟨rfl,hb⟩:=hb;obtain ⟨hS,hC⟩:=hb rfl;have d0:=VD x1 (show S≠0 by omega);have d1:=Vw x1 hS;refine ⟨_,rfl,l,_,0,.int x1,rfl,rfl,SqL.of e1,at0,_,rfl,_,_,rfl,rfl,hS,?_⟩;refine ⟨_,rfl,l,_,0,.int x1,rfl,rfl,SqL.of e1,at0,_,rfl,_,_,rfl,rfl,⟨hS,by omega⟩,_,rfl,l,_,_,0,rfl,rfl,e1,rfl,?_⟩;have s2:SameB l H1 (upd H1 l (.lst [.int (x1 / S),.int b])):=.set;have e2:(upd H1 l (.lst [.int (x1 / S),.int b])) l=some (.lst [.int (x1 / S),.int b]):=ab
       try dsimp only [List.set]
       generalize (upd H1 l (.lst [.int (x1 / S),.int b]))=H2 at s2 e2 ⊢;generalize x1 / S=x2 at e2;have c0:=VD x2 (show C≠0 by omega);have c1:=Vw x2 hC;refine ⟨_,rfl,l,_,0,.int x2,rfl,rfl,SqL.of e2,at0,_,rfl,_,_,rfl,rfl,hC,?_⟩;refine ⟨_,rfl,l,_,0,.int x2,rfl,rfl,SqL.of e2,at0,_,rfl,_,_,rfl,rfl,⟨hC,by omega⟩,_,rfl,l,_,_,0,rfl,rfl,e2,rfl,?_⟩;have s3:SameB l H2 (upd H2 l (.lst [.int (x2 / C),.int b])):=.set;have e3:(upd H2 l (.lst [.int (x2 / C),.int b])) l=some (.lst [.int (x2 / C),.int b]):=ab
       try dsimp only [List.set]
       generalize (upd H2 l (.lst [.int (x2 / C),.int b]))=H3 at s3 e3 ⊢;refine ⟨_,rfl,_,rfl,ai (by show 3<=1000000;decide),fun ca HH=>?_⟩;have s4:=ad HH (.tup [.str BB.q,.int (x1%S),.int (x2%C)]);refine q (.call (x1%S) (x2%C)) ca _ b _ (s1.trans (s2.trans (s3.trans (.of s4)))) (s4 _ _ e3) ?_ ?_ b0 ?_
       · rw [At];exact ab
       · rw [Th.FitS];exact ⟨d0,d1,c0,c1⟩
       · rw [Th.size];show (1:Int)+b=b+1;omega
     · obtain ⟨rfl,_⟩:=hb;exact hk _ _ ⟨rfl,rfl⟩
   rintro yd H' ⟨rfl,rfl⟩;have MV:H1 oa=some (.tup (yB.map V.ref)):=Pa _ _ eo;have IM:=zW.mono Pa;obtain ⟨kz,Ge,R1⟩:=g.zero;refine ⟨_,rfl,oa,rfl,⟨_,SqT.of MV⟩,pN (K:=K) (fun k=>decide (k.2<=b)) MV IM (by omega) ⟨kz,Ge,decide_eq_true (by omega)⟩ (fun z ka H2 R sm hz r=>?_) (fun ka H2 R r=>⟨_,rfl,r⟩) (fun D bs H2 hD e' Dh TH yA=>?_)⟩
   · exact ⟨_,rfl,ka,_,1,_,rfl,rfl,SqT.of hz,at1,_,rfl,l,_,1,.int b,rfl,rfl,SqL.of (sm _ _ e1),at1,_,_,rfl,rfl,_,rfl,r⟩
   have s2:L2.Same H1 H2:=by rw [e'];exact ad hD _
   have eD:H2 D=some (.lst (bs.map fun z=>V.ref z.2)):=by rw [e'];exact ab
   have FA:D≠l:=fun z=>by rw [z,e1] at hD;cases hD
   have Kc:=s2 _ _ e1;clear e';have CQ:0<((bs.map fun z=>V.ref z.2).length:Int):=by rw [Uc];omega
   have y0:=VD x1 (show ((bs.map fun z=>V.ref z.2).length:Int)≠0 by omega);have y1:=Vw x1 CQ;refine hid fun ZZ kZ=>?_;obtain ⟨z,hz⟩:∃ z,bs[(x1%((bs.map fun z=>V.ref z.2).length:Int)).toNat]?=some z:=⟨_,Ue (by rw [Uc] at y1 ⊢;omega)⟩;obtain ⟨zj,gp,F7⟩:=yA z (Uh hz);obtain ⟨k0,ka⟩:=z;refine kZ ?_;dsimp only at zj gp F7 hz;have TJ:k0.2<=b:=of_decide_eq_true gp;have BR:=g.num k0 zj;refine ⟨_,rfl,_,rfl,l,_,0,.int x1,rfl,rfl,SqL.of Kc,at0,_,rfl,D,_,rfl,.inl (SqL.of eD),_,_,rfl,rfl,CQ,D,_,_,.ref ka,rfl,rfl,SqL.of eD,at_nonneg y0 (by rw [Uo,hz];rfl),?_⟩
   try dsimp only [aF]
   refine ⟨_,rfl,l,_,0,.int x1,rfl,rfl,SqL.of Kc,at0,_,rfl,D,_,rfl,.inl (SqL.of eD),_,_,rfl,rfl,⟨CQ,by rw [Uc];omega⟩,_,rfl,l,_,_,0,rfl,rfl,Kc,rfl,?_⟩;have s3:SameB l H2 (upd H2 l (.lst [.int (x1 / ((bs.map fun z=>V.ref z.2).length:Int)),.int b])):=.set;have e3:(upd H2 l (.lst [.int (x1 / ((bs.map fun z=>V.ref z.2).length:Int)),.int b])) l=some (.lst [.int (x1 / ((bs.map fun z=>V.ref z.2).length:Int)),.int b]):=ab
   try dsimp only [List.set]
   generalize (upd H2 l (.lst [.int (x1 / ((bs.map fun z=>V.ref z.2).length:Int)),.int b]))=H3 at s3 e3 ⊢;generalize x1 / ((bs.map fun z=>V.ref z.2).length:Int)=x3 at e3;have HV:KT H2 H3:=s3.kt Kc;have IP:H3 ka=some (.tup [.str k0.1,.int k0.2]):=HV _ _ (s2 _ _ F7);refine ⟨_,rfl,l,_,1,.int b,rfl,rfl,SqL.of e3,at1,_,rfl,ka,_,1,.int k0.2,rfl,rfl,SqT.of IP,at1,_,_,rfl,rfl,_,rfl,l,_,_,1,rfl,rfl,e3,rfl,?_⟩;have s4:SameB l H3 (upd H3 l (.lst [.int x3,.int (b - k0.2)])):=.set;have e4:(upd H3 l (.lst [.int x3,.int (b - k0.2)])) l=some (.lst [.int x3,.int (b - k0.2)]):=ab
   try dsimp only [List.set]
   generalize (upd H3 l (.lst [.int x3,.int (b - k0.2)]))=H4 at s4 e4 ⊢;have Fu:KT H3 H4:=s4.kt e3;have IQ:=Fu _ _ IP;refine ⟨_,rfl,ka,_,0,.str k0.1,rfl,rfl,SqT.of IQ,at0,ai (by show 1<=1000000;decide),fun ma R4=>?_⟩;have s5:L2.Same H4 (upd H4 ma (.tup [.str k0.1])):=ad R4 _;have e5:(upd H4 ma (.tup [.str k0.1])) ma=some (.tup (.str k0.1::([]:List Ui).map V.ref)):=ab
   try dsimp only
   generalize (upd H4 ma (.tup [.str k0.1]))=H5 at s5 e5 ⊢;have IS:KT H1 H5:=(Same.kt s2).trans (HV.trans (Fu.trans (Same.kt s5)));have MW:=s5 _ _ IQ;have Pb:=s5 _ _ e4;have DK:SameB l H H5:=s1.trans ((SameB.of s2).trans (s3.trans (s4.trans (.of s5))));refine ⟨_,rfl,ka,_,1,_,rfl,rfl,SqT.of MW,at1,k0.2,rfl,by omega,by omega,?_⟩
   refine bP (n:=k0.2.toNat) (fun i σ H6=>Ex6 fun (kv:Option V) (ma:Ui) (BE:List Ui) (ts:List Th) (x' b':Int)=>An9 (σ=[some (.ref l),some (.ref oa),some (.int S),some (.int C),some (.int digit),none,none,some (.ref D),some (.ref ka),some (.ref ma),kv]) (SameB l H5 H6) (H6 l=some (.lst [.int x',.int b'])) (H6 ma=some (.tup (.str k0.1::BE.map V.ref))) (Ats H6 ts BE) (ts.length=i) ((∀ t∈ts,t.FitS outs S C)) (0<=b') ((aq ts:Int)+b'=b - k0.2+(i:Int)))
    ⟨none,ma,[],[],x3,b - k0.2,rfl,.refl,Pb,e5,.nil,rfl,(fun t ht=>by cases ht),by omega,by rw [aq];show (0:Int)+(b - k0.2)=b - k0.2+0;omega⟩ ?_ ?_
   · rintro i σ H6 hi ⟨kv,ma,BE,ts,x',b',rfl,s6,IT,MX,DW,yG,yi,IU,MY⟩;have TL:i<k0.2.toNat:=hi;have Dj:KT H5 H6:=s6.kt Pb;have hsz:=bJ ts;refine ⟨_,rfl,_,rfl,_,rfl,_,rfl,_,rfl,l,oa,x',b',yB,outs,S,C,rfl,IT,(IS.trans Dj) _ _ MV,IM.mono (IS.trans Dj),g,RY,RZ,IU,by omega,fun t r x7 b7 H7 s7 R5 zY Bi Gr R6=>?_⟩;have BV:KT H6 H7:=s7.kt IT;refine ⟨ai (by show 1<=1000000;decide),fun p1 zT=>?_⟩;have s8:L2.Same H7 (upd H7 p1 (.tup [.ref r])):=ad zT _;have e8:(upd H7 p1 (.tup [.ref r])) p1=some (.tup [.ref r]):=ab;generalize (upd H7 p1 (.tup [.ref r]))=H8 at s8 e8 ⊢;have zL:BE.length=ts.length:=DW.length;refine j1 (s8 _ _ (BV _ _ MX)) e8 (by rw [Ut,Uc];show BE.length+1+1<=1000000;omega) fun p H9 s9 e9=>?_;have Kd:=s8.trans s9;refine ⟨_,p,BE++[r],ts++[t],x7,b7,rfl,s6.trans (s7.trans (.of Kd)),Kd _ _ R5,?_,?_,?_,?_,Gr,?_⟩
     · rw [e9,Ux];rfl
     · exact (DW.mono (BV.trans (Same.kt Kd))).append (.cons (zY.mono (Same.kt Kd)) .nil)
     · rw [UE,yG];rfl
     · intro u hu;rcases Ve.mp hu with hu | hu
       · exact yi u hu
       · rw [UP.mp hu];exact Bi
     · rw [bd,aq,aq];omega
   · rintro σ H6 ⟨kv,ma,BE,ts,x',b',rfl,s6,IT,MX,DW,yG,yi,IU,MY⟩;have C2:=(g.low k0 zj).1;refine ⟨_,rfl,q (.knot k0.1 ts) ma x' b' H6 (DK.trans s6) IT ?_ ?_ IU ?_⟩
     · rw [At];exact ⟨rE C2,BE,MX,DW⟩
     · rw [Th.FitS];refine ⟨?_,FitSs.of yi⟩
       have:(k0.1,(ts.length:Int))=k0:=by
        rw [yG];exact Prod.ext rfl (by show ((k0.2.toNat:Nat):Int)=k0.2;omega)
       rw [this];exact zj
     · rw [Th.size];have:((k0.2.toNat:Nat):Int)=k0.2:=by omega
       omega
def PlAt (H:Hp) (p:List Int) (b:Ui):Prop:=H b=some (.tup (p.map V.int))
theorem PlAt.mono {H H':Hp} (k:KT H H') {p:List Int} {b:Ui} (h:PlAt H p b):PlAt H' p b:=k _ _ h
inductive fL (n:Nat) (vs:List V) (H:Hp) (Q:VK) (_E:XK):Prop
 | mk (a:Ui) (t:Th) (yp:vs=[.ref a]) (yq:At H t a) (yz:t.tall<=n) (yF:t.size<=1000) (yW:∀ (r:Ui) (ps:List (List Int)) (bs:List Ui) (H':Hp),L2.Same H H'->H r=none->H' r=some (.lst (bs.map V.ref))->UX (PlAt H') ps bs->1<=ps.length->ps.length<=t.size->(∀ p∈ps,p.length+1<=t.tall/\∃ u,t.sub p=some u)->Q (.ref r) H'):fL n vs H Q _E
def lP (n:Nat):Sp:=fL n
set_option maxHeartbeats 1000000 in
theorem gy:∀ n:Nat,bp P w K mg base CX0 n T.g__law_places.f T.g__law_places.d ["thing"] (lP n)
 | 0=>⟨fun _ _ _ _ h=>by obtain ⟨_,t,_,_,h1,_⟩:=h;have:=t.tall_eq;omega,fun _ _ _ _ _ _ _ _ _ _ _ _ _ h=>by obtain ⟨_,t,_,_,h1,_⟩:=h;have:=t.tall_eq;omega⟩
 | n+1=>by
   have ih:=gy n;refine T.g__law_places.F.ok cL (fun vs H Q E h=>?_) (fun yl A outer s H vs Q E hr h=>?_)
   · obtain ⟨a,t,rfl,_⟩:=h;rfl
   obtain ⟨a,t,rfl,hA,yG,hsz,q⟩:=h
   refine ⟨_,(ae (au (i:=1) cL.nd rfl (UB rfl) (bo (aa (aI ac) ac)))
    (ae (bI (aK oM (ay aB (pv 0) af (fun _ _=>rfl)) eG (aO _)) (ag (bx UW rfl (gJ rfl T.n_range (aa af (aa (az ao rfl T.n_len UT (aa (pv 0) ac)) ac))) (aj (i:=2) cL.nd rfl (Ym rfl)) (ag (au (i:=1) cL.nd rfl (UB rfl) (ax tS (pv 1) (cf (N:=[Um "place",Um "k"]) (js:=[none,some 2]) (g:=(aF 0)) (tt:=bG) (te:=(tOp (kR K) (ji (bm (tOp (rI0 fun i j=>.int (i - j)) (bn 1) (tC (.int 1))) dk)) (bn 0))) rfl (cB rfl (by decide +kernel) (by decide +kernel) rfl rfl rfl) (cz (fB (ih) (hr.mono (Uj _)) rfl T.g__law_places.m T.g__law_places.F.kp T.g__law_places.b .nil lB (aa (ay aB (pv 0) (pv 2) (fun _ _=>rfl)) ac))) (fun _ _ _ _ _ _=>(aj (i:=0) vM rfl (UB rfl))) (aR rfl) (fun _ _ _ _ _ _=>bM) (fun _ _ _ _ _ _=>(ax cM (aI (aa (ax f9 (pv 1) af) ac)) (pv 0))))))))) bi)
    (ag (aE (pv 1))))),?_⟩
   try dsimp only [yH,yh]
   refine ⟨ai (by show 0<=1000000;decide),fun ep MZ=>?_⟩;have s1:L2.Same H (upd H ep (.tup [])):=ad MZ _;have e1:PlAt (upd H ep (.tup [])) [] ep:=ab;generalize (upd H ep (.tup []))=H1 at s1 e1 ⊢;refine ⟨ai (by show 1<=1000000;decide),fun fl BW=>?_⟩;have s2:L2.Same H1 (upd H1 fl (.lst [.ref ep])):=ad BW _;have e2:(upd H1 fl (.lst [.ref ep])) fl=some (.lst ([ep].map V.ref)):=ab;have EC:H fl=none:=s1.free BW
   try dsimp only [aF]
   generalize (upd H1 fl (.lst [.ref ep]))=H2 at s2 e2 ⊢;have yL:=s1.trans s2;have Ke:=hA.mono (Same.kt yL);cases t with
   | call sn kn =>
     rw [At] at Ke;refine ⟨_,rfl,a,_,0,.str BB.q,rfl,rfl,SqT.of Ke,at0,rfl,_,rfl,?_⟩;refine cP ?_;refine ⟨_,rfl,q fl [[]] [ep] H2 yL EC e2 (.cons (e1.mono (Same.kt s2)) .nil) (Uj _) (by rw [Th.size];exact Uj _) (fun p hp=>?_)⟩;rw [UP.mp hp,Th.tall];exact ⟨Uj _,_,i9 _⟩
   | knot m ks =>
     rw [At] at Ke;refine hid fun ZZ kZ=>?_;obtain ⟨Kf,yy,ea,yS⟩:=Ke;refine kZ ?_;rw [Th.tall] at yG;rw [Th.size] at hsz;have ze:=yS.length;have zW:=bJ ks;refine ⟨_,rfl,a,_,0,.str m,rfl,rfl,SqT.of ea,at0,rfl,_,rfl,?_⟩
     have yx:(!decide (V.str m=V.str (Um "?")))=true:=by
      have:decide (V.str m=V.str (Um "?"))=false:=decide_eq_false fun z=>Kf (V.str.inj z);rw [this];rfl
     rw [yx];refine oZ ?_;refine ⟨_,rfl,a,_,rfl,.inr (SqT.of ea),1,_,rfl,⟨by decide,by decide,by rw [Ut,Uc];omega,by rw [Ut,Uc];omega⟩,?_⟩;have ED:((((V.str m::yy.map V.ref).length:Nat):Int) - 1).toNat=ks.length:=by rw [Ut,Uc];omega
     rw [ED]
     refine bP (n:=ks.length) (fun i σ H3=>Ex4 fun (kv:Option V) (fl:Ui) (ps:List (List Int)) (bs:List Ui)=>An9 (σ=[some (.ref a),some (.ref fl),kv]) (L2.Same H H3) (H fl=none) (H3 fl=some (.lst (bs.map V.ref))) (UX (PlAt H3) ps bs) (1<=ps.length) (ps.length<=1+aq (ks.take i)) ((∀ p∈ps,p.length+1<=bE ks+1/\∃ u,(Th.knot m ks).sub p=some u)) (L2.Same H2 H3))
      ⟨none,fl,[[]],[ep],rfl,yL,EC,e2,.cons (e1.mono (Same.kt s2)) .nil,Uj _,by rw [WV,aq];exact Uj _,(fun p hp=>by rw [UP.mp hp];exact ⟨by show 0+1<=bE ks+1;omega,_,i9 _⟩),.refl _⟩ ?_ ?_
     · rintro i σ H3 hi ⟨kv,fl,ps,bs,rfl,s3,EC,e3,yT,zT,y8,yi,Kg⟩;have yX:i<ks.length:=hi;have F':=Kg _ _ ea;have IV:=yS.mono (Same.kt Kg);refine hid fun ZZ kZ=>?_;obtain ⟨ka,yY⟩:∃ ka,yy[i]?=some ka:=⟨_,Ue (by omega)⟩;obtain ⟨u,hu,IW⟩:=IV.get yY;refine kZ ?_;have Gu:=Uh hu;have JV:=bT Gu;have R7:=lz Gu
       have yM:aq (ks.take i)+u.size<=aq ks:=by
        have h1:aq (ks.take (i+1))+aq (ks.drop (i+1))=aq ks:=by rw [<- bd,Ze]
        rw [take_snoc hu,bd,aq,aq] at h1;omega
       refine ⟨_,rfl,_,rfl,_,rfl,a,_,_,.ref ka,rfl,rfl,SqT.of F',at_nonneg (by omega) (by rw [show (1+(i:Int)).toNat=i+1 by omega,Vf,Uo,yY];rfl),ka,u,rfl,IW,by omega,by omega,fun r Kh Br H4 s4 nr er C4 R8 R9 EE=>?_⟩;have DX:Kh.length=Br.length:=Uv C4;have zL:ps.length=bs.length:=Uv yT;refine ⟨r,rfl,⟨_,SqL.of er⟩,gO (F:=PlAt) (xs:=Br.map V.ref) (Kh.map fun p=>(i:Int)::p) (fun H1 H2 z p kt h=>h.mono kt) (by rw [Uc,Uc];exact DX) (by rw [Uc];omega) (fun j Hx sx hj=>⟨_,_,SqL.of (sx _ _ er),Ue hj⟩) (fun Hx sx=>⟨_,SqL.of (sx _ _ er),Uj _⟩) (fun j Hx x Hy sx hj hy=>⟨hy.1,hy.2 _ (SqL.of (sx _ _ er))⟩) (fun j x z Hx R W' hx Ao sx hR=>?_) (fun D H5 C5 hD s5 eD Bn=>?_)⟩
       · obtain ⟨pb,rfl,BF⟩:=aU hx;rw [Uo] at Ao;obtain ⟨p,hp,rfl⟩:=UU.mp Ao;have M0:PlAt Hx p pb:=(iM C4 hp BF).mono (Same.kt sx);have FF:=(EE p (Uh hp)).1;have M1:=cA u;refine ⟨_,rfl,_,_,rfl,rfl,ai (by show 1<=1000000;decide),fun k1 Kb=>?_⟩;have t1:L2.Same Hx (upd Hx k1 (.tup [.int (1+(i:Int) - 1)])):=ad Kb _;have f1:(upd Hx k1 (.tup [.int (1+(i:Int) - 1)])) k1=some (.tup [.int (i:Int)]):=by rw [ab,show 1+(i:Int) - 1=(i:Int) by omega]
         try dsimp only
         generalize (upd Hx k1 (.tup [.int (1+(i:Int) - 1)]))=Hy at t1 f1 ⊢;refine ⟨_,rfl,?_⟩;refine j1 f1 (t1 _ _ M0) (by rw [Uc];show 1+p.length<=1000000;omega) fun p3 H7 s7 e7=>?_;exact hR H7 p3 (t1.trans s7) e7
       have C6:(Kh.map fun p=>(i:Int)::p).length=C5.length:=Uv Bn;rw [Uc] at C6;have FG:=(s4.trans s5) _ _ e3;refine ⟨fl,D,_,_,rfl,rfl,FG,eD,ai (by rw [Uc,Uc];omega),fun nl Ck=>?_⟩;have s6:L2.Same H5 (upd H5 nl (.lst (bs.map V.ref++C5.map V.ref))):=ad Ck _;have C7:=s4.trans (s5.trans s6);refine ⟨_,nl,ps++Kh.map (fun p=>(i:Int)::p),bs++C5,rfl,s3.trans C7,(s3.trans (s4.trans s5)).free Ck,by rw [ab,Ux],?_,?_,?_,fun p hp=>?_,Kg.trans C7⟩
       · exact P2.append (P2.mp (fun _ _ e=>PlAt.mono (Same.kt C7) e) yT) (P2.mp (fun _ _ e=>PlAt.mono (Same.kt s6) e) Bn)
       · rw [UE];omega
       · rw [UE,Uc,take_snoc hu,bd,aq,aq];omega
       · rcases Ve.mp hp with hp | hp
         · exact yi p hp
         · obtain ⟨p2,Aj,rfl⟩:=U5.mp hp;obtain ⟨h1,v,hv⟩:=EE p2 Aj;refine ⟨by rw [Ut];omega,v,?_⟩;rw [pG (u:=u) (by omega) (by show ks[(i:Int).toNat]?=some u;rw [Vh];exact hu)];exact hv
     · rintro σ H3 ⟨kv,fl,ps,bs,rfl,s3,EC,e3,yT,zT,y8,yi,Kg⟩;rw [Vx (Uj _)] at y8;exact ⟨_,rfl,q fl ps bs H3 s3 EC e3 yT zT (by rw [Th.size];omega) (by rw [Th.tall];exact yi)⟩
inductive iS (n:Nat) (vs:List V) (H:Hp) (Q:VK) (_E:XK):Prop
 | mk (a pa oa:Ui) (t o u:Th) (p:List Int) (yp:vs=[.ref a,.ref pa,.ref oa]) (yq:At H t a) (yz:H pa=some (.tup (p.map V.int))) (yF:At H o oa) (yW:t.sub p=some u) (Aa:p.length<n) (Cc:t.size<=1000) (Cw:∀ (r:Ui) (H':Hp),L2.Same H H'->At H' (t.put p o) r->Q (.ref r) H'):iS n vs H Q _E
def oj (n:Nat):Sp:=iS n
set_option maxHeartbeats 1000000 in
theorem jH:∀ n:Nat,bp P w K mg base CX0 n T.g__law_put.f T.g__law_put.d ["thing","place","other"] (oj n)
 | 0=>⟨fun _ _ _ _ h=>by obtain ⟨_,_,_,_,_,_,_,_,_,_,_,_,h1,_⟩:=h;omega,fun _ _ _ _ _ _ _ _ _ _ _ _ _ h=>by obtain ⟨_,_,_,_,_,_,_,_,_,_,_,_,h1,_⟩:=h;omega⟩
 | n+1=>by
   have ih:=jH n;refine T.g__law_put.F.ok jC (fun vs H Q E h=>?_) (fun yl A outer s H vs Q E hr h=>?_)
   · obtain ⟨a,pa,oa,t,o,u,p,rfl,_⟩:=h;rfl
   obtain ⟨a,pa,oa,t,o,u,p,rfl,hA,zV,hO,zy,y8,hsz,q⟩:=h
   refine ⟨_,(ae (bI (aK cG (az ao rfl T.n_len UT (aa (pv 1) ac)) af (aO _)) (ag (aE (pv 2))) bi)
    (ae (au (i:=3) jC.nd rfl (UB rfl) (ax bF (ay aB (pv 1) af (fun _ _=>rfl)) af))
    (ag (aE (ax cM (ax cM (bj dF (pv 0) bR (bA (pv 3))) (aI (aa (fB (ih) (hr.mono (Uj _)) rfl T.g__law_put.m T.g__law_put.F.kp T.g__law_put.b .nil lB (aa (ay aB (pv 0) (pv 3) (fun _ _=>rfl)) (aa (bj dF (pv 1) (bA af) bR) (aa (pv 2) ac)))) ac))) (bj dF (pv 0) (bA (ax bF (pv 3) af)) bR)))))),?_⟩
   try dsimp only [yH,yh]
   refine ⟨_,rfl,pa,_,rfl,.inr (SqT.of zV),rfl,_,rfl,?_⟩;cases p with
   | nil =>
     refine oZ ?_;exact ⟨_,rfl,q oa H (.refl _) (by rw [nv];exact hO)⟩
   | cons i r =>
     have B9:decide (V.int (((((i::r).map V.int).length:Nat)):Int)=V.int 0)=false:=decide_eq_false fun z=>by
      have:=V.int.inj z;rw [Uc,Ut] at this;omega
     rw [B9];refine cP ?_;refine hid fun ZZ kZ=>?_;obtain ⟨h0,v,hv,R'⟩:=nH zy;refine kZ ?_;cases t with
     | call sn kn=>rw [Th.kids] at hv;simp at hv
     | knot m ks =>
     rw [Th.kids] at hv;have Pd:=hA;rw [At] at Pd;obtain ⟨Kf,yy,ea,yS⟩:=Pd;rw [Th.size] at hsz;have ze:=yS.length;have zW:=bJ ks;have zE:=(Uk.mp hv).1;obtain ⟨j,rfl⟩:∃ j:Nat,i=(j:Int):=⟨_,(Xg h0).symm⟩;rw [Vh] at hv zE;refine ⟨_,rfl,pa,_,0,.int (j:Int),rfl,rfl,SqT.of zV,at0,_,_,rfl,rfl,?_⟩
     try dsimp only [aF]
     have ej:(j:Int)+1=((j+1:Nat):Int):=by omega
     rw [ej];refine ⟨_,rfl,_,rfl,_,rfl,a,_,rfl,SqT.of ea,?_,fun p1 zT=>?_⟩
     · rintro ⟨_,z⟩;rw [HT.sIx_nat,Ut,Uc] at z;omega
     try dsimp only
     have JW:du (V.str m::yy.map V.ref) none (some ((j+1:Nat):Int))=V.str m::(yy.take j).map V.ref:=by
      rw [uZ (by rw [Ut,Uc];omega),List.take_succ_cons,List.map_take]
     rw [JW];have s1:L2.Same H (upd H p1 (.tup (V.str m::(yy.take j).map V.ref))):=ad zT _;have e1:(upd H p1 (.tup (V.str m::(yy.take j).map V.ref))) p1=some (.tup (V.str m::(yy.take j).map V.ref)):=ab;generalize (upd H p1 (.tup (V.str m::(yy.take j).map V.ref)))=H1 at s1 e1 ⊢;have M3:=s1 _ _ ea;refine hid fun ZZ kZ=>?_;obtain ⟨ka,yY⟩:∃ ka,yy[j]?=some ka:=⟨_,Ue (by omega)⟩;obtain ⟨v',yK,Sa⟩:=(yS.mono (Same.kt s1)).get yY;refine kZ ?_;rw [hv] at yK;cases yK;refine ⟨_,rfl,_,rfl,a,_,_,.ref ka,rfl,rfl,SqT.of M3,at_nonneg (by omega) (by rw [Vh,Vf,Uo,yY];rfl),?_⟩;refine ⟨_,rfl,1,rfl,pa,_,rfl,SqT.of (s1 _ _ zV),?_,fun p2 Aj=>?_⟩
     · rintro ⟨z,_⟩;rw [U8,Ut,show (1:Int)=((1:Nat):Int) by rfl,HT.sIx_nat] at z;omega
     try dsimp only
     rw [U8,de];have s2:L2.Same H1 (upd H1 p2 (.tup (r.map V.int))):=ad Aj _;have e2:(upd H1 p2 (.tup (r.map V.int))) p2=some (.tup (r.map V.int)):=ab;generalize (upd H1 p2 (.tup (r.map V.int)))=H2 at s2 e2 ⊢;have yL:=s1.trans s2;have Aw:=lz (Uh hv);rw [Ut] at y8;refine ⟨_,rfl,ka,p2,oa,v,o,u,r,rfl,Sa.mono (Same.kt s2),e2,hO.mono (Same.kt yL),R',by omega,by omega,fun r3 H3 s3 h3=>?_⟩;refine ⟨ai (by show 1<=1000000;decide),fun p4 M4=>?_⟩;have s4:L2.Same H3 (upd H3 p4 (.tup [.ref r3])):=ad M4 _;have e4:(upd H3 p4 (.tup [.ref r3])) p4=some (.tup [.ref r3]):=ab;generalize (upd H3 p4 (.tup [.ref r3]))=H4 at s4 e4 ⊢;refine j1 ((s2.trans (s3.trans s4)) _ _ e1) e4 (by rw [Ut,Uc,UQ];show min j yy.length+1+1<=1000000;omega) fun p5 H5 s5 e5=>?_;have DK:=yL.trans (s3.trans (s4.trans s5));refine ⟨_,rfl,_,rfl,_,_,rfl,rfl,_,rfl,a,_,rfl,SqT.of (DK _ _ ea),?_,fun p6 Sb=>?_⟩
     · rintro ⟨z,_⟩;have Sd:((j+1:Nat):Int)+1=((j+2:Nat):Int):=by omega
       rw [Sd,HT.sIx_nat,Ut,Uc] at z;omega
     try dsimp only
     have B7:du (V.str m::yy.map V.ref) (some (((j+1:Nat):Int)+1)) none=(yy.drop (j+1)).map V.ref:=by
      rw [show ((j+1:Nat):Int)+1=((j+2:Nat):Int) by omega,jn (by rw [Ut,Uc];omega),Zq,Zw]
     rw [B7];have s6:L2.Same H5 (upd H5 p6 (.tup ((yy.drop (j+1)).map V.ref))):=ad Sb _;have e6:(upd H5 p6 (.tup ((yy.drop (j+1)).map V.ref))) p6=some (.tup ((yy.drop (j+1)).map V.ref)):=ab;generalize (upd H5 p6 (.tup ((yy.drop (j+1)).map V.ref)))=H6 at s6 e6 ⊢;refine j1 (s6 _ _ e5) e6 (by rw [UE,Ut,Uc,UQ,Uc,VG];show min j yy.length+1+1+(yy.length - (j+1))<=1000000;omega) fun p7 H7 s7 e7=>?_;have IX:=s4.trans (s5.trans (s6.trans s7));have Pe:=DK.trans (s6.trans s7);refine q p7 H7 Pe ?_;have Ki:(Th.knot m ks).kids[(j:Int).toNat]?=some v:=by rw [Vh];exact hv
     rw [kg Ki,At];refine ⟨Kf,yy.set j r3,?_,?_⟩
     · rw [e7];have:yy.set j r3=yy.take j++r3::yy.drop (j+1):=List.set_eq_take_append_cons_drop .. |>.trans (if_pos (by omega));rw [this];simp [Th.nm]
     · rw [Vh];exact (yS.mono (Same.kt Pe)).set _ (h3.mono (Same.kt IX))
theorem gL {l:Ui} {o:HO} {H H':Hp} (hl:H l=none) (h:SameB l (upd H l o) H'):L2.Same H H':=fun b ob e=>h b ob (aJ e hl) (by rw [ak (aJ e hl)];exact e)
def vt (ins outs:List (US×Int)) (S:Int) (m:Nat) (rows:List (List Th)):Prop:=∀ row∈rows,row.length=ins.length/\∀ (j:Nat) (t:Th) (k:US×Int),row[j]?=some t->ins[j]?=some k->t.FitS outs S k.2/\t.size<=m
inductive g8 (vs:List V) (H:Hp) (Q:VK) (_E:XK):Prop
 | mk (ca ia oa:Ui) (cs:List Int) (yk yB:List Ui) (ins outs:List (US×Int)) (S:Int) (yp:vs=[.ref ca,.ref ia,.ref oa,.int S]) (yq:H ca=some (.lst (cs.map V.int))) (yz:H ia=some (.tup (yk.map V.ref))) (yF:KsAt H ins yk) (yW:bN ins) (Aa:H oa=some (.tup (yB.map V.ref))) (Cc:KsAt H outs yB) (Cw:bN outs) (Fi:0<=S) (Gf:S<=1000) (Fl:S.toNat * (ins.length+1)<=cs.length) (Fm:cs.length<=100000) (M5:∀ (r:Ui) (yV:List Ui) (rows:List (List Th)) (H':Hp),L2.Same H H'->H' r=some (.tup (yV.map V.ref))->UX (RowAt H') rows yV->(rows.length:Int)=S->vt ins outs S 9 rows->Q (.ref r) H'):g8  vs H Q _E
def nU:Sp:=g8
set_option maxHeartbeats 4000000 in
theorem nA:bp P w K mg base CX0 10 T.g__law_rows.f T.g__law_rows.d ["cells","ins","outs","states"] nU:=by
 refine T.g__law_rows.F.ok bf (fun vs H Q E h=>?_) (fun yl A outer s H vs Q E hr h=>?_)
 · obtain ⟨ca,ia,oa,cs,yk,yB,ins,outs,S,rfl,_⟩:=h;rfl
 obtain ⟨ca,ia,oa,cs,yk,yB,ins,outs,S,rfl,Kj,EF,zO,gi,AI,DY,go,S0,S1,AS,HX,q⟩:=h
 refine ⟨_,(ae (au (i:=4) bf.nd rfl (UB rfl) (bo ac))
  (ae (bx UW rfl (bC rfl T.n_range (aa (pv 3) ac)) (aj (i:=5) bf.nd rfl (UB rfl)) (ae (au (i:=6) bf.nd rfl (UB rfl) (bj m8 (pv 0) (bA (ax cT (pv 5) (ax bF (az ao rfl T.n_len UT (aa (pv 1) ac)) af))) bR))
  (ae (au (i:=7) bf.nd rfl (UB rfl) (pcF T.g__law_thing (cD T 7) hr (aa (bo (aa (pcF T.g__law_mixed (eC T) hr (aa (ay aP (pv 6) af (fun _ _=>rfl)) (aa (ax cT af (pv 5)) ac))) (aa af ac))) (aa (pv 2) (aa af (aa af ac))))))
  (ae (au (i:=8) bf.nd rfl (UB rfl) (pcF T.g__law_places (gy T 8) hr (aa (pv 7) ac)))
  (ae (au (i:=9) bf.nd rfl (UB rfl) (bo ac))
  (ae (bx UW rfl (bC rfl T.n_range (aa (az ao rfl T.n_len UT (aa (pv 1) ac)) ac)) (aj (i:=10) bf.nd rfl (UB rfl)) (ae (au (i:=11) bf.nd rfl (UB rfl) (pcF T.g__law_mixed (eC T) hr (aa (ay aP (pv 6) (ax bF (pv 10) af) (fun _ _=>rfl)) (aa (ax bF (ax cT af (pv 10)) (pv 5)) ac))))
  (ag (bI (aK cG (ax bH (pv 11) af) af (aO _)) (ag (aQ (bL Uw UM UL aL (pv 9) (aa (pcF T.g__law_thing (cD T 7) hr (aa (bo (aa (ax b9 (pv 11) af) (aa af ac))) (aa (pv 2) (aa (pv 3) (aa (ay aB (ay aB (pv 1) (pv 10) (fun _ _=>rfl)) af (fun _ _=>rfl)) ac))))) ac)))) (ae (au (i:=12) bf.nd rfl (UB rfl) (ay aP (pv 8) (ax bH (ax b9 (pv 11) af) (az ao rfl T.n_len UT (aa (pv 8) ac))) (fun _ _=>rfl)))
  (ae (au (i:=13) bf.nd rfl (UB rfl) (pcF T.g__law_thing (cD T 7) hr (aa (bo (aa (ax b9 (ax b9 (pv 11) af) (az ao rfl T.n_len UT (aa (pv 8) ac))) (aa af ac))) (aa (pv 2) (aa (pv 3) (aa (ay aB (ay aB (pv 1) (pv 10) (fun _ _=>rfl)) af (fun _ _=>rfl)) ac))))))
  (ag (aQ (bL Uw UM UL aL (pv 9) (aa (pcF T.g__law_put (jH T 8) hr (aa (pv 7) (aa (pv 12) (aa (pv 13) ac)))) ac))))))))))
  (ag (aQ (bL Uw UM UL aL (pv 4) (aa (cy bV rfl T.n_tuple VI (aa (pv 9) ac)) ac))))))))))
  (ag (aE (cy bV rfl T.n_tuple VI (aa (pv 4) ac)))))),?_⟩
 try dsimp only [yH,yh]
 have zE:ins.length=yk.length:=Uv zO;have Di:=gi.le;refine ⟨ai (by show 0<=1000000;decide),fun rl BS=>?_⟩;refine ⟨_,rfl,S,rfl,by omega,by omega,?_⟩
 refine bP (n:=S.toNat) (fun i σ H3=>wR fun (c5 c6 c7 c8 c9 y6 AO Ac Cm:Option V) (yV:List Ui) (rows:List (List Th))=>An6 (σ=[some (.ref ca),some (.ref ia),some (.ref oa),some (.int S),some (.ref rl),c5,c6,c7,c8,c9,y6,AO,Ac,Cm]) (L2.Same H H3) (H3 rl=some (.lst (yV.map V.ref))) (UX (RowAt H3) rows yV) (rows.length=i) (vt ins outs S 9 rows))
  ⟨none,none,none,none,none,none,none,none,none,[],[],rfl,ad BS _,ab,.nil,rfl,fun row h=>by cases h⟩ ?_ ?_
 · rintro i σ H3 hi ⟨c5,c6,c7,c8,c9,y6,AO,Ac,Cm,yV,rows,rfl,s3,e3,Gv,ED,Gw⟩;have TM:i<S.toNat:=hi
   have hmul:i * (ins.length+1)+(ins.length+1)<=cs.length:=by
    have h1:(i+1) * (ins.length+1)<=S.toNat * (ins.length+1):=Zj _ (by omega);rw [Nat.add_mul,Nat.one_mul] at h1;omega
   have M6:=s3 _ _ Kj;have FH:=s3 _ _ EF;refine ⟨_,rfl,_,rfl,_,rfl,ia,_,rfl,.inr (SqT.of FH),_,_,rfl,rfl,_,_,rfl,rfl,.inl ⟨by omega,by omega⟩,_,rfl,ca,_,rfl,SqL.of M6,fun ow how=>?_⟩
   have Dq:(0+(i:Int)) * ((((yk.map V.ref).length:Nat):Int)+1)=((i * (ins.length+1):Nat):Int):=by
    rw [Uc,<- zE,VZ];simp
   try dsimp only [aF]
   rw [Dq,jn (by rw [Uc];omega),<- Zw];have Bh:(cs.drop (i * (ins.length+1))).length=cs.length - i * (ins.length+1):=VG;generalize cs.drop (i * (ins.length+1))=ds at Bh ⊢;have s4:L2.Same H3 (upd H3 ow (.lst (ds.map V.int))):=ad how _;have e4:(upd H3 ow (.lst (ds.map V.int))) ow=some (.lst (ds.map V.int)):=ab;generalize (upd H3 ow (.lst (ds.map V.int)))=H4 at s4 e4 ⊢;obtain ⟨d0,Cd⟩:∃ d0,ds[0]?=some d0:=⟨_,Ue (by omega)⟩;refine ⟨_,rfl,ow,_,0,.int d0,rfl,rfl,SqL.of e4,at_nonneg (by decide) (by show (ds.map V.int)[0]?=_;rw [Uo,Cd];rfl),_,rfl,_,_,rfl,rfl,.inl ⟨by decide,by decide⟩,_,_,rfl,fun z=>?_⟩;refine ⟨ai (by show 2<=1000000;decide),fun l1 zx=>?_⟩;have s5:L2.Same H4 (upd H4 l1 (.lst [.int z,.int 6])):=ad zx _;have e5:(upd H4 l1 (.lst [.int z,.int 6])) l1=some (.lst [.int z,.int 6]):=ab;have DD:=s4.trans s5;refine ⟨_,rfl,l1,oa,z,6,yB,outs,0,0,rfl,e5,(s3.trans DD) _ _ AI,DY.mono (Same.kt (s3.trans DD)),go,by decide,by decide,by decide,by decide,fun bt ba x' b' H6 s6 IT Pf Se IU TN=>?_⟩;have C7:L2.Same H4 H6:=gL zx s6;clear s5 e5 DD s6;have yA:bt.size<=7:=by omega
   have TQ:=cA bt;refine ⟨_,rfl,ba,bt,rfl,Pf,by omega,by omega,fun sp ps bs H7 s7 _ Sf yT zT y8 yi=>?_⟩;have zL:ps.length=bs.length:=Uv yT;have Gp:=C7.trans s7;have M7:=Pf.mono (Same.kt s7);refine ⟨ai (by show 0<=1000000;decide),fun Cn CU=>?_⟩;have IX:=s4.trans Gp;refine ⟨_,rfl,ia,_,rfl,.inr (SqT.of (ad CU _ _ _ (IX _ _ FH))),_,rfl,by omega,by rw [Uc];omega,?_⟩
   refine bP (n:=(((yk.map V.ref).length:Nat):Int).toNat) (fun j σ H8=>Ex6 fun (y6 AO Ac Cm:Option V) (AZ:List Ui) (ts:List Th)=>An6 (σ=[some (.ref ca),some (.ref ia),some (.ref oa),some (.int S),some (.ref rl),some (.int (0+(i:Int))),some (.ref ow),some (.ref ba),some (.ref sp),some (.ref Cn),y6,AO,Ac,Cm]) (L2.Same H7 H8) (H8 Cn=some (.lst (AZ.map V.ref))) (Ats H8 ts AZ) (ts.length=j) (∀ (j:Nat) (t:Th) (k:US×Int),ts[j]?=some t->ins[j]?=some k->t.FitS outs S k.2/\t.size<=9))
    ⟨_,_,_,_,[],[],rfl,ad CU _,ab,.nil,rfl,fun j t k h=>by simp at h⟩ ?_ ?_
   · rintro j σ H8 hj ⟨y6,AO,Ac,Cm,AZ,ts,rfl,s8,e8,DW,Gs,M8⟩
     have yv:j<ins.length:=by
      have h1:j<(((yk.map V.ref).length:Nat):Int).toNat:=hj;rw [Uc] at h1;omega
     have FI:=IX.trans s8;have Sg:=(Gp.trans s8) _ _ e4;obtain ⟨d1,Ff⟩:∃ d1,ds[j+1]?=some d1:=⟨_,Ue (by omega)⟩;refine ⟨_,rfl,_,rfl,_,_,rfl,rfl,ow,_,_,.int d1,rfl,rfl,SqL.of Sg,at_nonneg (by omega) (by rw [show (0+(j:Int)+1).toNat=j+1 by omega,Uo,Ff];rfl),_,rfl,_,_,rfl,rfl,.inl ⟨by decide,by decide⟩,_,rfl,_,_,rfl,rfl,_,_,rfl,fun nb=>?_⟩;refine hid fun ZZ kZ=>?_;obtain ⟨k0,zt⟩:∃ k0,ins[j]?=some k0:=⟨_,Ue yv⟩;obtain ⟨ka,yY,F7⟩:=P2.get zO zt;refine kZ ?_;have BR:=gi.num k0 (Uh zt);have IY:H8 ka=some (.tup [.str k0.1,.int k0.2]):=(s3.trans FI) _ _ F7;have IZ:=FI _ _ FH;have DX:=DW.length
     have Cb:∀ (t:Th) (ta:Ui) (H9:Hp) (Ac Cm:Option V),L2.Same H8 H9->At H9 t ta->t.FitS outs S k0.2->t.size<=9->∀ yd,yd=[some (.ref ca),some (.ref ia),some (.ref oa),some (.int S),some (.ref rl),some (.int (0+(i:Int))),some (.ref ow),some (.ref ba),some (.ref sp),some (.ref Cn),some (.int (0+(j:Int))),some (.int nb),Ac,Cm]->Ex6 fun (y6 AO Ac Cm:Option V) (DZ:List Ui) (M9:List Th)=>An6 (yd=[some (.ref ca),some (.ref ia),some (.ref oa),some (.int S),some (.ref rl),some (.int (0+(i:Int))),some (.ref ow),some (.ref ba),some (.ref sp),some (.ref Cn),y6,AO,Ac,Cm]) (L2.Same H7 (upd H9 Cn (.lst (AZ.map V.ref++[.ref ta])))) ((upd H9 Cn (.lst (AZ.map V.ref++[.ref ta]))) Cn=some (.lst (DZ.map V.ref))) (Ats (upd H9 Cn (.lst (AZ.map V.ref++[.ref ta]))) M9 DZ) (M9.length=j+1) (∀ (j:Nat) (t:Th) (k:US×Int),M9[j]?=some t->ins[j]?=some k->t.FitS outs S k.2/\t.size<=9):=fun t ta H9 Ac Cm s9 zY Bi hsz yd MS=>by
      have e9:=s9 _ _ e8;have kt:KT H9 (upd H9 Cn (.lst (AZ.map V.ref++[.ref ta]))):=aS e9;refine ⟨_,_,_,_,AZ++[ta],ts++[t],MS,aw (s8.trans s9) CU,by rw [ab,Ux];rfl,(DW.mono ((Same.kt s9).trans kt)).append (.cons (zY.mono kt) .nil),by rw [UE,Gs];rfl,fun m u k hu hk=>?_⟩;by_cases hm:m<ts.length
      · rw [Wu hm] at hu;exact M8 m u k hu hk
      · have JU:=(Uk.mp hu).1;rw [UE] at JU
        have:m=ts.length:=by
         have:([t]:List Th).length=1:=rfl;omega
        subst this;rw [WW (Uj _),ZK] at hu;have e1:t=u:=by simpa using hu
        rw [Gs,zt] at hk;cases hk;rw [<- e1];exact ⟨Bi,hsz⟩
     refine ⟨_,rfl,_,_,rfl,rfl,(by show (0:Int)<4;decide),rfl,_,rfl,?_⟩;refine cX (fun c1=>?_) (fun c1=>?_)
     · refine ⟨_,rfl,.inl ⟨rfl,_,SqL.of e8⟩,_,rfl,_,_,rfl,rfl,⟨by decide,by decide⟩,ai (by show 2<=1000000;decide),fun l2 y4=>?_⟩;have s9:L2.Same H8 (upd H8 l2 (.lst [.int (nb / 4),.int 6])):=ad y4 _;have EG:=(s3.trans FI).trans s9;refine ⟨_,rfl,_,rfl,_,rfl,_,rfl,ia,_,_,.ref ka,rfl,rfl,SqT.of (s9 _ _ IZ),at_nonneg (by omega) (by rw [show (0+(j:Int)).toNat=j by omega,Uo,yY];rfl),ka,_,1,.int k0.2,rfl,rfl,SqT.of (s9 _ _ IY),at1,?_⟩;refine ⟨l2,oa,_,6,yB,outs,S,k0.2,rfl,ab,EG _ _ AI,DY.mono (Same.kt EG),go,by omega,by omega,by decide,by decide,fun pt pa x2 b2 yZ yJ M' C8 Na Ce Ek=>?_⟩;have Bv:L2.Same H8 yZ:=gL y4 yJ;refine ⟨Cn,_,_,rfl,rfl,Bv _ _ e8,aH (by rw [Uc];omega),?_⟩;exact Cb pt pa yZ _ _ Bv C8 Na (by omega) _ rfl
     · have FJ:=s8 _ _ Sf;have CQ:0<(((bs.map V.ref).length:Nat):Int):=by rw [Uc];omega
       have y0:=VD (nb / 4) (show (((bs.map V.ref).length:Nat):Int)≠0 by omega);have y1:=Vw (nb / 4) CQ;refine hid fun ZZ kZ=>?_;obtain ⟨m,hm⟩:∃ m:Nat,nb / 4%(((bs.map V.ref).length:Nat):Int)=(m:Int):=⟨_,(Xg y0).symm⟩;have JU:m<bs.length:=by rw [hm,Uc] at y1;omega
       obtain ⟨pb,BF⟩:∃ pb,bs[m]?=some pb:=⟨_,Ue JU⟩;obtain ⟨p,hp⟩:∃ p,ps[m]?=some p:=⟨_,Ue (by omega)⟩;have HN:PlAt H8 p pb:=(iM yT hp BF).mono (Same.kt s8);obtain ⟨Pg,u,zy⟩:=yi p (Uh hp);refine kZ ?_;refine ⟨_,rfl,_,rfl,_,_,rfl,rfl,⟨by decide,by decide⟩,_,rfl,sp,_,rfl,.inl (SqL.of FJ),_,_,rfl,rfl,CQ,sp,_,_,.ref pb,rfl,rfl,SqL.of FJ,at_nonneg y0 (by rw [hm,Vh,Uo,BF];rfl),?_⟩;refine ⟨_,rfl,_,_,rfl,rfl,⟨by decide,by decide⟩,_,rfl,sp,_,rfl,.inl (SqL.of FJ),_,_,rfl,rfl,⟨CQ,by rw [Uc];omega⟩,ai (by show 2<=1000000;decide),fun l2 y4=>?_⟩;have s9:L2.Same H8 (upd H8 l2 (.lst [.int (nb / 4 / (((bs.map V.ref).length:Nat):Int)),.int 2])):=ad y4 _;have EG:=(s3.trans FI).trans s9;refine ⟨_,rfl,_,rfl,_,rfl,_,rfl,ia,_,_,.ref ka,rfl,rfl,SqT.of (s9 _ _ IZ),at_nonneg (by omega) (by rw [show (0+(j:Int)).toNat=j by omega,Uo,yY];rfl),ka,_,1,.int k0.2,rfl,rfl,SqT.of (s9 _ _ IY),at1,?_⟩;refine ⟨l2,oa,_,2,yB,outs,S,k0.2,rfl,ab,EG _ _ AI,DY.mono (Same.kt EG),go,by omega,by omega,by decide,by decide,fun pt pa x2 b2 yZ yJ M' C8 Na Ce Ek=>?_⟩;have Bv:L2.Same H8 yZ:=gL y4 yJ;refine ⟨_,rfl,.inl ⟨rfl,_,SqL.of (Bv _ _ e8)⟩,_,rfl,_,rfl,_,rfl,?_⟩;refine ⟨ba,pb,pa,bt,pt,u,p,rfl,M7.mono (Same.kt (s8.trans Bv)),HN.mono (Same.kt Bv),C8,zy,by omega,by omega,fun ra zm zi I0=>?_⟩;have B4:=Bv.trans zi;have Sh:=oi p bt u pt zy;have Si:=size_pos u;refine ⟨Cn,_,_,rfl,rfl,B4 _ _ e8,aH (by rw [Uc];omega),?_⟩;exact Cb (bt.put p pt) ra zm _ _ B4 I0 (pe p bt u pt zy (FitS.up Se) Na) (by omega) _ rfl
   · rintro σ H8 ⟨y6,AO,Ac,Cm,AZ,ts,rfl,s8,e8,DW,Gs,M8⟩
     have Nb:ts.length=ins.length:=by
      rw [Gs,Uc];omega
     have FI:=IX.trans s8;have Ph:=FI _ _ e3;refine ⟨_,rfl,.inl ⟨rfl,_,SqL.of Ph⟩,_,rfl,Cn,_,rfl,.inl ⟨SqL.of e8,fun tp DC=>?_⟩⟩;have s9:L2.Same H8 (upd H8 tp (.tup (AZ.map V.ref))):=ad DC _;have e9:(upd H8 tp (.tup (AZ.map V.ref))) tp=some (.tup (AZ.map V.ref)):=ab;generalize (upd H8 tp (.tup (AZ.map V.ref)))=H9 at s9 e9 ⊢;have Pj:=s9 _ _ Ph;have Sj:rows.length=yV.length:=Uv Gv;refine ⟨rl,_,_,rfl,rfl,Pj,aH (by rw [Uc];omega),?_⟩;have kt:KT H9 (upd H9 rl (.lst (yV.map V.ref++[.ref tp]))):=aS Pj;have EG:=FI.trans s9;refine ⟨_,_,_,_,_,_,_,_,_,yV++[tp],rows++[ts],rfl,aw (s3.trans EG) BS,by rw [ab,Ux];rfl,?_,by rw [UE,ED];rfl,fun row yc=>?_⟩
     · refine P2.append (P2.mp (fun _ _ e=>RowAt.mono ((Same.kt EG).trans kt) e) Gv) (.cons ⟨AZ,kt _ _ e9,DW.mono ((Same.kt s9).trans kt)⟩ .nil)
     · rcases Ve.mp yc with h | h
       · exact Gw row h
       · rw [UP.mp h];exact ⟨Nb,M8⟩
 · rintro σ H3 ⟨c5,c6,c7,c8,c9,y6,AO,Ac,Cm,yV,rows,rfl,s3,e3,Gv,ED,Gw⟩;refine ⟨_,rfl,rl,_,rfl,.inl ⟨SqL.of e3,fun p hp=>?_⟩⟩;have s4:=ad hp (.tup (yV.map V.ref));exact q p yV rows _ (s3.trans s4) ab (P2.mp (fun _ _ e=>RowAt.mono (Same.kt s4) e) Gv) (by omega) Gw
inductive hZ (K:Ug) (vs:List V) (H:Hp) (Q:VK) (_E:XK):Prop
 | mk (a:Ui) (ns:List Int) (k:Int) (yp:vs=[.ref a,.int k]) (yq:SqL K H a (ns.map V.int)) (yz:0<=k) (yF:∀ c:Int,Q (.int c) H):hZ K vs H Q _E
def m3 (K:Ug):Sp:=hZ K
theorem cK:bp P w K mg base CX0 1 T.g__law_cell.f T.g__law_cell.d ["script","k"] (m3 K):=by
 refine T.g__law_cell.F.ok nj (fun vs H Q E h=>?_) (fun yl A outer s H vs Q E hr h=>?_)
 · obtain ⟨a,ns,k,rfl,_⟩:=h;rfl
 obtain ⟨a,ns,k,rfl,hS,h0,q⟩:=h
 refine ⟨_,(ae (bI (aK mJ (pv 1) (az ao rfl T.n_len UT (aa (pv 0) ac)) (aO _)) (ag (aE (ay aP (pv 0) (pv 1) (fun _ _=>rfl)))) bi)
  (ag (aE af))),?_⟩
 try dsimp only [yH,yh]
 refine ⟨_,rfl,_,rfl,a,_,rfl,.inl hS,_,_,rfl,rfl,_,rfl,?_⟩;refine cX (fun c=>?_) (fun c=>q 0);have c':k<(((ns.map V.int).length:Nat):Int):=of_decide_eq_true c;rw [Uc] at c';exact ⟨_,rfl,_,rfl,a,_,k,_,rfl,rfl,hS,int_at h0 c',q _⟩
inductive ie (vs:List V) (H:Hp) (Q:VK) (_E:XK):Prop
 | mk (ca ia oa:Ui) (cs:List Int) (yk yB:List Ui) (ins outs:List (US×Int)) (S:Int) (yp:vs=[.ref ca,.ref ia,.ref oa,.int S]) (yq:H ca=some (.lst (cs.map V.int))) (yz:H ia=some (.tup (yk.map V.ref))) (yF:KsAt H ins yk) (yW:bN ins) (Aa:H oa=some (.tup (yB.map V.ref))) (Cc:KsAt H outs yB) (Cw:bN outs) (Fi:0<=S) (Gf:S<=1000) (Fl:1+S.toNat * (ins.length+1)<=cs.length) (Fm:cs.length<=100000) (M5:∀ (r:Ui) (head:Th) (rows:List (List Th)) (H':Hp),L2.Same H H'->Bk H' ins outs head rows r->vi ins outs S 9 head rows->head.size<=5->Q (.ref r) H'):ie  vs H Q _E
def no:Sp:=ie
set_option maxHeartbeats 1000000 in
theorem nz:bp P w K mg base CX0 11 T.g__law_book.f T.g__law_book.d ["cells","ins","outs","states"] no:=by
 refine T.g__law_book.F.ok iZ (fun vs H Q E h=>?_) (fun yl A outer s H vs Q E hr h=>?_)
 · obtain ⟨ca,ia,oa,cs,yk,yB,ins,outs,S,rfl,_⟩:=h;rfl
 obtain ⟨ca,ia,oa,cs,yk,yB,ins,outs,S,rfl,Kj,EF,zO,gi,AI,DY,go,S0,S1,AS,HX,q⟩:=h
 refine ⟨_,(ae (au (i:=4) iZ.nd rfl (UB rfl) (pcF T.g__law_thing (cD T 6) hr (aa (bo (aa (pcF T.g__law_mixed (eC T) hr (aa (ay aP (pv 0) af (fun _ _=>rfl)) (aa af ac))) (aa af ac))) (aa (pv 2) (aa (pv 3) (aa af ac))))))
  (ag (aE (aI (aa (pv 1) (aa (pv 2) (aa (pv 4) (aa (pcF T.g__law_rows (nA T) hr (aa (bj m8 (pv 0) (bA af) bR) (aa (pv 1) (aa (pv 2) (aa (pv 3) ac))))) ac)))))))),?_⟩
 try dsimp only [yH,yh]
 obtain ⟨d0,Cd⟩:∃ d0,cs[0]?=some d0:=⟨_,Ue (by omega)⟩;refine ⟨_,rfl,ca,_,0,.int d0,rfl,rfl,SqL.of Kj,at_nonneg (by decide) (by show (cs.map V.int)[0]?=_;rw [Uo,Cd];rfl),_,_,rfl,fun z=>?_⟩;refine ⟨ai (by show 2<=1000000;decide),fun l1 zx=>?_⟩;have s5:L2.Same H (upd H l1 (.lst [.int z,.int 4])):=ad zx _;refine ⟨_,rfl,_,rfl,l1,oa,z,4,yB,outs,S,1,rfl,ab,s5 _ _ AI,DY.mono (Same.kt s5),go,by omega,by decide,by decide,by decide,fun ht ha x' b' H1 Sk TR hA hF IU hz=>?_⟩;have s1:L2.Same H H1:=gL zx Sk;refine ⟨_,rfl,_,rfl,_,rfl,_,rfl,1,rfl,ca,_,rfl,SqL.of (s1 _ _ Kj),fun cl Nc=>?_⟩
 try dsimp only
 rw [show (some (1:Int))=some ((1:Nat):Int) from rfl,jn (by rw [Uc];omega),<- Zw];have s2:L2.Same H1 (upd H1 cl (.lst ((cs.drop 1).map V.int))):=ad Nc _;have e2:(upd H1 cl (.lst ((cs.drop 1).map V.int))) cl=some (.lst ((cs.drop 1).map V.int)):=ab;generalize (upd H1 cl (.lst ((cs.drop 1).map V.int)))=H2 at s2 e2 ⊢;have yL:=s1.trans s2;refine ⟨_,rfl,_,rfl,_,rfl,cl,ia,oa,cs.drop 1,yk,yB,ins,outs,S,rfl,e2,yL _ _ EF,zO.mono (Same.kt yL),gi,yL _ _ AI,DY.mono (Same.kt yL),go,S0,S1,by rw [VG];omega,by rw [VG];omega,fun r yV rows H3 s3 er Gv ED Gw=>?_⟩;refine ⟨ai (by show 4<=1000000;decide),fun p hp=>?_⟩;have s4:=ad hp (.tup [.ref ia,.ref oa,.ref ha,.ref r]);have Ja:=s3.trans s4;have Jb:=yL.trans Ja;refine q p ht rows _ Jb ⟨ia,oa,ha,r,yk,yB,yV,ab,Jb _ _ EF,zO.mono (Same.kt Jb),Jb _ _ AI,DY.mono (Same.kt Jb),hA.mono (Same.kt (s2.trans Ja)),s4 _ _ er,P2.mp (fun _ _ e=>RowAt.mono (Same.kt s4) e) Gv⟩ ⟨ED,fun row h=>(Gw row h).1,fun row h=>(Gw row h).2,hF,by omega⟩ (by omega)
theorem sK {ws:List US} (h:nP ws) {n:Nat} (n1:1<=n) (n4:n<=4):bN ((ws.take n).map fun x=>(x,(0:Int))):=by
 have hl:=h.len
 have get:∀ (i:Nat) (k:US×Int),((ws.take n).map fun x=>(x,(0:Int)))[i]?=some k->ws[i]?=some k.1/\k.2=0:=fun i k hk=>by
  rw [Uo,UU] at hk;obtain ⟨x,hx,rfl⟩:=hk;have hi:=(Uk.mp hx).1;rw [UQ] at hi;rw [XZ (by omega)] at hx;exact ⟨hx,rfl⟩
 refine ⟨by rw [Uc,UQ];omega,by rw [Uc,UQ];omega,fun k hk=>?_,fun k hk=>?_,?_,fun i j k l hi hj e=>?_⟩
 · obtain ⟨i,hi⟩:=UG.mp hk;exact h.low _ (Uh (get i k hi).1)
 · obtain ⟨i,hi⟩:=UG.mp hk;have:=(get i k hi).2;omega
 · obtain ⟨x,hx⟩:∃ x,ws[0]?=some x:=⟨_,Ue (by omega)⟩;refine ⟨(x,0),U5.mpr ⟨x,Uh (i:=0) ?_,rfl⟩,rfl⟩;rw [XZ (by omega)];exact hx
 · obtain ⟨a,_⟩:=get i k hi;obtain ⟨b,_⟩:=get j l hj;rw [<- e] at b;exact h.inj i j _ a b
inductive dP (K:Ug) (vs:List V) (H:Hp) (Q:VK) (_E:XK):Prop
 | mk (a:Ui) (ns:List Int) (yp:vs=[.ref a]) (yq:SqL K H a (ns.map V.int)) (yz:ns.length<=63) (yF:∀ (r:Ui) (ins outs:List (US×Int)) (S:Int) (head:Th) (rows:List (List Th)) (H':Hp),L2.Same H H'->Bk H' ins outs head rows r->bN ins->(∀ k∈ins,k.2=0)->bN outs->S<=16->vi ins outs S 9 head rows->head.size<=5->Q (.ref r) H'):dP K vs H Q _E
def i5 (K:Ug):Sp:=dP K
set_option maxHeartbeats 1000000 in
theorem iQ:bp P w K mg base CX0 12 T.g__law_leaf_book.f T.g__law_leaf_book.d ["script"] (i5 K):=by
 refine T.g__law_leaf_book.F.ok bB (fun vs H Q E h=>?_) (fun yl A outer s H vs Q E hr h=>?_)
 · obtain ⟨a,ns,rfl,_⟩:=h;rfl
 obtain ⟨a,ns,rfl,hS,BL,q⟩:=h
 refine ⟨_,(ae (au (i:=1) bB.nd rfl (Ym rfl) (pcF T.g__law_names (gW T) hr (aa (pcF T.g__law_cell (cK T) hr (aa (pv 0) (aa af ac))) ac)))
  (ae (au (i:=2) bB.nd rfl (UB rfl) (cy bV rfl T.n_tuple VI (aa (cf (N:=[Um "k",Um "names"]) (js:=[none,some 1]) (g:=(aF 0)) (tt:=bG) (te:=(ji (bm (tOp (vb K) (bn 1) (bn 0)) (bm (tC (.int 0)) dk)))) rfl (cB rfl (by decide +kernel) (by decide +kernel) rfl rfl rfl) (bC rfl T.n_range (aa (ax bF af (ax bH (pcF T.g__law_cell (cK T) hr (aa (pv 0) (aa af ac))) af)) ac)) (fun _ _ _ _ _ _=>(aj (i:=0) w4 rfl (UB rfl))) (aR rfl) (fun _ _ _ _ _ _=>bM) (fun _ _ _ _ _ _=>(aI (aa (ay aP (pv 1) (pv 0) (fun _ _=>rfl)) (aa af ac))))) ac)))
  (ae (au (i:=3) bB.nd rfl (UB rfl) (pcF T.g__law_kinds (lU T) hr (aa (pcF T.g__law_cell (cK T) hr (aa (pv 0) (aa af ac))) (aa (pcF T.g__law_names (gW T) hr (aa (ax bF (ax b9 (pcF T.g__law_cell (cK T) hr (aa (pv 0) (aa af ac))) af) af) ac)) ac))))
  (ae (au (i:=4) bB.nd rfl (UB rfl) (ax bF af (ax bH (pcF T.g__law_cell (cK T) hr (aa (pv 0) (aa af ac))) af)))
  (ae (au (i:=5) bB.nd rfl (UB rfl) (pcF T.g__law_folded (lK T) hr (aa (bj m8 (pv 0) (bA af) bR) (aa (ax bF af (ax cT (pv 4) (ax bF (az ao rfl T.n_len UT (aa (pv 2) ac)) af))) ac))))
  (ag (aE (pcF T.g__law_book (nz T) hr (aa (pv 5) (aa (pv 2) (aa (pv 3) (aa (pv 4) ac)))))))))))),?_⟩
 try dsimp only [yH,yh]
 refine ⟨_,rfl,a,ns,0,rfl,hS,by decide,fun c0=>⟨c0,rfl,fun na ws H1 s1 MT yO=>?_⟩⟩
 try dsimp only [aF]
 refine ⟨_,rfl,a,ns,1,rfl,s1.seq hS,by decide,fun c1=>?_⟩;have w0:=VD c1 (show (4:Int)≠0 by decide);have w1:=Vw c1 (show (0:Int)<4 by decide);obtain ⟨mn,GV⟩:∃ mn:Nat,(mn:Int)=1+c1%4:=⟨(1+c1%4).toNat,by omega⟩;have gi:=sK yO (n:=mn) (by omega) (by omega);have AR:=yO.len;have Jc:((ws.take mn).map fun x=>(x,(0:Int))).length=mn:=by rw [Uc,UQ];omega
 have BN:∀ k∈(ws.take mn).map fun x=>(x,(0:Int)),k.2=0:=fun k hk=>by
  obtain ⟨x,_,rfl⟩:=U5.mp hk;rfl
 have MF:∀ (i:Nat) (z:US×Int),((ws.take mn).map fun x=>(x,(0:Int)))[i]?=some z->ws[i]?=some z.1/\z.2=0:=fun i z hz=>by
  rw [Uo,UU] at hz;obtain ⟨x,hx,rfl⟩:=hz;have hi:=(Uk.mp hx).1;rw [UQ] at hi;rw [XZ (by omega)] at hx;exact ⟨hx,rfl⟩
 generalize ((ws.take mn).map fun x=>(x,(0:Int)))=ins at gi Jc BN MF;refine ⟨_,_,rfl,rfl,(by show (0:Int)<4;decide),_,_,rfl,rfl,_,rfl,by omega,by omega,gO (F:=KAt) (xs:=(U1 mn).map fun (i:Nat)=>V.int (0+(i:Int))) ins (fun H1 H2 z p kt h=>kt _ _ h) (by rw [Jc,Uc,UY]) (by rw [Uc,UY];omega) (fun i Hx sx hi=>by rw [Uc,UY] at hi;show i<_;omega) (fun Hx sx=>by rw [Uc,UY];show _<=_;omega) (fun i Hx x Hy sx hi hy=>⟨hy.1,?_⟩) (fun i x z Hx R W' hx Ao sx hR=>?_) (fun D2 H2 yk Sl s2 JS zO=>?_)⟩
 · rw [Uc,UY] at hi;rw [hy.2,Uo,Vp hi];rfl
 · have hi:i<mn:=by
    have:=(Uk.mp hx).1;rw [Uc,UY] at this;exact this
   rw [Uo,Vp hi] at hx;cases hx;obtain ⟨hw,hz⟩:=MF i z Ao;refine ⟨_,rfl,_,rfl,na,_,_,.str z.1,rfl,rfl,SqL.of (sx _ _ MT),at_nonneg (by omega) (by rw [show (0+(i:Int)).toNat=i by omega,Uo,hw];rfl),ai (by show 2<=1000000;decide),fun p hp=>?_⟩;refine hR _ p (ad hp _) ?_;show (upd Hx p (.tup [.str z.1,.int 0])) p=some (.tup [.str z.1,.int z.2]);rw [ab,hz]
 have zE:ins.length=yk.length:=Uv zO;refine ⟨D2,_,rfl,.inl ⟨SqL.of JS,fun ia Sm=>?_⟩⟩;have Nf:L2.Same H2 (upd H2 ia (.tup (yk.map V.ref))):=ad Sm _;have EF:(upd H2 ia (.tup (yk.map V.ref))) ia=some (.tup (yk.map V.ref)):=ab
 try dsimp only [aF]
 generalize (upd H2 ia (.tup (yk.map V.ref)))=Hb at Nf EF ⊢;have yL:=s1.trans (s2.trans Nf);have zO:KsAt Hb ins yk:=P2.mp (fun _ _ e=>(Same.kt Nf) _ _ e) zO;refine ⟨_,rfl,a,ns,2,rfl,yL.seq hS,by decide,fun c2=>?_⟩;refine ⟨_,rfl,a,ns,0,rfl,yL.seq hS,by decide,fun TU=>⟨_,_,rfl,rfl,⟨by decide,by decide⟩,_,_,rfl,rfl,_,rfl,fun nb wo H3 s3 Sn Fh=>?_⟩⟩;refine ⟨c2,nb,wo,rfl,Sn,Fh,fun oa yB outs H4 s4 AI DY go TV=>?_⟩;have Ja:=s3.trans s4;have AY:=yL.trans Ja;refine ⟨_,rfl,a,ns,3,rfl,AY.seq hS,by decide,fun c3=>?_⟩;have z0:=VD c3 (show (4:Int)≠0 by decide);have z1:=Vw c3 (show (0:Int)<4 by decide);refine ⟨_,_,rfl,rfl,(by show (0:Int)<4;decide),_,_,rfl,rfl,?_⟩
 try dsimp only [aF]
 obtain ⟨S,JI⟩:∃ S:Int,S=1+c3%4:=⟨_,rfl⟩;have S1:1<=S:=by omega
 have S2:S<=16:=by omega
 rw [<- JI];refine ⟨_,rfl,4,rfl,a,_,rfl,AY.seq hS,fun cl AS=>?_⟩;obtain ⟨cs,B8,Mf⟩:=rM ns (some 4) none
 try dsimp only
 rw [B8];have s5:L2.Same H4 (upd H4 cl (.lst (cs.map V.int))):=ad AS _;have e5:(upd H4 cl (.lst (cs.map V.int))) cl=some (.lst (cs.map V.int)):=ab;generalize (upd H4 cl (.lst (cs.map V.int)))=H5 at s5 e5 ⊢;have Pk:=Ja.trans s5;have Ng:=Pk _ _ EF
 have Nh:S * ((((yk.map V.ref).length:Nat):Int)+1)=((S.toNat * (ins.length+1):Nat):Int):=by
  rw [Uc,<- zE];have:((S.toNat:Nat):Int)=S:=by omega
  simp [this]
 have TY:S.toNat * (ins.length+1)<=100 * 5:=Nat.mul_le_mul (by omega) (by omega);refine ⟨_,rfl,_,rfl,ia,_,rfl,.inr (SqT.of Ng),_,_,rfl,rfl,_,_,rfl,rfl,.inl ⟨by omega,by omega⟩,_,_,rfl,rfl,cl,cs,_,rfl,e5,by omega,by rw [Nh];omega,by rw [Nh];omega,fun r ds H6 s6 er Bh=>?_⟩;rw [Nh] at Bh;have Ni:=Pk.trans s6;have C7:=s5.trans s6;refine ⟨_,rfl,_,rfl,_,rfl,_,rfl,r,ia,oa,ds,yk,yB,ins,outs,S,rfl,er,Ni _ _ EF,zO.mono (Same.kt Ni),gi,C7 _ _ AI,DY.mono (Same.kt C7),go,by omega,by omega,by omega,by omega,fun bk head rows H7 s7 J5 hok Pl=>?_⟩;exact q bk ins outs S head rows H7 (yL.trans (Ni.trans s7)) J5 gi BN go (by omega) hok Pl
inductive hX (P:Uz) (w:UN) (K:Ug) (vs:List V) (H:Hp) (Q:VK) (_E:XK):Prop
 | mk (b:Ui) (ins outs:List (US×Int)) (head:Th) (rows:List (List Th)) (yp:vs=[.ref b]) (yq:Bk H ins outs head rows b) (yz:FrK ins outs rows) (yF:bN outs) (yW:∀ (fl:Ui) (fs:List Ui) (f':List (aA×V)) (H':Hp),L2.Same H H'->H' fl=some (.lst (fs.map V.ref))->UX (fun s a=>AtK K H' ((frS ins rows s).cut (Dk f' (s:Nat)) []) a) (U1 rows.length) fs->FrD ins rows (f'.map (·.1))->tf ins rows f'->Q (.ref fl) H'):hX P w K vs H Q _E
def ny (P:Uz) (w:UN) (K:Ug):Sp:=hX P w K
theorem nC:bp P w K mg base CX0 8 T.g_fronts_of.f T.g_fronts_of.d ["book"] (ny P w K):=by
 refine T.g_fronts_of.F.ok fu (fun vs H Q E h=>?_) (fun yl A outer s0 H vs Q E hr h=>?_)
 · obtain ⟨b,ins,outs,head,rows,rfl,_⟩:=h;rfl
 obtain ⟨b,ins,outs,head,rows,rfl,hB,F,go,k⟩:=h
 refine ⟨_,(ae (cO (pcF T.g_found_fronts (fJ T) hr (aa (pv 0) ac)) (bz rfl (av (aj (i:=1) fu.nd rfl (UB rfl)) (av (aj (i:=2) fu.nd rfl (UB rfl)) aX))))
  (ag (aE (pv 1)))),?_⟩
 try dsimp only [yH,yh]
 refine ⟨_,rfl,b,ins,outs,head,rows,rfl,hB,F,go,fun r fl pt fs f' H1 s1 er C9 FK Gq hD hK=>?_⟩;exact ⟨r,_,rfl,SqT.of er,rfl,_,_,rfl,_,_,rfl,rfl,_,rfl,k fl fs f' H1 s1 C9 FK hD hK⟩
def di (t:Th):List (List Int):=((t.pl []).filter fun p=>p.2.isHole).map (·.1)
theorem kO (t:Th):(di t).length<=t.size:=by
 unfold di;rw [Uc];have:=WZ (fun p:List Int×Th=>p.2.isHole) (t.pl []);rw [Th.pl_len] at this;exact this
theorem lJ {t:Th} {pl:List Int}:pl∈di t↔∃ v,In t pl v/\v.isHole=true:=by
 unfold di;constructor
 · intro h;obtain ⟨x,hx,rfl⟩:=U5.mp h;obtain ⟨h1,h2⟩:=V7.mp hx;exact ⟨x.2,In.of _ (Uj _) h1,h2⟩
 · rintro ⟨v,h1,h2⟩;exact U5.mpr ⟨(pl,v),V7.mpr ⟨In.to h1,h2⟩,rfl⟩
theorem qM {D:List Int->Bool}:∀ (n:Nat) (t:Th) (pre pl:List Int) (v:Th),t.size<=n->t.noCall->In (t.cut D pre) pl v->v.isHole=true->D (pre++pl)=true∨∃ u,In t pl u/\u.isHole=true
 | 0,t,_,_,_,hn=>by have:=t.size_pos;omega
 | n+1,.call a b,_,_,_,_=>fun h=>by rw [Th.noCall] at h;exact h.elim
 | n+1,.knot m ks,pre,pl,v,hn=>fun hc hi hh=>by
   rw [Th.cut] at hi;by_cases hq:(Th.knot m ks).isHole=true∨D pre=true
   · rw [if_pos hq,hole] at hi;cases hi with
     | here =>
       rcases hq with h | h
       · exact .inr ⟨_,.here,h⟩
       · exact .inl (by rw [U6];exact h)
     | kid hj _=>simp at hj
   · rw [if_neg hq] at hi;cases hi with
     | here =>
       exfalso;refine hq (.inl ?_);rw [Th.isHole,decide_eq_true_iff] at hh ⊢;refine ⟨hh.1,VB.mp ?_⟩;rw [<- kK (D:=D) (pre:=pre) (i:=0),hh.2];rfl
     | kid hj hr =>
       rename_i j u r
       rw [jc,UU] at hj;obtain ⟨w,hw,rfl⟩:=hj;rw [Th.size] at hn;rw [Th.noCall] at hc;have hz:=aN (Uh hw);rcases qM n w _ r v (by omega) (cu hc (Uh hw)) hr hh with h | ⟨u,h1,h2⟩
       · refine .inl ?_;rw [VZ,Vo] at h;exact h
       · exact .inr ⟨u,.kid hw h1,h2⟩
theorem pi (D:List Int->Bool):∀ (n:Nat) (t:Th) (pre:List Int),t.size<=n->(t.cut D pre).tall<=t.tall
 | 0,t,_,hn=>by have:=t.size_pos;omega
 | n+1,.call a b,pre,hn=>by rw [Th.cut,hole,Th.tall,Th.tall,bE];exact Uj _
 | n+1,.knot m ks,pre,hn=>by
   rw [Th.cut];split
   · rw [hole,Th.tall,Th.tall,bE];omega
   · rw [Th.size] at hn;rw [Th.tall,Th.tall]
     have:bE (dS D pre 0 ks)<=bE ks:=ml fun t ht=>by
      obtain ⟨j,hj⟩:=UG.mp ht;rw [jc,UU] at hj;obtain ⟨u,hu,rfl⟩:=hj;have hm:=Uh hu;have h1:=aN hm;have h2:=bT hm;have h3:=pi D n u (pre++[0+(j:Int)]) (by omega);omega
     omega
def PrL (H:Hp) (R:Nat->List Int->Th->Th->Prop) (fr:Nat->Th) (N:Nat) (pl:Ui) (ls:List Ui):Prop:=H pl=some (.lst (ls.map V.ref))/\UX (fun s la=>∃ prs:List Ui,H la=some (.lst (prs.map V.ref))/\UX (fun h pr=>PtV H (R s h) (.ref pr)) (di (fr s)) prs) (U1 N) ls
def Rp (ins:List (US×Int)) (rows:List (List Th)) (M:Nat) (s:Nat) (h:List Int) (t1 t2:Th):Prop:=∃ j,j<M/\Vl0 ins rows j (nk (s:Nat) h) t1 t2
theorem mH {α:Type} {f:α->V} {R:α->Ui->Prop}:∀ {zs:List α},(∀ z∈zs,∃ a,f z=.ref a/\R z a)->∃ as:List Ui,zs.map f=as.map V.ref/\UX R zs as
 | [],_=>⟨[],rfl,.nil⟩
 | z::zs,h=>by
   refine hid fun ZZ kZ=>?_;obtain ⟨a,h1,h2⟩:=h z (UH ..);obtain ⟨as,h3,h4⟩:=mH (zs:=zs) fun y hy=>h y (UJ _ hy);refine kZ ?_;exact ⟨a::as,by rw [U8,U8,h1,h3],.cons h2 h4⟩
inductive fH (P:Uz) (w:UN) (K:Ug) (vs:List V) (H:Hp) (Q:VK) (_E:XK):Prop
 | mk (b:Ui) (ins outs:List (US×Int)) (head:Th) (rows:List (List Th)) (yp:vs=[.ref b]) (yq:Bk H ins outs head rows b) (yz:FrK ins outs rows) (yF:bN outs) (yW:∀ (pl:Ui) (ls:List Ui) (f':List (aA×V)) (H':Hp),L2.Same H H'->FrD ins rows (f'.map (·.1))->tf ins rows f'->PrL H' (Rp ins rows (iA ins rows).length) (fun s=>(frS ins rows s).cut (Dk f' (s:Nat)) []) rows.length pl ls->Q (.ref pl) H'):fH P w K vs H Q _E
def lM (P:Uz) (w:UN) (K:Ug):Sp:=fH P w K
set_option maxHeartbeats 1000000 in
theorem lf:bp P w K mg base CX0 8 T.g_partings_of.f T.g_partings_of.d ["book"] (lM P w K):=by
 refine T.g_partings_of.F.ok bX (fun vs H Q E h=>?_) (fun yl A outer s0 H vs Q E hr h=>?_)
 · obtain ⟨b,ins,outs,head,rows,rfl,_⟩:=h;rfl
 obtain ⟨b,ins,outs,head,rows,rfl,hB,F,go,k⟩:=h
 refine ⟨_,(ae (cO (pcF T.g_found_fronts (fJ T) hr (aa (pv 0) ac)) (bz rfl (av (aj (i:=1) bX.nd rfl (UB rfl)) (av (aj (i:=2) bX.nd rfl (Ym rfl)) aX))))
  (ae (au (i:=3) bX.nd rfl (UB rfl) (bo ac))
  (ae (bx UW rfl (ki rfl T.n_enumerate (pv 1)) (bz rfl (av (aj (i:=4) bX.nd rfl (Ym rfl)) (av (aj (i:=5) bX.nd rfl (UB rfl)) aX))) (ag (aQ (bL Uw UM UL aL (pv 3) (aa (cf (N:=[Um "place",Um "partings",Um "state"]) (js:=[none,some 2,some 4]) (g:=(aF 0)) (tt:=bG) (te:=(ui P w (bn 1) (ji (bm (bn 2) (bm (bn 0) dk))))) rfl (cB rfl (by decide +kernel) (by decide +kernel) rfl rfl rfl) (cz (pcF T.g_holes_in (jG T) hr (aa (pv 5) ac))) (fun _ _ _ _ _ _=>(aj (i:=0) wT rfl (UB rfl))) (aR rfl) (fun _ _ _ _ _ _=>bM) (fun _ _ _ _ _ _=>(pD (fZ hr) (pv 1) (aI (aa (pv 2) (aa (pv 0) ac))) (fun _ _=>rfl)))) ac)))))
  (ag (aE (pv 3)))))),?_⟩
 try dsimp only [yH,yh]
 refine ⟨_,rfl,b,ins,outs,head,rows,rfl,hB,F,go,fun r fl pt fs f' H1 s1 er C9 FK Gq hD hK=>?_⟩;refine ⟨r,_,rfl,SqT.of er,rfl,_,_,rfl,_,_,rfl,rfl,?_⟩;have hle:=F.le;have BW:(U1 rows.length).length=fs.length:=Uv FK;rw [UY] at BW;refine ⟨ai (by show 0<=1000000;decide),fun tl yG=>?_⟩;have So:H tl=none:=s1.free yG;have s2:L2.Same H1 (upd H1 tl (.lst [])):=ad yG _;have e2:(upd H1 tl (.lst [])) tl=some (.lst []):=ab;generalize (upd H1 tl (.lst []))=H2 at s2 e2 ⊢;refine ⟨_,rfl,fl,rfl,⟨_,SqL.of (s2 _ _ C9)⟩,?_⟩
 refine mS (K:=K) (a:=fl) (xs:=fs.map V.ref) (fun i σ H3=>Ex3 fun (c4 c5:Option V) (ls:List Ui)=>An4 (σ=[some (.ref b),some (.ref fl),some (.ref pt),some (.ref tl),c4,c5]) (L2.Same H1 H3) (H3 tl=some (.lst (ls.map V.ref))) (UX (fun s la=>la≠tl/\∃ prs:List Ui,H3 la=some (.lst (prs.map V.ref))/\UX (fun h pr=>PtV H3 (Rp ins rows (iA ins rows).length s h) (.ref pr)) (di ((frS ins rows s).cut (Dk f' (s:Nat)) [])) prs) (U1 i) ls))
  ⟨none,none,[],rfl,s2,e2,.nil⟩ (fun i σ H3 _ ⟨_,_,_,_,s3,_,_⟩=>SqL.of (s3 _ _ C9)) ?_ ?_
 · rintro i x pr σ H3 hx zX ⟨c4,c5,ls,rfl,s3,e3,CO⟩;obtain ⟨fa,rfl,y3⟩:=aU hx;have zE:=(Uk.mp y3).1;have EB:i<rows.length:=by omega
   obtain ⟨s',zo,zY⟩:=P2.get' FK y3;rw [Vp EB] at zo;cases zo;obtain ⟨z1,z2,z3⟩:=m5 F EB;have TZ:=oK (Dk f' (i:Nat)) _ (frS ins rows i) [] (Uj _);have Pm:=pi (Dk f' (i:Nat)) _ (frS ins rows i) [] (Uj _);have s4:L2.Same H3 (upd H3 pr (.tup [.int ((i:Nat):Int),.ref fa])):=ad zX _;have e4:(upd H3 pr (.tup [.int ((i:Nat):Int),.ref fa])) pr=some (.tup [.int ((i:Nat):Int),.ref fa]):=ab;generalize (upd H3 pr (.tup [.int ((i:Nat):Int),.ref fa]))=H4 at s4 e4 ⊢;refine ⟨pr,_,rfl,SqT.of e4,rfl,_,_,rfl,_,_,rfl,rfl,?_⟩;dsimp only [aF];have AY:=s3.trans s4;refine ⟨_,rfl,.inl ⟨rfl,_,SqL.of (s4 _ _ e3)⟩,_,rfl,fa,_,rfl,zY.mono (Same.kt AY),by omega,by omega,fun hl bs H5 s5 Fn yA=>?_⟩;have EH:=AY.trans s5;have Jd:UX (fun (p:List Int) b=>H5 b=some (.tup (p.map V.int))) (di ((frS ins rows i).cut (Dk f' (i:Nat)) [])) bs:=yA;have zL:(di ((frS ins rows i).cut (Dk f' (i:Nat)) [])).length=bs.length:=Uv Jd;have Eu:=kO ((frS ins rows i).cut (Dk f' (i:Nat)) []);have D0:=Gq.same EH
   have zP:∀ h∈di ((frS ins rows i).cut (Dk f' (i:Nat)) []),∃ pr,aV f' (nk (i:Nat) h)=some (.ref pr)/\PtV H5 (Rp ins rows (iA ins rows).length i h) (.ref pr):=fun h hh=>by
    obtain ⟨v,Je,Ki⟩:=lJ.mp hh
    have hm:nk (i:Nat) h∈f'.map (·.1):=by
     rcases qM _ _ [] h v (Uj _) z3 Je Ki with hd | ⟨u,h1,h2⟩
     · exact qd.mp hd
     · exact hD.hol i EB (h,u) (In.to h1) h2
    obtain ⟨j,hj⟩:=UG.mp hm;rw [Uo,UU] at hj;obtain ⟨kv,Gk,Im⟩:=hj;obtain ⟨p0,ta,tb,t1,t2,ev,q1,q2,q3,q4⟩:=D0.vl j kv Gk;have Bg:=(Uk.mp Gk).1;have hlen:=D0.len;rw [Im] at q4;refine ⟨p0,?_,p0,ta,tb,t1,t2,rfl,q1,q2,q3,j,by omega,q4⟩;cases CZ:aV f' (nk (i:Nat) h) with
    | none=>exact absurd hm (cY CZ)
    | some v' =>
      rw [<- Im] at CZ;rw [qD D0.nd Gk CZ,ev]
   refine ⟨hl,rfl,⟨_,SqL.of Fn⟩,ng (di ((frS ins rows i).cut (Dk f' (i:Nat)) [])) (fun h=>(aV f' (nk (i:Nat) h)).getD .non) (SqL.of Fn) (by rw [Uc];exact zL) (by rw [Uc];omega) (fun j x z H6 R W' hx hz s6 hR=>?_) (fun D H6 Pn s6 e6=>?_)⟩
   · obtain ⟨pb,rfl,BF⟩:=aU hx;have Gi:=iM Jd hz BF;obtain ⟨p0,hv,_⟩:=zP z (Uh hz);refine ⟨_,rfl,_,rfl,_,rfl,ai (by show 2<=1000000;decide),fun kp BU=>?_⟩;have s7:L2.Same H6 (upd H6 kp (.tup [.int ((i:Nat):Int),.ref pb])):=ad BU _;refine ⟨pt,kp,nk (i:Nat) z,f',.ref p0,rfl,rfl,D0.dm.mono (s6.trans s7),lA ab ((s6.trans s7) _ _ Gi),hv,?_⟩;have:=hR _ s7;rw [hv] at this;exact this
   · have yx:D≠tl:=fun z=>by rw [z,(s4.trans s5) _ _ e3] at Pn;cases Pn
     have FD:=EH.trans s6
     obtain ⟨prs,ep,hp⟩:∃ prs:List Ui,(di ((frS ins rows i).cut (Dk f' (i:Nat)) [])).map (fun h=>(aV f' (nk (i:Nat) h)).getD .non)=prs.map V.ref/\UX (fun h pr=>PtV H6 (Rp ins rows (iA ins rows).length i h) (.ref pr)) (di ((frS ins rows i).cut (Dk f' (i:Nat)) [])) prs :=
      mH fun h hh=>by
       obtain ⟨p0,h1,h2⟩:=zP h hh;exact ⟨p0,by rw [h1];rfl,h2.mono (Same.kt s6)⟩
     rw [ep] at e6;have Jf:=(s4.trans (s5.trans s6)) _ _ e3;have Lc:(U1 i).length=ls.length:=Uv CO;rw [UY] at Lc;refine ⟨tl,_,_,rfl,rfl,Jf,aH (by rw [Uc];omega),?_⟩;have k7:KT H6 (upd H6 tl (.lst (ls.map V.ref++[.ref D]))):=aS Jf;refine ⟨_,_,ls++[D],rfl,aw FD yG,by rw [ab,Ux];rfl,?_⟩;rw [Y9];refine P2.append (P2.mp (fun s la ⟨h1,Nj,h2,h3⟩=>⟨h1,Nj,by rw [ak h1];exact (s4.trans (s5.trans s6)) _ _ h2,P2.mp (fun _ _ e=>(e.mono (Same.kt (s4.trans (s5.trans s6)))).mono k7) h3⟩) CO) (.cons ⟨yx,prs,by rw [ak yx];exact e6,P2.mp (fun _ _ e=>e.mono k7) hp⟩ .nil)
 · rintro σ H3 ⟨c4,c5,ls,rfl,s3,e3,CO⟩;rw [Uc,<- BW] at CO;exact ⟨_,rfl,k tl ls f' H3 (s1.trans s3) hD hK ⟨e3,P2.mp (fun _ _ ⟨_,h⟩=>h) CO⟩⟩
mutual
def Th.Fo (outs:List (US×Int)):Th->Prop
 | .knot n ks=>(n=star/\ks=[])∨((n,(ks.length:Int))∈outs/\n≠star/\Fos outs ks)
 | .call _ _=>False
def Fos (outs:List (US×Int)):List Th->Prop
 | []=>True
 | t::ts=>Th.Fo outs t/\Fos outs ts
end
theorem ja {outs:List (US×Int)}:∀ {ts:List Th} {t:Th},Fos outs ts->t∈ts->Th.Fo outs t
 | [],t,_,h=>(Xi h).elim
 | u::ts,t,h,hm=>by
   rw [Fos] at h;rcases UK.mp hm with rfl | hm
   · exact h.1
   · exact ja h.2 hm
theorem pV {outs:List (US×Int)}:∀ {ts:List Th},(∀ t∈ts,Th.Fo outs t)->Fos outs ts
 | [],_=>by rw [Fos];trivial
 | t::ts,h=>by rw [Fos];exact ⟨h t (UH ..),pV fun u hu=>h u (UJ _ hu)⟩
def cW (K:Ug):Nat->Sp
 | 0=>fun _ _ _ _=>False
 | n+1=>fun vs H Q _=>∃ (oa x:Ui) (yB:List Ui) (outs:List (US×Int)) (f:Th),vs=[.ref oa,.ref x]/\H oa=some (.tup (yB.map V.ref))/\KsAt H outs yB/\AtK K H f x/\Th.Fo outs f/\f.size<=1000/\f.tall<=n+1/\∀ H',L2.Same H H'->Q (.bl true) H'
set_option maxHeartbeats 1000000 in
theorem eR:∀ n:Nat,bp P w K mg base CX0 n T.g__law_is_front.f T.g__law_is_front.d ["outs","front"] (cW K n)
 | 0=>⟨fun _ _ _ _ h=>h.elim,fun _ _ _ _ _ _ _ _ _ _ _ _ _ h=>h.elim⟩
 | n+1=>by
   have ih:=eR n;refine T.g__law_is_front.F.ok jh (fun vs H Q E h=>?_) (fun yl A outer s H vs Q E hr h=>?_)
   · obtain ⟨oa,x,yB,outs,f,rfl,_⟩:=h;rfl
   obtain ⟨oa,x,yB,outs,f,rfl,eo,Az,hx,hF,hsz,yG,k⟩:=h
   refine ⟨_,(ae (bI (PW.pt (dj (dN (aY (az (sJ (T:="tuple")) rfl T.n_isinstance VM (aa (pv 1) (aa (ef (v:=.ty "tuple") rfl T.n_tuple VI rfl) ac))) (fun _=>rfl))) (dj (aK cG (az ao rfl T.n_len UT (aa (pv 1) ac)) af (aO _)) (dh (dN (aY (az (cH (T:="str")) rfl T.n_isinstance VM (aa (ay aB (pv 1) af (fun _ _=>rfl)) (aa (ef (v:=.ty "str") rfl T.n_str PyProof.Rows.boot_str rfl) ac))) (fun _=>rfl))))))) (ag (aE fI)) bi)
    (ae (bI (aK cG (ay aB (pv 1) af (fun _ _=>rfl)) eG (aO _)) (ag (aE (i7 cG (az ao rfl T.n_len UT (aa (pv 1) ac)) af (aO _)))) bi)
    (ae (bI (aK (mz (B:=50) (qW hr)) (aI (aa (ay aB (pv 1) af (fun _ _=>rfl)) (aa (ax f9 (az ao rfl T.n_len UT (aa (pv 1) ac)) af) ac))) (pv 0) (by with_unfolding_all rfl)) (ag (aE fI)) bi)
    (ag (aE (az (oz rfl) rfl T.n_all PyProof.Rows.boot_all (aa (cf (N:=[Um "part",Um "outs"]) (js:=[none,some 0]) (g:=(aF 0)) (tt:=bG) (te:=(fR (cW K _) [] E0 (bm (bn 1) (bm (bn 0) dk)))) rfl (cB rfl (by decide +kernel) (by decide +kernel) rfl rfl rfl) (f6 (bj dF (pv 1) (bA af) bR)) (fun _ _ _ _ _ _=>(aj (i:=0) xk rfl (UB rfl))) (aR rfl) (fun _ _ _ _ _ _=>bM) (fun _ _ _ _ _ _=>(fB (ih) (hr.mono (Uj _)) rfl T.g__law_is_front.m T.g__law_is_front.F.kp T.g__law_is_front.b .nil lB (aa (pv 1) (aa (pv 0) ac))))) ac))))))),?_⟩
   try dsimp only [yH,yh]
   cases f with
   | call s k=>rw [Th.Fo] at hF;exact hF.elim
   | knot nm ks =>
   rw [AtK] at hx;refine hid fun ZZ kZ=>?_;obtain ⟨Jg,ka,ea,yY⟩:=hx;refine kZ ?_;have ze:ka.length=ks.length:=yY.length;have Ge:=bJ ks;rw [Th.size] at hsz;rw [Th.tall] at yG;rw [Th.Fo] at hF;have hle:outs.length=yB.length:=Uv Az;have el:(((V.str nm::ka.map V.ref).length:Nat):Int)=(ks.length:Int)+1:=by rw [Ut,Uc,ze];omega
   refine ⟨_,rfl,.inr ⟨_,_,_,rfl,ea.sq,qg,_,rfl,?_⟩⟩;refine cP ?_;refine ⟨_,rfl,x,_,rfl,.inr ea.sq,rfl,_,rfl,?_⟩;rw [el,decide_eq_false (show V.int ((ks.length:Int)+1)≠V.int 0 from fun z=>by have:=V.int.inj z;omega)];refine cP ?_;refine ⟨_,rfl,x,_,0,.str nm,rfl,rfl,ea.sq,at0,_,_,_,rfl,.str nm,tK,_,rfl,?_⟩;refine cP ?_;refine ⟨_,rfl,x,_,0,.str nm,rfl,rfl,ea.sq,at0,rfl,_,rfl,?_⟩;refine cX (fun c1=>?_) (fun c1=>?_)
   · have yM:nm=star:=V.str.inj (of_decide_eq_true c1);rcases hF with ⟨_,rfl⟩ | ⟨_,h,_⟩
     · refine ⟨_,rfl,x,_,rfl,.inr ea.sq,rfl,?_⟩;rw [el];exact k H (.refl _)
     · exact absurd yM h
   rcases hF with ⟨h,_⟩ | ⟨zj,BL,zW⟩
   · exact absurd (by rw [h];exact decide_eq_true rfl) c1
   refine ⟨_,rfl,x,_,0,.str nm,rfl,rfl,ea.sq,at0,_,rfl,x,_,rfl,.inr ea.sq,_,_,rfl,rfl,ai (by show 2<=1000000;decide),fun p hp=>?_⟩;rw [el];have Dx:(ks.length:Int)+1 - 1=(ks.length:Int):=by omega
   dsimp only;rw [Dx];have s1:L2.Same H (upd H p (.tup [.str nm,.int (ks.length:Int)])):=ad hp _;have e1:(upd H p (.tup [.str nm,.int (ks.length:Int)])) p=some (.tup [.str nm,.int (ks.length:Int)]):=ab;generalize (upd H p (.tup [.str nm,.int (ks.length:Int)]))=H1 at s1 e1 ⊢;have CS:=kI outs;refine ⟨_,rfl,oa,_,kDv (nm,(ks.length:Int)),outs.map kDv,rfl,SqT.of (s1 _ _ eo),?_,tF (Az.mono (Same.kt s1)),by omega,fun r BQ=>⟨_,rfl,?_⟩⟩
   · rw [kDv,DAt];exact ⟨_,_,rfl,e1,.cons (by rw [DAt]) (.cons (by rw [DAt]) .nil)⟩
   have Nk:r=false:=by
    cases r with
    | false=>rfl
    | true=>exact absurd (List.mem_map_of_mem zj) (BQ.mp rfl)
   subst Nk;refine cP ?_;have M3:=ea.mono (Same.kt s1);refine ⟨_,rfl,1,rfl,x,_,rfl,M3.sq,?_,fun p3 Fz=>?_⟩
   · rintro ⟨z,_⟩;rw [Ut,show (1:Int)=((1:Nat):Int) by rfl,HT.sIx_nat] at z;omega
   dsimp only;rw [de];have s2:L2.Same H1 (upd H1 p3 (.tup (ka.map V.ref))):=ad Fz _;have e2:(upd H1 p3 (.tup (ka.map V.ref))) p3=some (.tup (ka.map V.ref)):=ab;generalize (upd H1 p3 (.tup (ka.map V.ref)))=H2 at s2 e2 ⊢;have AW:=s1.trans s2;refine ⟨p3,rfl,⟨_,SqT.of e2⟩,?_⟩;intro D hD;refine ⟨ks.length,fun j H3=>An3 (j<=ks.length) (L2.Same H2 H3) (H3 D=some (.lst ((Wf j true).map V.bl))),⟨UO _,ad hD _,ab⟩,?_⟩;rintro j H3 ⟨hj,s3,eD⟩;by_cases AV:j=ks.length
   · left;refine ⟨⟨_,SqT.of (s3 _ _ e2),by rw [Uc,ze,AV];exact Uj _⟩,?_⟩;refine ⟨D,Wf j true,rfl,SqL.of eD,?_⟩;rw [show (Wf j true).all id=true from WS.mpr fun b hb=>(List.mem_replicate.mp hb).2];exact k H3 (AW.trans s3)
   · right;have yv:j<ks.length:=by omega
     refine hid fun ZZ kZ=>?_;obtain ⟨f,hf⟩:∃ f,ks[j]?=some f:=⟨_,Ue yv⟩;obtain ⟨fa,y3,Nl⟩:=yY.at hf;refine kZ ?_;have FL:f∈ks:=Uh hf;have h1:=bT FL;have h2:=aN FL;have h3:=f.tall_eq;refine ⟨yv,⟨_,.ref fa,SqT.of (s3 _ _ e2),by rw [Uo,y3];rfl⟩,?_⟩;rintro x' H4 ⟨Av,hv⟩;have FN:H4=H3:=Av;subst FN;have yK:=hv _ (SqT.of (s3 _ _ e2));rw [Uo,y3] at yK;cases yK;have Fj:=AW.trans s3;obtain ⟨m,rfl⟩:∃ m,n=m+1:=⟨n - 1,by omega⟩;refine ⟨_,rfl,_,rfl,oa,fa,yB,outs,f,rfl,Fj _ _ eo,Az.mono (Same.kt Fj),Nl.mono (Same.kt Fj),ja zW FL,by omega,by omega,fun H5 s5=>?_⟩;have Sq:=s5 _ _ eD;refine ⟨_,Sq,aH (by rw [Uc,Xv];omega),yv,aw (s3.trans s5) hD,?_⟩;rw [ab,List.replicate_succ',Ux];rfl
theorem kj (pre:List Int):∀ (a b:List Th) (i:Int),pls pre i (a++b)=pls pre i a++pls pre (i+(a.length:Int)) b
 | [],b,i=>by rw [Wh,pls,Wh];simp
 | t::a,b,i=>by
   rw [Wm,pls,pls,kj pre a b (i+1),Vo,Ut];rw [show i+1+(a.length:Int)=i+((a.length+1:Nat):Int) by omega]
def lT (ks:List Th) (i:Nat):List (List Int):=((pls [] 0 (ks.take i)).filter fun p=>p.2.isHole).map (·.1)
theorem mE (ks:List Th):lT ks 0=[]:=by unfold lT;rw [WV,pls];rfl
theorem mU {ks:List Th} {i:Nat} {u:Th} (h:ks[i]?=some u):lT ks (i+1)=lT ks i++(di u).map fun p=>(i:Int)::p:=by
 have hi:=(Uk.mp h).1;unfold lT di;rw [take_snoc h,kj,X6,Ux,pls,pls,U6,UQ,Yu (by omega),VZ];have e:=qu u [(i:Int)] [];rw [U6] at e;rw [Wh,e,List.filter_map,Wi,Wi];rfl
theorem rJ {n:US} {ks:List Th} (h:(Th.knot n ks).isHole=false):di (.knot n ks)=lT ks ks.length:=by
 unfold di lT;rw [Vx (Uj _),Th.pl,Wa,if_neg (by rw [h];exact UI)]
theorem rK:di hole=[[]]:=by
 unfold di;rw [hole,Th.pl,pls,Wa,if_pos (by exact fW)];rfl
inductive gb (K:Ug) (n:Nat) (vs:List V) (H:Hp) (Q:VK) (_E:XK):Prop
 | mk (a:Ui) (t:Th) (outs:List (US×Int)) (yp:vs=[.ref a]) (yq:AtK K H t a) (yz:Th.Fo outs t) (yF:t.tall<=n) (yW:t.size<=1000) (Aa:∀ (r:Ui) (bs:List Ui) (H':Hp),L2.Same H H'->H r=none->H' r=some (.lst (bs.map V.ref))->UX (PlAt H') (di t) bs->Q (.ref r) H'):gb K n vs H Q _E
def l4 (K:Ug) (n:Nat):Sp:=gb K n
set_option maxHeartbeats 1000000 in
theorem ik:∀ n:Nat,bp P w K mg base CX0 n T.g__law_holes.f T.g__law_holes.d ["front"] (l4 K n)
 | 0=>⟨fun _ _ _ _ h=>by obtain ⟨_,t,_,_,_,_,h1,_⟩:=h;have:=t.tall_eq;omega,fun _ _ _ _ _ _ _ _ _ _ _ _ _ h=>by obtain ⟨_,t,_,_,_,_,h1,_⟩:=h;have:=t.tall_eq;omega⟩
 | n+1=>by
   have ih:=ik n;refine T.g__law_holes.F.ok db (fun vs H Q E h=>?_) (fun yl A outer s H vs Q E hr h=>?_)
   · obtain ⟨a,t,outs,rfl,_⟩:=h;rfl
   obtain ⟨a,t,outs,rfl,hA,hF,yG,hsz,q⟩:=h
   refine ⟨_,(ae (bI (aK cG (ay aB (pv 0) af (fun _ _=>rfl)) eG (aO _)) (ag (aE (bo (aa (aI ac) ac)))) bi)
    (ae (au (i:=1) db.nd rfl (UB rfl) (bo ac))
    (ae (bx UW rfl (gJ rfl T.n_range (aa af (aa (az ao rfl T.n_len UT (aa (pv 0) ac)) ac))) (aj (i:=2) db.nd rfl (Ym rfl)) (ag (au (i:=1) db.nd rfl (UB rfl) (ax tS (pv 1) (cf (N:=[Um "place",Um "k"]) (js:=[none,some 2]) (g:=(aF 0)) (tt:=bG) (te:=(tOp (kR K) (ji (bm (tOp (rI0 fun i j=>.int (i - j)) (bn 1) (tC (.int 1))) dk)) (bn 0))) rfl (cB rfl (by decide +kernel) (by decide +kernel) rfl rfl rfl) (cz (fB (ih) (hr.mono (Uj _)) rfl T.g__law_holes.m T.g__law_holes.F.kp T.g__law_holes.b .nil lB (aa (ay aB (pv 0) (pv 2) (fun _ _=>rfl)) ac))) (fun _ _ _ _ _ _=>(aj (i:=0) vM rfl (UB rfl))) (aR rfl) (fun _ _ _ _ _ _=>bM) (fun _ _ _ _ _ _=>(ax cM (aI (aa (ax f9 (pv 1) af) ac)) (pv 0))))))))
    (ag (aE (pv 1)))))),?_⟩
   try dsimp only [yH,yh]
   cases t with
   | call s k=>rw [Th.Fo] at hF;exact hF.elim
   | knot nm ks =>
   have Dg:=hA;rw [AtK] at hA;refine hid fun ZZ kZ=>?_;obtain ⟨Jg,yy,ea,yS⟩:=hA;refine kZ ?_;have ze:yy.length=ks.length:=yS.length;have zW:=bJ ks;rw [Th.size] at hsz;rw [Th.tall] at yG;refine ⟨_,rfl,a,_,0,.str nm,rfl,rfl,ea.sq,at0,rfl,_,rfl,?_⟩;rw [Th.Fo] at hF;refine cX (fun c1=>?_) (fun c1=>?_)
   · have yM:nm=star:=V.str.inj (of_decide_eq_true c1);rcases hF with ⟨_,rfl⟩ | ⟨_,h,_⟩
     · refine ⟨ai (by show 0<=1000000;decide),fun ep MZ=>?_⟩;refine ⟨ai (by show 1<=1000000;decide),fun fl BW=>?_⟩;have s1:L2.Same H (upd H ep (.tup [])):=ad MZ _;have s2:=ad BW (.lst [.ref ep]);refine q fl [ep] _ (s1.trans s2) (s1.free BW) ab ?_;rw [yM];show UX _ (di hole) _;rw [rK];exact .cons (s2 _ _ ab) .nil
     · exact absurd yM h
   rcases hF with ⟨h,_⟩ | ⟨zj,BL,Nm⟩
   · exact absurd (by rw [h];exact decide_eq_true rfl) c1
   have BC:(Th.knot nm ks).isHole=false:=by rw [Th.isHole,decide_eq_false_iff_not];exact fun z=>BL z.1
   refine ⟨ai (by show 0<=1000000;decide),fun fl BW=>?_⟩;have s2:L2.Same H (upd H fl (.lst [])):=ad BW _;have e2:(upd H fl (.lst [])) fl=some (.lst (([]:List Ui).map V.ref)):=ab
   try dsimp only [aF]
   generalize (upd H fl (.lst []))=H2 at s2 e2 ⊢;refine ⟨_,rfl,a,_,rfl,.inr ((ea.mono (Same.kt s2)).sq),1,_,rfl,⟨by decide,by decide,by rw [Ut,Uc];omega,by rw [Ut,Uc];omega⟩,?_⟩;have ED:((((V.str nm::yy.map V.ref).length:Nat):Int) - 1).toNat=ks.length:=by rw [Ut,Uc];omega
   rw [ED]
   refine bP (n:=ks.length) (fun i σ H3=>Ex3 fun (kv:Option V) (fl:Ui) (bs:List Ui)=>An6 (σ=[some (.ref a),some (.ref fl),kv]) (L2.Same H H3) (H fl=none) (H3 fl=some (.lst (bs.map V.ref))) (UX (PlAt H3) (lT ks i) bs) ((lT ks i).length<=aq (ks.take i)))
    ⟨none,fl,[],rfl,s2,BW,e2,by rw [mE];exact .nil,by rw [mE];exact UO _⟩ ?_ ?_
   · rintro i σ H3 hi ⟨kv,fl,bs,rfl,s3,EC,e3,yT,y8⟩;have yX:i<ks.length:=hi;have F':=ea.mono (Same.kt s3);refine hid fun ZZ kZ=>?_;obtain ⟨u,hu⟩:∃ u,ks[i]?=some u:=⟨_,Ue yX⟩;obtain ⟨ka,yY,IW⟩:=yS.at hu;refine kZ ?_;have Gu:=Uh hu;have JV:=bT Gu;have R7:=aN Gu
     have yM:aq (ks.take i)+u.size<=aq ks:=by
      have h1:aq (ks.take (i+1))+aq (ks.drop (i+1))=aq ks:=by rw [<- bd,Ze]
      rw [take_snoc hu,bd,aq,aq] at h1;omega
     refine ⟨_,rfl,_,rfl,_,rfl,a,_,_,.ref ka,rfl,rfl,F'.sq,at_nonneg (by omega) (by rw [show (1+(i:Int)).toNat=i+1 by omega,Vf,Uo,yY];rfl),ka,u,outs,rfl,IW.mono (Same.kt s3),ja Nm Gu,by omega,by omega,fun r Br H4 s4 nr er C4=>?_⟩;have DX:(di u).length=Br.length:=Uv C4;have zL:(lT ks i).length=bs.length:=Uv yT;have Om:=kO u;refine ⟨r,rfl,⟨_,SqL.of er⟩,gO (F:=PlAt) (xs:=Br.map V.ref) ((di u).map fun p=>(i:Int)::p) (fun H1 H2 z p kt h=>h.mono kt) (by rw [Uc,Uc];exact DX) (by rw [Uc];omega) (fun j Hx sx hj=>⟨_,_,SqL.of (sx _ _ er),Ue hj⟩) (fun Hx sx=>⟨_,SqL.of (sx _ _ er),Uj _⟩) (fun j Hx x Hy sx hj hy=>⟨hy.1,hy.2 _ (SqL.of (sx _ _ er))⟩) (fun j x z Hx R W' hx Ao sx hR=>?_) (fun D H5 C5 hD s5 eD Bn=>?_)⟩
     · obtain ⟨pb,rfl,BF⟩:=aU hx;rw [Uo] at Ao;obtain ⟨p,hp,rfl⟩:=UU.mp Ao;have M0:PlAt Hx p pb:=(iM C4 hp BF).mono (Same.kt sx);obtain ⟨v,Je,Ki⟩:=lJ.mp (Uh hp);have FF:=oR _ u [] (Uj _) _ (In.to Je);have M1:=cA u;rw [WI] at FF;dsimp only at FF;refine ⟨_,rfl,_,_,rfl,rfl,ai (by show 1<=1000000;decide),fun k1 Kb=>?_⟩;have t1:L2.Same Hx (upd Hx k1 (.tup [.int (1+(i:Int) - 1)])):=ad Kb _;have f1:(upd Hx k1 (.tup [.int (1+(i:Int) - 1)])) k1=some (.tup [.int (i:Int)]):=by rw [ab,show 1+(i:Int) - 1=(i:Int) by omega]
       try dsimp only
       generalize (upd Hx k1 (.tup [.int (1+(i:Int) - 1)]))=Hy at t1 f1 ⊢;refine ⟨_,rfl,?_⟩;refine j1 f1 (t1 _ _ M0) (by rw [Uc];show 1+p.length<=1000000;omega) fun p3 H7 s7 e7=>?_;exact hR H7 p3 (t1.trans s7) e7
     have C6:((di u).map fun p=>(i:Int)::p).length=C5.length:=Uv Bn;rw [Uc] at C6;have FG:=(s4.trans s5) _ _ e3;refine ⟨fl,D,_,_,rfl,rfl,FG,eD,ai (by rw [Uc,Uc];omega),fun nl Ck=>?_⟩;have s6:L2.Same H5 (upd H5 nl (.lst (bs.map V.ref++C5.map V.ref))):=ad Ck _;have C7:=s4.trans (s5.trans s6);refine ⟨_,nl,bs++C5,rfl,s3.trans C7,(s3.trans (s4.trans s5)).free Ck,by rw [ab,Ux],?_,?_⟩
     · rw [mU hu];exact P2.append (P2.mp (fun _ _ e=>PlAt.mono (Same.kt C7) e) yT) (P2.mp (fun _ _ e=>PlAt.mono (Same.kt s6) e) Bn)
     · rw [mU hu,UE,Uc,take_snoc hu,bd,aq,aq];omega
   · rintro σ H3 ⟨kv,fl,bs,rfl,s3,EC,e3,yT,y8⟩;rw [<- rJ BC] at yT;exact ⟨_,rfl,q fl bs H3 s3 EC e3 yT⟩
def gd:Nat->Sp
 | 0=>fun _ _ _ _=>False
 | n+1=>fun vs H Q _=>∃ (x y:Ui) (l r:Th) (outs:List (US×Int)) (S:Int),vs=[.ref x,.ref y]/\At H l x/\At H r y/\bN outs/\Th.Fo outs l/\r.FitS outs S 0/\l.tall<=n+1/\l.size<=100000/\∀ (m:Ui) (H':Hp),L2.Same H H'->At H' (l.com r) m->Q (.ref m) H'
set_option maxHeartbeats 1000000 in
theorem gj:∀ n:Nat,bp P w K mg base CX0 (n+1) T.g__law_common.f T.g__law_common.d ["one","two"] (gd n)
 | 0=>⟨fun _ _ _ _ h=>h.elim,fun _ _ _ _ _ _ _ _ _ _ _ _ _ h=>h.elim⟩
 | n+1=>by
   have ih:=gj n;refine T.g__law_common.F.ok (k:=n+1) lv (fun vs H Q E h=>?_) (fun yl A outer s H vs Q E hr h=>?_)
   · obtain ⟨x,y,l,r,outs,S,rfl,_⟩:=h;rfl
   obtain ⟨x,y,l,r,outs,S,rfl,hx,hy,go,hF,Gx,yG,hsz,k⟩:=h
   refine ⟨_,(ae (bI (PW.pt (dj (aK cG (ay aB (pv 0) af (fun _ _=>rfl)) eG (aO _)) (dh (aK oM (ay aB (pv 0) af (fun _ _=>rfl)) (ay aB (pv 1) af (fun _ _=>rfl)) (aO _))))) (ag (aE (aI (aa eG ac)))) bi)
    (ag (aE (ax cM (aI (aa (ay aB (pv 0) af (fun _ _=>rfl)) ac)) (cy bV rfl T.n_tuple VI (aa (cf (N:=[Um "k",Um "one",Um "two"]) (js:=[none,some 0,some 1]) (g:=(aF 0)) (tt:=bG) (te:=(fR (gd _) [] E0 (bm (tOp (rN K) (bn 1) (bn 0)) (bm (tOp (rN K) (bn 2) (bn 0)) dk)))) rfl (cB rfl (by decide +kernel) (by decide +kernel) rfl rfl rfl) (gJ rfl T.n_range (aa af (aa (az ao rfl T.n_len UT (aa (pv 0) ac)) ac))) (fun _ _ _ _ _ _=>(aj (i:=0) wW rfl (UB rfl))) (aR rfl) (fun _ _ _ _ _ _=>bM) (fun _ _ _ _ _ _=>(fB (ih) (hr.mono (Uj _)) rfl T.g__law_common.m T.g__law_common.F.kp T.g__law_common.b .nil lB (aa (ay aB (pv 1) (pv 0) (fun _ _=>rfl)) (aa (ay aB (pv 2) (pv 0) (fun _ _=>rfl)) ac))))) ac)))))),?_⟩
   try dsimp only [yH,yh]
   cases l with
   | call u v=>rw [Th.Fo] at hF;exact hF.elim
   | knot nm ks =>
   cases r with
   | call u v=>rw [Th.FitS] at Gx;omega
   | knot rm us =>
   have FO:=Gx;rw [Th.FitS] at FO;rw [At] at hx hy;refine hid fun ZZ kZ=>?_;obtain ⟨Jg,ka,ea,yY⟩:=hx;obtain ⟨Kk,ua,eu,Er⟩:=hy;refine kZ ?_
   have fin:aC (Th.knot nm ks) (.knot rm us)=false->∀ h0,H h0=none->Q (.ref h0) (upd H h0 (.tup [.str star])):=fun yM h0 Gh=>by
    rw [dI,yM,if_neg UI] at k;exact k h0 _ (ad Gh _) (uS ab)
   rw [Th.Fo] at hF;refine cI (fun bb H'=>An2 (H=H') (bb=!aC (Th.knot nm ks) (.knot rm us))) (fun k2 zJ=>?_) (fun H' hb=>?_) (fun H' hb=>?_)
   · refine ⟨_,rfl,x,_,0,.str nm,rfl,rfl,SqT.of ea,at0,rfl,_,rfl,?_⟩;refine cX (fun c1=>?_) (fun c1=>?_)
     · have yM:nm=star:=V.str.inj (of_decide_eq_true c1);refine zJ _ _ ⟨rfl,?_⟩;rcases hF with ⟨_,rfl⟩ | ⟨_,h,_⟩
       · have:(Th.knot nm []).isHole=true:=by rw [Th.isHole];exact decide_eq_true ⟨yM,rfl⟩
         rw [aC,this];rfl
       · exact absurd yM h
     have BL:nm≠star:=fun z=>c1 (by rw [z];exact decide_eq_true rfl);rcases hF with ⟨h,_⟩ | ⟨zj,_,_⟩
     · exact absurd h BL
     have BC:(Th.knot nm ks).isHole=false:=by rw [Th.isHole,decide_eq_false_iff_not];exact fun z=>BL z.1
     refine ⟨_,rfl,x,_,0,.str nm,rfl,rfl,SqT.of ea,at0,_,rfl,y,_,0,.str rm,rfl,rfl,SqT.of eu,at0,rfl,_,rfl,zJ _ _ ⟨rfl,?_⟩⟩;by_cases e:nm=rm
     · subst e;obtain ⟨i1,g1⟩:=UG.mp zj;obtain ⟨i2,g2⟩:=UG.mp FO.1;have:=go.nd i1 i2 _ _ g1 g2 rfl;subst this;rw [g1] at g2;injection g2 with g2;injection g2 with _ g2;rw [fj BC (by omega),decide_eq_true rfl]
     · have h1:aC (Th.knot nm ks) (.knot rm us)=false:=by
        rw [aC,decide_eq_false e,Yd,Bool.false_and]
       rw [h1,decide_eq_false (fun z=>e (V.str.inj z))]
   · obtain ⟨rfl,hb⟩:=hb
     have yM:aC (Th.knot nm ks) (.knot rm us)=false:=by
      cases hz:aC (Th.knot nm ks) (.knot rm us) with
      | false=>rfl
      | true=>rw [hz] at hb;cases hb
     exact ⟨ai (by show 1<=1000000;decide),fun h0 Gh=>fin yM h0 Gh⟩
   refine hid fun ZZ kZ=>?_;obtain ⟨rfl,hb⟩:=hb
   have yM:aC (Th.knot nm ks) (.knot rm us)=true:=by
    cases hz:aC (Th.knot nm ks) (.knot rm us) with
    | true=>rfl
    | false=>rw [hz] at hb;cases hb
   obtain ⟨T1,Qq,T2,e1,e2,OC,BC⟩:=bu yM;refine kZ ?_;cases e1;cases e2
   have Nm:Fos outs ks:=by
    rcases hF with ⟨h1,h2⟩ | ⟨_,_,h⟩
    · rw [Th.isHole,decide_eq_true ⟨h1,h2⟩] at BC;cases BC
    · exact h
   have Nn:(Th.knot nm ks).com (.knot nm us)=.knot nm (cU ks us):=by rw [Th.com,if_pos yM];rfl
   rw [Nn] at k;dsimp only [j9];have ze:ka.length=ks.length:=yY.length;have LM:ua.length=us.length:=Er.length;have Ge:=bJ ks;rw [Th.size] at hsz;rw [Th.tall] at yG;refine ⟨_,rfl,x,_,0,.str nm,rfl,rfl,SqT.of ea,at0,ai (by show 1<=1000000;decide),fun p1 zT=>?_⟩;dsimp only;have s1:L2.Same H (upd H p1 (.tup [.str nm])):=ad zT _;have e1:(upd H p1 (.tup [.str nm])) p1=some (.tup [.str nm]):=ab;generalize (upd H p1 (.tup [.str nm]))=H1 at s1 e1 ⊢;refine ⟨_,rfl,x,_,rfl,.inr (SqT.of (s1 _ _ ea)),_,_,rfl,⟨by decide,by decide,by omega,by rw [Ut,Uc];omega⟩,?_⟩;intro D hD;have Ck:(((V.str nm::ka.map V.ref).length:Int) - 1).toNat=ks.length:=by rw [Ut,Uc,ze];omega
   refine ⟨ks.length,fun j H3=>An3 (j<=ks.length) (L2.Same H1 H3) (Ex1 fun (bs:List Ui)=>An2 (H3 D=some (.lst (bs.map V.ref))) (Ats H3 (cU (ks.take j) (us.take j)) bs)),⟨UO _,ad hD _,[],ab,by rw [WV,cU];exact .nil⟩,?_⟩;rintro j H3 ⟨hj,s3,bs,eD,yA⟩
   have zL:bs.length<=ks.length:=by
    have:=yA.length;rw [fT,Uc,WH,UQ,UQ] at this;omega
   by_cases AV:j=ks.length
   · left;refine ⟨(by show (((V.str nm::ka.map V.ref).length:Int) - 1).toNat<=j;rw [Ck,AV];exact Uj _),?_⟩;rw [AV,V9,OC,V9] at yA;refine ⟨D,_,rfl,.inl ⟨SqL.of eD,fun tp DC=>?_⟩⟩;have s4:L2.Same H3 (upd H3 tp (.tup (bs.map V.ref))):=ad DC _;have e4:(upd H3 tp (.tup (bs.map V.ref))) tp=some (.tup (bs.map V.ref)):=ab;generalize (upd H3 tp (.tup (bs.map V.ref)))=H4 at s4 e4 ⊢;have AY:=s3.trans s4;refine j1 (AY _ _ e1) e4 (by rw [Uc];show 1+bs.length<=1000000;omega) fun p H5 s5 e5=>?_;refine k p H5 ((s1.trans AY).trans s5) ?_;rw [At];exact ⟨Jg,bs,e5,yA.mono (Same.kt (s4.trans s5))⟩
   · right;have yv:j<ks.length:=by omega
     refine ⟨yv,(by show j<(((V.str nm::ka.map V.ref).length:Int) - 1).toNat;rw [Ck];exact yv),?_⟩;rintro x' H4 ⟨q1,q2⟩;have Sr:H4=H3:=q1;subst Sr;refine hid fun ZZ kZ=>?_;obtain ⟨f,hf⟩:∃ f,ks[j]?=some f:=⟨_,Ue yv⟩;obtain ⟨g,hg⟩:∃ g,us[j]?=some g:=⟨_,Ue (by omega)⟩;obtain ⟨fa,y3,Nl⟩:=yY.at hf;obtain ⟨ga,Ss,Su⟩:=Er.at hg;refine kZ ?_;have FL:f∈ks:=Uh hf;have h1:=bT FL;have h2:=aN FL;have Sv:x'=V.int (1+(j:Int)):=q2;subst Sv;have AX:=s1.trans s3;cases n with
     | zero =>
       have:=f.tall_eq;omega
     | succ n =>
     refine ⟨_,rfl,_,rfl,x,_,_,.ref fa,rfl,rfl,SqT.of (AX _ _ ea),at_nonneg (by omega) (by rw [show (1+(j:Int)).toNat=j+1 by omega,Vf,Uo,y3];rfl),?_⟩;refine ⟨_,rfl,_,rfl,y,_,_,.ref ga,rfl,rfl,SqT.of (AX _ _ eu),at_nonneg (by omega) (by rw [show (1+(j:Int)).toNat=j+1 by omega,Vf,Uo,Ss];rfl),?_⟩;refine ⟨fa,ga,f,g,outs,S,rfl,Nl.mono (Same.kt AX),Su.mono (Same.kt AX),go,ja Nm FL,FitSs.mem' FO.2 g (Uh hg),by omega,by omega,fun rr H5 s5 Sw=>?_⟩;refine ⟨_,s5 _ _ eD,aH (by rw [Uc];omega),yv,aw (s3.trans s5) hD,bs++[rr],?_,?_⟩
     · rw [ab,Ux];rfl
     · have k6:KT H5 (upd H5 D (.lst (bs.map V.ref++[.ref rr]))):=aS (s5 _ _ eD);have t1:ks.take (j+1)=ks.take j++[f]:=by rw [Vs,hf];rfl
       have t2:us.take (j+1)=us.take j++[g]:=by rw [Vs,hg];rfl
       rw [t1,t2,fT,List.zip_append (by rw [UQ,UQ];omega),Ux,<- fT];exact Ats.append (yA.mono ((Same.kt s5).trans k6)) (.cons (Sw.mono k6) .nil)
inductive fc (vs:List V) (H:Hp) (Q:VK) (_E:XK):Prop
 | mk (b ta pa:Ui) (s:Int) (ins outs:List (US×Int)) (head:Th) (rows:List (List Th)) (t:Th) (pl:List Int) (m:US) (yp:vs=[.ref b,.int s,.ref ta,.ref pa]) (yq:Bk H ins outs head rows b) (yz:bN ins) (yF:At H t ta) (yW:H pa=some (.tup (pl.map V.int))) (Aa:pl.length<=1000) (Cc:qz ins rows s t pl m) (Cw:∀ H',L2.Same H H'->Q (.str m) H'):fc  vs H Q _E
def jP:Sp:=fc
def NmI (ins:List (US×Int)) (rows:List (List Th)) (b pa nl:Ui) (s:Int) (pl:List Int) (m:US) (H:Hp) (n:Nat) (σ:St) (H3:Hp):Prop:=∃ (ta ha:Ui) (at':Nat) (p t:Th),σ=[some (.ref b),some (.int s),some (.ref ta),some (.ref pa),some (.ref nl),some (.ref ha),some (.int (at':Nat))]/\H3=H/\At H p ha/\At H t ta/\at'<=pl.length/\NmAt ins rows n p t (pl.drop at') m
set_option maxHeartbeats 1000000 in
theorem fM:bp P w K mg base CX0 1 T.g__law_name_at.f T.g__law_name_at.d ["book","state","tree","place"] jP:=by
 refine T.g__law_name_at.F.ok bh (fun vs H Q E h=>?_) (fun yl A outer s0 H vs Q E hr h=>?_)
 · obtain ⟨b,ta,pa,s,ins,outs,head,rows,t,pl,m,rfl,_⟩:=h;rfl
 obtain ⟨b,ta,pa,s,ins,outs,head,rows,t,pl,m,rfl,hB,g,An,zV,y8,Jg,q⟩:=h;refine hid fun ZZ kZ=>?_;obtain ⟨ia,oa,ha,ra,yk,yB,yV,bk⟩:=hB;refine kZ ?_
 refine ⟨_,(ae (fD (i:=4) (N:=[Um "kind"]) (js:=[none]) (g:=(aF 0)) (tt:=bG) (te:=(tOp (rN K) (bn 0) (tC (.int 0)))) bh.nd rfl (UB rfl) rfl (cB rfl (by decide +kernel) (by decide +kernel) rfl rfl rfl) (f6 (ay aB (pv 0) af (fun _ _=>rfl))) (fun _ _ _ _ _ _=>(aj (i:=0) xl rfl (UB rfl))) (aR rfl) (fun _ _ _ _ _ _=>bM) (fun _ _ _ _ _ _=>(ay aB (pv 0) af (fun _ _=>rfl))))
  (ae (au (i:=5) bh.nd rfl (UB rfl) (ay aB (ay aB (ay aB (pv 0) af (fun _ _=>rfl)) (pv 1) (fun _ _=>rfl)) (bL Uw Xh YV mL (pv 4) (aa (ay aB (pv 2) af (fun _ _=>rfl)) ac)) (fun _ _=>rfl)))
  (ae (au (i:=6) bh.nd rfl (UB rfl) af)
  (ae (dA UW (PW.pt (dj (aK cG (ay aB (pv 5) af (fun _ _=>rfl)) eG (aO _)) (dh (aK mJ (pv 6) (az ao rfl T.n_len UT (aa (pv 3) ac)) (aO _))))) (ag (bI (aK cG (ay aB (pv 5) af (fun _ _=>rfl)) eG (aO _)) (ae (au (i:=2) bh.nd rfl (UB rfl) (ay aB (pv 2) (ax bF af (ay aB (pv 5) af (fun _ _=>rfl))) (fun _ _=>rfl)))
  (ag (au (i:=5) bh.nd rfl (UB rfl) (ay aB (ay aB (ay aB (pv 0) af (fun _ _=>rfl)) (ay aB (pv 5) af (fun _ _=>rfl)) (fun _ _=>rfl)) (bL Uw Xh YV mL (pv 4) (aa (ay aB (pv 2) af (fun _ _=>rfl)) ac)) (fun _ _=>rfl))))) (ag (bI (aK mJ (ay aB (pv 3) (pv 6) (fun _ _=>rfl)) (ax f9 (az ao rfl T.n_len UT (aa (pv 5) ac)) af) (aO _)) (ae (au (i:=5) bh.nd rfl (UB rfl) (ay aB (pv 5) (ax bF af (ay aB (pv 3) (pv 6) (fun _ _=>rfl))) (fun _ _=>rfl)))
  (ag (au (i:=6) bh.nd rfl (UB rfl) (ax bF (pv 6) af)))) (ag (aE uh)))))))
  (ag (aE (ay aB (pv 5) af (fun _ _=>rfl)))))))),?_⟩
 try dsimp only [yH,yh]
 have zE:ins.length=yk.length:=Uv bk.inK;have Di:=g.le;refine ⟨_,rfl,b,_,0,.ref ia,rfl,rfl,SqT.of bk.bk,at0,ia,rfl,⟨_,SqT.of bk.inE⟩,pf ins (fun k=>V.str k.1) (SqT.of bk.inE) (by rw [Uc];exact zE) (by rw [Uc];omega) (fun i x z H2 R W' hx hz s2 hR=>?_) (fun D H1 hD s1 e1=>?_)⟩
 · obtain ⟨ka,rfl,yY⟩:=aU hx;obtain ⟨z',zQ,ez⟩:=P2.get' bk.inK yY;rw [hz] at zQ;cases zQ;exact ⟨_,rfl,ka,_,0,.str z.1,rfl,rfl,SqT.of (s2 _ _ ez),at0,hR H2 (.refl _)⟩
 have en:ins.map (fun k=>V.str k.1)=(ins.map (·.1)).map V.str:=by rw [Wi];rfl
 rw [en] at e1;refine hid fun ZZ kZ=>?_;obtain ⟨vm,vs,row,j,kd,p,n,Sx,rfl,yc,hj,CS,hp,hN⟩:=Jg;have Gy:=bk.mono (Same.kt s1);have Jh:=An.mono (Same.kt s1);have D1:=s1 _ _ zV;have Ji:=Jh;rw [At] at Ji;obtain ⟨Kf,bs,eta,yA⟩:=Ji;obtain ⟨zg,zH,AZ,Np,Jj⟩:=P2.get Gy.rw yc;have y4:=Jj.length;have Sy:=(Uk.mp hp).1;obtain ⟨Po,Jk⟩:∃ a,AZ[j]?=some a:=⟨_,Ue (by omega)⟩;obtain ⟨t2,E7,Nq⟩:=Jj.get Jk;refine kZ ?_;rw [hp] at E7;cases E7;refine ⟨_,rfl,b,_,3,.ref ra,rfl,rfl,SqT.of Gy.bk,ce (j:=3) rfl,_,rfl,ra,_,_,.ref zg,rfl,rfl,SqT.of Gy.rl,at_nonneg Sx (by rw [Uo,zH];rfl),_,rfl,.inl ⟨rfl,_,SqL.of e1⟩,_,rfl,ta,_,0,.str vm,rfl,rfl,SqT.of eta,at0,D,ins.map (·.1),vm,j,rfl,rfl,SqL.of e1,by rw [Uo,hj,<- CS];rfl,fun i hi hz=>?_,by rw [Uc];omega,zg,_,(j:Int),.ref Po,rfl,rfl,SqT.of Np,ce (by rw [Uo,Jk];rfl),?_⟩
 · rw [Uo] at hz;obtain ⟨k',zz,e⟩:=UU.mp hz;have:=g.nd i j k' kd zz hj (e.trans CS.symm);omega
 refine ⟨NmI ins rows b pa D s pl m H1,⟨_,ta,Po,0,p,.knot vm vs,rfl,rfl,Nq,Jh,UO _,by rw [WE];exact hN⟩,?_⟩;rintro n σ H2 ⟨ta,ha,at',p,t,rfl,rfl,C8,Pp,Nr,hN⟩
 have Nt:∀ (j:Int) (r:List Int),pl.drop at'=j::r->at'<pl.length/\pl[at']?=some j/\pl.drop (at'+1)=r:=fun j r e=>by
  have ym:at'<pl.length:=by
   have:=congrArg Xc e;rw [VG,Ut] at this;omega
  rw [XQ ym] at e;injection e with e1 e2;exact ⟨ym,by rw [Ue ym,e1],e2⟩
 generalize Eo:pl.drop at'=dr at hN;cases hN with
 | here =>
   rename_i ks
   rw [At] at C8;refine hid fun ZZ kZ=>?_;obtain ⟨Gn,yy,eh,yS⟩:=C8;refine kZ ?_
   have zR:at'=pl.length:=by
    have:=congrArg Xc Eo;rw [VG,WI] at this;omega
   have Kl:decide (V.str m=V.str (Um "?"))=false:=decide_eq_false fun z=>Gn (V.str.inj z);refine ⟨_,rfl,ha,_,0,.str m,rfl,rfl,SqT.of eh,at0,rfl,_,rfl,?_⟩;rw [Kl];refine cP ?_;refine ⟨_,rfl,_,rfl,pa,_,rfl,.inr (SqT.of D1),_,_,rfl,rfl,_,rfl,?_⟩;rw [Uc,zR,decide_eq_false (by omega)];refine cP ?_;exact ⟨_,rfl,ha,_,0,.str m,rfl,rfl,SqT.of eh,at0,q _ s1⟩
 | step hu hN =>
   rename_i n nm ks j u r
   rw [At] at C8;refine hid fun ZZ kZ=>?_;obtain ⟨Gn,yy,eh,yS⟩:=C8;obtain ⟨ym,Nu,Nv⟩:=Nt _ _ Eo;have ze:=yS.length;have Bg:=(Uk.mp hu).1;obtain ⟨ua,Er,Nw⟩:=yS.at hu;refine kZ ?_;have Kl:decide (V.str nm=V.str (Um "?"))=false:=decide_eq_false fun z=>Gn (V.str.inj z);refine ⟨_,rfl,ha,_,0,.str nm,rfl,rfl,SqT.of eh,at0,rfl,_,rfl,?_⟩;rw [Kl];refine cP ?_;refine ⟨_,rfl,_,rfl,pa,_,rfl,.inr (SqT.of D1),_,_,rfl,rfl,_,rfl,?_⟩;rw [Uc,decide_eq_true (by omega)];refine oZ ?_;refine ⟨fun yd H'=>∃ m',m'<n+1/\NmI ins rows b pa D s pl m H2 m' yd H',fun yd H' h=>h,?_⟩;refine ⟨_,rfl,ha,_,0,.str nm,rfl,rfl,SqT.of eh,at0,rfl,_,rfl,?_⟩;rw [Kl];refine cP ?_;have Dq:atI (pl.map V.int) ((at':Nat):Int)=some (.int (j:Int)):=ce (by rw [Uo,Nu];rfl);refine ⟨_,rfl,_,rfl,pa,_,_,.int (j:Int),rfl,rfl,SqT.of D1,Dq,_,rfl,ha,_,rfl,.inr (SqT.of eh),_,_,rfl,rfl,_,_,rfl,rfl,_,rfl,?_⟩;rw [Ut,Uc,decide_eq_true (by omega)];refine oZ ?_;refine ⟨_,rfl,_,rfl,_,rfl,pa,_,_,.int (j:Int),rfl,rfl,SqT.of D1,Dq,_,_,rfl,rfl,ha,_,_,.ref ua,rfl,rfl,SqT.of eh,at_nonneg (by omega) (by rw [show (1+(j:Int)).toNat=j+1 by omega,Vf,Uo,Er];rfl),?_⟩;refine ⟨_,rfl,_,_,rfl,rfl,n,by omega,ta,ua,at'+1,u,t,by rfl,rfl,Nw,Pp,by omega,by rw [Nv];exact hN⟩
 | call hk hs hu hr hi hn hp hN =>
   rename_i n s' k tm Pq us T3 Ap i' Ol p'
   have Jl:=C8;rw [At] at Jl;have Jm:=Pp;rw [At] at Jm;refine hid fun ZZ kZ=>?_;obtain ⟨T4,T5,et,Nx⟩:=Jm;obtain ⟨va,Sz,Jn⟩:=Nx.at hu;have EI:=Jn;rw [At] at EI;obtain ⟨T6,T7,ev,SD⟩:=EI;obtain ⟨EJ,FP,DZ,Jo,EK⟩:=P2.get Gy.rw hr;have T8:=EK.length;have SE:=(Uk.mp hp).1;obtain ⟨Pr,Jp⟩:∃ a,DZ[i']?=some a:=⟨_,Ue (by omega)⟩;obtain ⟨t3,Pu,Ny⟩:=EK.get Jp;refine kZ ?_;rw [hp] at Pu;cases Pu;refine ⟨_,rfl,ha,_,0,.str (Um "?"),rfl,rfl,SqT.of Jl,at0,rfl,_,rfl,?_⟩;refine vn rfl ?_;refine oZ ?_;refine ⟨fun yd H'=>∃ m',m'<n+1/\NmI ins rows b pa D s pl m H2 m' yd H',fun yd H' h=>h,?_⟩;refine ⟨_,rfl,ha,_,0,.str (Um "?"),rfl,rfl,SqT.of Jl,at0,rfl,_,rfl,?_⟩;refine vn rfl ?_;refine ⟨_,rfl,_,rfl,ha,_,2,.int k,rfl,rfl,SqT.of Jl,at2,_,_,rfl,rfl,ta,_,_,.ref va,rfl,rfl,SqT.of et,at_nonneg (by omega) (by rw [show (1+k).toNat=k.toNat+1 by omega,Vf,Uo,Sz];rfl),?_⟩;refine ⟨_,rfl,b,_,3,.ref ra,rfl,rfl,SqT.of Gy.bk,ce (j:=3) rfl,_,rfl,ha,_,1,.int s',rfl,rfl,SqT.of Jl,at1,ra,_,_,.ref EJ,rfl,rfl,SqT.of Gy.rl,at_nonneg hs (by rw [Uo,FP];rfl),_,rfl,.inl ⟨rfl,_,SqL.of e1⟩,_,rfl,va,_,0,.str Pq,rfl,rfl,SqT.of ev,at0,D,ins.map (·.1),Pq,i',rfl,rfl,SqL.of e1,by rw [Uo,hi,<- hn];rfl,fun i HQ hz=>?_,by rw [Uc];omega,EJ,_,(i':Int),.ref Pr,rfl,rfl,SqT.of Jo,ce (by rw [Uo,Jp];rfl),?_⟩
   · rw [Uo] at hz;obtain ⟨k',zz,e⟩:=UU.mp hz;have:=g.nd i i' k' Ol zz hi (e.trans hn.symm);omega
   exact ⟨n,by omega,va,Pr,at',p',_,by rfl,rfl,Ny,Jn,Nr,by rw [Eo];exact hN⟩
def szW:List (Th×Int)->Nat
 | []=>0
 | p::ps=>p.1.size+szW ps
theorem fy:∀ a b:List (Th×Int),szW (a++b)=szW a+szW b
 | [],b=>by rw [Wh,szW];omega
 | p::a,b=>by rw [Wm,szW,szW,fy a b];omega
theorem km (d:Int):∀ ks:List Th,szW (ks.map fun t=>(t,d))=aq ks
 | []=>by rw [Wq,szW,aq]
 | t::ks=>by rw [U8,szW,aq,km d ks]
theorem qR:∀ a:List (Th×Int),a.length<=szW a
 | []=>UO _
 | p::a=>by rw [Ut,szW];have:=qR a;have:=p.1.size_pos;omega
def WAt (H:Hp) (p:Th×Int) (a:Ui):Prop:=∃ xa,H a=some (.tup [.ref xa,.int p.2])/\At H p.1 xa
theorem WAt.mono {H H':Hp} (k:KT H H') {p:Th×Int} {a:Ui} (h:WAt H p a):WAt H' p a:=by
 obtain ⟨xa,h1,h2⟩:=h;exact ⟨xa,k _ _ h1,h2.mono k⟩
inductive eP (vs:List V) (H:Hp) (Q:VK) (_E:XK):Prop
 | mk (ia ta:Ui) (most:Int) (yk:List Ui) (ins:List (US×Int)) (t:Th) (yp:vs=[.ref ia,.ref ta,.int most]) (yq:H ia=some (.tup (yk.map V.ref))) (yz:KsAt H ins yk) (yF:ins.length<=8) (yW:At H t ta) (Aa:t.FitS ins 0 0) (Cc:(t.tall:Int)<=most) (Cw:t.size<=2000) (Fi:∀ H',L2.Same H H'->Q (.bl true) H'):eP  vs H Q _E
def jV:Sp:=eP
def w8 (ins:List (US×Int)) (ia ta wl:Ui) (most:Int) (H:Hp) (m:Nat) (σ:St) (H3:Hp):Prop:=∃ (ws:List Ui) (Ws:List (Th×Int)) (mn:Nat) (c5 c6:Option V),σ=[some (.ref ia),some (.ref ta),some (.int most),some (.ref wl),some (.int (mn:Nat)),c5,c6]/\L2.Same H H3/\H3 wl=some (.lst (ws.map V.ref))/\UX (WAt H3) Ws ws/\(∀ p∈Ws,p.1.FitS ins 0 0/\p.2+(p.1.tall:Int)<=most+1)/\mn+szW Ws<=2000/\m=szW Ws
set_option maxHeartbeats 1000000 in
theorem fN:bp P w K mg base CX0 1 T.g__law_is_tree.f T.g__law_is_tree.d ["ins","tree","most"] jV:=by
 refine T.g__law_is_tree.F.ok bO (fun vs H Q E h=>?_) (fun yl A outer s0 H vs Q E hr h=>?_)
 · obtain ⟨ia,ta,most,yk,ins,t,rfl,_⟩:=h;rfl
 obtain ⟨ia,ta,most,yk,ins,t,rfl,ei,zO,Di,An,hf,yG,hsz,q⟩:=h
 refine ⟨_,(ae (au (i:=3) bO.nd rfl (UB rfl) (bo (aa (aI (aa (pv 1) (aa af ac))) ac)))
  (ae (au (i:=4) bO.nd rfl (UB rfl) af)
  (ae (dA UW (aK mB (az ao rfl T.n_len UT (aa (pv 3) ac)) af (aO _)) (ae (cO (jm Uw WY WX jd (pv 3)) (bz rfl (av (aj (i:=5) bO.nd rfl (UB rfl)) (av (aj (i:=6) bO.nd rfl (Ym rfl)) aX))))
  (ae (au (i:=4) bO.nd rfl (UB rfl) (ax bF (pv 4) af))
  (ae (bI (PW.pt (dj (dN (aY (az (cH (T:="tuple")) rfl T.n_isinstance VM (aa (pv 5) (aa (ef (v:=.ty "tuple") rfl T.n_tuple VI rfl) ac))) (fun _=>rfl))) (dj (aK cG (az ao rfl T.n_len UT (aa (pv 5) ac)) af (aO _)) (dj (dN (aY (az (cH (T:="str")) rfl T.n_isinstance VM (aa (ay aB (pv 5) af (fun _ _=>rfl)) (aa (ef (v:=.ty "str") rfl T.n_str PyProof.Rows.boot_str rfl) ac))) (fun _=>rfl))) (dh (aK mB (pv 6) (pv 2) (aO _))))))) (ag (aE fI)) bi)
  (ae (bI (PW.pt (dj (aK (mz (B:=50) (qW hr)) (aI (aa (ay aB (pv 5) af (fun _ _=>rfl)) (aa (ax f9 (az ao rfl T.n_len UT (aa (pv 5) ac)) af) ac))) (pv 0) (by with_unfolding_all rfl)) (dh (aK mB (pv 4) af (aO _))))) (ag (aE fI)) bi)
  (ag (aQ (bL Uw Xe Xd gF (pv 3) (aa (cf (N:=[Um "kid",Um "deep"]) (js:=[none,some 6]) (g:=(aF 0)) (tt:=bG) (te:=(ji (bm (bn 0) (bm (tOp (rI0 fun i j=>.int (i+j)) (bn 1) (tC (.int 1))) dk)))) rfl (cB rfl (by decide +kernel) (by decide +kernel) rfl rfl rfl) (f6 (bj dF (pv 5) (bA af) bR)) (fun _ _ _ _ _ _=>(aj (i:=0) xj rfl (UB rfl))) (aR rfl) (fun _ _ _ _ _ _=>bM) (fun _ _ _ _ _ _=>(aI (aa (pv 0) (aa (ax bF (pv 1) af) ac))))) ac)))))))))
  (ag (aE fI))))),?_⟩
 try dsimp only [yH,yh]
 have zE:ins.length=yk.length:=Uv zO;refine ⟨_,rfl,ai (by show 2<=1000000;decide),fun p1 zT=>?_⟩;refine ⟨ai (by show 1<=1000000;decide),fun wl AR=>?_⟩;have s1:L2.Same H (upd H p1 (.tup [.ref ta,.int 1])):=ad zT _;have e1:(upd H p1 (.tup [.ref ta,.int 1])) p1=some (.tup [.ref ta,.int 1]):=ab;generalize (upd H p1 (.tup [.ref ta,.int 1]))=H1 at s1 e1 AR ⊢;have HK:H wl=none:=s1.free AR;have s2:L2.Same H1 (upd H1 wl (.lst [.ref p1])):=ad AR _;have e2:(upd H1 wl (.lst [.ref p1])) wl=some (.lst ([p1].map V.ref)):=ab
 try dsimp only [aF]
 generalize (upd H1 wl (.lst [.ref p1]))=H2 at s2 e2 ⊢;have yL:=s1.trans s2;refine ⟨w8 ins ia ta wl most H,⟨_,[p1],[(t,1)],0,none,none,rfl,yL,e2,.cons ⟨ta,s2 _ _ e1,An.mono (Same.kt yL)⟩ .nil,fun p hp=>by rw [UP.mp hp];exact ⟨hf,by dsimp only;omega⟩,by rw [szW,szW];dsimp only;omega,rfl⟩,?_⟩;rintro m σ H3 ⟨ws,Ws,mn,c5,c6,rfl,s3,ew,Pw,hW,GV,rfl⟩;have T9:Ws.length=ws.length:=Uv Pw;refine ⟨_,rfl,wl,_,rfl,.inl (SqL.of ew),_,_,rfl,rfl,_,rfl,?_⟩;refine cX (fun c=>?_) (fun c=>?_)
 · refine ⟨fun yd H'=>∃ m',m'<szW Ws/\w8 ins ia ta wl most H m' yd H',fun yd H' h=>h,?_⟩;have zf:ws≠[]:=by intro z;subst z;simp at c
   refine hid fun ZZ kZ=>?_;obtain ⟨BH,b,rfl⟩:∃ yo b,ws=yo++[b]:=⟨ws.dropLast,ws.getLast zf,(Wj zf).symm⟩;obtain ⟨Us,⟨x,d⟩,rfl,a3,xa,eb,JT⟩:=P2.snoc_inv Pw;dsimp only at eb JT;have Dy:szW (Us++[(x,d)])=szW Us+x.size:=by rw [fy,szW,szW];rfl
   rw [Dy] at GV;obtain ⟨Nz,Px⟩:=hW (x,d) (by simp);refine kZ ?_;dsimp only at Nz Px;have OG:Us.length=BH.length:=Uv a3;have q4:Us.length<=szW Us:=qR Us;refine ⟨_,rfl,.inl ⟨rfl,_,SqL.of ew⟩,wl,_,.ref b,rfl,rfl,ew,by simp,?_⟩;have d1:((BH++[b]).map V.ref).dropLast=BH.map V.ref:=by simp
   rw [d1];have k1:KT H3 (upd H3 wl (.lst (BH.map V.ref))):=aS ew;have Cf:L2.Same H (upd H3 wl (.lst (BH.map V.ref))):=aw s3 HK;have NA:(upd H3 wl (.lst (BH.map V.ref))) wl=some (.lst (BH.map V.ref)):=ab;generalize (upd H3 wl (.lst (BH.map V.ref)))=H4 at k1 Cf NA ⊢;refine ⟨b,_,rfl,SqT.of (k1 _ _ eb),rfl,_,_,rfl,_,_,rfl,rfl,?_⟩
   try dsimp only [aF]
   cases x with
   | call u v=>rw [Th.FitS] at Nz;omega
   | knot nm ks =>
   have Jq:=JT.mono k1;rw [At] at Jq;refine hid fun ZZ kZ=>?_;obtain ⟨Gn,yy,ex,yS⟩:=Jq;refine kZ ?_;have ze:yy.length=ks.length:=yS.length;have Ge:=bJ ks;rw [Th.size] at GV Dy;rw [Th.tall] at Px;have FQ:=Nz;rw [Th.FitS] at FQ;have el:(((V.str nm::yy.map V.ref).length:Nat):Int)=(ks.length:Int)+1:=by rw [Ut,Uc,ze];omega
   refine ⟨_,rfl,_,_,rfl,rfl,?_⟩
   try dsimp only [aF]
   refine ⟨_,rfl,_,_,_,rfl,.tup ex,qg,_,rfl,?_⟩;refine cP ?_;refine ⟨_,rfl,xa,_,rfl,.inr (SqT.of ex),rfl,_,rfl,?_⟩;rw [el,decide_eq_false (show V.int ((ks.length:Int)+1)≠V.int 0 from fun z=>by have:=V.int.inj z;omega)];refine cP ?_;refine ⟨_,rfl,xa,_,0,.str nm,rfl,rfl,SqT.of ex,at0,_,_,_,rfl,.str nm,tK,_,rfl,?_⟩;refine cP ?_;refine ⟨_,rfl,_,rfl,_,_,rfl,rfl,_,rfl,?_⟩;rw [decide_eq_false (by omega)];refine cP ?_
   -- AQ kind
   refine ⟨_,rfl,xa,_,0,.str nm,rfl,rfl,SqT.of ex,at0,_,rfl,xa,_,rfl,.inr (SqT.of ex),_,_,rfl,rfl,ai (by show 2<=1000000;decide),fun p hp=>?_⟩;rw [el];have Dx:(ks.length:Int)+1 - 1=(ks.length:Int):=by omega
   dsimp only;rw [Dx];have s5:L2.Same H4 (upd H4 p (.tup [.str nm,.int (ks.length:Int)])):=ad hp _;have e5:(upd H4 p (.tup [.str nm,.int (ks.length:Int)])) p=some (.tup [.str nm,.int (ks.length:Int)]):=ab;generalize (upd H4 p (.tup [.str nm,.int (ks.length:Int)]))=H5 at s5 e5 ⊢;have CS:=kI ins;have DK:=Cf.trans s5;refine ⟨_,rfl,ia,_,kDv (nm,(ks.length:Int)),ins.map kDv,rfl,SqT.of (DK _ _ ei),?_,tF (zO.mono (Same.kt DK)),by omega,fun r BQ=>⟨_,rfl,?_⟩⟩
   · rw [kDv,DAt];exact ⟨_,_,rfl,e5,.cons (by rw [DAt]) (.cons (by rw [DAt]) .nil)⟩
   have Nk:r=false:=by
    cases r with
    | false=>rfl
    | true=>exact absurd (List.mem_map_of_mem FQ.1) (BQ.mp rfl)
   subst Nk;refine cP ?_;refine ⟨_,rfl,_,_,rfl,rfl,_,rfl,?_⟩;rw [decide_eq_false (by omega)];refine cP ?_
   -- kids
   refine ⟨_,rfl,.inl ⟨rfl,_,SqL.of (s5 _ _ NA)⟩,_,rfl,1,rfl,xa,_,rfl,SqT.of (s5 _ _ ex),?_,fun p3 Fz=>?_⟩
   · rintro ⟨z,_⟩;rw [Ut,show (1:Int)=((1:Nat):Int) by rfl,HT.sIx_nat] at z;omega
   dsimp only;rw [de];have s6:L2.Same H5 (upd H5 p3 (.tup (yy.map V.ref))):=ad Fz _;have e6:(upd H5 p3 (.tup (yy.map V.ref))) p3=some (.tup (yy.map V.ref)):=ab;generalize (upd H5 p3 (.tup (yy.map V.ref)))=H6 at s6 e6 ⊢;refine ⟨p3,rfl,⟨_,SqT.of e6⟩,gO (F:=WAt) (xs:=yy.map V.ref) (ks.map fun t=>(t,d+1)) (fun H1 H2 z p kt h=>h.mono kt) (by rw [Uc,Uc];omega) (by rw [Uc];omega) (fun j Hx sx hj=>⟨_,_,SqT.of (sx _ _ e6),Ue hj⟩) (fun Hx sx=>⟨_,SqT.of (sx _ _ e6),Uj _⟩) (fun j Hx x Hy sx hj hy=>⟨hy.1,hy.2 _ (SqT.of (sx _ _ e6))⟩) (fun j x z Hx R W' hx Ao sx hR=>?_) (fun D H7 C5 hD s7 eD Bn=>?_)⟩
   · obtain ⟨ka,rfl,yY⟩:=aU hx;rw [Uo] at Ao;obtain ⟨u,hu,rfl⟩:=UU.mp Ao;obtain ⟨u',zA,IW⟩:=yS.get yY;rw [hu] at zA;cases zA;refine ⟨_,rfl,_,rfl,_,_,rfl,rfl,ai (by show 2<=1000000;decide),fun p4 M4=>?_⟩;have s8:=ad M4 (.tup [.ref ka,.int (d+1)]);exact hR _ p4 s8 ⟨ka,ab,IW.mono (Same.kt (s5.trans (s6.trans (sx.trans s8))))⟩
   · have C6:(ks.map fun t=>(t,d+1)).length=C5.length:=Uv Bn;rw [Uc] at C6;have Py:=(s5.trans (s6.trans s7)) _ _ NA;refine ⟨wl,D,_,_,rfl,rfl,Py,eD,ai (by rw [Uc,Uc];omega),?_⟩;have k8:KT H7 (upd H7 wl (.lst (BH.map V.ref++C5.map V.ref))):=aS Py;refine ⟨szW (Us++ks.map fun t=>(t,d+1)),by rw [fy,km,Dy];omega,BH++C5,Us++ks.map (fun t=>(t,d+1)),mn+1,_,_,rfl,aw (Cf.trans (s5.trans (s6.trans s7))) HK,by rw [ab,Ux],?_,fun p' zh=>?_,?_,rfl⟩
     · exact P2.append (P2.mp (fun _ _ e=>(e.mono (k1.trans (Same.kt (s5.trans (s6.trans s7))))).mono k8) a3) (P2.mp (fun _ _ e=>e.mono k8) Bn)
     · rcases Ve.mp zh with zh | zh
       · exact hW p' (Vi _ zh)
       · obtain ⟨u,hu,rfl⟩:=U5.mp zh;have:=bT hu;exact ⟨FitSs.mem' FQ.2 u hu,by dsimp only;omega⟩
     · rw [fy,km];omega
 · exact q H3 s3
theorem uX (outs:List (US×Int)):Th.Fo outs hole:=by rw [hole,Th.Fo];exact .inl ⟨rfl,rfl⟩
theorem qx {outs:List (US×Int)} (g:bN outs) {S:Int}:∀ (n:Nat) (t:Th),t.size<=n->t.FitS outs S 0->Th.Fo outs t
 | 0,t,h,_=>by have:=t.size_pos;omega
 | n+1,.call a b,_,h=>by rw [Th.FitS] at h;omega
 | n+1,.knot m ks,hn,h=>by
   rw [Th.FitS] at h;rw [Th.size] at hn;rw [Th.Fo];exact .inr ⟨h.1,om (g.low _ h.1).1,pV fun t ht=>qx g n t (by have:=aN ht;omega) (gP h.2 t ht)⟩
theorem sX {outs:List (US×Int)}:∀ (n:Nat) (l r:Th),l.size<=n->Th.Fo outs l->Th.Fo outs (l.com r)
 | 0,l,_,h,_=>by have:=l.size_pos;omega
 | n+1,l,r,hn,h=>by
   rw [dI];by_cases hs:aC l r=true
   · rw [if_pos hs];obtain ⟨m,ks,us,rfl,rfl,hl,hh⟩:=bu hs;rw [Th.Fo] at h;rw [Th.size] at hn;rcases h with ⟨h1,h2⟩ | ⟨h1,h2,h3⟩
     · rw [Th.isHole,decide_eq_true ⟨h1,h2⟩] at hh;cases hh
     · show Th.Fo outs (.knot m ((ks.zip us).map fun p=>p.1.com p.2));rw [Th.Fo];refine .inr ⟨by rw [Uc,WH,<- hl,Yz];exact h1,h2,pV fun t ht=>?_⟩;obtain ⟨p,hp,rfl⟩:=U5.mp ht;have hm:=(Xs hp).1;exact sX n p.1 p.2 (by have:=aN hm;omega) (ja h3 hm)
   · rw [if_neg hs];exact uX _
def dW:List Th->Th
 | []=>hole
 | p::ps=>ps.foldl Th.com p
theorem iW (F:Int->Int->Th):∀ (n:Nat) (t:Th),t.size<=n->t.noCall->t.fill F=t
 | 0,t,h,_=>by have:=t.size_pos;omega
 | n+1,.call a b,_,h=>by rw [Th.noCall] at h;exact h.elim
 | n+1,.knot m ks,hn,h=>by
   rw [Th.noCall] at h;rw [Th.size] at hn;rw [Th.fill];congr 1;refine Wr fun j=>?_;rw [gK];cases hj:ks[j]? with
   | none=>rfl
   | some u =>
     have hm:=Uh hj;have:=aN hm;rw [W6,iW F n u (by omega) (cu h hm)]
theorem tR {outs:List (US×Int)} (go:bN outs) {S:Int}:∀ (n:Nat) (t:Th),t.size<=n->t.FitS outs S 0->t.com t=t
 | 0,t,h,_=>by have:=t.size_pos;omega
 | n+1,.call a b,_,h=>by rw [Th.FitS] at h;omega
 | n+1,.knot m ks,hn,h=>by
   have hh:=kh go h .here;rw [dI,if_pos (fj hh rfl)];rw [Th.size] at hn;show Th.knot m ((ks.zip ks).map fun p=>p.1.com p.2)=_;congr 1;refine Wr fun j=>?_;rw [Uo];cases hj:ks[j]? with
   | none=>rw [Vq (by rw [WH,Yz];exact List.getElem?_eq_none_iff.mp hj)];rfl
   | some u =>
     have hz:(ks.zip ks)[j]?=some (u,u):=VX.mpr ⟨hj,hj⟩;rw [hz,W6];have hm:=Uh hj;have:=aN hm;rw [tR go n u (by omega) (eV h hj)]
theorem j6 {mk:Int->Th}:∀ (row:List Th) (m:Th),(∀ p∈row,p.noCall)->frF mk m row=row.foldl Th.com m
 | [],m,_=>rfl
 | p::row,m,h=>by
   show frF mk (m.com (p.fill fun l _=>mk l)) row=_;rw [iW _ _ p (Uj _) (h p (UH ..)),j6 row _ fun q hq=>h q (UJ _ hq)];rfl
theorem sF:∀ {f g u v:Th} {pl:List Int},In f pl u->u.isHole=true->In (f.com g) pl v->v.isHole=true:=by
 intro f g u v pl hu;induction hu generalizing g v with
 | here =>
   intro hh hv
   rename_i t
   rw [dI] at hv
   have hs:¬ aC t g=true:=fun z=>by
    obtain ⟨m,ks,us,rfl,rfl,_,hn⟩:=bu z;rw [hn] at hh;cases hh
   rw [if_neg hs,hole] at hv;cases hv with
   | here=>exact fW
 | kid h i ih =>
   intro hh hv
   rename_i n ks j u v' r
   rw [dI] at hv;by_cases hs:aC (.knot n ks) g=true
   · rw [if_pos hs] at hv;obtain ⟨us,rfl,hl,_⟩:=gr hs;have yK:In (.knot n ((ks.zip us).map fun p=>p.1.com p.2)) ((j:Int)::r) v:=hv;generalize hq:((j:Int)::r)=q at yK;cases yK with
     | here=>cases hq
     | kid hj hr =>
       rename_i j2 u2 r2
       injection hq with q1 q2;have:j=j2:=by omega
       subst this;subst q2;rw [Uo,UU] at hj;obtain ⟨p,hp,rfl⟩:=hj;obtain ⟨h1,h2⟩:=VX.mp hp;rw [h] at h1;cases h1;exact ih hh hr
   · rw [if_neg hs,hole] at hv;generalize hq:((j:Int)::r)=q at hv;cases hv with
     | here=>cases hq
     | kid hj _=>simp at hj
theorem vd {f g v:Th} {pl:List Int} (h:In (f.com g) pl v):∃ u,In f pl u:=by
 obtain ⟨u,hu⟩:=qc _ f g [] (Uj _) _ (In.to h);exact ⟨u,In.of _ (Uj _) hu⟩
theorem kJ:∀ (row:List Th) {f u v:Th} {pl:List Int},In f pl u->u.isHole=true->In (row.foldl Th.com f) pl v->v.isHole=true
 | [],f,u,v,pl,hu,hh,hv=>by
   have e:u=v:=nI _ (Uj _) (In.to hu) (In.to hv);rw [<- e];exact hh
 | p::row,f,u,v,pl,hu,hh,hv=>by
   have yK:In (row.foldl Th.com (f.com p)) pl v:=hv
   obtain ⟨w,hw⟩:∃ w,In (f.com p) pl w:=by
    have:∀ (row:List Th) (f:Th),In (row.foldl Th.com f) pl v->∃ w,In f pl w:=fun row=>by
     induction row with
     | nil=>exact fun f h=>⟨v,h⟩
     | cons q row ih =>
       intro f h;obtain ⟨w,hw⟩:=ih (f.com q) h;exact vd hw
    exact this row _ yK
   exact kJ row hw (sF hu hh hw) yK
theorem uj {D:List Int->Bool}:∀ (n:Nat) (t:Th) (pre:List Int),t.size<=n->t.noCall->(∀ pl v,In t pl v->v.isHole=false->D (pre++pl)=false)->t.cut D pre=t
 | 0,t,_,h=>by have:=t.size_pos;omega
 | n+1,.call a b,_,_=>fun h=>by rw [Th.noCall] at h;exact h.elim
 | n+1,.knot m ks,pre,hn=>fun hc hD=>by
   rw [Th.cut];by_cases hh:(Th.knot m ks).isHole=true
   · rw [if_pos (.inl hh)];rw [Th.isHole,decide_eq_true_iff] at hh;rw [hh.1,hh.2];rfl
   · have F9:=VT.mpr hh;have h0:=hD [] _ .here F9;rw [U6] at h0;rw [if_neg (by rintro (z | z);(exact hh z);(rw [h0] at z;cases z))];congr 1;rw [Th.size] at hn;rw [Th.noCall] at hc;refine Wr fun j=>?_;rw [jc];cases hj:ks[j]? with
     | none=>rfl
     | some u =>
       have hm:=Uh hj;have:=aN hm;rw [W6,uj n u _ (by omega) (cu hc hm) fun pl v hv hz=>?_];have:=hD ((j:Int)::pl) v (.kid hj hv) hz;rw [VZ,Vo];exact this
theorem kA {ins outs:List (US×Int)} {rows:List (List Th)} (F:FrK ins outs rows) (go:bN outs) (hz:∀ k∈ins,k.2=0) {f':List (aA×V)} (hK:tf ins rows f') {s:Nat} {row:List Th} (yc:rows[s]?=some row):(frS ins rows s).cut (Dk f' (s:Nat)) []=dW row:=by
 have hs:=(Uk.mp yc).1;obtain ⟨BS,Bi⟩:=F.fit.row row (Uh yc)
 have FR:∀ p∈row,p.FitS outs (rows.length:Nat) 0:=fun p hp=>by
  obtain ⟨j,hj⟩:=UG.mp hp;obtain ⟨k0,zt⟩:∃ k0,ins[j]?=some k0:=⟨_,Ue (by have:=(Uk.mp hj).1;omega)⟩;have:=Bi j p k0 hj zt;rw [hz k0 (Uh zt)] at this;exact this
 have nc:∀ p∈row,p.noCall:=fun p hp=>d4 _ _ (Uj _) (FR p hp);have hn:=F.gi.ne
 have hI:cC ins=0:=by
  unfold cC;cases ins with
  | nil=>simp at hn
  | cons k ks=>rw [ZP,decide_eq_true (hz k (UH ..))];rfl
 cases row with
 | nil=>rw [WI] at BS;omega
 | cons p0 ps =>
 have DL:mkF ins rows (s:Nat)=p0:=by
  obtain ⟨Ap,p,hr,hp,e,_⟩:=F.mkd (l:=(s:Nat)) (by omega) (by omega);rw [Vh,yc] at hr;cases hr;rw [hI] at hp;rw [e];exact (UR hp).symm
 have Gx:∀ (r:List Th),(∀ p∈r,p∈p0::ps)->frF (mkF ins rows) (mkF ins rows (s:Nat)) r=r.foldl Th.com p0:=fun r hr=>by
  rw [DL];exact j6 r p0 fun p hp=>nc p (hr p hp)
 have e0:frS ins rows s=dW (p0::ps):=by
  rw [nF yc,Gx _ fun p hp=>hp];show ps.foldl Th.com (p0.com p0)=ps.foldl Th.com p0;rw [tR go _ p0 (Uj _) (FR p0 (UH ..))]
 rw [<- e0];refine uj _ _ [] (Uj _) (m5 F hs).2.2 fun pl v hv hh=>?_;rw [Wh];refine VT.mpr fun hd=>?_;have hm:=(hK s pl).mp hd;generalize zo:s=s' at hm;cases hm with
 | hol hr hi hx AL =>
   rename_i i Ap x
   subst zo;rw [yc] at hr;cases hr;rw [Gx _ fun p hp=>List.mem_of_mem_take hp] at hx;rw [nF yc,Gx _ fun p hp=>hp,<- Ze i (p0::ps),ZN] at hv;have:=kJ _ (In.of _ (Uj _) hx) AL hv;rw [hh] at this;cases this
 | lnk hr hp hc hu hx m =>
   subst zo;rw [yc] at hr;cases hr;have:=gG _ [] (FR _ hp) _ hc;omega
theorem qf {outs:List (US×Int)} (go:bN outs) {S:Int}:∀ (ps:List Th) (p:Th),Th.Fo outs p->(ps.foldl Th.com p).size<=p.size/\Th.Fo outs (ps.foldl Th.com p)
 | [],p,h=>⟨Uj _,h⟩
 | q::ps,p,h=>by
   obtain ⟨h1,h2⟩:=qf go (S:=S) ps (p.com q) (sX _ p q (Uj _) h);refine ⟨V4 h1 ?_,h2⟩;exact (kX p q).1
inductive rD (K:Ug) (vs:List V) (H:Hp) (Q:VK) (_E:XK):Prop
 | mk (a:Ui) (ns:List Int) (yp:vs=[.ref a]) (yq:SqL K H a (ns.map V.int)) (yz:ns.length<=63) (yF:∀ H',Q (.bl true) H'):rD K vs H Q _E
def nD (K:Ug):Sp:=rD K
theorem nG {K:Ug} {H:Hp} {α:Type} {f:α->Th}:∀ {zs:List α} {as:List Ui},UX (fun z a=>AtK K H (f z) a) zs as->DAtsK K H (zs.map fun z=>(f z).dv) (as.map V.ref)
 | _,_,.nil=>.nil
 | _,_,.cons r h=>.cons r.dv (nG h)
theorem mr {ins:List (US×Int)} (hz:∀ k∈ins,k.2=0) {t:Th} (h:t.FitS ins 0 0):t.tall<=1:=by
 cases t with
 | call a b=>rw [Th.FitS] at h;omega
 | knot m ks =>
   rw [Th.FitS] at h;have:=hz _ h.1;have hk:ks=[]:=VB.mp (by dsimp only at this;omega);rw [hk,Th.tall,bE];exact Uj _
theorem mN {ins:List (US×Int)} (hz:∀ k∈ins,k.2=0) {t:Th} (h:t.FitS ins 0 0):t.size<=1:=by
 cases t with
 | call a b=>rw [Th.FitS] at h;omega
 | knot m ks =>
   rw [Th.FitS] at h;have:=hz _ h.1;have hk:ks=[]:=VB.mp (by dsimp only at this;omega);rw [hk,Th.size,aq];exact Uj _
theorem P2.mpm {α β:Type} {R S:α->β->Prop}:∀ {as:List α} {bs:List β},(∀ a b,a∈as->R a b->S a b)->UX R as bs->UX S as bs
 | _,_,_,.nil=>.nil
 | _,_,h,.cons r hs=>.cons (h _ _ (UH ..) r) (P2.mpm (fun a b ha=>h a b (UJ _ ha)) hs)
theorem tT {ins:List (US×Int)} {rows:List (List Th)} {M:Nat}:∀ s h t1 t2,Rp ins rows M s h t1 t2->∃ m1 m2,m1≠m2/\qz ins rows (s:Nat) t1 h m1/\qz ins rows (s:Nat) t2 h m2:=fun s h t1 t2 ⟨j,hj,hv⟩=>by
 refine hid fun ZZ kZ=>?_;obtain ⟨s',pl,m1,m2,e,_,yx,⟨_,_,n1⟩,⟨_,_,n2⟩⟩:=hv;obtain ⟨e4,rfl⟩:=pR e;refine kZ ?_;have:s=s':=by omega
 subst this;exact ⟨m1,m2,yx,n1,n2⟩
set_option maxHeartbeats 2000000 in
theorem wy:bp P w K mg base CX0 22 T.g_law.f T.g_law.d ["script"] (nD K):=by
 refine T.g_law.F.ok cJ (fun vs H Q E h=>?_) (fun yl A outer s H vs Q E hr h=>?_)
 · obtain ⟨a,ns,rfl,_⟩:=h;rfl
 obtain ⟨a,ns,rfl,hS,BL,k⟩:=h
 refine ⟨_,(ae (au (i:=1) cJ.nd rfl (Ym rfl) (pcF T.g__law_leaf_book (iQ T) hr (aa (pv 0) ac)))
  (ae (au (i:=2) cJ.nd rfl (UB rfl) (bo ac))
  (ae (bx UW rfl (f6 (ay aB (pv 1) af (fun _ _=>rfl))) (aj (i:=3) cJ.nd rfl (UB rfl)) (ae (au (i:=4) cJ.nd rfl (UB rfl) (ay aB (pv 3) af (fun _ _=>rfl)))
  (ae (bx UW rfl (f6 (bj dF (pv 3) (bA af) bR)) (aj (i:=5) cJ.nd rfl (UB rfl)) (ag (au (i:=4) cJ.nd rfl (UB rfl) (pcF T.g__law_common (gj T 10) hr (aa (pv 4) (aa (pv 5) ac))))))
  (ag (aQ (bL Uw UM UL aL (pv 2) (aa (pv 4) ac)))))))
  (ae (au (i:=6) cJ.nd rfl (UB rfl) (pcF T.g_fronts_of (nC T) hr (aa (pv 1) ac)))
  (ae (au (i:=7) cJ.nd rfl (UB rfl) (pcF T.g_partings_of (lf T) hr (aa (pv 1) ac)))
  (ae (bI (PW.pt (dj (dN (aY (az (cH (T:="list")) rfl T.n_isinstance VM (aa (pv 6) (aa (ef (v:=.ty "list") rfl T.n_list Yb rfl) ac))) (fun _=>rfl))) (dh (dN (aY (az (oz rfl) rfl T.n_all PyProof.Rows.boot_all (aa (cf (N:=[Um "front",Um "book"]) (js:=[none,some 1]) (g:=(aF 0)) (tt:=bG) (te:=(fR (cW K _) [] E0 (bm (tOp (rN K) (bn 1) (tC (.int 1))) (bm (bn 0) dk)))) rfl (cB rfl (by decide +kernel) (by decide +kernel) rfl rfl rfl) (cz (pv 6)) (fun _ _ _ _ _ _=>(aj (i:=0) w9 rfl (UB rfl))) (aR rfl) (fun _ _ _ _ _ _=>bM) (fun _ _ _ _ _ _=>(pcF T.g__law_is_front (eR T 10) hr (aa (ay aB (pv 1) af (fun _ _=>rfl)) (aa (pv 0) ac))))) ac)) (fun _=>rfl)))))) (ag (aE fI)) bi)
  (ae (bI (PW.pt (dj (aK (uK (B:=150) (lb hr)) (pv 6) (pv 2) (aO _)) (dj (dN (aY (az (cH (T:="list")) rfl T.n_isinstance VM (aa (pv 7) (aa (ef (v:=.ty "list") rfl T.n_list Yb rfl) ac))) (fun _=>rfl))) (dh (aK oM (az ao rfl T.n_len UT (aa (pv 7) ac)) (az ao rfl T.n_len UT (aa (pv 2) ac)) (aO _)))))) (ag (aE fI)) bi)
  (ae (bx UW rfl (bC rfl T.n_range (aa (az ao rfl T.n_len UT (aa (pv 2) ac)) ac)) (aj (i:=8) cJ.nd rfl (UB rfl)) (ae (au (i:=9) cJ.nd rfl (UB rfl) (pcF T.g__law_holes (ik T 10) hr (aa (ay aP (pv 2) (pv 8) (fun _ _=>rfl)) ac)))
  (ae (bI (PW.pt (dj (dN (aY (az (cH (T:="list")) rfl T.n_isinstance VM (aa (ay aP (pv 7) (pv 8) (fun _ _=>rfl)) (aa (ef (v:=.ty "list") rfl T.n_list Yb rfl) ac))) (fun _=>rfl))) (dh (aK oM (az ao rfl T.n_len UT (aa (ay aP (pv 7) (pv 8) (fun _ _=>rfl)) ac)) (az ao rfl T.n_len UT (aa (pv 9) ac)) (aO _))))) (ag (aE fI)) bi)
  (ag (bx UW rfl (bC rfl T.n_range (aa (az ao rfl T.n_len UT (aa (pv 9) ac)) ac)) (aj (i:=10) cJ.nd rfl (UB rfl)) (ae (au (i:=11) cJ.nd rfl (UB rfl) (ay aP (ay aP (pv 7) (pv 8) (fun _ _=>rfl)) (pv 10) (fun _ _=>rfl)))
  (ae (bI (PW.pt (dj (dN (aY (az (cH (T:="tuple")) rfl T.n_isinstance VM (aa (pv 11) (aa (ef (v:=.ty "tuple") rfl T.n_tuple VI rfl) ac))) (fun _=>rfl))) (dh (aK oM (az ao rfl T.n_len UT (aa (pv 11) ac)) af (aO _))))) (ag (aE fI)) bi)
  (ae (bI (PW.pt (dj (dN (aY (pcF T.g__law_is_tree (fN T) hr (aa (ay aB (pv 1) af (fun _ _=>rfl)) (aa (ay aB (pv 11) af (fun _ _=>rfl)) (aa af ac)))) (fun _=>rfl))) (dh (dN (aY (pcF T.g__law_is_tree (fN T) hr (aa (ay aB (pv 1) af (fun _ _=>rfl)) (aa (ay aB (pv 11) af (fun _ _=>rfl)) (aa af ac)))) (fun _=>rfl)))))) (ag (aE fI)) bi)
  (ae (au (i:=12) cJ.nd rfl (UB rfl) (pcF T.g__law_name_at (fM T) hr (aa (pv 1) (aa (pv 8) (aa (ay aB (pv 11) af (fun _ _=>rfl)) (aa (ay aP (pv 9) (pv 10) (fun _ _=>rfl)) ac))))))
  (ag (bI (PW.pt (dj (aK vV (pv 12) uh (aO _)) (dh (aK cG (pv 12) (pcF T.g__law_name_at (fM T) hr (aa (pv 1) (aa (pv 8) (aa (ay aB (pv 11) af (fun _ _=>rfl)) (aa (ay aP (pv 9) (pv 10) (fun _ _=>rfl)) ac))))) (aO _))))) (ag (aE fI)) bi)))))))))))
  (ag (aE fI)))))))))),?_⟩
 try dsimp only [yH,yh]
 refine ⟨_,rfl,a,ns,rfl,hS,BL,fun b ins outs S head rows H1 s1 hb gi hz go SF hok Pl=>?_⟩;have hlen:=hok.len
 have D3:∀ row∈rows,∀ p∈row,p.FitS outs S 0/\p.size<=9:=fun row yc p hp=>by
  obtain ⟨j,hj⟩:=UG.mp hp;have BS:=hok.row row yc;obtain ⟨k0,zt⟩:∃ k0,ins[j]?=some k0:=⟨_,Ue (by have:=(Uk.mp hj).1;omega)⟩;have:=hok.fit row yc j p k0 hj zt;rw [hz k0 (Uh zt)] at this;exact this
 have F:FrK ins outs rows:=⟨gi,⟨rfl,fun row yc=>⟨hok.row row yc,fun j p k0 hp hk=>by rw [hlen];exact (hok.fit row yc j p k0 hp hk).1⟩⟩,by omega,fun row yc p hp=>by
  obtain ⟨_,h⟩:=D3 row yc p hp;have:=cA p;exact ⟨by omega,by omega⟩⟩
 have BS:∀ row∈rows,1<=row.length/\row.length<=8:=fun row yc=>by rw [hok.row row yc];exact ⟨gi.ne,gi.le⟩
 have NB:∀ row∈rows,Th.Fo outs (dW row)/\(dW row).size<=9:=fun row yc=>by
  cases row with
  | nil=>have:=(BS _ yc).1;simp at this
  | cons p ps =>
    obtain ⟨h1,h2⟩:=D3 _ yc p (UH ..);obtain ⟨h3,h4⟩:=qf go (S:=S) ps p (qx go _ _ (Uj _) h1);exact ⟨h4,by show (ps.foldl Th.com p).size<=9;omega⟩
 -- GB is due
 refine ⟨ai (by show 0<=1000000;decide),fun dl Bh=>?_⟩;have s2:L2.Same H1 (upd H1 dl (.lst [])):=ad Bh _;have e2:(upd H1 dl (.lst [])) dl=some (.lst (([]:List Ui).map V.ref)):=ab
 try dsimp only [aF]
 generalize (upd H1 dl (.lst []))=H2 at s2 e2 ⊢;refine hid fun ZZ kZ=>?_;obtain ⟨ia,oa,ha,ra,yk,yB,yV,bk⟩:=id hb;refine kZ ?_;have DH:rows.length=yV.length:=Uv bk.rw;refine ⟨_,rfl,b,_,3,.ref ra,rfl,rfl,SqT.of (s2 _ _ bk.bk),ce (j:=3) rfl,ra,rfl,⟨_,SqT.of (s2 _ _ bk.rl)⟩,?_⟩
 refine qZ (K:=K) (a:=ra) (xs:=yV.map V.ref) (fun i σ H3=>Ex4 fun (c3 c4 c5:Option V) (BI:List Ui)=>An4 (σ=[some (.ref a),some (.ref b),some (.ref dl),c3,c4,c5,none,none,none,none,none,none,none]) (L2.Same H1 H3) (H3 dl=some (.lst (BI.map V.ref))) (UX (fun row x=>At H3 (dW row) x) (rows.take i) BI))
  ⟨none,none,none,[],rfl,s2,e2,.nil⟩ (fun i σ H3 _ ⟨_,_,_,_,_,s3,_,_⟩=>SqT.of (s3 _ _ bk.rl)) ?_ ?_
 · rintro i x σ H3 hx ⟨c3,c4,c5,BI,rfl,s3,e3,B5⟩;refine hid fun ZZ kZ=>?_;obtain ⟨zg,rfl,zH⟩:=aU hx;obtain ⟨row,yc,Bo,DI,AM⟩:=P2.get' bk.rw zH;have Kk:=Uh yc;obtain ⟨l1,l8⟩:=BS row Kk;refine kZ ?_;have y8:=AM.length;cases row with
   | nil=>simp at l1
   | cons p0 ps =>
   cases Bo with
   | nil=>simp at y8
   | cons NC Bo =>
   have EL:=AM.mono (Same.kt s3);rw [Ats] at EL;refine hid fun ZZ kZ=>?_;obtain ⟨SG,SH,zV,Ce,yT⟩:=EL;refine kZ ?_;cases zV;have Jr:=s3 _ _ DI;rw [Ut,Ut] at y8;rw [Ut] at l8;refine ⟨_,rfl,zg,_,0,.ref NC,rfl,rfl,SqT.of Jr,at0,?_⟩
   try dsimp only [aF]
   refine ⟨_,rfl,1,rfl,zg,_,rfl,SqT.of Jr,?_,fun p3 Fz=>?_⟩
   · rintro ⟨z,_⟩;rw [U8,Ut,show (1:Int)=((1:Nat):Int) by rfl,HT.sIx_nat] at z;omega
   have Pm:du ((NC::Bo).map V.ref) (some 1) none=Bo.map V.ref:=by rw [U8,de]
   rw [Pm];have s4:L2.Same H3 (upd H3 p3 (.tup (Bo.map V.ref))):=ad Fz _;have e4:(upd H3 p3 (.tup (Bo.map V.ref))) p3=some (.tup (Bo.map V.ref)):=ab;generalize (upd H3 p3 (.tup (Bo.map V.ref)))=H4 at s4 e4 ⊢;refine ⟨p3,rfl,⟨_,SqT.of e4⟩,?_⟩
   refine qZ (K:=K) (a:=p3) (xs:=Bo.map V.ref) (fun j σ H5=>Ex2 fun (c5:Option V) (fa:Ui)=>An3 (σ=[some (.ref a),some (.ref b),some (.ref dl),some (.ref zg),some (.ref fa),c5,none,none,none,none,none,none,none]) (L2.Same H4 H5) (At H5 ((ps.take j).foldl Th.com p0) fa))
    ⟨_,NC,rfl,.refl _,Ce.mono (Same.kt s4)⟩ (fun j σ H5 _ ⟨_,_,_,s5,_⟩=>SqT.of (s5 _ _ e4)) ?_ ?_
   · rintro j x σ H5 hx ⟨c5,fa,rfl,s5,y3⟩;refine hid fun ZZ kZ=>?_;obtain ⟨pa,rfl,Dd⟩:=aU hx;obtain ⟨p,hp,C8⟩:=yT.get Dd;obtain ⟨f1,f2⟩:=D3 _ Kk p (UJ _ (Uh hp));obtain ⟨g1,g2⟩:=D3 _ Kk p0 (UH ..);obtain ⟨h3,h4⟩:=qf go (S:=S) (ps.take j) p0 (qx go _ _ (Uj _) g1);refine kZ ?_;have h5:=cA ((ps.take j).foldl Th.com p0);refine ⟨_,rfl,_,rfl,fa,pa,_,p,outs,S,rfl,y3,C8.mono (Same.kt (s4.trans s5)),go,h4,f1,(by show _<=9+1;omega),by omega,fun m H6 s6 hm=>?_⟩;refine ⟨_,m,rfl,s5.trans s6,?_⟩;rw [take_snoc hp,ZN];exact hm
   · rintro σ H5 ⟨c5,fa,rfl,s5,y3⟩;rw [Uc,Vx (by omega)] at y3;have FG:=(s4.trans s5) _ _ e3;have ND:(rows.take i).length=BI.length:=Uv B5;rw [UQ] at ND;have zE:=(Uk.mp yc).1;refine ⟨_,rfl,.inl ⟨rfl,_,SqL.of FG⟩,_,rfl,dl,_,_,rfl,rfl,FG,aH (by rw [Uc];omega),?_⟩;have k6:KT H5 (upd H5 dl (.lst (BI.map V.ref++[.ref fa]))):=aS FG;refine ⟨_,_,_,BI++[fa],rfl,aw (s3.trans (s4.trans s5)) Bh,by rw [ab,Ux];rfl,?_⟩;rw [take_snoc yc];exact P2.append (P2.mp (fun _ _ e=>e.mono ((Same.kt (s4.trans s5)).trans k6)) B5) (.cons (y3.mono k6) .nil)
 rintro σ H3 ⟨c3,c4,c5,BI,rfl,s3,e3,B5⟩;rw [Uc,Vx (by omega)] at B5;have SI:rows.length=BI.length:=Uv B5;refine ⟨_,rfl,b,ins,outs,head,rows,rfl,hb.mono (Same.kt s3),F,go,fun fl fs f' H4 s4 C9 FK hD hK=>?_⟩
 try dsimp only [aF]
 have AY:=s3.trans s4;refine ⟨_,rfl,b,ins,outs,head,rows,rfl,hb.mono (Same.kt AY),F,go,fun pl ls SJ H5 s5 Sl SK SM=>?_⟩
 try dsimp only [aF]
 obtain ⟨Fs,CO⟩:=SM;have EH:=AY.trans s5;have NF:(U1 rows.length).length=fs.length:=Uv FK;have NG:(U1 rows.length).length=ls.length:=Uv CO;rw [UY] at NF NG
 have Js:UX (fun s a=>AtK K H5 (dW (rows.getD s [])) a) (U1 rows.length) fs:=P2.mpm (fun s x hs h=>by
  have zo:=WD.mp hs;rw [Y1,Ue zo,YZ];rw [kA F go hz hK (Ue zo)] at h;exact h.mono (Same.kt s5)) FK
 have EM:UX (fun row x=>AtK K H5 (dW row) x) rows BI:=P2.mp (fun _ _ h=>(h.mono (Same.kt (s4.trans s5))).k) B5;refine cI (fun bb H'=>An2 (bb=false) (L2.Same H5 H')) (fun k2 zJ=>?_) (fun H' hb=>absurd hb.1 (by decide)) (fun H6 SN=>?_)
 · refine ⟨_,rfl,_,_,_,rfl,.lst (s5 _ _ C9),pZ,_,rfl,?_⟩;refine cP ?_;refine ⟨_,rfl,fl,rfl,⟨_,SqL.of (s5 _ _ C9)⟩,fun D hD=>?_⟩;refine ⟨rows.length,fun j H6=>An3 (j<=rows.length) (L2.Same H5 H6) (H6 D=some (.lst ((Wf j true).map V.bl))),⟨UO _,ad hD _,ab⟩,?_⟩;rintro j H6 ⟨hj,s6,eD⟩;by_cases AV:j=rows.length
   · left;refine ⟨⟨_,SqL.of ((s5.trans s6) _ _ C9),by rw [Uc];omega⟩,?_⟩;refine ⟨D,Wf j true,rfl,SqL.of eD,?_⟩;rw [show (Wf j true).all id=true from WS.mpr fun b hb=>(List.mem_replicate.mp hb).2];exact ⟨_,rfl,zJ _ _ ⟨rfl,s6⟩⟩
   · right;have yv:j<rows.length:=by omega
     obtain ⟨fa,y3⟩:∃ fa,fs[j]?=some fa:=⟨_,Ue (by omega)⟩;obtain ⟨s',zo,zY⟩:=P2.get' Js y3;rw [Vp yv] at zo;cases zo;rw [Y1,Ue yv,YZ] at zY;obtain ⟨z1,z2⟩:=NB _ (XN yv);have z3:=cA (dW rows[j]);refine ⟨yv,⟨_,.ref fa,SqL.of ((s5.trans s6) _ _ C9),by rw [Uo,y3];rfl⟩,?_⟩;rintro x' H7 ⟨Av,hv⟩;have FN:H7=H6:=Av;subst FN;have yK:=hv _ (SqL.of ((s5.trans s6) _ _ C9));rw [Uo,y3] at yK;cases yK;refine ⟨_,rfl,b,_,1,.ref oa,rfl,rfl,SqT.of ((EH.trans s6) _ _ bk.bk),at1,_,rfl,oa,fa,yB,outs,dW rows[j],rfl,(EH.trans s6) _ _ bk.outE,bk.outK.mono (Same.kt (EH.trans s6)),zY.mono (Same.kt s6),z1,by omega,(by show _<=9+1;omega),fun H8 s8=>?_⟩;have Ka:=s8 _ _ eD;refine ⟨_,Ka,aH (by rw [Uc,Xv];omega),yv,aw (s6.trans s8) hD,?_⟩;rw [ab,List.replicate_succ',Ux];rfl
 have s6:=SN.2;have FD:=EH.trans s6;have Ua:=s6;dsimp only [j9];refine cI (fun bb H'=>An2 (bb=false) (H6=H')) (fun k2 zJ=>?_) (fun H' hb=>absurd hb.1 (by decide)) (fun H' hb=>?_)
 · have hq:(U1 rows.length).map (fun s=>(dW (rows.getD s [])).dv)=rows.map fun row=>(dW row).dv:=by
    refine Wr fun j=>?_;rw [Uo,Uo];by_cases hj:j<rows.length
    · rw [Vp hj,Ue hj];show some (dW (rows.getD j [])).dv=some (dW rows[j]).dv;rw [Y1,Ue hj,YZ]
    · rw [Vq (by rw [UY];omega),Vq (by omega)];rfl
   have Ub:cq (rows.map fun row=>(dW row).dv)<=9:=by
    have:=iL (B:=9) (ts:=rows.map dW) fun t ht=>by
     obtain ⟨row,hr,rfl⟩:=U5.mp ht;have h1:=(NB row hr).2;have h2:=cA (dW row);omega
    rw [Wi] at this;exact this
   refine ⟨_,rfl,_,rfl,fl,dl,_,_,_,_,rfl,rfl,SqL.of ((s5.trans s6) _ _ C9),SqL.of ((s4.trans (s5.trans s6)) _ _ e3),nG (P2.mp (fun _ _ h=>h.mono (Same.kt s6)) Js),nG (P2.mp (fun _ _ h=>h.mono (Same.kt s6)) EM),by rw [hq];omega,fun bb Ky=>⟨_,rfl,?_⟩⟩
   have SO:bb=false:=by
    cases bb with
    | false=>rfl
    | true=>exact absurd hq (Ky.mp rfl)
   subst SO;refine cP ?_;refine ⟨_,rfl,_,_,_,rfl,.lst (s6 _ _ Fs),pZ,_,rfl,?_⟩;refine cP ?_;refine ⟨_,rfl,pl,_,rfl,.inl (SqL.of (s6 _ _ Fs)),_,rfl,dl,_,rfl,.inl (SqL.of ((s4.trans (s5.trans s6)) _ _ e3)),rfl,_,rfl,?_⟩;have Jt:(ls.map V.ref).length=(BI.map V.ref).length:=by rw [Uc,Uc];omega
   rw [Jt,decide_eq_true rfl];exact zJ _ _ ⟨rfl,rfl⟩
 obtain ⟨_,rfl⟩:=hb;dsimp only [j9]
 -- states
 have Jf:=(s4.trans (s5.trans s6)) _ _ e3;refine ⟨_,rfl,dl,_,rfl,.inl (SqL.of Jf),_,rfl,by omega,by rw [Uc];omega,?_⟩;refine bP (n:=(((BI.map V.ref).length:Nat):Int).toNat) (fun i σ H7=>Ex5 fun (c8 c9 y6 AO Ac:Option V)=>An2 (σ=[some (.ref a),some (.ref b),some (.ref dl),c3,c4,c5,some (.ref fl),some (.ref pl),c8,c9,y6,AO,Ac]) (L2.Same H6 H7)) ⟨none,none,none,none,none,rfl,.refl _⟩ ?_ ?_
 · rintro i σ H7 hi ⟨c8,c9,y6,AO,Ac,rfl,s7⟩
   have yX:i<rows.length:=by
    have h1:i<(((BI.map V.ref).length:Nat):Int).toNat:=hi;rw [Uc] at h1;omega
   have Pz:=s6.trans s7;refine hid fun ZZ kZ=>?_;obtain ⟨da,PB⟩:∃ da,BI[i]?=some da:=⟨_,Ue (by omega)⟩;obtain ⟨row,yc,zY⟩:=P2.get' EM PB;obtain ⟨z1,z2⟩:=NB _ (Uh yc);have z3:=cA (dW row);obtain ⟨la,BA⟩:∃ la,ls[i]?=some la:=⟨_,Ue (by omega)⟩;obtain ⟨s',zo,prs,NH,Bp⟩:=P2.get' CO BA;refine kZ ?_;rw [Vp yX] at zo;cases zo;dsimp only at Bp;rw [kA F go hz SK yc] at Bp;have y8:(di (dW row)).length=prs.length:=Uv Bp;have Ek:=kO (dW row);have FT:∀ (xs:List Ui) (a:Ui) (j:Nat),xs[j]?=some a->atI (xs.map V.ref) (0+(j:Int))=some (.ref a):=fun xs a j h=>at_nonneg (by omega) (by rw [show (0+(j:Int)).toNat=j by omega,Uo,h];rfl);refine ⟨_,rfl,_,rfl,dl,_,_,.ref da,rfl,rfl,SqL.of (s7 _ _ Jf),FT BI da i PB,da,dW row,outs,rfl,zY.mono (Same.kt Pz),z1,by omega,by omega,fun sl bs H8 s8 nr er yT=>?_⟩
   try dsimp only [aF]
   have zL:(di (dW row)).length=bs.length:=Uv yT;have Bm:=Pz.trans s8;refine cI (fun bb H'=>An2 (bb=false) (H8=H')) (fun k2 zJ=>?_) (fun H' hb=>absurd hb.1 (by decide)) (fun H' hb=>?_)
   · refine ⟨_,rfl,_,rfl,pl,_,_,.ref la,rfl,rfl,SqL.of (Bm _ _ Fs),FT ls la i BA,_,_,_,rfl,.lst (Bm _ _ NH),pZ,_,rfl,?_⟩;refine cP ?_;refine ⟨_,rfl,_,rfl,pl,_,_,.ref la,rfl,rfl,SqL.of (Bm _ _ Fs),FT ls la i BA,la,_,rfl,.inl (SqL.of (Bm _ _ NH)),_,rfl,sl,_,rfl,.inl (SqL.of er),rfl,_,rfl,?_⟩;have Ju:(prs.map V.ref).length=(bs.map V.ref).length:=by rw [Uc,Uc];omega
     rw [Ju,decide_eq_true rfl];exact zJ _ _ ⟨rfl,rfl⟩
   obtain ⟨_,rfl⟩:=hb;dsimp only [j9];refine ⟨_,rfl,sl,_,rfl,.inl (SqL.of er),_,rfl,by omega,by rw [Uc];omega,?_⟩;refine bP (n:=(((bs.map V.ref).length:Nat):Int).toNat) (fun j σ H9=>Ex3 fun (y6 AO Ac:Option V)=>An2 (σ=[some (.ref a),some (.ref b),some (.ref dl),c3,c4,c5,some (.ref fl),some (.ref pl),some (.int (0+(i:Int))),some (.ref sl),y6,AO,Ac]) (L2.Same H8 H9)) ⟨_,_,_,rfl,.refl _⟩ ?_ ?_
   · rintro j σ H9 hj ⟨y6,AO,Ac,rfl,s9⟩
     have yv:j<bs.length:=by
      have h1:j<(((bs.map V.ref).length:Nat):Int).toNat:=hj;rw [Uc] at h1;omega
     refine hid fun ZZ kZ=>?_;obtain ⟨pb,BF⟩:∃ a,bs[j]?=some a:=⟨_,Ue yv⟩;obtain ⟨pr,zX⟩:∃ a,prs[j]?=some a:=⟨_,Ue (by omega)⟩;obtain ⟨h,hh,p0,ta,tb,t1,t2,e0,CP,An,J6,PD⟩:=P2.get' Bp zX;refine kZ ?_;cases e0;refine hid fun ZZ kZ=>?_;obtain ⟨h',F9,Gi⟩:=P2.get' yT BF;rw [hh] at F9;cases F9;obtain ⟨m1,m2,yx,n1,n2⟩:=tT _ _ _ _ PD;obtain ⟨jj,_,CZ⟩:=PD;obtain ⟨_,_,_,_,_,_,_,⟨f1,_,_⟩,⟨f2,_,_⟩⟩:=CZ;have y1:=mr hz f1;have y2:=mr hz f2;have w1:=mN hz f1;have w2:=mN hz f2;obtain ⟨v,Je,_⟩:=lJ.mp (Uh hh);refine kZ ?_;have hd:=oR _ (dW row) [] (Uj _) _ (In.to Je);rw [WI] at hd;dsimp only at hd;have Ci:=Bm.trans s9;have Km:=EH.trans Ci;have FU:=Ci _ _ CP;refine ⟨_,rfl,_,rfl,pl,_,_,.ref la,rfl,rfl,SqL.of (Ci _ _ Fs),FT ls la i BA,_,rfl,la,_,_,.ref pr,rfl,rfl,SqL.of (Ci _ _ NH),FT prs pr j zX,?_⟩
     try dsimp only [aF]
     refine ⟨_,rfl,_,_,_,rfl,.tup FU,qg,_,rfl,?_⟩;refine cP ?_;refine ⟨_,rfl,pr,_,rfl,.inr (SqT.of FU),rfl,_,rfl,?_⟩;refine cP ?_;dsimp only [j9];have Di:=gi.le;refine ⟨_,rfl,b,_,0,.ref ia,rfl,rfl,SqT.of (Km _ _ bk.bk),at0,_,rfl,pr,_,0,.ref ta,rfl,rfl,SqT.of FU,at0,ia,ta,1,yk,ins,t1,rfl,Km _ _ bk.inE,bk.inK.mono (Same.kt Km),Di,An.mono (Same.kt Ci),f1,by omega,by omega,fun yZ yJ=>⟨_,rfl,?_⟩⟩;refine cP ?_;have Kn:=Km.trans yJ;have NI:=Ci.trans yJ;refine ⟨_,rfl,b,_,0,.ref ia,rfl,rfl,SqT.of (Kn _ _ bk.bk),at0,_,rfl,pr,_,1,.ref tb,rfl,rfl,SqT.of (NI _ _ CP),at1,ia,tb,1,yk,ins,t2,rfl,Kn _ _ bk.inE,bk.inK.mono (Same.kt Kn),Di,J6.mono (Same.kt NI),f2,by omega,by omega,fun zm zi=>⟨_,rfl,?_⟩⟩;refine cP ?_;dsimp only [j9];have PF:=Kn.trans zi;have NJ:=NI.trans zi;have B4:=s9.trans (yJ.trans zi);refine ⟨_,rfl,_,rfl,_,rfl,pr,_,0,.ref ta,rfl,rfl,SqT.of (NJ _ _ CP),at0,_,rfl,_,rfl,sl,_,_,.ref pb,rfl,rfl,SqL.of (B4 _ _ er),FT bs pb j BF,b,ta,pb,_,ins,outs,head,rows,t1,h,m1,rfl,hb.mono (Same.kt PF),gi,An.mono (Same.kt NJ),B4 _ _ Gi,by omega,by rw [VZ];exact n1,fun Cj yL=>?_⟩
     try dsimp only [aF]
     have SQ:=PF.trans yL;have PH:=NJ.trans yL;have FV:=B4.trans yL;refine ⟨_,rfl,rfl,_,rfl,?_⟩;refine cP ?_;refine ⟨_,rfl,_,rfl,_,rfl,_,rfl,pr,_,1,.ref tb,rfl,rfl,SqT.of (PH _ _ CP),at1,_,rfl,_,rfl,sl,_,_,.ref pb,rfl,rfl,SqL.of (FV _ _ er),FT bs pb j BF,b,tb,pb,_,ins,outs,head,rows,t2,h,m2,rfl,hb.mono (Same.kt SQ),gi,J6.mono (Same.kt PH),FV _ _ Gi,by omega,by rw [VZ];exact n2,fun Dm AX=>⟨rfl,_,rfl,?_⟩⟩;rw [decide_eq_false (show V.str m1≠V.str m2 from fun z=>yx (V.str.inj z))];refine cP ?_;exact ⟨_,_,_,rfl,FV.trans AX⟩
   · rintro σ H9 ⟨y6,AO,Ac,rfl,s9⟩;exact ⟨_,_,_,_,_,rfl,s7.trans (s8.trans s9)⟩
 · rintro σ H7 ⟨c8,c9,y6,AO,Ac,rfl,s7⟩;exact k H7
end
set_option maxHeartbeats 8000000 in
theorem all_mk {l:PySem.W.OpenLaw} {w:UN} {K:Ug} {h:VH} {mg:US->Option Ul} {fa:Ui} (X:K.In h) (G:h.Ns Va mg) (y3:mg "law"=some (.ref fa))
 {Jv:Ui} {NK Jw:Option Ui} {NL:Array (Option Ul)} {NM Jx Jy Jz FW JA:Ul} {PJ:Tok} {F8:Tok} {NN:Ui} {NO:Option Ui} {SR:Nat} {NP:Array (Option Ul)} {JB:Tok}
 (g_kids_of:FX K mg "kids_of" jx ["thing"])
 (g_walked:FX K mg "walked" j8 ["thing"])
 (g_placed:FX K mg "placed" kW ["thing"])
 (g_built:FX K mg "built" nJ ["tops"])
 (g_places:FX K mg "places" kC ["tree"])
 (g_is_call:FX K mg "is_call" jf ["thing"])
 (g_is_hole:FX K mg "is_hole" jg ["thing"])
 (g_is_knot:FX K mg "is_knot" jo ["thing"])
 (g_called_by:FX K mg "called_by" fV ["call"])
 (g_calls_in:FX K mg "calls_in" iB ["pattern"])
 (g_holes_in:FX K mg "holes_in" iG ["front"])
 (g_top_of:FX K mg "top_of" kM ["part"])
 (g_filled:FX K mg "filled" lI ["pattern","table"])
 (g_same_top:FX K mg "same_top" iq ["one","two"])
 (g_side_by_side:FX K mg "side_by_side" dH ["one","two"])
 (g_common:FX K mg "common" kL ["one","two"])
 (g_ins_of:FX K mg "ins_of" kE ["book"])
 (g_rules_of:FX K mg "rules_of" iy ["book"])
 (g_states_of:FX K mg "states_of" gv ["book"])
 (g_small_tree:FX K mg "small_tree" fx ["ins"])
 (g_knot_above:FX K mg "knot_above" fC ["ins","kind","kids"])
 (g_first_makings:FX K mg "first_makings" df ["book"])
 (g_first_front:FX K mg "first_front" eL ["book","state","made","partings"])
 (g_put_links:FX K mg "put_links" gg ["book","state","front","links"])
 (g_spread:FX K mg "spread" lh ["ins","links","partings"])
 (g_cut_front:FX K mg "cut_front" gA ["front","state","partings"])
 (g_found_fronts:FX K mg "found_fronts" dB ["book"])
 (g_fronts_of:FX K mg "fronts_of" gq ["book"])
 (g_partings_of:FX K mg "partings_of" eJ ["book"])
 (g__law_cell:FX K mg "_law_cell" gu ["script","k"])
 (g__law_folded:FX K mg "_law_folded" eB ["cells","many"])
 (g__law_names:FX K mg "_law_names" fo ["cell"])
 (g__law_kinds:FX K mg "_law_kinds" fG ["cell","names"])
 (g__law_thing:FX K mg "_law_thing" fF ["left","outs","states","kids"])
 (g__law_places:FX K mg "_law_places" eO ["thing"])
 (g__law_put:FX K mg "_law_put" ip ["thing","place","other"])
 (g__law_mixed:FX K mg "_law_mixed" fw ["cell","k"])
 (g__law_rows:FX K mg "_law_rows" f8 ["cells","ins","outs","states"])
 (g__law_book:FX K mg "_law_book" gw ["cells","ins","outs","states"])
 (g__law_name_at:FX K mg "_law_name_at" dG ["book","state","tree","place"])
 (g__law_is_tree:FX K mg "_law_is_tree" dD ["ins","tree","most"])
 (g__law_is_front:FX K mg "_law_is_front" dg ["outs","front"])
 (g__law_holes:FX K mg "_law_holes" fh ["front"])
 (g__law_common:FX K mg "_law_common" eF ["one","two"])
 (g__law_leaf_book:FX K mg "_law_leaf_book" cV ["script"])
 (a45:V8 K Va "law"=some (some (.ref Jv))) (l45:K.lookup Jv=some ⟨NM,NK,.func (XH "law" "law" (cp iT) (cg iT) (am iT) .none Jx Jy Jz Jw FW JA),NL⟩) (c45:Zi K FW "law"=true) (k45:Zh K (.ref Jv)=true)
 (z0:V8 K Va "all"=some none)
 (z1:V8 K Va "dict"=some none)
 (z2:V8 K Va "enumerate"=some none)
 (z3:V8 K Va "isinstance"=some none)
 (z4:V8 K Va "len"=some none)
 (z5:V8 K Va "list"=some none)
 (z6:V8 K Va "range"=some none)
 (z7:V8 K Va "reversed"=some none)
 (z8:V8 K Va "str"=some none)
 (z9:V8 K Va "tuple"=some none)
 (z10:V8 K Va "zip"=some none)
 (y0:V8 K Va "CALL_SIGN"=some (some (.str (Um "?") PJ)))
 (y1:V8 K Va "MOST_KIDS"=some (some (.int (3) F8)))
 (y2:V8 K Va "HOLE"=some (some (.ref NN)))
 (w2:K.lookup NN=some ⟨.type "tuple",NO,.seq #[.str (Um "*") JB] SR,NP⟩) :
 ∃ fd:XD,(∀ (s:Ur) (v:Ul),BindsTo s fd ⟨[v],[]⟩ [("script",v)])/\∀ base:VH,K.In base->base.Ns Va mg->bp l.prog w K mg base CX0 22 fa fd ["script"] (nD K):=by
 have e0:=y3.symm.trans (YN X G a45);have e:Jv=fa:=(Value.ref.inj (UR e0)).symm;subst e;have PK:=fA (st:=iT) l45 c45 k45;have SS:=PK.binds (ps:=["script"]) fun _ _ _ _ _ _ us hl=>by obtain ⟨y0,rfl⟩:=us1 hl;rfl
 let T:TX K mg:=⟨⟨PJ,YN X G y0⟩,⟨F8,YN X G y1⟩,NN,YN X G y2,fun H=>.inr ⟨_,_,_,w2,rfl,rfl,(by show 1<=UD;decide),.cons ⟨_,rfl⟩ (.nil)⟩,g_kids_of,g_walked,g_placed,g_built,g_places,g_is_call,g_is_hole,g_is_knot,g_called_by,g_calls_in,g_holes_in,g_top_of,g_filled,g_same_top,g_side_by_side,g_common,g_ins_of,g_rules_of,g_states_of,g_small_tree,g_knot_above,g_first_makings,g_first_front,g_put_links,g_spread,g_cut_front,g_found_fronts,g_fronts_of,g_partings_of,g__law_cell,g__law_folded,g__law_names,g__law_kinds,g__law_thing,g__law_places,g__law_put,g__law_mixed,g__law_rows,g__law_book,g__law_name_at,g__law_is_tree,g__law_is_front,g__law_holes,g__law_common,g__law_leaf_book,⟨Jv,_,PK,SS,YN X G a45⟩,VY X G z0,VY X G z1,VY X G z2,VY X G z3,VY X G z4,VY X G z5,VY X G z6,VY X G z7,VY X G z8,VY X G z9,VY X G z10⟩
 refine ⟨XH "law" "law" (cp iT) (cg iT) (am iT) .none Jx Jy Jz Jw FW JA,fun s v=>.of_eq rfl,fun base _ _=>?_⟩;exact wy T
theorem walk {l:PySem.W.OpenLaw} {q:Uz} {loose:List US} {XP:(US->Option Ul)->VH->Prop} {YP:UN->VH->Prop} {d:DefRec} {K:Params->Ug} (hn:l.most=some 63) (hdf:d.params.defaults=[])
 (hY:∀ (w:UN) (h:VH),YP w h->(K w.params).In h)
 (F:∀ (w:UN) (mg:US->Option Ul) (fa:Ui) (h:VH),(K w.params).In h->h.Ns Va mg->mg d.name=some (.ref fa) →
  ∃ fd:XD,(∀ (s:Ur) (u:Ul),BindsTo s fd ⟨[u],[]⟩ [("script",u)])/\∀ base:VH,(K w.params).In base->base.Ns Va mg->bp l.prog w (K w.params) mg base CX0 22 fa fd ["script"] (nD (K w.params))) :
 PySem.W.WalkO q loose XP YP l.row.toRowW d [] (fun f vs=>PySem.call f vs) :=
 L2.uR (n:=63) (k:=22) (x:="script") (CX:=fun _=>CX0) (sp:=fun w=>nD (K w.params)) hn (by decide) hdf ⟨rfl,by decide,by decide⟩ hY F (fun _ _ a ns hl _ hS=>⟨a,ns,rfl,hS,hl,fun _=>rfl⟩) fun _ _ _ _ _ z=>z
end LAW
open PySem PySem.W PyProof.Rows
set_option maxRecDepth 100000 in
set_option maxHeartbeats 0 in
theorem PySem.Challenge.cw_boughbook_k55_fronts_of_leaves_holds : PySem.Challenge.rw_boughbook_k55_fronts_of_leaves.Holds := by
 w_on;o_law;(refine holds_open (q:=LAW.vw) (N:=90000) (loose:=[]) (XP:=XL LAW.vw []) (Yf:=Hook.obs (kHook LAW.d0.heap_1 LAW.ks LAW.ke)) (Ya:=Hook.val (kHook LAW.d0.heap_1 LAW.ks LAW.ke)) (YP:=Hook.says (kHook LAW.d0.heap_1 LAW.ks LAW.ke)) (Xt:=LAW.xt) (HD.rW (by kernel_rfl) (by kernel_rfl) (fun _=>by kernel_rfl) LAW.lk0 LAW.lk1 LAW.lk2 LAW.lk3 LAW.lk4 LAW.lk5 (HD.Pc.k LAW.kp)) (Hook.of (kHook LAW.d0.heap_1 LAW.ks LAW.ke)) (Hook.keeps (kHook LAW.d0.heap_1 LAW.ks LAW.ke)) (fun s e=>xl_of s (Zo.mp e).1) XL.keeps (by rfl) (by rfl) (by rfl) (fun s e=>recFacts_of (Zo.mp e).2) (by rfl) (by assumption) (by decide +kernel) ⟨rfl,rfl,rfl,rfl,rfl,by decide +kernel⟩ ?_ ?_);w_witness2
 k_fill
 refine LAW.walk (l:=PySem.Challenge.rw_boughbook_k55_fronts_of_leaves) rfl rfl (fun w h Y=>PySem.W.kIn_of Y) ?F
 case F =>
  intro w mg fa h KX G GR;refine' LAW.all_mk KX G GR (LAW.fx1 KX G) (LAW.fx1 KX G) (LAW.fx1 KX G) (LAW.fx1 KX G) (LAW.fx1 KX G) (LAW.fx1 KX G) (LAW.fx1 KX G) (LAW.fx1 KX G) (LAW.fx1 KX G) (LAW.fx1 KX G) (LAW.fx1 KX G) (LAW.fx1 KX G) (LAW.fx2 KX G) (LAW.fx2 KX G) (LAW.fx2 KX G) (LAW.fx2 KX G) (LAW.fx1 KX G) (LAW.fx1 KX G) (LAW.fx1 KX G) (LAW.fx1 KX G) (LAW.fx3 KX G) (LAW.fx1 KX G) (LAW.fx4 KX G) (LAW.fx4 KX G) (LAW.fx3 KX G) (LAW.fx3 KX G) (LAW.fx1 KX G) (LAW.fx1 KX G) (LAW.fx1 KX G) (LAW.fx2 KX G) (LAW.fx2 KX G) (LAW.fx1 KX G) (LAW.fx2 KX G) (LAW.fx4 KX G) (LAW.fx1 KX G) (LAW.fx3 KX G) (LAW.fx2 KX G) (LAW.fx4 KX G) (LAW.fx4 KX G) (LAW.fx4 KX G) (LAW.fx3 KX G) (LAW.fx2 KX G) (LAW.fx1 KX G) (LAW.fx2 KX G) (LAW.fx1 KX G) ?a45 ?l45 ?c45 ?k45 ?z0 ?z1 ?z2 ?z3 ?z4 ?z5 ?z6 ?z7 ?z8 ?z9 ?z10 ?y0 ?y1 ?y2 ?w2
  (case a45=>k_is)
  (case l45=>k_is)
  (case c45=>k_is)
  (case k45=>k_is)
  (case z0=>k_is)
  (case z1=>k_is)
  (case z2=>k_is)
  (case z3=>k_is)
  (case z4=>k_is)
  (case z5=>k_is)
  (case z6=>k_is)
  (case z7=>k_is)
  (case z8=>k_is)
  (case z9=>k_is)
  (case z10=>k_is)
  (case y0=>k_is)
  (case y1=>k_is)
  (case y2=>k_is)
  (case w2=>k_is)
