import PyProof.Rows.All
import Wide.All
import OpenK.AllK
import Wide.FinOn
import Lean
import PyProof.EqAt
import PyProof.EqKinds
import PyProof.TupleCall
import KE.KRevIter
import PyProof.ListNew
import PyProof.Draws
import PyProof.EnumMake
import PyProof.Rows.EnumRows
import PyProof.ZipIter
import PyProof.ConsumeWalk
import KE.LcSums
import PyProof.AttrMissHeap
import KE.KDictOf
import PyProof.DictWalks
import PyProof.ListMulRoad
import PyProof.FactsAll.tuple
import PyProof.NeKinds
import KE.RegKTryMore
import KE.RegKIsAll
import PyProof.StrWalks
import PyProof.Rows.SetFrom
import PyProof.FString5
import Wide.Txt
import PyProof.Rows.SeqMore
import PyProof.StrOps2
import KE.KEqDict
import PyProof.CollectIter
import PyProof.JoinWalk
import PyProof.CallStr
import PyProof.DictRoadsH
import PyProof.MeetsDictList
import PyProof.DictTruth
import PyProof.StrLawsChain
import PyProof.StrCalls6
import PyProof.ToksMono
import PyProof.StrCalls2
import KE.KWords
import PyProof.MeetsStr2
import KE.KLam
import KE.KDictLaws
import PyProof.DictItems
import PyProof.DictValues
import PyProof.DictItemsLoops
import PySem.Challenge.RW_boughbook_k59_whole_fronts_are_greatest
set_option Elab.async false
set_option linter.all false
set_option maxRecDepth 100000
set_option genInjectivity false
set_option genSizeOf false
local macro_rules | `(tactic| omega) => `(tactic| lia)
open List renaming length_map→T8,getElem?_eq_getElem→Ua,mem_of_getElem?→Uc,getElem?_eq_some_iff→Uh,getElem?_map→Ul,length_cons→Uo,size_toArray→Uq,map_append→Ut,length_append→UA,mem_cons→UB,mem_iff_getElem?→UC,mem_cons_of_mem→UG,mem_singleton→UH,mem_cons_self→UM,range→UT,length_range→UW,append_nil→U0,length_take→U1,mem_append_right→U6,mem_append→U8,getElem?_cons_succ→U9,getElem?_range→Va,mem_map→Vb,map_cons→Vd,append_assoc→Ve,mem_append_left→Vf,reverse_cons→Vn,length_drop→Vx,take_add_one→Vz,length_eq_zero_iff→VB,length_reverse→VC,take_of_length_le→VG,reverse_append→VM,replicate→VN,mem_filter→V0,filter_cons→V4,getElem?_eq_none→Wa,nil_append→Wc,dropLast_concat_getLast→Wd,reverse_reverse→We,cons_append→Wf,map_map→Wi,getElem?_zip_eq_some→Wk,getElem?_append_left→Wl,take_length→Wt,map_nil→Wv,drop_zero→Wy,not_mem_nil→WJ,lookup_cons→WK,all_eq_true→WL,mem_range→WO,getElem?_append_right→WQ,length_replicate→WT,length_filter_le→WU,length_nil→W0,find?_cons→W2,length→W7,take_zero→Xc,zip_cons_cons→Xj,of_mem_zip→Xl,length_zip→Xm,drop_eq_getElem_cons→XG,map_congr_left→XI,filterMap_cons→XJ,forIn_cons→XY,filter_append→X0,getElem_mem→Ye,nodup_cons→Yp,zip_nil_right→Yw,nodup_nil→Yx,map_inj_right→Yy,zip_nil_left→YC,nodup_append→YD,ext_getElem?→YE,map_reverse→YT,range_succ→Y2,length_set→Y3,filter_nil→Y4,replicate_succ'→Zd,getElem?_set_ne→Ze,forIn_nil→Zf,drop_succ_cons→Zk,map_drop→Zq,mem_replicate→Zu,mem_filterMap→Zv,filterMap_map→Zw,getElem?_inj→ZH,flatMap_cons→ZI
open PySem renaming wpAny_bind→T9,Addr→Ud,Value→Ug,wpAny_pure→Uk,Shared→Um,Program→Uv,wpAny→Uy,sizeLine→Uz,boot_len→UE,World→UK,Str→UP,Paired→UR,model→UU,mainGlobals→U3,Around→U5,wpAny_field→Vc,starEach→Vi,wpAny_callSpecial?_slot→Vm,wpAny_newObj_type→Vp,wpAny_call_entry→Vq,Expr→Vs,Heap→Vy,builtinLookup_eq_fast→VD,wpAny_seqItems→VI,wpAny_holding→VJ,wpAny_specialOf→VR,wpAny_Call_Name_kw→VU,cLine→V1,wpAny_updateSeq→V6,Stmt→V8,sysModules→Wb,typeLookup_type→Wh,wpAny_mono→Wn,Obj→Wu,IsPair→Ww,rawInt→WD,eval→WE,NameKind→WN,wpAny_typeOf→WV,Builtin→WY,wpAny_isInstance→WZ,wpAny_setField_rec→W4,wpAny_rule→W5,wpAny_attempt→Xe,pyNext→Xf,plainId_quiet→Xg,isSubtype_type→Xk,wpAny_typeNameOfWhole_keyiter→Xp,wpAny_of_eq→Xq,wpAny_pyIter_tuple→Xr,wpAny_passesOwn→Xu,FuncData→Xw,compareOp→Xz,wpAny_truthy_bool→XF,mem_of_lookup→XH,wpAny_setField→XN,typeLookup→XO,atKey→XQ,wpAny_typeNameOf_keyiter→X2,binaryOp→X3,codeAny_builtin→X7,tupleKind_room_in1→X8,sliceBounds→X9,sizeLine_eq→Yb,Scope→Yc,Pos→Yd,tupleKeyHash→Yh,getItem→Yi,firstArgMember→Yj,codeAny→Yk,backTo→Yl,bootBuiltins→YG,OsState→YJ,updateSeq→YM,call_meets→YN,wpAny_pyIter_enum→YX,wpAny_letGo→YY,wpAny_dictEntries→YZ,storedH→Y0,atKey_none_of_get→Y1,behindInMarks→Y6,tupleKind→Y9,IsZip→Zg,assignEach→Zj,IsPart→Zl,wpAny_ite_split→Zm,wpAny_execs_nil→Zn,letOwnedTupleGo→Zo,importedModules→Zp,wpAny_notOrdered_dict→Zt,wpAny_updateSeq_pair→Zx,slicePicked→Zy,callType_codes→Zz,ZipApart→ZA
open PySem.W renaming Frag→Ub,mg_none_of→VS,kia_one→VZ,nsIn→V2,boot_heap→W6,kitOne→Xv,fnOf→XB,mg_of→YH,keepIn→Za,codeIn→Zb,methodObj→ZC
open Nat renaming le_refl→Ue,zero_le→UL,ne_of_lt→UX,lt_of_lt_of_le→Vj,lt_irrefl→VO,le_trans→V3,le_add_right→WI,ne_of_gt→XC,lt_trans→XD,le_of_lt→XE,not_lt_zero→XX,lt_succ_of_lt→X5,min_eq_left→Yo,not_lt→Yu,lt_of_le_of_lt→Yv,add_assoc→YK,min_self→YW,mul_le_mul_right→Zc,sub_zero→ZE,sub_self→ZF,le_of_eq→ZG
open PySem.Str renaming ofString→Ui
open PySem.Heap renaming get?_push_of_some→Uj,get?_push_size→Uu,lt_size→Uw,get?_update_self→U2,get?_update_other→U7,size_push→Vw,SameBut→V9,size_update→Yr,ExtBut→ZK
open PySem.Paired renaming length→Up
open PySem.F renaming plainAttrs_list→Ur,type_list_append→UI,slot_list_append→UJ,plain_extend_loop→VQ,slot_dict_keyiterator_next→WM,type_list_pop→WR,slot_list_pop→WS,type_list_extend→W8,slot_list_extend→W9,slot_list_index→Xb,slot_dict_get→Xn,slot_zip_next→Xy,slot_tuple_iterator_next→XS,slot_dict_setdefault→Ym,entry_extend_loop→YF,args_tuple_add_2→YI,type_list_index→YO,plainAttrs_dict→YQ,entry_tuple_add→YR,args_dict_get_3→YS,slot_tuple_add→YU,entry_dict_get→YV,slot_tuple_hash→Y5,slot_list_getattribute→Y8
open Or renaming inl→Ux,inr→Yt
open Bool renaming false_ne_true→UD,false_eq_true→Vv,eq_false_iff→VP,and_eq_true→Wg,false_or→XW,eq_iff_iff→XZ,not_true→Yg,and_false→YA,and_eq_true_iff→Zi,or_false→Zs
open Option renaming map_eq_some_iff→UN,isSome_iff_exists→XR,map_some→Yn,isSome_map→ZD
open PySem.PassesOwn renaming never→UO
open Option.some renaming inj→UQ
open PySem.Value renaming ref→US,none→VL,type→WH
open Array renaming length_toList→UY,getElem?_eq_getElem→Wm,getElem?_toList→Xo,toList_append→XM,forIn_toList→X1,getElem?_eq_none→X6,getElem?_eq_some_iff→YB,toList→ZL
open Sum renaming inl→UZ,inr→XA
open PyProof.Rows renaming slot_tuple_getitem→U4,callWith_type1→Vg,boot_isinstance→VE,boot_tuple→VY,IsTup→Xi,boot_list→X4,boot_all→Y7
open PySem.Builtin.SmallTypes renaming nextOf→Vh,ownedTupleIsFree→Vo
open Int renaming toNat_natCast→Vk,emod_lt_of_pos→Vu,emod_nonneg→VA,zero_add→VH,toNat_of_nonneg→WG,ediv_one→ZJ
open PySem.Obj renaming mapSeq→Vr,data_mapFields→Wz,isFreed_of_fields→Yq
open PySem.NameKind renaming free→VF,cell→Ys
open PySem.Builtin.Slice renaming slicePlaces→VT,sliceAdjust→Xa,sliceApplied→XU
open PySem.Calls renaming spliced_cons→VW,spliced_nil→Wo,callWith_builtin→Xs,evalArgs_plain→Yz
open PySem.Builtin.Tuple renaming tupleExact→VX,tupleHashOf→Wx,tupleItemsOf→XT
open PySem.Value.type renaming inj→V5
open Ne renaming symm→V7
open PySem.Builtin.List renaming listExtendWith→Wj,listTooLong→WA,listSameRef→WB,listLengthHint→WW,listItems→WX,listUpdate→Zh
open PySem.Heap.SameBut renaming update→Wq
open True renaming intro→Wr
open PySem.AutoSeq1 renaming wpAny_loadPart'→WC
open ForInStep renaming yield→W3
open PySem.Around renaming under_plainId→Xd
open Sum.inl renaming inj→Xh
open False renaming elim→Xx
open PySem.Builtin.Str renaming strSliceIndices→YL
open List.cons renaming inj→Zr
namespace HD
open PySem PySem.W PySem.Calls PyProof.Rows
def kw (tb:String->Option WY) (p:Uv) (w:UK) (m:Nat) (ann:Option Ug):Nat->SharedT->Thread->Option SharedT
 | 0,_,_=>none
 | n+1,s,t=>match through t with
   | true=>some s
   | false=>match stepOk m ann t with
     | false=>none
     | true=>match stepT (denote tb) p w s t with
       | some (s',t')=>kw tb p w m ann n s' t'
       | none=>none
theorem lu {tb:String->Option WY} {p:Uv} {w:UK} {m:Nat} {ann:Option Ug}:∀ {n:Nat} {s s':SharedT} {t:Thread},kw tb p w m ann n s t=some s'->topRun tb p w m ann n s.abs t=some s'.abs
 | 0,_,_,_,h=>by cases h
 | n+1,s,s',t,h=>by
   unfold kw at h;unfold topRun;cases he:through t with
   | true=>rw [he] at h;cases h;rfl
   | false =>
     rw [he] at h;cases hk:stepOk m ann t with
     | false=>rw [hk] at h;cases h
     | true =>
       rw [hk] at h;cases hs:stepT (denote tb) p w s t with
       | none=>rw [hs] at h;cases h
       | some r =>
         obtain ⟨s2,t2⟩:=r;rw [hs] at h;rw [stepT_spec hs];exact lu h
def tS:List Wu->Nat->BT->BT
 | [],_,t=>t
 | o::l,n,t=>tS l (n+1) (t.ins n o)
def vn:List Wu->Nat->BT->Bool
 | [],_,_=>true
 | o::l,n,t=>((t.ins n o).get n).isSome && vn l (n+1) (t.ins n o)
theorem mF:∀ (l:List Wu) (n:Nat) (t:BT),vn l n t=true->(tS l n t).list (n+l.length)=t.list n++l
 | [],n,t,_=>by rw [U0];rfl
 | o::l,n,t,h=>by
   obtain ⟨h1,h2⟩:=Zi.mp h;have e:=absHeap_ins (life:=default) h1
   have e2:(t.ins n o).list (n+1)=t.list n++[o]:=by
    have:=congrArg (fun x:Vy=>x.objs.toList) e;simpa [absHeap,Heap.push] using this
   have ih:=mF l (n+1) (t.ins n o) h2;rw [e2,Ve] at ih;rw [Uo,show n+(l.length+1)=n+1+l.length by omega];exact ih
theorem wk {h:Vy} (ok:vn h.objs.toList 0 .nil=true):absHeap (tS h.objs.toList 0 .nil) h.objs.size h.life=h:=by
 have e:=mF _ _ _ ok;rw [Nat.zero_add] at e;unfold absHeap;rw [<- UY,e];rfl
noncomputable abbrev nO (p:Uv) (N:Nat) (w:UK) (os:YJ):Option SharedT :=
 kw treeTable p w 11 (some (.ref 6)) N ⟨tS (W6 w.params).objs.toList 0 .nil,11,(W6 w.params).life,Array.mk [],boot_drawn,boot_toks,os⟩ (topStub p)
theorem vE (P:Params):(vn (W6 P).objs.toList 0 .nil,(W6 P).isNs U3,(W6 P).objs.size,(W6 P).nsMap U3 "__annotations__")=(true,true,11,some (.ref 6)):=by kernel_rfl
theorem map_some {α β:Type} {o:Option α} {a:α} {f:α->β} {b:β} (h:o=some a) (e:o.map f=some b):f a=b:=by rw [h] at e;exact UQ e
abbrev Tr0 (p q:Uv) (loose:List UP) (Xt:Um->Bool) (N:Nat) (g0:Bool):Prop:=∀ (w:UK) (os:YJ),((nO p N w os).map fun s=>(staticsOk (Zp p.main.body) (W6 w.params) s.abs.heap && namesBound p s.abs.heap && gensDone s.abs && laidKept (W6 w.params) s.abs.heap,s.abs.heap.bltView,pinSeenD q (drecsOf q) s.abs,plainSeenD q loose s.abs,clsSeenW q loose s.abs,(s.abs.heap.accountedOkI (Zp p.main.body),s.abs.heap.isNs U3,s.abs.heap.isNs builtinsNs,tablesOk q s.abs.heap,Xt s.abs,(if g0 then s.abs.gens.size == 0 else !leftWithCleanup s.abs.gens))))=some (true,bltViewBooted,pinGoodD (drecsOf q),plainGoodD q loose,clsGoodW q loose,(true,true,true,true,true,true))
abbrev Tr1 (p q:Uv) (N:Nat):Prop:=∀ (w:UK) (os:YJ),((nO p N w os).map fun s=>seen ((recsOf q).map (·.name)) (ownsOf q) [] { s.abs with gens:=#[] })=some (expectedOf q)
abbrev Tr2 (p q:Uv) (loose:List UP) (N:Nat):Prop:=∀ (w:UK) (os:YJ),((nO p N w os).map fun s=>s.abs.heap.keysOk (looseW q loose) ((recsOf q).map (·.name)) ((litsOf q).map (·.1)) ((clssOf q (looseW q loose)).map (·.name)))=some true
abbrev Tr3 (p q:Uv) (N:Nat):Prop:=∀ (w:UK) (os:YJ),((nO p N w os).map fun s=>tabsOk q s.abs)=some true
abbrev Tr4 (p q:Uv) (loose:List UP) (N:Nat):Prop:=∀ (w:UK) (os:YJ),((nO p N w os).map fun s=>plainSeenE q (looseW q loose) s.abs)=some (plainGoodE q (looseW q loose))
abbrev Tr5 (p q:Uv) (N:Nat):Prop:=∀ (w:UK) (os:YJ),((nO p N w os).map fun s=>wideSeen q s.abs)=some (wideGood q)
theorem tz {p q:Uv} {loose:List UP} {Xt:Um->Bool} {α:Type} {Yf:Um->α} {Ya:UK->α} {N:Nat} {g0:Bool}
 (e:opening p=plainProg p.main.scope.names) (hN:Nat.ble 600 N=true) (f:∀ s,fenceModules? p s=some s)
 (r0:Tr0 p q loose Xt N g0)
 (r1:Tr1 p q N)
 (r2:Tr2 p q loose N)
 (r3:Tr3 p q N)
 (r4:Tr4 p q loose N)
 (r5:Tr5 p q N)
 (rY:∀ (w:UK) (os:YJ),((nO p N w os).map fun s=>Yf s.abs)=some (Ya w)) :
 LeftO p q loose Xt Yf Ya N g0:=fun w=>by
 obtain ⟨⟨h,gs,d,k,os⟩,e1,e'⟩:=UN.mp (boot_open e hN f w);obtain ⟨rfl,rfl,rfl,rfl⟩:h=W6 w.params/\gs=Array.mk []/\d=boot_drawn/\k=boot_toks:=by simpa using e'
 have JV:=vE w.params;have z0:=congrArg Prod.fst JV;have z1:=congrArg (fun x=>x.2.1) JV;have z2:=congrArg (fun x=>x.2.2.1) JV;have z3:=congrArg (fun x=>x.2.2.2) JV;dsimp only at z0 z1 z2 z3;obtain ⟨s1,E9,hY⟩:=UN.mp (rY w os);have q0:=map_some E9 (r0 w os);have q1:=map_some E9 (r1 w os);have q2:=map_some E9 (r2 w os);have q3:=map_some E9 (r3 w os);have q4:=map_some E9 (r4 w os);have q5:=map_some E9 (r5 w os);have rr:=lu E9
 have KG:SharedT.abs ⟨tS (W6 w.params).objs.toList 0 .nil,11,(W6 w.params).life,Array.mk [],boot_drawn,boot_toks,os⟩=⟨W6 w.params,Array.mk [],boot_drawn,boot_toks,os⟩:=by
  unfold SharedT.abs;dsimp only;rw [<- z2,wk z0]
 rw [KG] at rr;have a0:=congrArg Prod.fst q0;have a1:=congrArg (fun x=>x.2.1) q0;have a2:=congrArg (fun x=>x.2.2.1) q0;have a3:=congrArg (fun x=>x.2.2.2.1) q0;have a4:=congrArg (fun x=>x.2.2.2.2.1) q0;have b0:=congrArg (fun x=>x.2.2.2.2.2.1) q0;have b1:=congrArg (fun x=>x.2.2.2.2.2.2.1) q0;have b2:=congrArg (fun x=>x.2.2.2.2.2.2.2.1) q0;have b3:=congrArg (fun x=>x.2.2.2.2.2.2.2.2.1) q0;have b4:=congrArg (fun x=>x.2.2.2.2.2.2.2.2.2.1) q0;have b5:=congrArg (fun x=>x.2.2.2.2.2.2.2.2.2.2) q0;dsimp only at a0 a1 a2 a3 a4 b0 b1 b2 b3 b4 b5
 have l2:openSeen q loose (Zp p.main.body) Xt g0 s1.abs=openGood q loose:=by
  unfold openSeen openGood;rw [q1,a1,q2,b0,b1,b2,b3,b4,b5,q3,a2,q4,a3,q5,a4];rfl
 have t:topFrom treeTable p w N ⟨W6 w.params,Array.mk [],boot_drawn,boot_toks,os⟩=some s1.abs:=by
  unfold topFrom;dsimp only;rw [z1,z2,z3,rr];show (match staticsOk (Zp p.main.body) (W6 w.params) s1.abs.heap && namesBound p s1.abs.heap && gensDone s1.abs && laidKept (W6 w.params) s1.abs.heap with | true=>_ | false=>_)=_;rw [a0]
 unfold openEnds;rw [e1];show (topFrom treeTable p w N _).map _=_;rw [t];exact congrArg some (Prod.ext l2 hY)
def p0:Params:={ strHash:=fun _=>0,shareClass:=fun _=>0,mergeTok:=fun t=>t,idOf:=fun _=>0,idOfShared:=fun _ _=>0,followText:=fun _=>false,idOfImm:=fun _=>0 }
structure Pc (p:Uv) (N:Nat) (as:List Ud) (vs:UK->List (Option Wu)):Prop where
 out:∀ (w:UK) (os:YJ),((nO p N w os).map fun s=>as.map s.abs.heap.get?)=some (vs w)
theorem Pc.k {p:Uv} {N:Nat} {as:List Ud} {K:Params->Frag} {e:∀ P,as=(K P).map (·.1)} (h:Pc p N as fun w=>(K w.params).map fun p=>some p.2):∀ (w:UK) (os:YJ),((nO p N w os).map fun s=>(kHook K as e).obs s.abs)=some ((kHook K as e).val w):=h.out
end HD
section
open PySem PySem.W PyProof.Rows
def LAW.vw:Uv:=PySem.W.view PySem.Challenge.pw_boughbook_k59_whole_fronts_are_greatest [1,2,3,4,5,6,7,9,10,11,12,13,14,15,16,17,18,19,20,22,23,24,26,27,28,29,30,31,32,33,34,35,37,38,39,40,41,42,43,44,45,46,47,48,49,50,51,52,53,54,55,56,57]
def LAW.xt (s:Um):Bool:=xlAt LAW.vw [] s && recOk (RowW.records (OpenRow.toRowW (OpenLaw.row PySem.Challenge.rw_boughbook_k59_whole_fronts_are_greatest))) s
set_option maxHeartbeats 0 in
theorem LAW.lk0:HD.Tr0 PySem.Challenge.pw_boughbook_k59_whole_fronts_are_greatest LAW.vw [] LAW.xt 90000 true:=fun _ _=>by kernel_rfl
set_option maxHeartbeats 0 in
theorem LAW.lk1:HD.Tr1 PySem.Challenge.pw_boughbook_k59_whole_fronts_are_greatest LAW.vw 90000:=fun _ _=>by kernel_rfl
set_option maxHeartbeats 0 in
theorem LAW.lk2:HD.Tr2 PySem.Challenge.pw_boughbook_k59_whole_fronts_are_greatest LAW.vw [] 90000:=fun _ _=>by kernel_rfl
set_option maxHeartbeats 0 in
theorem LAW.lk3:HD.Tr3 PySem.Challenge.pw_boughbook_k59_whole_fronts_are_greatest LAW.vw 90000:=fun _ _=>by kernel_rfl
set_option maxHeartbeats 0 in
theorem LAW.lk4:HD.Tr4 PySem.Challenge.pw_boughbook_k59_whole_fronts_are_greatest LAW.vw [] 90000:=fun _ _=>by kernel_rfl
set_option maxHeartbeats 0 in
theorem LAW.lk5:HD.Tr5 PySem.Challenge.pw_boughbook_k59_whole_fronts_are_greatest LAW.vw 90000:=fun _ _=>by kernel_rfl
section
local macro_rules | `(tactic| o_head $_H) => `(tactic| assumption)
set_option maxHeartbeats 0 in
theorem LAW.d0 (h:OpenRow.Holds (OpenLaw.row PySem.Challenge.rw_boughbook_k59_whole_fronts_are_greatest)):OpenRow.Holds (OpenLaw.row PySem.Challenge.rw_boughbook_k59_whole_fronts_are_greatest):=by
 k_head
end
noncomputable def LAW.ks:List Ud:=(LAW.d0.heap_1 HD.p0).map (·.1)
theorem LAW.ke:∀ P,LAW.ks=(LAW.d0.heap_1 P).map (·.1):=fun _=>by kernel_rfl
set_option maxHeartbeats 0 in
theorem LAW.kp:HD.Pc PySem.Challenge.pw_boughbook_k59_whole_fronts_are_greatest 90000 LAW.ks fun w=>(LAW.d0.heap_1 w.params).map fun p=>some p.2:=⟨fun _ _=>by kernel_rfl⟩
end
namespace L2
open PySem PySem.Spec PyProof.Rows
abbrev Key:=Sum Int UP
def iw:Key->Ug->Bool
 | .inl k,v=>Value.isInt k v
 | .inr x,v=>Value.isStrOf x v
def yf (w:UK):Key->Int
 | .inl k=>hashInt k
 | .inr x=>hashStr w x
theorem bj:∀ {k:Key} {v:Ug},iw k v=true->(∃ i t,k=UZ i/\v=Value.int i t)∨(∃ x t,k=XA x/\v=Value.str x t)
 | .inl i,v,h=>by
   obtain ⟨t,e⟩:=Value.isInt_shape (k:=i) (v:=v) h;exact .inl ⟨i,t,rfl,e⟩
 | .inr x,v,h=>by
   obtain ⟨t,e⟩:=Value.isStrOf_shape (x:=x) (v:=v) h;exact .inr ⟨x,t,rfl,e⟩
theorem sr (i:Int) (t:Tok):iw (.inl i) (.int i t)=true:=by simp [iw,Value.isInt]
theorem sV (x:UP) (t:Tok):iw (.inr x) (.str x t)=true:=by simp [iw,Value.isStrOf]
theorem wj (a b:Int):decide ((UZ a:Key)=UZ b)=(a == b):=by
 by_cases e:a=b
 · subst e;simp
 · have h:¬ (UZ a:Key)=UZ b:=fun q=>e (Xh q);rw [decide_eq_false h];exact (beq_eq_false_iff_ne.mpr e).symm
theorem wm (a b:UP):decide ((XA a:Key)=XA b)=decide (a=b):=by
 by_cases e:a=b
 · subst e;simp
 · have h:¬ (XA a:Key)=XA b:=fun q=>e (Sum.inr.inj q);rw [decide_eq_false h,decide_eq_false e]
theorem wG (a:Int) (b:UP):decide ((UZ a:Key)=XA b)=false:=decide_eq_false (fun q=>nomatch q)
theorem wV (a:UP) (b:Int):decide ((XA a:Key)=UZ b)=false:=decide_eq_false (fun q=>nomatch q)
def aE (prog:Uv) (w:UK):PySem.KeyKind prog w Key where
 is:=iw
 hash:=yf w
 inj:=fun v a b ha hb=>by
  rcases bj ha with ⟨i,t,rfl,rfl⟩ | ⟨x,t,rfl,rfl⟩
  · rcases bj hb with ⟨j,u,rfl,e⟩ | ⟨y,u,rfl,e⟩
    · injection e with e1 _;rw [e1]
    · exact nomatch e
  · rcases bj hb with ⟨j,u,rfl,e⟩ | ⟨y,u,rfl,e⟩
    · exact nomatch e
    · injection e with e1 _;rw [e1]
 byValue:=fun k v h=>by
  rcases bj h with ⟨i,t,rfl,rfl⟩ | ⟨x,t,rfl,rfl⟩ <;> rfl
 pyHash:=fun hv h=>by
  rcases bj hv with ⟨i,t,rfl,rfl⟩ | ⟨x,t,rfl,rfl⟩
  · exact wpAny_pyHash_int h
  · exact wpAny_pyHash_str h
 eqBool:=fun hu hv h=>by
  rcases bj hu with ⟨i,t,rfl,rfl⟩ | ⟨x,t,rfl,rfl⟩
  · rcases bj hv with ⟨j,u,rfl,rfl⟩ | ⟨y,u,rfl,rfl⟩
    · rw [wj] at h;exact wpAny_eqBool_int h
    · rw [wG] at h;exact SeqAt.EqAt.int_str i t y u _ _ _ _ h
  · rcases bj hv with ⟨j,u,rfl,rfl⟩ | ⟨y,u,rfl,rfl⟩
    · rw [wV] at h;exact SeqAt.EqAt.str_int x t j u _ _ _ _ h
    · rw [wm] at h;exact wpAny_eqBool_str h
 «strs»:=fun k x t v h=>by
  rcases bj h with ⟨i,u,rfl,e⟩ | ⟨y,u,rfl,e⟩
  · exact nomatch e
  · injection e with e1 _;subst e1;cases v <;> rfl
theorem oO (prog:Uv) (w:UK) (i:Int) (t:Tok):(aE prog w).is (.inl i) (.int i t)=true:=sr i t
theorem oM (prog:Uv) (w:UK) (x:UP) (t:Tok):(aE prog w).is (.inr x) (.str x t)=true:=sV x t
end L2
namespace L2
open PySem PySem.Spec PyProof.Rows
set_option genInjectivity true in
inductive V where
 | non | bl (b:Bool) | int (i:Int) | str (x:UP) | byt (b:Array UInt8) | flt (b:UInt64) | ref (a:Ud) | ty (n:String)
 deriving DecidableEq
def RelV:V->Ug->Prop
 | .non,u=>u=VL
 | .bl b,u=>u=Value.bool b
 | .int i,u=>∃ t,u=Value.int i t
 | .str x,u=>∃ t,u=Value.str x t
 | .byt b,u=>∃ t,u=Value.bytes b t
 | .flt b,u=>∃ t,u=Value.float b t
 | .ref a,u=>u=US a
 | .ty n,u=>u=WH n
abbrev Vals:List V->List Ug->Prop:=UR RelV
theorem Vals.length {xs:List V} {us:List Ug} (r:Vals xs us):xs.length=us.length:=Up r
theorem Vals.get:∀ {xs:List V} {us:List Ug} {i:Nat} {x:V},Vals xs us->xs[i]?=some x->∃ u,us[i]?=some u/\RelV x u
 | _,_,_,_,.nil,e=>by simp at e
 | _,_,0,_,.cons r _,e=>by simp at e;subst e;exact ⟨_,rfl,r⟩
 | _,_,i+1,x,.cons _ t,e=>by
   obtain ⟨u,h1,h2⟩:=Vals.get (i:=i) (x:=x) t (by simpa using e);exact ⟨u,by simpa using h1,h2⟩
theorem Vals.set {x:V} {u:Ug} (r:RelV x u):∀ {xs:List V} {us:List Ug} (i:Nat),Vals xs us->Vals (xs.set i x) (us.set i u)
 | _,_,_,.nil=>.nil
 | _,_,0,.cons _ t=>.cons r t
 | _,_,i+1,.cons q t=>.cons q (Vals.set r i t)
theorem Vals.append:∀ {xs ys:List V} {us ws:List Ug},Vals xs us->Vals ys ws->Vals (xs++ys) (us++ws)
 | _,_,_,_,.nil,s=>s
 | _,_,_,_,.cons r t,s=>.cons r (Vals.append t s)
theorem Vals.take:∀ {xs:List V} {us:List Ug} (n:Nat),Vals xs us->Vals (xs.take n) (us.take n)
 | _,_,0,_=>.nil
 | _,_,_+1,.nil=>.nil
 | _,_,n+1,.cons r t=>.cons r (Vals.take n t)
theorem Vals.drop:∀ {xs:List V} {us:List Ug} (n:Nat),Vals xs us->Vals (xs.drop n) (us.drop n)
 | _,_,0,r=>r
 | _,_,_+1,.nil=>.nil
 | _,_,n+1,.cons _ t=>Vals.drop n t
def RelO:Option V->Option Ug->Prop
 | some v,some u=>RelV v u
 | none,none=>True
 | _,_=>False
def KV {κ:Type}:List (κ×V)->List (κ×Ug)->Prop:=UR fun (p:κ×V) (q:κ×Ug)=>p.1=q.1/\RelV p.2 q.2
def kV:Key->V
 | .inl i=>.int i
 | .inr x=>.str x
inductive HO where
 /-- a list -/
 | lst (xs:List V)
 /-- a tuple (never changes) -/
 | tup (xs:List V)
 /-- a dict GZ keys are ints and texts;one GZ keys are tuples of ints and texts (Bm empty one is both) -/
 | dK (f':List (Key×V)) | dT (f':List (List Key×V))
 /-- a set of ints: its members,its size -/
 | set (S:Int->Bool) (n:Nat)
 /-- an instance of Bm class at C,its dict at dx,its attributes -/
 | ins (C dx:Ud) (fs:List (UP×V))
 /-- Bm dict of Bm instance at x -/
 | own (x:Ud)
 /-- Bm dict of an exception -/
 | xd (fs:List (UP×V))
 /-- a bound method,f of x -/
 | met (f x:Ud)
 /-- a range object lo,lo+1,.. below hi -/
 | rng (lo hi:Int)
 /-- a thing PX is known to Bm object (Bm script;a dict while a loop walks it): read,never written while it is so -/
 | frz (o:Wu) (u:HO)
 /-- a code G0 table -/
 | tbl (ps:Array Ug)
 /-- any other thing,by KH is true of its one object (a def of NW own: PY a S n:=HO.ext fun h=>..) -/
 | ext (φ:Vy->Prop)
abbrev Hp:=Ud->Option HO
def upd (H:Hp) (a:Ud) (o:HO):Hp:=fun b=>if b=a then some o else H b
theorem ab {H:Hp} {a:Ud} {o:HO}:upd H a o a=some o:=by unfold upd;rw [if_pos rfl]
theorem am {H:Hp} {a b:Ud} {o:HO} (h:b≠a):upd H a o b=H b:=by unfold upd;rw [if_neg h]
theorem ky {H:Hp} {a:Ud} {o u:HO}:upd (upd H a o) a u=upd H a u:=by
 funext b;unfold upd;split <;> rfl
theorem f9 {H:Hp} {a b:Ud} {o u:HO} (h:H a=some o) (h':H b=some u) (d:o≠u):a≠b:=by
 intro e;subst e;rw [h] at h';exact d (UQ h')
theorem aL {H:Hp} {a b:Ud} {o:HO} (h:H a=some o) (h':H b=none):a≠b:=by
 intro e;subst e;rw [h] at h';cases h'
section
variable (P:Uv) (w:UK)
def ObjOk (H:Hp) (h:Vy) (a:Ud):HO->Prop
 | .lst xs=>xs.length<=Uz/\∃ (its:List Ug) (n:Nat),Vals xs its/\h.get? a=some { cls:=.type "list",data:=.seq its.toArray n }
 | .tup xs=>xs.length<=Uz/\∃ (its:List Ug) (n:Nat),Vals xs its/\h.get? a=some { cls:=.type "tuple",data:=.seq its.toArray n }
 | .dK f'=>f'.length<=Uz/\(a == Wb)=false/\∃ vs,KV f' vs/\h.DictOf (aE P w) a vs
 | .dT f'=>f'.length<=Uz/\(a == Wb)=false/\∃ xs:List (List Key×Ud×Ug),
  UR (fun (p:List Key×V) (q:List Key×Ud×Ug)=>p.1=q.1/\H q.2.1=some (.tup (p.1.map kV))/\RelV p.2 q.2.2) f' xs ∧
  ∃ o es ep,h.get? a=some o/\o.ExactDict/\o.data=.dict es ep/\es.toList=xs.map (entryOfKey (Y9 (aE P w)))/\(xs.map (·.1)).Nodup
 | .set S n=>h.SetOf (intKind P w) a S n
 | .ins C dx fs=>H dx=some (.own a)/\fs.length<=1000/\dx≠a/\h.get? a=some (PySem.W.instObj C dx) ∧
  ∃ mA,h.Ns1 dx mA/\(∀ f,RelO (fs.lookup f) (mA f))/\PySem.Within mA (fs.map (·.1))
 | .own _=>∃ o,h.get? a=some o
 | .xd fs=>∃ mA,h.Ns1 a mA/\∀ f,RelO (fs.lookup f) (mA f)
 | .rng lo hi=>∃ t u v,h.get? a=some { cls:=.type "range",data:=.fields #[.int lo t,.int hi u,.int 1 v] }
 | .frz o u=>h.get? a=some o/\ObjOk H h a u
 | .tbl ps=>h.get? a=some { cls:=.none,data:=.fields ps }
 | .met f x=>h.get? a=some (ZC (.ref f) (.ref x))
 | .ext φ=>φ h/\(∃ o,h.get? a=some o)/\∀ h1 h2:Vy,φ h1->(∀ o,h1.get? a=some o->h2.get? a=some o)->φ h2
def HOk (H:Hp) (h:Vy):Prop:=∀ a o,H a=some o->ObjOk P w H h a o
end
section
variable {P:Uv} {w:UK} {H H':Hp} {h h':Vy} {a:Ud} {o:HO}
theorem ObjOk.lt (x:ObjOk P w H h a o):a<h.objs.size:=by
 cases o with
 | lst xs=>obtain ⟨_,_,_,_,e⟩:=x;exact Uw e
 | tup xs=>obtain ⟨_,_,_,_,e⟩:=x;exact Uw e
 | dK f'=>obtain ⟨_,_,_,_,o,_,_,e,_⟩:=x;exact Uw e
 | dT f'=>obtain ⟨_,_,_,_,o,_,_,e,_⟩:=x;exact Uw e
 | set S n=>obtain ⟨o,_,_,_,e,_⟩:=x;exact Uw e
 | ins C dx fs=>obtain ⟨_,_,_,e,_⟩:=x;exact Uw e
 | own y=>obtain ⟨_,e⟩:=x;exact Uw e
 | xd fs=>obtain ⟨_,⟨_,_,_,e,_⟩,_⟩:=x;exact Uw e
 | rng lo hi=>obtain ⟨_,_,_,e⟩:=x;exact Uw e
 | frz ob u=>obtain ⟨e,_⟩:=x;exact Uw e
 | tbl ps=>exact Uw (show h.get? a=some _ from x)
 | met f y=>exact Uw (show h.get? a=some _ from x)
 | ext φ=>obtain ⟨_,⟨_,e⟩,_⟩:=x;exact Uw e
theorem UR.mapP {α β:Type} {F G:α->β->Prop}:∀ {G1:List α} {G2:List β},UR F G1 G2->(∀ a b,F a b->G a b)->UR G G1 G2
 | _,_,.nil,_=>.nil
 | _,_,.cons r t,f=>.cons (f _ _ r) (UR.mapP t f)
theorem ObjOk.stay (x:ObjOk P w H h a o) (k:∀ b u,(b=a∨H b=some (.own a))->h.get? b=some u->h'.get? b=some u)
 (ho:∀ b,H b=some (.own a)->H' b=some (.own a)) (ht:∀ b xs,H b=some (.tup xs)->H' b=some (.tup xs)):ObjOk P w H' h' a o:=by
 induction o with
 | lst xs=>obtain ⟨z,its,n,r,e⟩:=x;exact ⟨z,its,n,r,k _ _ (.inl rfl) e⟩
 | tup xs=>obtain ⟨z,its,n,r,e⟩:=x;exact ⟨z,its,n,r,k _ _ (.inl rfl) e⟩
 | dK f'=>obtain ⟨z,y,vs,r,ob,es,ep,e,c⟩:=x;exact ⟨z,y,vs,r,ob,es,ep,k _ _ (.inl rfl) e,c⟩
 | dT f' =>
   obtain ⟨z,y,xs,r,ob,es,ep,e,c⟩:=x;exact ⟨z,y,xs,UR.mapP r fun p q z=>⟨z.1,ht _ _ z.2.1,z.2.2⟩,ob,es,ep,k _ _ (.inl rfl) e,c⟩
 | set S n=>obtain ⟨ob,es,ep,t,e,c⟩:=x;exact ⟨ob,es,ep,t,k _ _ (.inl rfl) e,c⟩
 | ins C dx fs =>
   obtain ⟨d,z,ne,e,mA,⟨od,es,ep,e2,c⟩,r⟩:=x;exact ⟨ho _ d,z,ne,k _ _ (.inl rfl) e,mA,⟨od,es,ep,k _ _ (.inr d) e2,c⟩,r⟩
 | own y=>obtain ⟨ob,e⟩:=x;exact ⟨ob,k _ _ (.inl rfl) e⟩
 | xd fs=>obtain ⟨mA,⟨od,es,ep,e,c⟩,r⟩:=x;exact ⟨mA,⟨od,es,ep,k _ _ (.inl rfl) e,c⟩,r⟩
 | rng lo hi=>obtain ⟨t,u,v,e⟩:=x;exact ⟨t,u,v,k _ _ (.inl rfl) e⟩
 | frz ob u ih=>obtain ⟨e,q⟩:=x;exact ⟨k _ _ (.inl rfl) e,ih q⟩
 | tbl ps =>
   have e:h.get? a=some { cls:=.none,data:=.fields ps }:=x;show h'.get? a=some { cls:=.none,data:=.fields ps };exact k a _ (.inl rfl) e
 | met f y =>
   have e:h.get? a=some (ZC (.ref f) (.ref y)):=x;show h'.get? a=some (ZC (.ref f) (.ref y));exact k a _ (.inl rfl) e
 | ext φ=>obtain ⟨p,⟨o,e⟩,st⟩:=x;exact ⟨st _ _ p fun o q=>k _ _ (.inl rfl) q,⟨o,k _ _ (.inl rfl) e⟩,st⟩
theorem HOk.lt (x:HOk P w H h) (e:H a=some o):a<h.objs.size:=(x a o e).lt
theorem HOk.fresh (x:HOk P w H h) (e:h.objs.size<=a):H a=none:=by
 cases q:H a with
 | none=>rfl
 | some u=>exact absurd (Vj (x.lt q) e) (VO _)
theorem HOk.kept (x:HOk P w H h) (k:∀ b u,h.get? b=some u->h'.get? b=some u):HOk P w H h':=fun a o e =>
 (x a o e).stay (fun b u _ q=>k b u q) (fun _ q=>q) fun _ _ q=>q
theorem HOk.laid (x:HOk P w H h) (k:∀ b u,h.get? b=some u->h'.get? b=some u) (hp:h.objs.size<=a) (new:ObjOk P w (upd H a o) h' a o):HOk P w (upd H a o) h':=fun b u e=>by
 have hn:=x.fresh hp;by_cases hb:b=a
 · subst hb;rw [ab] at e;cases e;exact new
 · rw [am hb] at e;exact (x b u e).stay (fun c v _ q=>k c v q) (fun c q=>by rw [am (aL q hn)];exact q) fun c xs q=>by rw [am (aL q hn)];exact q
end
def Rd (H:Hp) (a:Ud) (u:HO):Prop:=H a=some u∨∃ o,H a=some (.frz o u)
theorem Rd.ok {P:Uv} {w:UK} {H:Hp} {h:Vy} {a:Ud} {u:HO} (r:Rd H a u) (x:HOk P w H h):ObjOk P w H h a u:=by
 rcases r with r | ⟨o,r⟩
 · exact x a u r
 · obtain ⟨_,q⟩:=x a _ r;exact q
def Mut:Option HO->Prop
 | some (.lst _)=>True
 | some (.dK _)=>True
 | some (.dT _)=>True
 | some (.set _ _)=>True
 | some (.ins _ _ _)=>True
 | some (.ext _)=>True
 | _=>False
section
variable {P:Uv} {w:UK} {H:Hp} {h h':Vy} {x e:Ud} {o':HO}
theorem HOk.write (ok:HOk P w H h) (mu:Mut (H x)) (he:e=x∨H e=some (.own x)) (k:∀ b u,b≠e->h.get? b=some u->h'.get? b=some u) (Gn:∃ u,h'.get? e=some u)
 (new:ObjOk P w (upd H x o') h' x o'):HOk P w (upd H x o') h':=fun b u q=>by
 have G4:∀ c y,H c=some (.own y)->c≠x:=fun c y r z=>by subst z;rw [r] at mu;exact mu
 have KI:∀ c xs,H c=some (.tup xs)->c≠x:=fun c xs r z=>by subst z;rw [r] at mu;exact mu
 by_cases hb:b=x
 · subst hb;rw [ab] at q;cases q;exact new
 · rw [am hb] at q;by_cases B4:b=e
   · have q':H b=some (.own x):=by
      rcases he with z | z
      · exact absurd (B4.trans z) hb
      · rw [B4];exact z
     rw [q] at q';cases q';obtain ⟨v,hv⟩:=Gn;exact ⟨v,by rw [B4];exact hv⟩
   · refine (ok b u q).stay (fun c v hc r=>k c v ?_ r) (fun c r=>by rw [am (G4 c b r)];exact r) fun c xs r=>by rw [am (KI c xs r)];exact r
     rcases hc with rfl | hc
     · exact B4
     · rintro rfl;rcases he with z | z
       · exact G4 c b hc z
       · rw [hc] at z;cases z;exact hb rfl
end
structure Un (fs ex:List Ud) (H H':Hp) (h h':Vy):Prop where
 keep:∀ b o,h.get? b=some o->H b=none->b∉fs->b∉ex->h'.get? b=some o
 slot:∀ b o,h.get? b=some o->H b=none->b∈fs->b∉ex->∃ sl,h'.get? b=some { o with slots:=sl }
 free:∀ b o,h.get? b=some o->H b=none->b∉ex->H' b=none
 there:∀ b o,h.get? b=some o->b∉ex->∃ o',h'.get? b=some o'
 tups:∀ b xs,H b=some (.tup xs)->H' b=some (.tup xs)
 frzs:∀ b o u,H b=some (.frz o u)->H' b=some (.frz o u)
 tbls:∀ b ps,H b=some (.tbl ps)->∃ more,H' b=some (.tbl (ps++more))
section
variable {fs PZ ex SM:List Ud} {H H1 H2:Hp} {h h1 h2 h':Vy} {a x e:Ud} {o:HO}
theorem Un.any (u:Un fs ex H H1 h h1) {b:Ud} {ob:Wu} (q:h.get? b=some ob) (n:H b=none) (hx:b∉ex):∃ sl,h1.get? b=some { ob with slots:=sl }:=by
 by_cases hb:b∈fs
 · exact u.slot b ob q n hb hx
 · exact ⟨ob.slots,u.keep b ob q n hb hx⟩
theorem Un.kept (k:∀ b u,h.get? b=some u->h'.get? b=some u):Un fs ex H H h h' :=
 ⟨fun b ob q _ _ _=>k b ob q,fun b ob q _ _ _=>⟨ob.slots,k b ob q⟩,fun _ _ _ n _=>n,fun b ob q _=>⟨ob,k b ob q⟩,fun _ _ q=>q,fun _ _ _ q=>q,fun _ ps q=>⟨#[],by rw [q];simp⟩⟩
theorem Un.refl:Un fs ex H H h h:=Un.kept fun _ _ q=>q
theorem Un.laid (k:∀ b u,h.get? b=some u->h'.get? b=some u) (hp:h.objs.size<=a) (hn:H a=none):Un fs ex H (upd H a o) h h' where
 keep:=fun b u q _ _ _=>k b u q
 slot:=fun b u q _ _ _=>⟨u.slots,k b u q⟩
 free:=fun b u q n _=>by rw [am (UX (Vj (Uw q) hp))];exact n
 there:=fun b u q _=>⟨u,k b u q⟩
 tups:=fun b xs q=>by rw [am (aL q hn)];exact q
 frzs:=fun b u xs q=>by rw [am (aL q hn)];exact q
 tbls:=fun b ps q=>⟨#[],by rw [am (aL q hn),q];simp⟩
theorem Un.write (mu:Mut (H x)) (he:e=x∨H e=some (.own x)) (k:∀ b u,b≠e->h.get? b=some u->h'.get? b=some u) (Gn:∃ u,h'.get? e=some u):Un fs ex H (upd H x o) h h':=by
 have hx:∀ b,H b=none->b≠x:=fun b n z=>by subst z;rw [n] at mu;exact mu
 have hb:∀ b,H b=none->b≠e:=fun b n z=>by
  subst z;rcases he with r | r
  · exact hx b n r
  · rw [n] at r;cases r
 have hm:∀ b u,H b=some u->¬ Mut (some u)->b≠x:=fun b u q nm z=>by subst z;rw [q] at mu;exact nm mu
 refine ⟨fun b u q n _ _=>k b u (hb b n) q,fun b u q n _ _=>⟨u.slots,k b u (hb b n) q⟩,fun b u q n _=>by rw [am (hx b n)];exact n,fun b u q _=>?_,
  fun b xs q=>by rw [am (hm b _ q fun z=>z)];exact q,fun b u xs q=>by rw [am (hm b _ q fun z=>z)];exact q,fun b ps q=>⟨#[],by rw [am (hm b _ q fun z=>z),q];simp⟩⟩
 by_cases B4:b=e
 · subst B4;exact Gn
 · exact ⟨u,k b u B4 q⟩
end
def trk (h:Vy) (H:Hp):List Ud:=(UT h.objs.size).filter fun a=>(H a).isSome
def ol (h:Vy) (H:Hp):Vy:=PySem.W.hideAll h (trk h H)
theorem tF (h:Vy) (H:Hp):(ol h H).objs.size=h.objs.size:=PySem.W.hideAll_size _ _
theorem tY {h:Vy} {H:Hp} {b:Ud} {o:Wu} (e:h.get? b=some o) (n:H b=none):(ol h H).get? b=some o :=
 PySem.W.hideAll_get _ e fun hm=>by
  have q:(H b).isSome=true:=(V0.mp hm).2;rw [n] at q;simp at q
theorem vq {h:Vy} {H:Hp} {b:Ud} {o:Wu} (e:(ol h H).get? b=some o):h.get? b=some o/\H b=none:=by
 have e':h.get? b=some o:=PySem.W.of_hideAll (trk h H) e;refine ⟨e',?_⟩;cases q:H b with
 | none=>rfl
 | some x =>
   have hm:b∈trk h H:=V0.mpr ⟨WO.mpr (Uw e'),by simp [q]⟩;have z:(ol h H).get? b=none:=PySem.W.hideAll_none (trk h H) hm;rw [z] at e;cases e
end L2
namespace L2
open PySem PySem.Spec PyProof.Rows
structure Mod (K:Ub) (mg:UP->Option Ug) (base:Vy):Prop where
 kin:K.In base
 glob:base.Ns U3 mg
 blt:∃ mb,base.Ns builtinsNs mb/\∀ x:UP,x≠"__name__"->mb x=YG x
 nolimit:base.NoLimit
set_option genInjectivity true in
structure Cx where
 prog:Uv
 w:UK
 K:Ub
 mg:UP->Option Ug
 base:Vy
 A:U5
 N:List UP
 s₀:Um
 H₀:Hp
 env:Env
 outer:List Env
 stack:List Env
 ex:List Ud
 fn:UP->Bool
 calm:Bool
 pn:List (Ud×Wu)
 xe:Ug->Um->Prop
def frs (l:List Env):List Ud:=l.filterMap (·.frame)
abbrev Cx.fs (X:Cx):List Ud:=frs X.outer
def Vis (sc:Yc) (x:UP):Prop:=sc.names.lookup x=some .local∨sc.names.lookup x=some .cell∨sc.names.lookup x=some .free
def Loc (sc:Yc) (x:UP):Prop:=sc.names.lookup x=some .local∨sc.names.lookup x=some .cell
def Look (env:Env) (h:Vy) (m:UP->Option Ug) (x:UP) (u:Ug):Prop :=
 (env.kindOf x=some .local/\m x=some u)∨((env.kindOf x=some .cell∨env.kindOf x=some .free)/\∃ c,env.cells.lookup x=some c/\h.IsCell c (some u))
structure Cx.Ok (X:Cx):Prop where
 mod:Mod X.K X.mg X.base
 kind:X.env.scope.kind=.function
 glob:X.env.globals=U3
 blt:X.env.builtins=builtinsNs
 above:X.s₀.heap.objs.size<=X.env.locals
 inj:∀ x y c,X.env.cells.lookup x=some c->X.env.cells.lookup y=some c->x=y
 has:∀ x,(X.env.kindOf x=some .cell∨X.env.kindOf x=some .free)->∃ c,X.env.cells.lookup x=some c
 cab:∀ x c,X.fn x=true->X.env.cells.lookup x=some c->X.s₀.heap.objs.size<=c
 hd:X.calm=true->X.A.handled=none
 frames:X.A.frames=some X.stack
 stk:X.stack=X.outer∨(X.stack=X.env::X.outer/\X.env.frame=some X.env.locals)
 exf:∀ b∈X.ex,b≠X.env.locals/\∀ x c,X.env.cells.lookup x=some c->c≠b
 bs:∀ b o,X.base.get? b=some o->X.s₀.heap.get? b=some o/\X.H₀ b=none
 bsz:X.base.objs.size<=X.s₀.heap.objs.size
 noex:∀ b o,X.base.get? b=some o->b∉X.ex
 exfs:∀ b∈X.ex,b∉X.fs
 funs:X.s₀.heap.FunFrames X.base X.outer
 frf:∀ b∈X.fs,X.H₀ b=none
structure Inv (X:Cx) (pins:List (Ud×Wu)) (σ:List (Option V)) (H:Hp) (s:Um):Prop where
 ok:X.Ok
 os:s.os=X.s₀.os
 bare:AllBare s.gens
 base:Un X.fs X.ex X.H₀ H X.s₀.heap s.heap
 loc:∃ m,s.heap.Ns X.env.locals m/\∀ (i:Nat) (x:UP) (v:V),X.N[i]?=some x->σ[i]?=some (some v)->Vis X.env.scope x->∃ u,RelV v u/\Look X.env s.heap m x u
 cell:∀ x c,X.env.cells.lookup x=some c->∃ v,s.heap.IsCell c v
 free:H X.env.locals=none
 freeC:∀ x c,X.env.cells.lookup x=some c->H c=none
 pin:∀ p∈X.pn++pins,s.heap.get? p.1=some p.2/\H p.1=none/\p.1≠X.env.locals/\p.1∉X.fs/\∀ v,p.2.data≠.cell v
 hok:HOk X.prog X.w H s.heap
 len:σ.length=X.N.length
section
variable {X:Cx} {pins:List (Ud×Wu)} {σ:List (Option V)} {H H':Hp} {s:Um} {h':Vy}
theorem Cx.Ok.nofr (ok:X.Ok) {b:Ud} {o:Wu} (e:X.base.get? b=some o):b∉X.fs:=fun hb=>by
 have:=(ok.funs.mem hb).1;rw [e] at this;cases this
theorem Inv.bs (I:Inv X pins σ H s):∀ b o,X.base.get? b=some o->s.heap.get? b=some o/\H b=none:=fun b o e =>
 ⟨I.base.keep b o (I.ok.bs b o e).1 (I.ok.bs b o e).2 (I.ok.nofr e) (I.ok.noex b o e),I.base.free b o (I.ok.bs b o e).1 (I.ok.bs b o e).2 (I.ok.noex b o e)⟩
theorem Inv.bk (I:Inv X pins σ H s):∀ b o,X.base.get? b=some o->s.heap.get? b=some o:=fun b o e=>(I.bs b o e).1
theorem Inv.mod (I:Inv X pins σ H s):Mod X.K X.mg X.base:=I.ok.mod
theorem Inv.kIn (I:Inv X pins σ H s):X.K.In s.heap:=I.ok.mod.kin.keeps I.bk
theorem Inv.lt (I:Inv X pins σ H s):X.env.locals<s.heap.objs.size:=let ⟨_,hn,_⟩:=I.loc;hn.lt
theorem Inv.sz (I:Inv X pins σ H s):X.s₀.heap.objs.size<=s.heap.objs.size:=V3 I.ok.above (XE I.lt)
theorem Inv.nofs (I:Inv X pins σ H s) {a:Ud} (h:s.heap.objs.size<=a):a∉X.fs:=fun hb=>by
 obtain ⟨_,o,ho,_⟩:=I.ok.funs.mem hb;exact absurd (Vj (Uw ho) (V3 I.sz h)) (VO _)
theorem Inv.cne (I:Inv X pins σ H s):∀ x c,X.env.cells.lookup x=some c->c≠X.env.locals:=fun x c e z=>by
 obtain ⟨v,o,ho,hd⟩:=I.cell x c e;obtain ⟨m,⟨o',es,ep,AH,Am,_⟩,_⟩:=I.loc;rw [z,AH] at ho;cases ho;rw [Am] at hd;cases hd
theorem Inv.funs (I:Inv X pins σ H s):s.heap.FunFrames X.base X.outer:=by
 have all:∀ (l:List Env),(∀ b∈frs l,b∈X.fs)->X.s₀.heap.FunFrames X.base l->s.heap.FunFrames X.base l:=by
  intro l;induction l with
  | nil=>intro _ _;trivial
  | cons env r ih =>
    intro hs hl;obtain ⟨hk,⟨L,o,hf,hn,ho,hd⟩,hr⟩:=hl;have hL:L∈X.fs:=hs L (by unfold frs;rw [XJ,hf];exact UM);obtain ⟨sl,e⟩:=I.base.slot L o ho (I.ok.frf L hL) hL fun z=>I.ok.exfs L z hL;exact ⟨hk,⟨L,_,hf,hn,e,hd⟩,ih (fun b hb=>hs b (by unfold frs;rw [XJ,hf];exact UG _ hb)) hr⟩
 exact all X.outer (fun _ hb=>hb) I.ok.funs
theorem Inv.stack (I:Inv X pins σ H s):s.heap.FunFrames X.base X.stack:=by
 rcases I.ok.stk with e | ⟨e,hf⟩
 · rw [e];exact I.funs
 · rw [e];obtain ⟨m,hn,_⟩:=I.loc;refine .cons (by rw [I.ok.kind];decide) hf hn ?_ I.funs;exact Heap.get?_none_of_le (V3 I.ok.bsz I.ok.above)
theorem Inv.stkSub (I:Inv X pins σ H s):∀ b∈frs X.stack,b∈X.env.locals::X.fs:=fun b hb=>by
 rcases I.ok.stk with e | ⟨e,hf⟩
 · rw [e] at hb;exact UG _ hb
 · rw [e] at hb;unfold frs at hb;rw [XJ,hf] at hb;exact hb
theorem Inv.stkFree (I:Inv X pins σ H s):∀ b∈frs X.stack,H b=none:=fun b hb=>by
 rcases UB.mp (I.stkSub b hb) with e | hb
 · rw [e];exact I.free
 · obtain ⟨_,o,ho,_⟩:=I.ok.funs.mem hb;exact I.base.free b o ho (I.ok.frf b hb) fun z=>I.ok.exfs b z hb
theorem Inv.step {g':Array GenState} {t':Nat} {d':Drawn} {ch:List Ud} (I:Inv X pins σ H s)
 (Dx:∀ b∈ch,(b∈X.ex∨X.s₀.heap.objs.size<=b)/\b≠X.env.locals/\(∀ x c,X.env.cells.lookup x=some c->c≠b)/\∀ p∈X.pn++pins,p.1≠b)
 (keep:∀ b o,b≠X.env.locals->b∉X.fs->b∉ch->s.heap.get? b=some o->H b=none->h'.get? b=some o)
 (slot:∀ b o,b≠X.env.locals->b∈X.fs->b∉ch->s.heap.get? b=some o->H b=none->∃ sl,h'.get? b=some { o with slots:=sl }) (free:∀ b o,b∉ch->s.heap.get? b=some o->H b=none->H' b=none)
 (there:∀ b o,b∉ch->s.heap.get? b=some o->∃ o',h'.get? b=some o')
 (tups:∀ b xs,H b=some (.tup xs)->H' b=some (.tup xs)) (frzs:∀ b o u,H b=some (.frz o u)->H' b=some (.frz o u)) (tbls:∀ b ps,H b=some (.tbl ps)->∃ more,H' b=some (.tbl (ps++more)))
 (ns:∀ m,s.heap.Ns X.env.locals m->h'.Ns X.env.locals m) (hok:HOk X.prog X.w H' h') (hg:AllBare g') :
 Inv X pins σ H' { s with heap:=h',gens:=g',drawn:=d',toks:=t' }:=by
 have NX:∀ b o,X.s₀.heap.get? b=some o->b≠X.env.locals:=fun b o e=>UX (Vj (Uw e) I.ok.above)
 have JW:∀ b o,X.s₀.heap.get? b=some o->b∉X.ex->b∉ch:=fun b o e hx hb=>by
  rcases (Dx b hb).1 with z | z
  · exact hx z
  · exact absurd (Vj (Uw e) z) (VO _)
 have cellK:∀ x c,X.env.cells.lookup x=some c->∀ v,s.heap.IsCell c v->h'.IsCell c v:=fun x c e v ⟨o,ho,hd⟩=>by
  have G5:c∉ch:=fun z=>(Dx c z).2.2.1 x c e rfl;by_cases hc:c∈X.fs
  · obtain ⟨sl,q⟩:=slot c o (I.cne x c e) hc G5 ho (I.freeC x c e);exact ⟨_,q,hd⟩
  · exact ⟨o,keep c o (I.cne x c e) hc G5 ho (I.freeC x c e),hd⟩
 refine ⟨I.ok,I.os,hg,⟨fun b o e n hb hx=>?_,fun b o e n hb hx=>?_,fun b o e n hx=>?_,fun b o e hx=>?_,fun b xs e=>tups b xs (I.base.tups b xs e),fun b o xs e=>frzs b o xs (I.base.frzs b o xs e),fun b ps e=>?_⟩,?_,fun x c e=>?_,?_,fun x c e=>?_,fun p hp=>?_,hok,I.len⟩
 · exact keep b o (NX b o e) hb (JW b o e hx) (I.base.keep b o e n hb hx) (I.base.free b o e n hx)
 · obtain ⟨sl,e1⟩:=I.base.slot b o e n hb hx;obtain ⟨P0,e2⟩:=slot b _ (NX b o e) hb (JW b o e hx) e1 (I.base.free b o e n hx);exact ⟨P0,e2⟩
 · obtain ⟨o',e1⟩:=I.base.there b o e hx;exact free b o' (JW b o e hx) e1 (I.base.free b o e n hx)
 · obtain ⟨o',e1⟩:=I.base.there b o e hx;exact there b o' (JW b o e hx) e1
 · obtain ⟨m1,e1⟩:=I.base.tbls b ps e;obtain ⟨m2,e2⟩:=tbls b _ e1;exact ⟨m1++m2,by rw [e2,Array.append_assoc]⟩
 · obtain ⟨m,hn,hl⟩:=I.loc;refine ⟨m,ns m hn,fun i x v e1 e2 e3=>?_⟩;obtain ⟨u,r,l⟩:=hl i x v e1 e2 e3;refine ⟨u,r,?_⟩;rcases l with l | ⟨k,c,e,z⟩
   · exact .inl l
   · exact .inr ⟨k,c,e,cellK x c e _ z⟩
 · obtain ⟨v,z⟩:=I.cell x c e;exact ⟨v,cellK x c e v z⟩
 · obtain ⟨m,⟨o,_,_,ho,_⟩,_⟩:=I.loc;exact free _ o (fun z=>(Dx _ z).2.1 rfl) ho I.free
 · obtain ⟨v,o,ho,hd⟩:=I.cell x c e;exact free c o (fun z=>(Dx c z).2.2.1 x c e rfl) ho (I.freeC x c e)
 · obtain ⟨e,n,ne,nf,d⟩:=I.pin p hp;have G5:p.1∉ch:=fun z=>(Dx p.1 z).2.2.2 p hp rfl;exact ⟨keep p.1 p.2 ne nf G5 e n,free p.1 p.2 G5 e n,ne,nf,d⟩
theorem Inv.un {t':Nat} (I:Inv X pins σ H s) (u:Un X.fs [] H H' s.heap h') (hok:HOk X.prog X.w H' h'):Inv X pins σ H' { s with heap:=h',toks:=t' }:=by
 obtain ⟨m,⟨o,es,ep,ho,r⟩,_⟩:=id I.loc;obtain ⟨sl,hL⟩:=u.any ho I.free (by simp)
 exact I.step (g':=s.gens) (d':=s.drawn) (ch:=[]) (fun _ z=>nomatch z) (fun b o _ hb _ e n=>u.keep b o e n hb (by simp)) (fun b o _ hb _ e n=>u.slot b o e n hb (by simp)) (fun b o _ e n=>u.free b o e n (by simp)) (fun b o _ e=>u.there b o e (by simp)) u.tups u.frzs u.tbls (fun m' hm=>by
  obtain ⟨o',KJ,KL,AH,r'⟩:=hm;rw [ho] at AH;cases AH;exact ⟨_,KJ,KL,hL,r'⟩) hok I.bare
theorem Inv.call {g':Array GenState} {t':Nat} {d':Drawn} {ch:List Ud} (I:Inv X pins σ H s) (u:Un (frs X.stack) ch H H' s.heap h') (hok:HOk X.prog X.w H' h') (hg:AllBare g')
 (Dx:∀ b∈ch,(b∈X.ex∨X.s₀.heap.objs.size<=b)/\b≠X.env.locals/\(∀ x c,X.env.cells.lookup x=some c->c≠b)/\∀ p∈X.pn++pins,p.1≠b) :
 Inv X pins σ H' { s with heap:=h',gens:=g',drawn:=d',toks:=t' }:=by
 obtain ⟨m,⟨o,es,ep,ho,r⟩,_⟩:=id I.loc;obtain ⟨sl,hL⟩:=u.any ho I.free fun z=>(Dx _ z).2.1 rfl
 exact I.step (ch:=ch) Dx (fun b o hL hb hc e n=>u.keep b o e n (fun z=>(UB.mp (I.stkSub b z)).elim hL hb) hc) (fun b o _ _ hc e n=>u.any e n hc) (fun b o hc e n=>u.free b o e n hc) (fun b o hc e=>u.there b o e hc) u.tups u.frzs u.tbls (fun m' hm=>by
  obtain ⟨o',KJ,KL,AH,r'⟩:=hm;rw [ho] at AH;cases AH;exact ⟨_,KJ,KL,hL,r'⟩) hok hg
theorem Inv.turned {t':Nat} {it:Ud} (I:Inv X pins σ H s) (k:∀ b o,b≠it->s.heap.get? b=some o->h'.get? b=some o) (hn:H it=none) (hL:it≠X.env.locals)
 (h1:it∈X.ex∨X.s₀.heap.objs.size<=it) (h2:∀ x c,X.env.cells.lookup x=some c->c≠it) (h3:∀ p∈X.pn++pins,p.1≠it):Inv X pins σ H { s with heap:=h',toks:=t' }:=by
 have G7:∀ b u,H b=some u->b≠it:=fun b u e z=>by rw [z,hn] at e;cases e
 refine I.step (g':=s.gens) (d':=s.drawn) (ch:=[it]) (fun b hb=>?_) (fun b o _ _ hc e _=>k b o (fun z=>hc (by simp [z])) e) (fun b o _ _ hc e _=>⟨o.slots,k b o (fun z=>hc (by simp [z])) e⟩) (fun _ _ _ _ n=>n)
  (fun b o hc e=>⟨o,k b o (fun z=>hc (by simp [z])) e⟩) (fun _ _ e=>e) (fun _ _ _ e=>e) (fun b ps e=>⟨#[],by rw [e];simp⟩) (fun m hm=>?_) (fun b u e=>?_) I.bare
 · have e:b=it:=by simpa using hb
   subst e;exact ⟨h1,hL,h2,h3⟩
 · obtain ⟨o,es,ep,ho,r⟩:=hm;exact ⟨o,es,ep,k _ o (V7 hL) ho,r⟩
 · refine (I.hok b u e).stay (fun c v hc q=>k c v ?_ q) (fun _ q=>q) fun _ _ q=>q;rcases hc with z | z
   · rw [z];exact G7 b u e
   · exact G7 c _ z
theorem Inv.tok (I:Inv X pins σ H s) (t:Nat):Inv X pins σ H { s with toks:=t }:=I.un (h':=s.heap) (t':=t) Un.refl I.hok
theorem Inv.kept {t':Nat} (I:Inv X pins σ H s) (k:∀ b u,s.heap.get? b=some u->h'.get? b=some u):Inv X pins σ H { s with heap:=h',toks:=t' }:=I.un (Un.kept k) (I.hok.kept k)
theorem Inv.laid {a:Ud} {o:HO} {t':Nat} (I:Inv X pins σ H s) (k:∀ b u,s.heap.get? b=some u->h'.get? b=some u) (hp:s.heap.objs.size<=a) (new:ObjOk X.prog X.w (upd H a o) h' a o) :
 Inv X pins σ (upd H a o) { s with heap:=h',toks:=t' }:=I.un (Un.laid k hp (I.hok.fresh hp)) (I.hok.laid k hp new)
theorem Inv.write {x e:Ud} {o:HO} {t':Nat} (I:Inv X pins σ H s) (mu:Mut (H x)) (he:e=x∨H e=some (.own x)) (k:∀ b u,b≠e->s.heap.get? b=some u->h'.get? b=some u) (Gn:∃ u,h'.get? e=some u)
 (new:ObjOk X.prog X.w (upd H x o) h' x o):Inv X pins σ (upd H x o) { s with heap:=h',toks:=t' }:=I.un (Un.write mu he k Gn) (I.hok.write mu he k Gn new)
theorem Inv.weak {yA:List (Option V)} (I:Inv X pins σ H s) (hl:yA.length=σ.length) (w:∀ (i:Nat) v,yA[i]?=some (some v)->σ[i]?=some (some v)):Inv X pins yA H s :=
 ⟨I.ok,I.os,I.bare,I.base,let ⟨m,hn,KN⟩:=I.loc;⟨m,hn,fun i x v e1 e2 e3=>KN i x v e1 (w i v e2) e3⟩,I.cell,I.free,I.freeC,I.pin,I.hok,hl.trans I.len⟩
theorem Inv.pins_of {Eo:List (Ud×Wu)} (I:Inv X pins σ H s) (h:∀ p∈Eo,s.heap.get? p.1=some p.2/\H p.1=none/\p.1≠X.env.locals/\p.1∉X.fs/\∀ v,p.2.data≠.cell v):Inv X Eo σ H s :=
 ⟨I.ok,I.os,I.bare,I.base,I.loc,I.cell,I.free,I.freeC,fun p hp=>(U8.mp hp).elim (fun z=>I.pin p (Vf _ z)) (h p),I.hok,I.len⟩
theorem pO {N:List UP} (hN:N.Nodup) {i j:Nat} {x:UP} (a:N[i]?=some x) (b:N[j]?=some x):i=j:=by
 obtain ⟨h1,e1⟩:=Uh.mp a;obtain ⟨h2,e2⟩:=Uh.mp b;exact (List.getElem_inj hN).mp (e1.trans e2.symm)
theorem mQ {M:Model} {A:U5} {E:Ug->Um->Prop} {i:Nat} {x:UP} {v:V} {u:Ug} {Q:Unit->Um->Prop} (I:Inv X pins σ H s) (hN:X.N.Nodup) (hi:X.N[i]?=some x) (hx:Loc X.env.scope x) (r:RelV v u)
 (h:∀ s',Inv X pins (σ.set i (some v)) H s'->(∃ a,V9 a s.heap s'.heap/\(a=X.env.locals∨X.env.cells.lookup x=some a))->Q () s') (hf:X.fn x=true∨X.env.scope.names.lookup x=some .local:=by first | exact .inl rfl | exact .inr rfl | assumption):Uy M A (storeName X.env x u) Q E s:=by
 obtain ⟨m,hn,hl⟩:=id I.loc;have KO:(X.env.scope.kind == .class || (X.env.scope.kind == .module && X.env.locals != X.env.globals))=false:=by rw [I.ok.kind];rfl
 have G9:i<σ.length:=by rw [I.len];exact (Uh.mp hi).1
 have cne:=I.cne
 have tracked:∀ {a:Ud} {h':Vy},(∃ o,s.heap.get? a=some o/\H a=none)->V9 a s.heap h'->HOk X.prog X.w H h':=fun {a h'} ha hs b ob e=>by
  obtain ⟨_,_,Ep⟩:=ha;refine (I.hok b ob e).stay (fun c w' hc q=>(hs.2 c ?_).trans q) (fun _ q=>q) fun _ _ q=>q;rintro rfl;rcases hc with rfl | hc
  · rw [Ep] at e;cases e
  · rw [Ep] at hc;cases hc
 rcases hx with hk | hk
 · refine wpAny_storeName_local hk hn (fun h' P1 hs=>?_) KO;obtain ⟨oL,_,_,P4,_⟩:=id hn;refine h _ ⟨I.ok,I.os,I.bare,⟨fun b o e n hb hx=>?_,fun b o e n hb hx=>?_,I.base.free,fun b o e hx=>?_,I.base.tups,I.base.frzs,I.base.tbls⟩,⟨_,P1,fun j y v' e1 e2 e3=>?_⟩,fun y c e=>?_,I.free,I.freeC,fun p hp=>?_,tracked ⟨oL,P4,I.free⟩ hs,by simpa using I.len⟩ ⟨_,hs,.inl rfl⟩
   · exact (hs.2 b (UX (Vj (Uw e) I.ok.above))).trans (I.base.keep b o e n hb hx)
   · obtain ⟨sl,e1⟩:=I.base.slot b o e n hb hx;exact ⟨sl,(hs.2 b (UX (Vj (Uw e) I.ok.above))).trans e1⟩
   · obtain ⟨o',e1⟩:=I.base.there b o e hx;exact ⟨o',(hs.2 b (UX (Vj (Uw e) I.ok.above))).trans e1⟩
   · by_cases hj:j=i
     · subst hj;rw [hi] at e1;cases e1;rw [List.getElem?_set_self G9] at e2;cases e2;exact ⟨u,r,.inl ⟨hk,by simp⟩⟩
     · rw [Ze (V7 hj)] at e2;obtain ⟨u',r',q⟩:=hl j y v' e1 e2 e3;refine ⟨u',r',?_⟩;rcases q with ⟨k,e⟩ | ⟨k,c,e,z⟩
       · refine .inl ⟨k,?_⟩;have:y≠x:=fun e=>hj (pO hN e1 (e ▸ hi));simp [this,e]
       · exact .inr ⟨k,c,e,z.sameBut hs (cne y c e)⟩
   · obtain ⟨w',z⟩:=I.cell y c e;exact ⟨w',z.sameBut hs (cne y c e)⟩
   · obtain ⟨e,n,ne,nf,d⟩:=I.pin p hp;exact ⟨(hs.2 p.1 ne).trans e,n,ne,nf,d⟩
 · have Fb:X.fn x=true:=by
    rcases hf with z | z
    · exact z
    · rw [z] at hk;cases hk
   obtain ⟨c,hc⟩:=I.ok.has x (.inl hk);obtain ⟨w',z⟩:=I.cell x c hc;refine wpAny_storeName_cell I.ok.kind hk hc z (fun h' zR hs=>?_);obtain ⟨oc,NY,KP⟩:=id z;refine h { s with heap:=h' } ⟨I.ok,I.os,I.bare,⟨fun b o e n hb hx=>?_,fun b o e n hb hx=>?_,I.base.free,fun b o e hx=>?_,I.base.tups,I.base.frzs,I.base.tbls⟩,⟨m,hn.sameBut hs (V7 (cne x c hc)),fun j y v' e1 e2 e3=>?_⟩,fun y c' e=>?_,I.free,I.freeC,fun p hp=>?_,tracked ⟨oc,NY,I.freeC x c hc⟩ hs,by simpa using I.len⟩ ⟨c,hs,.inr hc⟩
   · exact (hs.2 b (UX (Vj (Uw e) (I.ok.cab x c Fb hc)))).trans (I.base.keep b o e n hb hx)
   · obtain ⟨sl,e1⟩:=I.base.slot b o e n hb hx;exact ⟨sl,(hs.2 b (UX (Vj (Uw e) (I.ok.cab x c Fb hc)))).trans e1⟩
   · obtain ⟨o',e1⟩:=I.base.there b o e hx;exact ⟨o',(hs.2 b (UX (Vj (Uw e) (I.ok.cab x c Fb hc)))).trans e1⟩
   · by_cases hj:j=i
     · subst hj;rw [hi] at e1;cases e1;rw [List.getElem?_set_self G9] at e2;cases e2;exact ⟨u,r,.inr ⟨.inl hk,c,hc,zR⟩⟩
     · rw [Ze (V7 hj)] at e2;obtain ⟨u',r',q⟩:=hl j y v' e1 e2 e3;refine ⟨u',r',?_⟩;rcases q with q | ⟨k,c',e,z'⟩
       · exact .inl q
       · refine .inr ⟨k,c',e,z'.sameBut hs ?_⟩;rintro rfl;exact hj (pO hN e1 (I.ok.inj _ _ _ e hc ▸ hi))
   · by_cases Fc:c'=c
     · subst Fc;exact ⟨_,zR⟩
     · obtain ⟨w2,z2⟩:=I.cell y c' e;exact ⟨w2,z2.sameBut hs Fc⟩
   · obtain ⟨e,n,ne,nf,d⟩:=I.pin p hp;refine ⟨(hs.2 p.1 ?_).trans e,n,ne,nf,d⟩;intro q;rw [q,NY] at e;have q':oc=p.2:=UQ e;exact d w' (by rw [<- q'];exact KP)
theorem kT {M:Model} {A:U5} {E:Ug->Um->Prop} {i:Nat} {x:UP} {v:V} {u:Ug} {Q:Unit->Um->Prop} (I:Inv X pins σ H s) (hN:X.N.Nodup) (hi:X.N[i]?=some x) (hx:Loc X.env.scope x) (r:RelV v u)
 (h:∀ s',Inv X pins (σ.set i (some v)) H s'->Q () s') (hf:X.fn x=true∨X.env.scope.names.lookup x=some .local:=by first | exact .inl rfl | exact .inr rfl | assumption):Uy M A (storeName X.env x u) Q E s :=
 mQ I hN hi hx r (fun s' I' _=>h s' I') hf
theorem Inv.call' {s':Um} {ch:List Ud} (I:Inv X pins σ H s) (ho:s'.os=s.os) (u:Un (frs X.stack) ch H H' s.heap s'.heap) (hok:HOk X.prog X.w H' s'.heap) (hg:AllBare s'.gens)
 (Dx:∀ b∈ch,(b∈X.ex∨X.s₀.heap.objs.size<=b)/\b≠X.env.locals/\(∀ x c,X.env.cells.lookup x=some c->c≠b)/\∀ p∈X.pn++pins,p.1≠b):Inv X pins σ H' s':=by
 obtain ⟨h',g',d',t',o'⟩:=s';have e:o'=s.os:=ho;subst e;exact I.call (g':=g') (t':=t') (d':=d') u hok hg Dx
end
abbrev XK:=Ug->Option Ud->Hp->Prop
abbrev St:=List (Option V)
abbrev VK:=V->Hp->Prop
abbrev TE:=St->Hp->VK->Prop
abbrev TT:=St->Hp->(Bool->Hp->Prop)->Prop
abbrev TA:=St->Hp->(List V->Hp->Prop)->Prop
structure Ends where
 nx:St->Hp->Prop
 rt:VK
 bk:St->Hp->Prop:=fun _ _=>False
 ct:St->Hp->Prop:=fun _ _=>False
abbrev TS:=Ends->St->Hp->Prop
def EP (X:Cx) (pins:List (Ud×Wu)) (σ:St) (Q:VK) (u:Ug) (s':Um):Prop:=∃ v H',Inv X pins σ H' s'/\RelV v u/\Q v H'
def TP (X:Cx) (pins:List (Ud×Wu)) (σ:St) (Q:Bool->Hp->Prop) (b:Bool) (s':Um):Prop:=∃ H',Inv X pins σ H' s'/\Q b H'
def AP (X:Cx) (pins:List (Ud×Wu)) (σ:St) (Q:List V->Hp->Prop) (us:List Ug) (s':Um):Prop:=∃ vs H',Inv X pins σ H' s'/\Vals vs us/\Q vs H'
def SP (X:Cx) (pins:List (Ud×Wu)) (D:Ends) (f:Flow) (s':Um):Prop :=
 match f with
 | .next=>∃ yA H',Inv X pins yA H' s'/\D.nx yA H'
 | .brk=>∃ yA H',Inv X pins yA H' s'/\D.bk yA H'
 | .cont=>∃ yA H',Inv X pins yA H' s'/\D.ct yA H'
 | .ret u=>∃ v yA H',Inv X pins yA H' s'/\RelV v u/\D.rt v H'
def PE (X:Cx) (e:Vs) (t:TE):Prop :=
 ∀ (pins:List (Ud×Wu)) (s:Um) (σ:St) (H:Hp) (Q:VK),Inv X pins σ H s->t σ H Q->Uy (UU X.prog X.w) X.A (WE e X.env) (EP X pins σ Q) X.xe s
def PT (X:Cx) (e:Vs) (t:TT):Prop :=
 ∀ (pins:List (Ud×Wu)) (s:Um) (σ:St) (H:Hp) (Q:Bool->Hp->Prop),Inv X pins σ H s->t σ H Q->Uy (UU X.prog X.w) X.A (isTrue e X.env (WE e X.env)) (TP X pins σ Q) X.xe s
def PW (X:Cx) (e:Vs) (t:TT):Prop :=
 ∀ (whole:Sem Ug) (pins:List (Ud×Wu)) (s:Um) (σ:St) (H:Hp) (Q:Bool->Hp->Prop),Inv X pins σ H s->t σ H Q->Uy (UU X.prog X.w) X.A (isTrue e X.env whole) (TP X pins σ Q) X.xe s
theorem PW.pt {X:Cx} {e:Vs} {t:TT} (h:PW X e t):PT X e t:=h _
def PA (X:Cx) (es:List Vs) (t:TA):Prop :=
 ∀ (pos:Yd) (pins:List (Ud×Wu)) (s:Um) (σ:St) (H:Hp) (Q:List V->Hp->Prop),Inv X pins σ H s->t σ H Q->Uy (UU X.prog X.w) X.A (spliced (Yl pos (Vi es X.env))) (AP X pins σ Q) X.xe s
def PS (X:Cx) (st:V8) (t:TS):Prop :=
 ∀ (pins:List (Ud×Wu)) (s:Um) (σ:St) (H:Hp) (D:Ends),Inv X pins σ H s->t D σ H->Uy (UU X.prog X.w) X.A (exec st X.env) (SP X pins D) X.xe s
def PSs (X:Cx) (st:List V8) (t:TS):Prop :=
 ∀ (pins:List (Ud×Wu)) (s:Um) (σ:St) (H:Hp) (D:Ends),Inv X pins σ H s->t D σ H->Uy (UU X.prog X.w) X.A (execs st X.env) (SP X pins D) X.xe s
theorem thn {α:Type} {t:Sem α} {Q Q':α->Um->Prop} {M:Model} {A:U5} {E:Ug->Um->Prop} {s:Um} (h:Uy M A t Q E s) (hQ:∀ a s,Q a s->Q' a s):Uy M A t Q' E s:=Wn h hQ fun _ _ x=>x
end L2
namespace L2
open PySem PySem.Spec PyProof.Rows
section
variable {X:Cx}
inductive v8 (i:Nat) (σ:St) (H:Hp) (Q:VK):Prop
 | mk (v:_) (yL:σ[i]?=some (some v)) (yM:Q v H):v8 i σ H Q
def bx (i:Nat):TE:=v8 i
def tC (v:V):TE:=fun _ H Q=>Q v H
theorem wC {i:Nat} {x:UP} {pos:Yd} (hN:X.N[i]?=some x) (hv:Vis X.env.scope x) (hd:(x == ("__debug__":UP))=false:=by decide) (CK:(x == ("__classdict__":UP))=false:=by decide):PE X (.Name x pos) (bx i):=by
 intro pins s σ H Q I h;obtain ⟨v,e,h⟩:=h;obtain ⟨m,hn,hl⟩:=I.loc;obtain ⟨u,r,l⟩:=hl i x v hN e hv;have fin:EP X pins σ Q u s:=⟨v,H,I,r,h⟩;rcases l with ⟨hk,hm⟩ | ⟨hk,c,hc,BU⟩
 · exact wpAny_Name (wpAny_loadName_local I.ok.kind hk hn hm fin) hd
 · rcases hk with hk | hk
   · exact wpAny_Name (wpAny_loadName_cell I.ok.kind hk hc BU fin) hd
   · exact wpAny_Name (wpAny_loadName_free I.ok.kind hk hc BU fin CK) hd
theorem af {i j pos}:PE X (.Constant (.int i) j pos) (tC (.int i)):=fun _ _ _ H _ I h=>wpAny_Constant_int ⟨.int i,H,I.tok _,⟨_,rfl⟩,h⟩
theorem cY {b j pos}:PE X (.Constant (.bool b) j pos) (tC (.bl b)):=fun _ _ _ H _ I h=>Constant_bool ⟨.bl b,H,I,rfl,h⟩
theorem qe {j pos}:PE X (.Constant .none j pos) (tC .non):=fun _ _ _ H _ I h=>Constant_none ⟨.non,H,I,rfl,h⟩
theorem eO {x j pos}:PE X (.Constant (.str x) j pos) (tC (.str x)):=fun _ _ _ H _ I h=>Calls.Constant_str ⟨.str x,H,I.tok _,⟨_,rfl⟩,h⟩
def Gl (X:Cx) (x:UP):Prop:=X.env.kindOf x=some .globalImplicit
theorem qY {E:Ug->Um->Prop} {pins:List (Ud×Wu)} {s:Um} {σ:St} {H:Hp} {x:UP} {u:Ug} {pos:Yd} {Q:Ug->Um->Prop} (I:Inv X pins σ H s) (hg:Gl X x) (hm:X.mg x=some u) (h:Q u s)
 (hd:(x == ("__debug__":UP))=false:=by decide):Uy (UU X.prog X.w) X.A (WE (.Name x pos) X.env) Q E s :=
 Calls.Name_function_global I.ok.kind hg (Calls.loadGlobal_global (by rw [I.ok.glob];exact I.mod.glob.keeps I.bk) hm h) hd
theorem dg {E:Ug->Um->Prop} {pins:List (Ud×Wu)} {s:Um} {σ:St} {H:Hp} {x:UP} {u:Ug} {pos:Yd} {Q:Ug->Um->Prop} (I:Inv X pins σ H s) (hg:Gl X x) (hm:X.mg x=none) (hv:YG x=some u) (h:Q u s)
 (hn:x≠"__name__":=by decide) (hd:(x == ("__debug__":UP))=false:=by decide):Uy (UU X.prog X.w) X.A (WE (.Name x pos) X.env) Q E s:=by
 obtain ⟨mb,h1,h2⟩:=I.mod.blt;exact Calls.Name_function_global I.ok.kind hg (Calls.loadGlobal_builtin (by rw [I.ok.glob];exact I.mod.glob.keeps I.bk) hm (by rw [I.ok.blt];exact h1.keeps I.bk) ((h2 x hn).trans hv) h) hd
theorem g8 {x:UP} {v:V} {u:Ug} {pos:Yd} (hg:Gl X x) (hm:X.mg x=some u) (r:RelV v u) (hd:(x == ("__debug__":UP))=false:=by decide):PE X (.Name x pos) (tC v) :=
 fun _ _ _ H _ I h=>qY I hg hm ⟨v,H,I,r,h⟩ hd
theorem eG {x:UP} {v:V} {u:Ug} {pos:Yd} (hg:Gl X x) (hm:X.mg x=none) (hv:YG x=some u) (r:RelV v u) (hn:x≠"__name__":=by decide) (hd:(x == ("__debug__":UP))=false:=by decide):PE X (.Name x pos) (tC v) :=
 fun _ _ _ H _ I h=>dg I hg hm hv ⟨v,H,I,r,h⟩ hn hd
variable {a b:Vs} {ta tb:TE} {pos:Yd}
def PC (X:Cx) (op:CmpOp) (a b:Vs) (t:TE):Prop :=
 ∀ (pins:List (Ud×Wu)) (s:Um) (σ:St) (H:Hp) (Q:VK),Inv X pins σ H s->t σ H Q →
   Uy (UU X.prog X.w) X.A (WE a X.env) (fun v yB=>Uy (UU X.prog X.w) X.A (WE b X.env) (fun u ze=>Uy (UU X.prog X.w) X.A (Xz op v u) (EP X pins σ Q) X.xe ze) X.xe yB) X.xe s
def tB (t:TE):TT:=fun σ H Q=>t σ H fun x H1=>∃ c,x=.bl c/\Q c H1
theorem qM {op:CmpOp} {t:TE} (h:PC X op a b t) (h1:Y6 op b=false:=by first | exact Ha _ (by decide) (by decide) | rfl):PT X (.Compare a [op] [b] pos) (tB t):=by
 intro pins s σ H Q I hw;refine wpAny_isTrue_Compare1 (thn (h pins s σ H _ I hw) fun v s1 h1=>thn h1 fun u s2 h2=>thn h2 fun c s3 ⟨x,H1,I1,r1,q1⟩=>?_) h1;obtain ⟨d,rfl,q⟩:=q1;cases r1;exact XF ⟨H1,I1,q⟩
variable {tA JX:TT} {rest:List Vs}
def yo (t u:TT):TT:=fun σ H Q=>t σ H fun c H1=>if c=true then u σ H1 Q else Q false H1
def tOr (t u:TT):TT:=fun σ H Q=>t σ H fun c H1=>if c=true then Q true H1 else u σ H1 Q
def ye (t:TT):TT:=fun σ H Q=>t σ H fun c H1=>Q (!c) H1
theorem vk (ha:PT X a tA):PW X (.BoolOp .And [a] pos) tA:=by
 intro wh pins s σ H Q I h;refine isTrue_and (thn (ha pins s σ H Q I h) fun c s1 e=>?_);cases c with
 | true=>exact isTrue_and_nil e
 | false=>exact e
theorem dl (ha:PT X a tA):PW X (.BoolOp .Or [a] pos) tA:=by
 intro wh pins s σ H Q I h;refine isTrue_or (thn (ha pins s σ H Q I h) fun c s1 e=>?_);cases c with
 | false=>exact isTrue_or_nil e
 | true=>exact e
theorem tT (ha:PT X a tA) (hb:PW X (.BoolOp .And (b::rest) pos) JX):PW X (.BoolOp .And (a::b::rest) pos) (yo tA JX):=by
 intro wh pins s σ H Q I h;refine isTrue_and (thn (ha pins s σ H _ I h) fun c s1 ⟨H1,I1,q1⟩=>?_);cases c with
 | true=>exact hb wh pins s1 σ H1 Q I1 q1
 | false=>exact ⟨H1,I1,q1⟩
theorem dA (ha:PT X a tA) (hb:PW X (.BoolOp .Or (b::rest) pos) JX):PW X (.BoolOp .Or (a::b::rest) pos) (tOr tA JX):=by
 intro wh pins s σ H Q I h;refine isTrue_or (thn (ha pins s σ H _ I h) fun c s1 ⟨H1,I1,q1⟩=>?_);cases c with
 | true=>exact ⟨H1,I1,q1⟩
 | false=>exact hb wh pins s1 σ H1 Q I1 q1
theorem dq (ha:PT X a tA):PT X (.UnaryOp .Not a pos) (ye tA):=by
 intro pins s σ H Q I h;exact isTrue_not (ha pins s σ H (fun c H1=>Q (!c) H1) I h)
def xv (ta tb:TE):TE:=fun σ H Q=>ta σ H fun x H1=>∃ c,x=.bl c/\if c=true then tb σ H1 Q else Q (.bl false) H1
def xw (ta:TE):TE:=fun σ H Q=>ta σ H fun x H1=>∃ c,x=.bl c/\Q (.bl (!c)) H1
theorem qB {op} {t:TE} (h:PE X a t):PE X (.BoolOp op [a] pos) t:=fun pins s σ H Q I hw=>BoolOp_one (h pins s σ H Q I hw)
theorem oF (ha:PE X a ta) (hb:PE X (.BoolOp .And (b::rest) pos) tb):PE X (.BoolOp .And (a::b::rest) pos) (xv ta tb):=by
 intro pins s σ H Q I h;refine BoolOp_and (thn (ha pins s σ H _ I h) fun v s1 ⟨x,H1,I1,r1,q1⟩=>?_);obtain ⟨c,rfl,q1⟩:=q1;cases r1;refine XF ?_;cases c with
 | true=>exact hb pins s1 σ H1 Q I1 q1
 | false=>exact ⟨.bl false,H1,I1,rfl,q1⟩
theorem uR (ha:PE X a ta):PE X (.UnaryOp .Not a pos) (xw ta):=by
 intro pins s σ H Q I h;refine UnaryOp_ (thn (ha pins s σ H _ I h) fun v s1 ⟨x,H1,I1,r1,q1⟩=>?_);obtain ⟨c,rfl,q1⟩:=q1;cases r1;exact not_of (XF ⟨.bl (!c),H1,I1,rfl,q1⟩)
def tIf (t:TT) (ta tb:TE):TE:=fun σ H Q=>t σ H fun c H1=>if c=true then ta σ H1 Q else tb σ H1 Q
theorem ux {c:Vs} (hc:PT X c tA) (ha:PE X a ta) (hb:PE X b tb):PE X (.IfExp c a b pos) (tIf tA ta tb):=by
 intro pins s σ H Q I h;refine wpAny_IfExp (thn (hc pins s σ H _ I h) fun d s1 ⟨H1,I1,q1⟩=>?_);cases d with
 | true=>exact ha pins s1 σ H1 Q I1 q1
 | false=>exact hb pins s1 σ H1 Q I1 q1
end
end L2
namespace L2
open PySem PySem.Spec PyProof.Rows
def SqL (K:Ub) (H:Hp) (a:Ud) (xs:List V):Prop :=
 Rd H a (.lst xs) ∨
  ∃ (o:Wu) (its:Array Ug) (n:Nat),K.lookup a=some o/\o.cls=.type "list"/\o.dict=none/\o.data=.seq its n/\its.size<=Uz/\Vals xs its.toList
def SqT (K:Ub) (H:Hp) (a:Ud) (xs:List V):Prop :=
 Rd H a (.tup xs) ∨
  ∃ (o:Wu) (its:Array Ug) (n:Nat),K.lookup a=some o/\o.cls=.type "tuple"/\o.data=.seq its n/\its.size<=Uz/\Vals xs its.toList
def yw:Ug->Option V
 | .none=>some .non
 | .bool b=>some (.bl b)
 | .int i _=>some (.int i)
 | .str x _=>some (.str x)
 | .bytes b _=>some (.byt b)
 | .float b _=>some (.flt b)
 | .ref a=>some (.ref a)
 | .type n=>some (.ty n)
 | _=>none
theorem RelV.abs {x:V} {u:Ug} (r:RelV x u):yw u=some x:=by
 cases x with
 | non=>cases r;rfl
 | bl _=>cases r;rfl
 | int _=>obtain ⟨t,rfl⟩:=r;rfl
 | str _=>obtain ⟨t,rfl⟩:=r;rfl
 | byt _=>obtain ⟨t,rfl⟩:=r;rfl
 | flt _=>obtain ⟨t,rfl⟩:=r;rfl
 | ref _=>cases r;rfl
 | ty _=>cases r;rfl
theorem RelV.inj {x y:V} {u:Ug} (r:RelV x u) (q:RelV y u):x=y:=UQ (r.abs.symm.trans q.abs)
theorem Vals.inj:∀ {xs ys:List V} {us:List Ug},Vals xs us->Vals ys us->xs=ys
 | _,_,_,.nil,.nil=>rfl
 | _,_,_,.cons r t,.cons r' t'=>by rw [r.inj r',Vals.inj t t']
section
variable {X:Cx} {pins:List (Ud×Wu)} {σ:St} {H:Hp} {s:Um} {a:Ud} {xs ys:List V}
theorem SqL.of {K:Ub} (h:H a=some (.lst xs)):SqL K H a xs:=.inl (.inl h)
theorem SqT.of {K:Ub} (h:H a=some (.tup xs)):SqT K H a xs:=.inl (.inl h)
theorem Inv.list (I:Inv X pins σ H s) (h:SqL X.K H a xs):∃ its:List Ug,Vals xs its/\PlainL s.heap a its.toArray/\xs.length<=Uz:=by
 rcases h with h | ⟨o,its,n,hk,hc,hd,hs,hz,r⟩
 · obtain ⟨z,its,n,r,e⟩:=h.ok I.hok;exact ⟨its,r,⟨_,n,e,rfl,rfl,rfl⟩,z⟩
 · refine ⟨its.toList,r,⟨o,n,I.kIn a o hk,hc,hd,by simpa using hs⟩,?_⟩;have e:=r.length;simp only [UY] at e;omega
theorem Inv.tuple (I:Inv X pins σ H s) (h:SqT X.K H a xs):∃ its:List Ug,Vals xs its/\IsTup s.heap a its.toArray/\xs.length<=Uz:=by
 rcases h with h | ⟨o,its,n,hk,hc,hs,hz,r⟩
 · obtain ⟨z,its,n,r,p⟩:=h.ok I.hok;exact ⟨its,r,⟨_,p,rfl,n,rfl⟩,z⟩
 · refine ⟨its.toList,r,⟨o,I.kIn a o hk,hc,n,by simpa using hs⟩,?_⟩;have e:=r.length;simp only [UY] at e;omega
theorem Inv.list_inj (I:Inv X pins σ H s) (h:SqL X.K H a xs) (h':SqL X.K H a ys):xs=ys:=by
 obtain ⟨its,r,⟨o,n,e,_,_,d⟩,_⟩:=I.list h;obtain ⟨its',r',⟨o',n',e',_,_,d'⟩,_⟩:=I.list h';rw [e] at e';cases e';rw [d] at d';injection d' with d1 _;have:its=its':=by simpa using congrArg ZL d1
 subst this;exact r.inj r'
theorem Inv.tuple_inj (I:Inv X pins σ H s) (h:SqT X.K H a xs) (h':SqT X.K H a ys):xs=ys:=by
 obtain ⟨its,r,⟨o,e,_,n,d⟩,_⟩:=I.tuple h;obtain ⟨its',r',⟨o',e',_,n',d'⟩,_⟩:=I.tuple h';rw [e] at e';cases e';rw [d] at d';injection d' with d1 _;have:its=its':=by simpa using congrArg ZL d1
 subst this;exact r.inj r'
end
abbrev Cx.wish (X:Cx) (E:Ug->Um->Prop):Cx:={ X with xe:=E }
abbrev Cx.nox (X:Cx):Cx:=X.wish fun _ _=>False
theorem Cx.Ok.wish {X:Cx} (ok:X.Ok) (E:Ug->Um->Prop):(X.wish E).Ok :=
 ⟨ok.mod,ok.kind,ok.glob,ok.blt,ok.above,ok.inj,ok.has,ok.cab,ok.hd,ok.frames,ok.stk,ok.exf,ok.bs,ok.bsz,ok.noex,ok.exfs,ok.funs,ok.frf⟩
theorem Cx.Ok.unwish {X:Cx} {E:Ug->Um->Prop} (ok:(X.wish E).Ok):X.Ok :=
 ⟨ok.mod,ok.kind,ok.glob,ok.blt,ok.above,ok.inj,ok.has,ok.cab,ok.hd,ok.frames,ok.stk,ok.exf,ok.bs,ok.bsz,ok.noex,ok.exfs,ok.funs,ok.frf⟩
section
variable {X:Cx} {pins:List (Ud×Wu)} {σ:St} {H:Hp} {s:Um} {E:Ug->Um->Prop}
theorem Inv.wish (I:Inv X pins σ H s) (E:Ug->Um->Prop):Inv (X.wish E) pins σ H s:=⟨I.ok.wish E,I.os,I.bare,I.base,I.loc,I.cell,I.free,I.freeC,I.pin,I.hok,I.len⟩
theorem Inv.unwish (I:Inv (X.wish E) pins σ H s):Inv X pins σ H s:=⟨I.ok.unwish,I.os,I.bare,I.base,I.loc,I.cell,I.free,I.freeC,I.pin,I.hok,I.len⟩
theorem SP.unwish {D:Ends} {f:Flow} {s':Um} (h:SP (X.wish E) pins D f s'):SP X pins D f s':=by
 cases f with
 | next=>obtain ⟨yA,H',I,q⟩:=h;exact ⟨yA,H',I.unwish,q⟩
 | brk=>obtain ⟨yA,H',I,q⟩:=h;exact ⟨yA,H',I.unwish,q⟩
 | cont=>obtain ⟨yA,H',I,q⟩:=h;exact ⟨yA,H',I.unwish,q⟩
 | ret u=>obtain ⟨v,yA,H',I,r,q⟩:=h;exact ⟨v,yA,H',I.unwish,r,q⟩
theorem PSs.nox {st:List V8} {t:TS} (h:PSs X.nox st t):PSs X st t:=fun pins s σ H D I hw =>
 Wn (h pins s σ H D (I.wish _) hw) (fun _ _ q=>q.unwish) fun _ _ z=>Xx z
end
section
variable {X:Cx} {st:V8} {rest:List V8} {t u:TS} {e:Vs} {te:TE} {pos:Yd}
def r9:TS:=fun D σ H=>D.nx σ H
def wU (t u:TS):TS:=fun D σ H=>t { D with nx:=u D } σ H
theorem aZ:PSs X [] r9:=fun _ _ σ H _ I h=>Zn ⟨σ,H,I,h⟩
theorem ae (h1:PS X st t) (h2:PSs X rest u):PSs X (st::rest) (wU t u):=by
 intro pins s σ H D I h;refine wpAny_execs_cons (thn (h1 pins s σ H { D with nx:=u D } I h) fun f s1 q=>?_);cases f with
 | next =>
   obtain ⟨yA,H',I',q⟩:=q;exact h2 pins s1 yA H' D I' q
 | ret v=>exact q
 | brk=>exact q
 | cont=>exact q
theorem ag (h1:PS X st t):PSs X [st] t:=by
 intro pins s σ H D I h;refine wpAny_execs_cons (thn (h1 pins s σ H D I h) fun f s1 q=>?_);cases f with
 | next=>exact Zn q
 | ret v=>exact q
 | brk=>exact q
 | cont=>exact q
theorem Inv.quiet {pins:List (Ud×Wu)} {σ:St} {H:Hp} {s:Um} (I:Inv X pins σ H s):interactive X.env=false:=by simp [interactive,I.ok.kind]
def xE (te:TE):TS:=fun D σ H=>te σ H fun _ H1=>D.nx σ H1
theorem aQ (he:PE X e te) (hs:swapsWith e none pos.line X.env=pure false:=by rfl):PS X (.Expr e pos) (xE te):=by
 intro pins s σ H D I h;exact wpAny_Expr_any (thn (he pins s σ H _ I h) fun v s1 ⟨x,H1,I1,r1,q1⟩=>⟨σ,H1,I1,q1⟩) I.quiet hs
def xW (te:TE):TS:=fun D σ H=>te σ H D.rt
theorem aA (he:PE X e te):PS X (.Return (some e) pos) (xW te):=by
 intro pins s σ H D I h;exact wpAny_Return_some (thn (he pins s σ H _ I h) fun v s1 ⟨x,H1,I1,r1,q1⟩=>⟨x,σ,H1,I1,r1,q1⟩)
def xu (c:TT) (t u:TS):TS:=fun D σ H=>c σ H fun b H1=>if b=true then t D σ H1 else u D σ H1
theorem bq {c:Vs} {a b:List V8} {tc:TT} (hc:PT X c tc) (ha:PSs X a t) (hb:PSs X b u):PS X (.If c a b pos) (xu tc t u):=by
 intro pins s σ H D I h;refine wpAny_If (thn (hc pins s σ H _ I h) fun d s1 ⟨H1,I1,q1⟩=>?_);cases d with
 | true=>exact ha pins s1 σ H1 D I1 q1
 | false=>exact hb pins s1 σ H1 D I1 q1
end
abbrev TG:=V->St->Hp->(St->Hp->Prop)->Prop
abbrev TGs:=List V->St->Hp->(St->Hp->Prop)->Prop
def PG (X:Cx) (target:Vs) (t:TG):Prop :=
 ∀ (pins:List (Ud×Wu)) (s:Um) (σ:St) (H:Hp) (v:V) (u:Ug) (Q:St->Hp->Prop),Inv X pins σ H s->RelV v u->t v σ H Q →
   Uy (UU X.prog X.w) X.A (assign target X.env u) (fun _ s'=>∃ yA H',Inv X pins yA H' s'/\Q yA H') X.xe s
def PGs (X:Cx) (ts:List Vs) (t:TGs):Prop :=
 ∀ (pins:List (Ud×Wu)) (s:Um) (σ:St) (H:Hp) (vs:List V) (us:List Ug) (Q:St->Hp->Prop),Inv X pins σ H s->Vals vs us->t vs σ H Q →
   Uy (UU X.prog X.w) X.A (assignInOrder ((Zj ts X.env).map (·.2)) us) (fun _ s'=>∃ yA H',Inv X pins yA H' s'/\Q yA H') X.xe s
abbrev wK:=V->V->V->Hp->(Hp->Prop)->Prop
def xo (X:Cx) (t:wK):Prop :=
 ∀ (pins:List (Ud×Wu)) (s:Um) (σ:St) (H:Hp) (o i v:V) (ov iv u:Ug) (Q:Hp->Prop),Inv X pins σ H s->RelV o ov->RelV i iv->RelV v u->t o i v H Q →
   Uy (UU X.prog X.w) X.A (setItem ov iv u) (fun _ s'=>∃ H',Inv X pins σ H' s'/\Q H') X.xe s
abbrev TIp:=V->V->Hp->VK->Prop
def PIp (X:Cx) (op:Operator) (t:TIp):Prop :=
 ∀ (pins:List (Ud×Wu)) (s:Um) (σ:St) (H:Hp) (x y:V) (v u:Ug) (Q:VK),Inv X pins σ H s->RelV x v->RelV y u->t x y H Q →
   Uy (UU X.prog X.w) X.A (inplaceOp op v u) (EP X pins σ Q) X.xe s
section
variable {X:Cx} {pos:Yd}
def aG (i:Nat):TG:=fun v σ H Q=>Q (σ.set i (some v)) H
theorem aj {i:Nat} {x:UP} (hN:X.N.Nodup) (hi:X.N[i]?=some x) (hx:Loc X.env.scope x) (hf:X.fn x=true∨X.env.scope.names.lookup x=some .local:=by first | exact .inl rfl | exact .inr rfl | assumption):PG X (.Name x pos) (aG i):=by
 intro pins s σ H v u Q I r h;exact wpAny_assign_Name (kT I hN hi hx r (fun s' I'=>⟨_,H,I',h⟩) hf)
def mC:TGs:=fun vs σ H Q=>vs=[]/\Q σ H
def db (t:TG) (u:TGs):TGs:=fun vs σ H Q=>∃ v r,vs=v::r/\t v σ H fun yA H'=>u r yA H' Q
theorem aY:PGs X [] mC:=by
 intro pins s σ H vs us Q I r h;obtain ⟨e,h⟩:=h;subst e;cases r;exact assignInOrder_nil ⟨σ,H,I,h⟩
theorem au {e:Vs} {es:List Vs} {t:TG} {u:TGs} (h1:PG X e t) (h2:PGs X es u)
 (hs:(Zj (e::es) X.env).map (·.2)=assign e X.env::(Zj es X.env).map (·.2):=by rfl):PGs X (e::es) (db t u):=by
 intro pins s σ H vs us Q I r h;obtain ⟨v,vr,e1,h⟩:=h;subst e1;cases r with
 | cons r rr =>
   rw [hs];refine assignInOrder_cons (thn (h1 pins s σ H _ _ _ I r h) fun _ s1 ⟨AA,H1,I1,q1⟩=>?_);exact h2 pins s1 AA H1 _ _ Q I1 rr q1
def mr (K:Ub) (n:Nat) (t:TGs):TG:=fun v σ H Q=>∃ a xs,v=.ref a/\SqT K H a xs/\xs.length=n/\t xs σ H Q
theorem bA {es:List Vs} {k:Nat} {t:TGs} {n:Nat} (hc:X.calm=true) (h:PGs X es t)
 (hn:(Zj es X.env).length=n:=by rfl) (zy:(Zj es X.env).findIdx? (·.1)=none:=by rfl):PG X (.Tuple es k pos) (mr X.K n t):=by
 intro pins s σ H v u Q I r hw;obtain ⟨a,xs,e1,hq,hl,hw⟩:=hw;subst e1;cases r;obtain ⟨its,rv,ht,hz⟩:=I.tuple hq;refine assign_Tuple_tuple (I.ok.hd hc) ht (by simp [hn,<- hl,rv.length]) zy fun h' hx=>?_;have I1:Inv X pins σ H { s with heap:=h' }:=I.kept (t':=s.toks) fun b o e=>hx b o (UX (Uw e)) e;exact h pins _ σ H xs _ Q I1 (by simpa using rv) hw
def yi (to ti:TE) (t:wK):TG:=fun v σ H Q=>to σ H fun o H1=>ti σ H1 fun i H2=>t o i v H2 fun H3=>Q σ H3
theorem jL {o i:Vs} {to ti:TE} {t:wK} (ho:PE X o to) (hi:PE X i ti) (hs:xo X t)
 (ha:∀ v,assign (.Subscript o i pos) X.env v=(do
  let ov ← holding [v] (WE o X.env)
  let iv ← holding [v,ov] (WE i X.env)
  standAt pos
  holding [v,ov,iv] (setItem ov iv v)
  release [v,ov,iv] []):=by intro _;rfl):PG X (.Subscript o i pos) (yi to ti t):=by
 intro pins s σ H v u Q I r h;rw [ha];refine T9 (VJ (thn (ho pins s σ H _ I h) fun ov s1 ⟨x,H1,I1,r1,q1⟩=>?_));refine T9 (VJ (thn (hi pins s1 σ H1 _ I1 q1) fun iv s2 ⟨y,H2,I2,r2,q2⟩=>?_));refine T9 (wpAny_standAt (T9 (VJ (thn (hs pins s2 σ H2 x y v ov iv u _ I2 r1 r2 r q2) fun _ s3 ⟨H3,I3,q3⟩=>?_))));exact wpAny_release ⟨σ,H3,I3,q3⟩
def wN (te:TE) (g:TG):TS:=fun D σ H=>te σ H fun x H1=>g x σ H1 D.nx
theorem cP {tg e:Vs} {te:TE} {g:TG} (he:PE X e te) (hg:PG X tg g) (hs:swapsWithSole [tg] e pos.line X.env=pure false:=by rfl) (hw:swappedStores [tg] e X.env=pure none:=by rfl)
 (h1:(Zj [tg] X.env).map (·.2)=[assign tg X.env]:=by rfl):PS X (.Assign [tg] e pos) (wN te g):=by
 intro pins s σ H D I h;refine wpAny_Assign_stores (thn (he pins s σ H _ I h) fun v s1 ⟨x,H1,I1,r1,q1⟩=>?_) hs hw;rw [h1];exact thn (hg pins s1 σ H1 x v _ I1 r1 q1) fun _ s2 q=>q
theorem av {i:Nat} {x:UP} {e:Vs} {te:TE} {pos':Yd} (hN:X.N.Nodup) (hi:X.N[i]?=some x) (hx:Loc X.env.scope x) (he:PE X e te) (hs:swapsWith e (some (.Name x pos')) pos.line X.env=pure false:=by rfl) (hf:X.fn x=true∨X.env.scope.names.lookup x=some .local:=by first | exact .inl rfl | exact .inr rfl | assumption) :
 PS X (.Assign [.Name x pos'] e pos) (wN te (aG i)):=by
 intro pins s σ H D I h;refine wpAny_Assign_Name (thn (he pins s σ H _ I h) fun v s1 ⟨y,H1,I1,r1,q1⟩=>?_) hs;exact kT I1 hN hi hx r1 (fun s2 I2=>⟨_,H1,I2,q1⟩) hf
def yk (i:Nat) (te:TE) (ti:TIp):TS:=fun D σ H=>∃ x,σ[i]?=some (some x)/\te σ H fun y H1=>ti x y H1 fun z H2=>D.nx (σ.set i (some z)) H2
theorem wy {i:Nat} {x:UP} {e:Vs} {te:TE} {op:Operator} {ti:TIp} {pos':Yd} (hN:X.N.Nodup) (hi:X.N[i]?=some x) (hx:Loc X.env.scope x) (he:PE X e te) (ho:PIp X op ti) (hf:X.fn x=true∨X.env.scope.names.lookup x=some .local:=by first | exact .inl rfl | exact .inr rfl | assumption) :
 PS X (.AugAssign (.Name x pos') op e pos) (yk i te ti):=by
 intro pins s σ H D I h;obtain ⟨v,e1,h⟩:=h;obtain ⟨m,hn,hl⟩:=I.loc;have NZ:Vis X.env.scope x:=by rcases hx with k | k;exact .inl k;exact .inr (.inl k)
 obtain ⟨u,r,l⟩:=hl i x v hi e1 NZ;refine wpAny_AugAssign_Name ?_
 have go:Uy (UU X.prog X.w) X.A (WE e X.env) (fun w ze=>Uy (UU X.prog X.w) X.A (inplaceOp op u w) (fun r AI=>Uy (UU X.prog X.w) X.A (storeName X.env x r) (fun _=>SP X pins D .next) X.xe AI) X.xe ze) X.xe s:=by
  refine thn (he pins s σ H _ I h) fun w s1 ⟨y,H1,I1,r1,q1⟩=>?_;refine thn (ho pins s1 σ H1 v y u w _ I1 r r1 q1) fun z s2 ⟨zv,H2,I2,r2,q2⟩=>?_;exact kT I2 hN hi hx r2 (fun s3 I3=>⟨_,H2,I3,q2⟩) hf
 rcases l with ⟨hk,hm⟩ | ⟨hk,c,hc,BU⟩
 · exact wpAny_loadName_local I.ok.kind hk hn hm go
 · rcases hk with hk | hk
   · exact wpAny_loadName_cell I.ok.kind hk hc BU go
   · rcases hx with k | k
     · have:X.env.scope.names.lookup x=some .free:=hk;rw [k] at this;cases this
     · have:X.env.scope.names.lookup x=some .free:=hk;rw [k] at this;cases this
def ipI (f:Int->Int->Int):TIp:=fun x y H Q=>∃ i j,x=.int i/\y=.int j/\Q (.int (f i j)) H
theorem wX:PIp X .Add (ipI fun i j=>i+j):=by
 intro pins s σ H x y v u Q I r1 r2 h;obtain ⟨i,j,e1,e2,q⟩:=h;subst e1;subst e2;obtain ⟨t,rfl⟩:=r1;obtain ⟨t',rfl⟩:=r2;exact iadd_int ⟨.int _,H,I.tok _,⟨_,rfl⟩,q⟩
end
section
variable {X:Cx} {pos:Yd}
def wS (c:TT) (tb:TS):TS:=fun D σ H=>∃ W:Nat->St->Hp->Prop,(∃ m,W m σ H)/\∀ m σ H,W m σ H →
 c σ H fun b H1=>if b=true then ∃ N:St->Hp->Prop,(∀ yA H',N yA H'->∃ m',m'<m/\W m' yA H')/\tb { D with nx:=N,ct:=N,bk:=D.nx } σ H1 else D.nx σ H1
theorem dU {c:Vs} {body:List V8} {tc:TT} {tb:TS} (hp:PassesOwn (UU X.prog X.w) X.A X.env X.xe) (hc:PT X c tc) (hb:PSs X body tb):PS X (.While c body [] pos) (wS tc tb):=by
 intro pins s σ H D I h;obtain ⟨W,⟨m0,w0⟩,turn⟩:=h;refine wpAny_While (codeAny_whileLoop (fun n s'=>∃ yA H',Inv X pins yA H' s'/\W n yA H') ?_ m0 ⟨σ,H,I,w0⟩);rintro n s1 ⟨AA,H1,I1,w1⟩;refine Xu hp (thn (hc pins s1 AA H1 _ I1 (turn n AA H1 w1)) fun b s2 ⟨H2,I2,q2⟩=>?_);cases b with
 | true =>
   obtain ⟨N,hN,q2⟩:=q2;rw [if_pos rfl];refine Xu hp (thn (hb pins s2 AA H2 _ I2 q2) fun f s3 q3=>?_);cases f with
   | next =>
     obtain ⟨CL,H3,I3,n3⟩:=q3;obtain ⟨m',hm,w3⟩:=hN CL H3 n3;exact ⟨m',hm,CL,H3,I3,w3⟩
   | cont =>
     obtain ⟨CL,H3,I3,n3⟩:=q3;obtain ⟨m',hm,w3⟩:=hN CL H3 n3;exact ⟨m',hm,CL,H3,I3,w3⟩
   | brk=>exact q3
   | ret v=>exact q3
 | false =>
   rw [if_neg UD];exact Zn ⟨AA,H2,I2,q2⟩
end
structure It where
 go:Nat->Hp->Prop
 yld:Nat->Hp->V->Hp->Prop
 stop:Nat->Hp->Prop
def kh (X:Cx) (pins:List (Ud×Wu)) (H:Hp) (b:Ud):Prop :=
 H b=none/\b≠X.env.locals/\b∉X.fs/\(b∈X.ex∨X.s₀.heap.objs.size<=b)/\(∀ x c,X.env.cells.lookup x=some c->c≠b)/\∀ p∈X.pn++pins,p.1≠b
theorem Inv.fpOk {X:Cx} {pins:List (Ud×Wu)} {σ:St} {H H':Hp} {s:Um} {b:Ud} (I:Inv X pins σ H s) (hb:s.heap.objs.size<=b) (hn:H' b=none):kh X pins H' b:=by
 refine ⟨hn,XC (Vj I.lt hb),I.nofs hb,.inr (V3 I.sz hb),fun x c e z=>?_,fun p hp z=>?_⟩
 · obtain ⟨v,q⟩:=I.cell x c e;exact absurd (Vj q.lt (by rw [z];exact hb)) (VO _)
 · exact absurd (Vj (Uw (I.pin p hp).1) (by rw [z];exact hb)) (VO _)
structure Turn (P:Uv) (w:UK) (K:Ub) (tg:Vs) (J:It) (fp:List Ud) (it:Ud) (tn:Nat->Vy->Prop):Prop where
 mem:it∈fp
 obj:∀ i h,tn i h->∀ b∈fp,∃ o,h.get? b=some o/\∀ v,o.data≠.cell v
 keep:∀ i h h',tn i h->(∀ b∈fp,∀ o,h.get? b=some o->h'.get? b=some o)->tn i h'
 item:∀ (X:Cx),X.prog=P->X.w=w->X.K=K->X.calm=true->∀ (i:Nat) (pins:List (Ud×Wu)) (s:Um) (σ:St) (H:Hp) (E:Ug->Um->Prop),Inv X pins σ H s->(∀ b∈fp,kh X pins H b)->tn i s.heap->J.go i H →
  Uy (UU P w) X.A (Xf (.ref it)) (fun r s1=>∃ u,r=some u ∧
   Uy (UU P w) X.A (Zo tg (.ref it) u) (fun _ s2=>∃ x H',Inv X pins σ H' s2/\RelV x u/\J.yld i H x H'/\tn (i+1) s2.heap/\∀ b∈fp,H' b=none) E s1) E s
 done:∀ (X:Cx),X.prog=P->X.w=w->X.K=K->X.calm=true->∀ (i:Nat) (pins:List (Ud×Wu)) (s:Um) (σ:St) (H:Hp) (E:Ug->Um->Prop),Inv X pins σ H s->(∀ b∈fp,kh X pins H b)->tn i s.heap->J.stop i H →
  Uy (UU P w) X.A (Xf (.ref it)) (fun r s1=>r=none/\Inv X pins σ H s1) E s
 self:∀ (A:U5) (i:Nat) (s:Um) (Q:Ug->Um->Prop) (E:Ug->Um->Prop),tn i s.heap->Q (.ref it) s->Uy (UU P w) A (pyIter (.ref it)) Q E s
abbrev TI:=St->Hp->(It->Hp->Prop)->Prop
def PIE (X:Cx) (pins:List (Ud×Wu)) (σ:St) (tg:Vs) (R:It->Hp->Prop) (JY:Ug) (s2:Um):Prop :=
 ∃ (it:Ud) (fp:List Ud) (tn:Nat->Vy->Prop) (J:It) (H':Hp),JY=.ref it/\Inv X pins σ H' s2/\Turn X.prog X.w X.K tg J fp it tn/\tn 0 s2.heap/\(∀ b∈fp,kh X pins H' b)/\R J H'
def PI (X:Cx) (tg iter:Vs) (wi:TI):Prop :=
 ∀ (pins:List (Ud×Wu)) (s:Um) (σ:St) (H:Hp) (R:It->Hp->Prop),Inv X pins σ H s->wi σ H R →
   Uy (UU X.prog X.w) X.A (WE iter X.env) (fun v s1=>Uy (UU X.prog X.w) X.A (pyIter v) (PIE X pins σ tg R) X.xe s1) X.xe s
theorem qS {M:Model} {A:U5} {E:Ug->Um->Prop} {s:Um} {tg:Vs} {it:Ud} {u:Ug} {o:Wu} {n:String} {vs:Array Ug} {Q:Unit->Um->Prop} (ho:s.heap.get? it=some o) (hc:o.cls=.type n) (hd:o.data=.fields vs)
 (hn:["enumerate","zip","dict_itemiterator","dict_reverseitemiterator","odict_iterator","itertools.zip_longest","itertools.pairwise"].contains n=false) (hQ:Q () s):Uy M A (Zo tg (.ref it) u) Q E s:=by
 unfold Zo
 cases tg <;> first
  | exact Uk hQ
  | (cases u <;> first
   | exact Uk hQ
   | (refine T9 (wpAny_load ho ?_)
      rw [hc,hd];show Uy M A (if (["enumerate","zip","dict_itemiterator","dict_reverseitemiterator","odict_iterator","itertools.zip_longest","itertools.pairwise"].contains n && vs[0]? == some (WD _))=true then _ else _) Q E s;rw [if_neg (by intro h;rw [hn,Bool.false_and] at h;cases h)];exact Uk hQ))
def Itl (K:Ub) (a:Ud):It :=
 ⟨fun i H=>∃ xs x,SqL K H a xs/\xs[i]?=some x,fun i H x H'=>H'=H/\∀ xs,SqL K H a xs->xs[i]?=some x,fun i H=>∃ xs,SqL K H a xs/\xs.length<=i⟩
def Itt (K:Ub) (a:Ud):It :=
 ⟨fun i H=>∃ xs x,SqT K H a xs/\xs[i]?=some x,fun i H x H'=>H'=H/\∀ xs,SqT K H a xs->xs[i]?=some x,fun i H=>∃ xs,SqT K H a xs/\xs.length<=i⟩
def Itr (lo:Int) (n:Nat):It:=⟨fun i _=>i<n,fun i H x H'=>H'=H/\x=.int (lo+i),fun i _=>n<=i⟩
theorem sv {P:Uv} {w:UK} {K:Ub} {tg:Vs} (a it:Ud):Turn P w K tg (Itl K a) [it] it (fun i h=>h.IsListIter it a i) where
 mem:=by simp
 obj:=fun i h st b hb=>by
  have e:b=it:=by simpa using hb
  subst e;obtain ⟨o,e,c,d⟩:=st;exact ⟨o,e,fun v z=>by rw [d] at z;cases z⟩
 keep:=fun i h h' st k=>st.at fun o e=>k it (by simp) o e
 item:=by
  intro X hP hw hK hc i pins s σ H E I hf st hg;subst hP hw hK;obtain ⟨xs,x,hq,hx⟩:=hg;obtain ⟨its,rv,p,hz⟩:=I.list hq;obtain ⟨u,hu,ru⟩:=rv.get hx;obtain ⟨f0,f1,f2,f3,f4,f5⟩:=hf it (by simp);refine wpAny_pyNext_list_item st p.isList (x:=u) (by simpa using hu) fun h' Cn sb=>?_;have I1:Inv X pins σ H { s with heap:=h' }:=I.turned (t':=s.toks) (fun b o hb e=>(sb.2 b hb).trans e) f0 f1 f3 f4 f5;obtain ⟨o,e,c,d⟩:=id Cn;exact ⟨u,rfl,qS (s:={ s with heap:=h' }) e c d (by decide) ⟨x,H,I1,ru,⟨rfl,fun ys hy=>by rw [I.list_inj hy hq];exact hx⟩,Cn,fun b hb=>(hf b hb).1⟩⟩
 done:=by
  intro X hP hw hK hc i pins s σ H E I hf st hg;subst hP hw hK;obtain ⟨xs,hq,hx⟩:=hg;obtain ⟨its,rv,p,hz⟩:=I.list hq;obtain ⟨f0,f1,f2,f3,f4,f5⟩:=hf it (by simp);have hl:=rv.length;exact wpAny_pyNext_list_end (I.ok.hd hc) st p.isList (by simp;omega) fun h' eb=>⟨rfl,I.turned (t':=s.toks) (fun b o hb e=>eb b o hb e) f0 f1 f3 f4 f5⟩
 self:=fun _ _ _ _ _ st h=>wpAny_pyIter_listiter st h
theorem qh {P:Uv} {w:UK} {K:Ub} {tg:Vs} (a it:Ud):Turn P w K tg (Itt K a) [it] it (fun i h=>h.IsTupleIter it a i) where
 mem:=by simp
 obj:=fun i h st b hb=>by
  have e:b=it:=by simpa using hb
  subst e;obtain ⟨o,e,c,d⟩:=st;exact ⟨o,e,fun v z=>by rw [d] at z;cases z⟩
 keep:=fun i h h' st k=>st.at fun o e=>k it (by simp) o e
 item:=by
  intro X hP hw hK hc i pins s σ H E I hf st hg;subst hP hw hK;obtain ⟨xs,x,hq,hx⟩:=hg;obtain ⟨its,rv,p,hz⟩:=I.tuple hq;obtain ⟨u,hu,ru⟩:=rv.get hx;obtain ⟨f0,f1,f2,f3,f4,f5⟩:=hf it (by simp);refine wpAny_pyNext_tuple_item st (show s.heap.IsTuple a its.toArray from p) (x:=u) (by simpa using hu) fun h' Cn sb=>?_;have I1:Inv X pins σ H { s with heap:=h' }:=I.turned (t':=s.toks) (fun b o hb e=>(sb.2 b hb).trans e) f0 f1 f3 f4 f5;obtain ⟨o,e,c,d⟩:=id Cn;exact ⟨u,rfl,qS (s:={ s with heap:=h' }) e c d (by decide) ⟨x,H,I1,ru,⟨rfl,fun ys hy=>by rw [I.tuple_inj hy hq];exact hx⟩,Cn,fun b hb=>(hf b hb).1⟩⟩
 done:=by
  intro X hP hw hK hc i pins s σ H E I hf st hg;subst hP hw hK;obtain ⟨xs,hq,hx⟩:=hg;obtain ⟨its,rv,p,hz⟩:=I.tuple hq;obtain ⟨f0,f1,f2,f3,f4,f5⟩:=hf it (by simp);have hl:=rv.length;exact wpAny_pyNext_tuple_end (I.ok.hd hc) st (show s.heap.IsTuple a its.toArray from p) (by simp;omega) fun h' eb=>⟨rfl,I.turned (t':=s.toks) (fun b o hb e=>eb b o hb e) f0 f1 f3 f4 f5⟩
 self:=fun _ _ _ _ _ st h=>wpAny_pyIter_tupleiter st h
theorem qv {P:Uv} {w:UK} {K:Ub} {tg:Vs} (it:Ud) (lo:Int) (n:Nat):Turn P w K tg (Itr lo n) [it] it (fun i h=>IsRangeIter h it (lo+(i:Nat) * 1) ((n:Int) - (i:Nat)) 1) where
 mem:=by simp
 obj:=fun i h st b hb=>by
  have e:b=it:=by simpa using hb
  subst e
  exact ⟨_,st,fun v z=>by
   have z':Data.fields _=Data.cell v:=z;cases z'⟩
 keep:=fun i h h' st k=>k it (by simp) _ st
 item:=by
  intro X hP hw hK hc i pins s σ H E I hf st hg;subst hP hw hK;obtain ⟨f0,f1,f2,f3,f4,f5⟩:=hf it (by simp);have W:=Walks.range (prog:=X.prog) (w:=X.w) (I.ok.hd hc) it lo 1 n;refine W.item i s _ _ hg st fun v h' tk hv Cn kk=>?_;obtain ⟨t,rfl⟩:=hv;have I1:Inv X pins σ H { s with heap:=h',toks:=tk }:=I.turned (fun b o hb e=>kk b o (by simpa using hb) e) f0 f1 f3 f4 f5;refine ⟨_,rfl,qS (s:={ s with heap:=h',toks:=tk }) (n:="range_iterator") Cn rfl rfl (by decide) ⟨.int (lo+i),H,I1,⟨t,?_⟩,⟨rfl,rfl⟩,Cn,fun b hb=>(hf b hb).1⟩⟩;rw [Int.mul_one]
 done:=by
  intro X hP hw hK hc i pins s σ H E I hf st hg;subst hP hw hK;obtain ⟨f0,f1,f2,f3,f4,f5⟩:=hf it (by simp);exact wpAny_pyNext_range_end (I.ok.hd hc) st (by have:n<=i:=hg;omega) fun h' eb=>⟨rfl,I.turned (t':=s.toks) (fun b o hb e=>eb b o hb e) f0 f1 f3 f4 f5⟩
 self:=fun _ _ _ _ _ st h=>wpAny_pyIter_rangeiter st h
end L2
namespace L2
open PySem PySem.Spec PyProof.Rows
section
variable {X:Cx} {tg:Vs}
def w4 (K:Ub) (tl:TE):TI:=fun σ H R=>tl σ H fun x H1=>∃ a,x=.ref a/\(∃ xs,SqL K H1 a xs)/\R (Itl K a) H1
def yg (K:Ub) (tl:TE):TI:=fun σ H R=>tl σ H fun x H1=>∃ a,x=.ref a/\(∃ xs,SqT K H1 a xs)/\R (Itt K a) H1
theorem cn {l:Vs} {tl:TE} (hl:PE X l tl):PI X tg l (w4 X.K tl):=by
 intro pins s σ H R I h;refine thn (hl pins s σ H _ I h) fun v s1 ⟨x,H1,I1,r1,q1⟩=>?_;obtain ⟨a,e,⟨xs,hq⟩,q⟩:=q1;subst e;cases r1;obtain ⟨its,rv,p,hz⟩:=I1.list hq;refine wpAny_pyIter_list p.isList ?_;refine ⟨s1.heap.objs.size,[s1.heap.objs.size],_,_,H1,rfl,I1.kept (t':=s1.toks) fun b o e=>Uj _ e,sv a _,⟨_,Uu _ rfl,rfl,rfl⟩,fun b hb=>?_,q⟩;have e:b=s1.heap.objs.size:=by simpa using hb
 subst e;exact I1.fpOk (Ue _) (I1.hok.fresh (Ue _))
theorem iH {l:Vs} {tl:TE} (hl:PE X l tl):PI X tg l (yg X.K tl):=by
 intro pins s σ H R I h;refine thn (hl pins s σ H _ I h) fun v s1 ⟨x,H1,I1,r1,q1⟩=>?_;obtain ⟨a,e,⟨xs,hq⟩,q⟩:=q1;subst e;cases r1;obtain ⟨its,rv,p,hz⟩:=I1.tuple hq;refine Xr (show s1.heap.IsTuple a its.toArray from p) ?_;refine ⟨s1.heap.objs.size,[s1.heap.objs.size],_,_,H1,rfl,I1.kept (t':=s1.toks) fun b o e=>Uj _ e,qh a _,⟨_,Uu _ rfl,rfl,rfl⟩,fun b hb=>?_,q⟩;have e:b=s1.heap.objs.size:=by simpa using hb
 subst e;exact I1.fpOk (Ue _) (I1.hok.fresh (Ue _))
theorem pc {pins:List (Ud×Wu)} {σ:St} {H:Hp} {s:Um} {R:It->Hp->Prop} {E:Ug->Um->Prop} {lo hi:Int} {t u v:Tok} {tk:Nat} (I:Inv X pins σ H s) (h1:-(2 ^ 62)<=lo) (h2:lo<2 ^ 62) (h3:-(2 ^ 62)<=hi) (h4:hi<2 ^ 62)
 (q:R (Itr lo (hi - lo).toNat) H):Uy (UU X.prog X.w) X.A (pyIter (.ref s.heap.objs.size)) (PIE X pins σ tg R) E { s with heap:=s.heap.push { cls:=.type "range",data:=.fields #[.int lo t,.int hi u,.int 1 v] },toks:=tk }:=by
 refine wpAny_pyIter_range (IsRange.new ..) (small_one h1 h2 h3 h4) ?_;have I1:Inv X pins σ H { s with heap:=s.heap.push { cls:=.type "range",data:=.fields #[.int lo t,.int hi u,.int 1 v] },toks:=tk }:=I.kept fun b o e=>Uj _ e
 refine ⟨(s.heap.push { cls:=.type "range",data:=.fields #[.int lo t,.int hi u,.int 1 v] }).objs.size,[(s.heap.push { cls:=.type "range",data:=.fields #[.int lo t,.int hi u,.int 1 v] }).objs.size],_,_,H,rfl,
  I1.kept (t':=tk) fun b o e=>Uj _ e,qv _ lo (hi - lo).toNat,?_,fun b hb=>?_,q⟩
 · have e1:lo+((0:Nat):Int) * 1=lo:=by simp
   have e2:(((hi - lo).toNat:Nat):Int) - ((0:Nat):Int)=Builtin.Range.rangeSize lo hi 1:=by rw [rangeSize_one];split <;> omega
   show IsRangeIter _ _ (lo+((0:Nat):Int) * 1) ((((hi - lo).toNat:Nat):Int) - ((0:Nat):Int)) 1;rw [e1,e2];exact Uu _ rfl
 · have e:b=(s.heap.push { cls:=.type "range",data:=.fields #[.int lo t,.int hi u,.int 1 v] }).objs.size:=by simpa using hb
   subst e;exact I1.fpOk (Ue _) (I1.hok.fresh (Ue _))
def xI (ta:TA):TI:=fun σ H R=>ta σ H fun vs H1=>∃ j:Int,vs=[.int j]/\-(2 ^ 62)<=j/\j<2 ^ 62/\R (Itr 0 j.toNat) H1
def xp (ta:TA):TI:=fun σ H R=>ta σ H fun vs H1=>∃ i j:Int,vs=[.int i,.int j]/\(-(2 ^ 62)<=i/\i<2 ^ 62/\-(2 ^ 62)<=j/\j<2 ^ 62)/\R (Itr i (j - i).toNat) H1
theorem bp {a:Vs} {ta:TA} {p pos:Yd} (hg:Gl X "range") (hm:X.mg "range"=none) (ha:PA X [a] ta) (hs:Vi [a] X.env=[(false,WE a X.env)]:=by rfl):PI X tg (.Call (.Name "range" p) [a] [] pos) (xI ta):=by
 intro pins s σ H R I h;refine Call_ (dg I hg hm boot_range (Vg (thn (ha pos pins s σ H _ I h) fun us s1 ⟨vs,H1,I1,r1,q1⟩=>?_) hs rfl));obtain ⟨j,e,q1,q2,q⟩:=q1;subst e;cases r1 with
 | cons r rr =>
   cases rr;obtain ⟨t,rfl⟩:=r;exact call_range_1 (pc I1 (by omega) (by omega) q1 q2 (by simpa using q))
theorem hX {a b:Vs} {ta:TA} {p pos:Yd} (hg:Gl X "range") (hm:X.mg "range"=none) (ha:PA X [a,b] ta) (hs:Vi [a,b] X.env=[(false,WE a X.env),(false,WE b X.env)]:=by rfl) (N0:Vi [b] X.env=[(false,WE b X.env)]:=by rfl) :
 PI X tg (.Call (.Name "range" p) [a,b] [] pos) (xp ta):=by
 intro pins s σ H R I h;refine Call_ (dg I hg hm boot_range (Vg (thn (ha pos pins s σ H _ I h) fun us s1 ⟨vs,H1,I1,r1,q1⟩=>?_) (by rw [hs,N0]) (by rw [N0];rfl)));obtain ⟨i,j,e,⟨q1,q2,q3,q4⟩,q⟩:=q1;subst e;cases r1 with
 | cons r rr =>
   cases rr with
   | cons r' rr =>
     cases rr;obtain ⟨t,rfl⟩:=r;obtain ⟨t',rfl⟩:=r';exact call_range_2 (pc I1 q1 q2 q3 q4 q)
def yy (wi:TI) (g:TG) (tb:TS):TS:=fun D σ H=>wi σ H fun J H1=>∃ W:Nat->Nat->St->Hp->Prop,(∃ m,W 0 m σ H1)/\∀ i m σ H,W i m σ H →
 (J.stop i H/\D.nx σ H)∨(J.go i H/\∃ N:St->Hp->Prop,(∀ yA H',N yA H'->∃ m',m'<m/\W (i+1) m' yA H')/\∀ x H',J.yld i H x H'->g x σ H' fun yT H2=>tb { D with nx:=N,ct:=N,bk:=D.nx } yT H2)
def lT (fp:List Ud) (h:Vy):List (Ud×Wu):=fp.filterMap fun b=>(h.get? b).map fun o=>(b,o)
theorem fI {fp:List Ud} {h:Vy} {b:Ud} {o:Wu} (hb:b∈fp) (e:h.get? b=some o):(b,o)∈lT fp h:=Zv.mpr ⟨b,hb,by rw [e];rfl⟩
theorem sU {fp:List Ud} {h:Vy} {p:Ud×Wu} (hp:p∈lT fp h):p.1∈fp/\h.get? p.1=some p.2:=by
 obtain ⟨b,hb,e⟩:=Zv.mp hp;cases q:h.get? b with
 | none=>rw [q] at e;cases e
 | some o =>
   rw [q] at e;have e':(b,o)=p:=UQ e;subst e';exact ⟨hb,q⟩
theorem Inv.pinned {pins:List (Ud×Wu)} {σ:St} {H:Hp} {s:Um} {fp:List Ud} (I:Inv X pins σ H s) (hf:∀ b∈fp,kh X pins H b) (ho:∀ b∈fp,∃ o,s.heap.get? b=some o/\∀ v,o.data≠.cell v):Inv X (pins++lT fp s.heap) σ H s :=
 I.pins_of fun p hp=>(U8.mp hp).elim (fun z=>I.pin p (U6 _ z)) fun z=>by
  obtain ⟨hb,e⟩:=sU z;obtain ⟨f0,f1,f2,_⟩:=hf p.1 hb;obtain ⟨o,e',d⟩:=ho p.1 hb;rw [e] at e';cases e';exact ⟨e,f0,f1,f2,d⟩
theorem Inv.unpinned {pins pl:List (Ud×Wu)} {σ:St} {H:Hp} {s:Um} (I:Inv X (pins++pl) σ H s):Inv X pins σ H s:=I.pins_of fun p hp=>I.pin p (U6 _ (Vf _ hp))
theorem bm {iter:Vs} {body:List V8} {wi:TI} {g:TG} {tb:TS} {pos:Yd} (hp:PassesOwn (UU X.prog X.w) X.A X.env X.xe) (hc:X.calm=true) (hi:PI X tg iter wi) (hg:PG X tg g) (hb:PSs X body tb)
 (hs:∀ x,foldedSetIterable iter X.env x=pure x:=by intro _;rfl):PS X (.For tg iter body [] pos) (yy wi g tb):=by
 intro pins s σ H D I h;refine wpAny_For (thn (hi pins s σ H _ I h) fun v s1 h1=>thn h1 fun JY s2 h2=>?_) hs;obtain ⟨it,fp,tn,J,H2,e,I2,T,Bt,f2,W,⟨m0,w0⟩,turn⟩:=h2;subst e
 -- KH stays true of Bm Fd objects through Bm loop
 have Bu:∀ {H':Hp},(∀ b∈fp,H' b=none)->∀ b∈fp,kh X pins H' b:=fun hn b hb=>⟨hn b hb,(f2 b hb).2⟩;refine codeAny_forLoop_any (fun n s'=>∃ i yA H',Inv X pins yA H' s'/\tn i s'.heap/\(∀ b∈fp,H' b=none)/\W i n yA H') ?_ m0 ⟨0,σ,H2,I2,Bt,fun b hb=>(f2 b hb).1,w0⟩;rintro n s3 ⟨i,CL,H3,I3,N1,N2,w3⟩;rcases turn i n CL H3 w3 with ⟨stop,qn⟩ | ⟨go,N,hN,step⟩
 · refine Xu hp (thn (T.done X rfl rfl rfl hc i pins s3 CL H3 X.xe I3 (Bu N2) N1 stop) fun r s4 ⟨hr,I4⟩=>?_);subst hr;exact Zn ⟨CL,H3,I4,qn⟩
 · refine Xu hp (thn (T.item X rfl rfl rfl hc i pins s3 CL H3 X.xe I3 (Bu N2) N1 go) fun r s4 ⟨u,hr,h4⟩=>?_);subst hr;refine Xu hp (thn h4 fun _ s5 ⟨x,H5,I5,r5,y5,Gp,JZ⟩=>?_);have P5:=I5.pinned (Bu JZ) (T.obj _ _ Gp);refine Xu hp (thn (hg _ s5 CL H5 x u _ P5 r5 (step x H5 y5)) fun _ s6 ⟨P6,H6,I6,q6⟩=>?_);refine Xu hp (thn (hb _ s6 P6 H6 _ I6 q6) fun f s7 q7=>?_)
   have again:∀ {CM:St} {H7:Hp},Inv X (pins++lT fp s5.heap) CM H7 s7->N CM H7->∃ m,m<n/\∃ i yA H',Inv X pins yA H' s7/\tn i s7.heap/\(∀ b∈fp,H' b=none)/\W i m yA H':=fun {CM H7} I7 n7=>by
    obtain ⟨m',hm,w7⟩:=hN CM H7 n7;refine ⟨m',hm,i+1,CM,H7,I7.unpinned,T.keep _ _ _ Gp fun b hb o e=>(I7.pin (b,o) (U6 _ (U6 _ (fI hb e)))).1,fun b hb=>?_,w7⟩;obtain ⟨o,e,d⟩:=T.obj _ _ Gp b hb;exact (I7.pin (b,o) (U6 _ (U6 _ (fI hb e)))).2.1
   cases f with
   | next=>obtain ⟨CM,H7,I7,n7⟩:=q7;exact again I7 n7
   | cont=>obtain ⟨CM,H7,I7,n7⟩:=q7;exact again I7 n7
   | brk=>obtain ⟨CM,H7,I7,q7⟩:=q7;exact ⟨CM,H7,I7.unpinned,q7⟩
   | ret v=>obtain ⟨x7,CM,H7,I7,r7,q7⟩:=q7;exact ⟨x7,CM,H7,I7.unpinned,r7,q7⟩
end
theorem eC {K:Ub} {a:Ud} {xs:List V} {g:TG} {tb:TS} {D:Ends} {σ:St} {H:Hp} (Pv:Nat->St->Hp->Prop) (h0:Pv 0 σ H) (hl:∀ i σ H,i<=xs.length->Pv i σ H->SqL K H a xs)
 (hs:∀ i x σ H,xs[i]?=some x->Pv i σ H->g x σ H fun yT H2=>tb { D with nx:=Pv (i+1),ct:=Pv (i+1),bk:=D.nx } yT H2) (hd:∀ σ H,Pv xs.length σ H->D.nx σ H) :
 ∃ W:Nat->Nat->St->Hp->Prop,(∃ m,W 0 m σ H)/\∀ i m σ H,W i m σ H →
   ((Itl K a).stop i H/\D.nx σ H)∨((Itl K a).go i H/\∃ N:St->Hp->Prop,(∀ yA H',N yA H'->∃ m',m'<m/\W (i+1) m' yA H')/\∀ x H',(Itl K a).yld i H x H'->g x σ H' fun yT H2=>tb { D with nx:=N,ct:=N,bk:=D.nx } yT H2):=by
 refine ⟨fun i m σ H=>m=xs.length - i/\i<=xs.length/\Pv i σ H,⟨xs.length,by simp,UL _,h0⟩,?_⟩;rintro i m σ H ⟨rfl,hi,p⟩;have q:=hl i σ H hi p;by_cases yK:i<xs.length
 · refine .inr ⟨⟨xs,xs[i],q,by simp [yK]⟩,Pv (i+1),fun yA H' p'=>⟨xs.length - (i+1),by omega,rfl,yK,p'⟩,fun x H' y=>?_⟩;obtain ⟨e,y⟩:=y;subst e;exact hs i x σ _ (y xs q) p
 · have e:i=xs.length:=by omega
   subst e;exact .inl ⟨⟨xs,q,Ue _⟩,hd σ H p⟩
theorem vz {K:Ub} {a:Ud} {xs:List V} {g:TG} {tb:TS} {D:Ends} {σ:St} {H:Hp} (Pv:Nat->St->Hp->Prop) (h0:Pv 0 σ H) (hl:∀ i σ H,i<=xs.length->Pv i σ H->SqT K H a xs)
 (hs:∀ i x σ H,xs[i]?=some x->Pv i σ H->g x σ H fun yT H2=>tb { D with nx:=Pv (i+1),ct:=Pv (i+1),bk:=D.nx } yT H2) (hd:∀ σ H,Pv xs.length σ H->D.nx σ H) :
 ∃ W:Nat->Nat->St->Hp->Prop,(∃ m,W 0 m σ H)/\∀ i m σ H,W i m σ H →
   ((Itt K a).stop i H/\D.nx σ H)∨((Itt K a).go i H/\∃ N:St->Hp->Prop,(∀ yA H',N yA H'->∃ m',m'<m/\W (i+1) m' yA H')/\∀ x H',(Itt K a).yld i H x H'->g x σ H' fun yT H2=>tb { D with nx:=N,ct:=N,bk:=D.nx } yT H2):=by
 refine ⟨fun i m σ H=>m=xs.length - i/\i<=xs.length/\Pv i σ H,⟨xs.length,by simp,UL _,h0⟩,?_⟩;rintro i m σ H ⟨rfl,hi,p⟩;have q:=hl i σ H hi p;by_cases yK:i<xs.length
 · refine .inr ⟨⟨xs,xs[i],q,by simp [yK]⟩,Pv (i+1),fun yA H' p'=>⟨xs.length - (i+1),by omega,rfl,yK,p'⟩,fun x H' y=>?_⟩;obtain ⟨e,y⟩:=y;subst e;exact hs i x σ _ (y xs q) p
 · have e:i=xs.length:=by omega
   subst e;exact .inl ⟨⟨xs,q,Ue _⟩,hd σ H p⟩
theorem bD {lo:Int} {n:Nat} {g:TG} {tb:TS} {D:Ends} {σ:St} {H:Hp} (Pv:Nat->St->Hp->Prop) (h0:Pv 0 σ H)
 (hs:∀ i σ H,i<n->Pv i σ H->g (.int (lo+i)) σ H fun yT H2=>tb { D with nx:=Pv (i+1),ct:=Pv (i+1),bk:=D.nx } yT H2) (hd:∀ σ H,Pv n σ H->D.nx σ H) :
 ∃ W:Nat->Nat->St->Hp->Prop,(∃ m,W 0 m σ H)/\∀ i m σ H,W i m σ H →
   ((Itr lo n).stop i H/\D.nx σ H)∨((Itr lo n).go i H/\∃ N:St->Hp->Prop,(∀ yA H',N yA H'->∃ m',m'<m/\W (i+1) m' yA H')/\∀ x H',(Itr lo n).yld i H x H'->g x σ H' fun yT H2=>tb { D with nx:=N,ct:=N,bk:=D.nx } yT H2):=by
 refine ⟨fun i m σ H=>m=n - i/\i<=n/\Pv i σ H,⟨n,by simp,UL _,h0⟩,?_⟩;rintro i m σ H ⟨rfl,hi,p⟩;by_cases yK:i<n
 · refine .inr ⟨yK,Pv (i+1),fun yA H' p'=>⟨n - (i+1),by omega,rfl,yK,p'⟩,fun x H' y=>?_⟩;obtain ⟨e,y⟩:=y;subst e y;exact hs i σ _ yK p
 · have e:i=n:=by omega
   subst e;exact .inl ⟨Ue _,hd σ H p⟩
end L2
namespace L2
open PySem PySem.Spec PyProof.Rows
abbrev R2:=V->V->Hp->VK->Prop
def OpR (X:Cx) (f:Ug->Ug->Sem Ug) (r:R2):Prop :=
 ∀ (pins:List (Ud×Wu)) (s:Um) (σ:St) (H:Hp) (x y:V) (v u:Ug) (Q:VK),Inv X pins σ H s->RelV x v->RelV y u->r x y H Q →
   Uy (UU X.prog X.w) X.A (f v u) (EP X pins σ Q) X.xe s
def UnR (X:Cx) (f:Ug->Sem Ug) (r:V->Hp->VK->Prop):Prop :=
 ∀ (pins:List (Ud×Wu)) (s:Um) (σ:St) (H:Hp) (x:V) (v:Ug) (Q:VK),Inv X pins σ H s->RelV x v->r x H Q →
   Uy (UU X.prog X.w) X.A (f v) (EP X pins σ Q) X.xe s
def im (X:Cx) (f:Ug) (r:List V->Hp->VK->Prop):Prop :=
 ∀ (pins:List (Ud×Wu)) (s:Um) (σ:St) (H:Hp) (xs:List V) (us:List Ug) (Q:VK),Inv X pins σ H s->Vals xs us->r xs H Q →
   Uy (UU X.prog X.w) X.A (call f us) (EP X pins σ Q) X.xe s
def yu (X:Cx) (r:V->Hp->(Bool->Hp->Prop)->Prop):Prop :=
 ∀ (pins:List (Ud×Wu)) (s:Um) (σ:St) (H:Hp) (x:V) (v:Ug) (Q:Bool->Hp->Prop),Inv X pins σ H s->RelV x v->r x H Q →
   Uy (UU X.prog X.w) X.A (truthy v) (TP X pins σ Q) X.xe s
def tOp (r:R2) (ta tb:TE):TE:=fun σ H Q=>ta σ H fun x H1=>tb σ H1 fun y H2=>r x y H2 Q
def tUn (r:V->Hp->VK->Prop) (ta:TE):TE:=fun σ H Q=>ta σ H fun x H1=>r x H1 Q
inductive IrI (C:Int->Int->Prop) (g:Int->Int->V) (x:V) (y:V) (H:Hp) (Q:VK):Prop
 | mk (i:_) (j:_) (yL:x=.int i) (yM:y=.int j) (yR:C i j) (yY:Q (g i j) H):IrI C g x y H Q
def rI (C:Int->Int->Prop) (g:Int->Int->V):R2:=IrI C g
inductive xi (g:Int->Int->V) (x:V) (y:V) (H:Hp) (Q:VK):Prop
 | mk (i:_) (j:_) (yL:x=.int i) (yM:y=.int j) (yR:Q (g i j) H):xi g x y H Q
def rI0 (g:Int->Int->V):R2:=xi g
inductive IrU (g:Int->V) (x:V) (H:Hp) (Q:VK):Prop
 | mk (i:_) (yL:x=.int i) (yM:Q (g i) H):IrU g x H Q
def rU (g:Int->V):V->Hp->VK->Prop:=IrU g
section
variable {X:Cx} {a b c:Vs} {ta tb tc:TE} {pos:Yd}
theorem wR (ha:PE X a ta) (hb:PE X b tb) {pins:List (Ud×Wu)} {s:Um} {σ:St} {H:Hp} {R:V->V->Hp->Prop} (I:Inv X pins σ H s)
 (h:ta σ H fun x H1=>tb σ H1 fun y H2=>R x y H2) {Q:Ug->Um->Prop} {f:Ug->Ug->Sem Ug}
 (hf:∀ v u s2 x y H2,Inv X pins σ H2 s2->RelV x v->RelV y u->R x y H2->Uy (UU X.prog X.w) X.A (f v u) Q X.xe s2) :
 Uy (UU X.prog X.w) X.A (WE a X.env) (fun v yB=>Uy (UU X.prog X.w) X.A (WE b X.env) (fun u ze=>Uy (UU X.prog X.w) X.A (f v u) Q X.xe ze) X.xe yB) X.xe s:=by
 refine thn (ha pins s σ H _ I h) fun v s1 ⟨x,H1,I1,r1,q1⟩=>?_;refine thn (hb pins s1 σ H1 _ I1 q1) fun u s2 ⟨y,H2,I2,r2,q2⟩=>?_;exact hf v u s2 x y H2 I2 r1 r2 q2
theorem az {op:Operator} {r:R2} (ho:OpR X (X3 op) r) (ha:PE X a ta) (hb:PE X b tb):PE X (.BinOp a op b pos) (tOp r ta tb):=by
 intro pins s σ H Q I h;exact wpAny_BinOp (wR ha hb I h fun v u s2 x y H2 I2 rx ry q=>ho pins s2 σ H2 x y v u Q I2 rx ry q)
theorem xc {op:UnaryOp} {r:V->Hp->VK->Prop} (ho:UnR X (unaryOp op) r) (ha:PE X a ta):PE X (.UnaryOp op a pos) (tUn r ta):=by
 intro pins s σ H Q I h;exact UnaryOp_ (thn (ha pins s σ H _ I h) fun v s1 ⟨x,H1,I1,r1,q1⟩=>ho pins s1 σ H1 x v Q I1 r1 q1)
theorem opI {f:Ug->Ug->Sem Ug} {C:Int->Int->Prop} {g:Int->Int->Int}
 (rule:∀ (i j:Int) (t u:Tok) (s:Um) (Q:Ug->Um->Prop) (E:Ug->Um->Prop),C i j->Q (.int (g i j) s.toks) { s with toks:=s.toks+1 }->Uy (UU X.prog X.w) X.A (f (.int i t) (.int j u)) Q E s) :
 OpR X f (rI C fun i j=>.int (g i j)):=by
 intro pins s σ H x y v u Q I rx ry h;obtain ⟨i,j,rfl,rfl,hc,q⟩:=h;obtain ⟨t,rfl⟩:=rx;obtain ⟨t',rfl⟩:=ry;exact rule i j t t' s _ _ hc ⟨.int (g i j),H,I.tok _,⟨_,rfl⟩,q⟩
theorem xF {f:Ug->Ug->Sem Ug} {g:Int->Int->Int}
 (rule:∀ (i j:Int) (t u:Tok) (s:Um) (Q:Ug->Um->Prop) (E:Ug->Um->Prop),Q (.int (g i j) s.toks) { s with toks:=s.toks+1 }->Uy (UU X.prog X.w) X.A (f (.int i t) (.int j u)) Q E s) :
 OpR X f (rI0 fun i j=>.int (g i j)):=by
 intro pins s σ H x y v u Q I rx ry h;obtain ⟨i,j,rfl,rfl,q⟩:=h;obtain ⟨t,rfl⟩:=rx;obtain ⟨t',rfl⟩:=ry;exact rule i j t t' s _ _ ⟨.int (g i j),H,I.tok _,⟨_,rfl⟩,q⟩
theorem wx {f:Ug->Ug->Sem Ug} {g:Int->Int->Bool}
 (rule:∀ (i j:Int) (t u:Tok) (s:Um) (Q:Ug->Um->Prop) (E:Ug->Um->Prop),Q (.bool (g i j)) s->Uy (UU X.prog X.w) X.A (f (.int i t) (.int j u)) Q E s) :
 OpR X f (rI0 fun i j=>.bl (g i j)):=by
 intro pins s σ H x y v u Q I rx ry h;obtain ⟨i,j,rfl,rfl,q⟩:=h;obtain ⟨t,rfl⟩:=rx;obtain ⟨t',rfl⟩:=ry;exact rule i j t t' s _ _ ⟨.bl (g i j),H,I,rfl,q⟩
def xU (i j:Int):Prop:=0<j/\j<1073741824
def yv (i j:Int):Prop:=0<=j/\j<=1000000/\i.natAbs<2 ^ 64
def CMul (i j:Int):Prop:=(-(2 ^ 64)<i/\i<2 ^ 64)∨(-(2 ^ 64)<j/\j<2 ^ 64)
theorem CMul.ok {i j:Int} (h:CMul i j):IntMulOk i j:=by
 rcases h with ⟨h1,h2⟩ | ⟨h1,h2⟩
 · exact .of_left (intBits_le_64 h1 h2)
 · exact .of_right (intBits_le_64 h1 h2)
theorem bM:OpR X (X3 .Add) (rI0 fun i j=>.int (i+j)):=xF fun _ _ _ _ _ _ _ q=>add_int q
theorem gh:OpR X (X3 .Sub) (rI0 fun i j=>.int (i - j)):=xF fun _ _ _ _ _ _ _ q=>sub_int q
theorem dj:OpR X (X3 .Mult) (rI CMul fun i j=>.int (i * j)):=opI fun _ _ _ _ _ _ _ hc q=>mul_int q hc.ok
theorem ci:OpR X (X3 .FloorDiv) (rI xU fun i j=>.int (i / j)):=opI fun i j _ _ _ _ _ hc q=>by
 have h1:(0:Int)<j:=hc.1;have h2:j<1073741824:=hc.2;exact floordiv_int (by omega) (by rw [Int.fdiv_eq_ediv_of_nonneg i (by omega)];exact q) (.inl (PyProof.noPylong_small (by omega)))
theorem bI:OpR X (X3 .Mod) (rI (fun _ j=>0<j) fun i j=>.int (i%j)):=opI fun i j _ _ _ _ _ hc q=>by
 have h1:(0:Int)<j:=hc;exact mod_int' (by omega) (by rw [Int.fmod_eq_emod_of_nonneg i (by omega)];exact q)
theorem qp:OpR X (X3 .Pow) (rI yv fun i j=>.int (i ^ j.toNat)):=opI fun _ _ _ _ _ _ _ hc q=>pow_int_small hc.1 hc.2.1 hc.2.2 q
theorem unI {f:Ug->Sem Ug} {g:Int->Int}
 (rule:∀ (i:Int) (t:Tok) (s:Um) (Q:Ug->Um->Prop) (E:Ug->Um->Prop),Q (.int (g i) s.toks) { s with toks:=s.toks+1 }->Uy (UU X.prog X.w) X.A (f (.int i t)) Q E s) :
 UnR X f (rU fun i=>.int (g i)):=by
 intro pins s σ H x v Q I rx h;obtain ⟨i,rfl,q⟩:=h;obtain ⟨t,rfl⟩:=rx;exact rule i t s _ _ ⟨.int (g i),H,I.tok _,⟨_,rfl⟩,q⟩
theorem wO:UnR X (unaryOp .USub) (rU fun i=>.int (-i)):=unI fun _ _ _ _ _ q=>neg_int q
end
def xM:V->V->Bool
 | .non,.non=>true | .non,.int _=>true | .int _,.non=>true | .non,.bl _=>true | .bl _,.non=>true | .non,.str _=>true | .str _,.non=>true
 | .int _,.int _=>true | .bl _,.bl _=>true | .str _,.str _=>true | .byt _,.byt _=>true
 | .int _,.str _=>true | .str _,.int _=>true | .bl _,.str _=>true | .str _,.bl _=>true
 | _,_=>false
inductive w8 (x:V) (y:V) (H:Hp) (Q:VK):Prop
 | mk  (yL:xM x y=true) (yM:Q (.bl (decide (x=y))) H):w8  x y H Q
def rEq:R2:=w8
inductive xL (x:V) (y:V) (H:Hp) (Q:VK):Prop
 | mk  (yL:xM x y=true) (yM:Q (.bl (!decide (x=y))) H):xL  x y H Q
def rNe:R2:=xL
theorem rF {i j:Int}:decide (V.int i=V.int j)=(i == j):=by
 rw [XZ];simp
theorem uk {i j:Bool}:decide (V.bl i=V.bl j)=(i == j):=by
 rw [XZ];simp
theorem rM {i j:UP}:decide (V.str i=V.str j)=(i == j):=by
 rw [XZ];simp
theorem rE {i j:Array UInt8}:decide (V.byt i=V.byt j)=(i.toList == j.toList):=by
 rw [XZ];cases i;cases j;simp
section
variable {X:Cx} {a b c:Vs} {ta tb tc:TE} {pos:Yd}
theorem bc {pins:List (Ud×Wu)} {σ:St} {H:Hp} {s:Um} {Q:VK} {k k':Bool} (I:Inv X pins σ H s) (q:Q (.bl k) H) (e:k=k'):EP X pins σ Q (.bool k') s:=by
 subst e;exact ⟨.bl k,H,I,rfl,q⟩
theorem cD:OpR X (Xz .Eq) rEq:=by
 intro pins s σ H x y v u Q I rx ry h;obtain ⟨hs,q⟩:=h;cases x with
 | non =>
   cases rx;cases y with
   | non=>cases ry;exact PySem.EqNone.eq_none_none (bc I q (by simp))
   | bl j=>cases ry;exact PySem.EqNone.eq_none_bool (bc I q (by simp))
   | int j=>obtain ⟨t',rfl⟩:=ry;exact PySem.EqNone.eq_none_int (bc I q (by simp))
   | str j=>obtain ⟨t',rfl⟩:=ry;exact PySem.EqNone.eq_none_str (bc I q (by simp))
   | _=>exact absurd (show false=true from hs) UD
 | bl i =>
   cases rx;cases y with
   | non=>cases ry;exact PySem.EqNone.eq_bool_none (bc I q (by simp))
   | bl j=>cases ry;exact eq_bool (bc I q uk)
   | str j=>obtain ⟨t',rfl⟩:=ry;exact PySem.EqMixed.eq_bool_str (bc I q (by simp))
   | _=>exact absurd (show false=true from hs) UD
 | int i =>
   obtain ⟨t,rfl⟩:=rx;cases y with
   | non=>cases ry;exact PySem.EqNone.eq_int_none (bc I q (by simp))
   | int j=>obtain ⟨t',rfl⟩:=ry;exact eq_int (bc I q rF)
   | str j=>obtain ⟨t',rfl⟩:=ry;exact PySem.EqMixed.eq_int_str (bc I q (by simp))
   | _=>exact absurd (show false=true from hs) UD
 | str i =>
   obtain ⟨t,rfl⟩:=rx;cases y with
   | non=>cases ry;exact PySem.EqNone.eq_str_none (bc I q (by simp))
   | bl j=>cases ry;exact PySem.EqMixed.eq_str_bool (bc I q (by simp))
   | int j=>obtain ⟨t',rfl⟩:=ry;exact PySem.EqMixed.eq_str_int (bc I q (by simp))
   | str j=>obtain ⟨t',rfl⟩:=ry;exact eq_str (bc I q rM)
   | _=>exact absurd (show false=true from hs) UD
 | byt i =>
   obtain ⟨t,rfl⟩:=rx;cases y with
   | byt j=>obtain ⟨t',rfl⟩:=ry;exact PySem.W.eq_bytes (bc I q rE)
   | _=>exact absurd (show false=true from hs) UD
 | _=>cases y <;> exact absurd (show false=true from hs) UD
theorem lQ:OpR X (Xz .NotEq) rNe:=by
 intro pins s σ H x y v u Q I rx ry h;obtain ⟨hs,q⟩:=h;cases x with
 | non =>
   cases rx;cases y with
   | non=>cases ry;exact PySem.EqNone.ne_none_none (bc I q (by simp))
   | bl j=>cases ry;exact PySem.EqNone.ne_none_bool (bc I q (by simp))
   | int j=>obtain ⟨t',rfl⟩:=ry;exact PySem.EqNone.ne_none_int (bc I q (by simp))
   | str j=>obtain ⟨t',rfl⟩:=ry;exact PySem.EqNone.ne_none_str (bc I q (by simp))
   | _=>exact absurd (show false=true from hs) UD
 | bl i =>
   cases rx;cases y with
   | non=>cases ry;exact PySem.EqNone.ne_bool_none (bc I q (by simp))
   | bl j=>cases ry;exact ne_bool (bc I q (congrArg not uk))
   | str j=>obtain ⟨t',rfl⟩:=ry;exact PySem.EqMixed.ne_bool_str (bc I q (by simp))
   | _=>exact absurd (show false=true from hs) UD
 | int i =>
   obtain ⟨t,rfl⟩:=rx;cases y with
   | non=>cases ry;exact PySem.EqNone.ne_int_none (bc I q (by simp))
   | int j=>obtain ⟨t',rfl⟩:=ry;exact ne_int (bc I q (congrArg not rF))
   | str j=>obtain ⟨t',rfl⟩:=ry;exact PySem.EqMixed.ne_int_str (bc I q (by simp))
   | _=>exact absurd (show false=true from hs) UD
 | str i =>
   obtain ⟨t,rfl⟩:=rx;cases y with
   | non=>cases ry;exact PySem.EqNone.ne_str_none (bc I q (by simp))
   | bl j=>cases ry;exact PySem.EqMixed.ne_str_bool (bc I q (by simp))
   | int j=>obtain ⟨t',rfl⟩:=ry;exact PySem.EqMixed.ne_str_int (bc I q (by simp))
   | str j=>obtain ⟨t',rfl⟩:=ry;exact ne_str (bc I q (congrArg not rM))
   | _=>exact absurd (show false=true from hs) UD
 | byt i =>
   obtain ⟨t,rfl⟩:=rx;cases y with
   | byt j=>obtain ⟨t',rfl⟩:=ry;exact PySem.W.ne_bytes (bc I q (congrArg not rE))
   | _=>exact absurd (show false=true from hs) UD
 | _=>cases y <;> exact absurd (show false=true from hs) UD
theorem mX:OpR X (Xz .Lt) (rI0 fun i j=>.bl (decide (i<j))):=wx fun _ _ _ _ _ _ _ q=>lt_int q
theorem xk:OpR X (Xz .LtE) (rI0 fun i j=>.bl (decide (i<=j))):=wx fun _ _ _ _ _ _ _ q=>le_int q
theorem mI:OpR X (Xz .Gt) (rI0 fun i j=>.bl (decide (j<i))):=wx fun _ _ _ _ _ _ _ q=>gt_int q
theorem uD:OpR X (Xz .Is) (fun x y H Q=>y=.non/\Q (.bl (decide (x=.non))) H):=by
 intro pins s σ H x y v u Q I rx ry h;obtain ⟨rfl,q⟩:=h;cases ry;refine is_none_gen (bc I q ?_)
 cases x <;> first
  | (cases rx;rfl)
  | (obtain ⟨t,rfl⟩:=rx;rfl)
theorem aO (b:Vs) {op:CmpOp} (h:op≠.In:=by decide) (h2:op≠.NotIn:=by decide):Y6 op b=false:=by
 have e1:(op == CmpOp.In)=false:=by cases op <;> first | rfl | exact absurd rfl h
 have e2:(op == CmpOp.NotIn)=false:=by cases op <;> first | rfl | exact absurd rfl h2
 cases b <;> simp [Y6,e1,e2]
theorem jo {op:CmpOp} {r:R2} (ho:OpR X (Xz op) r) (ha:PE X a ta) (hb:PE X b tb) (hm:Y6 op b=false):PE X (.Compare a [op] [b] pos) (tOp r ta tb):=by
 intro pins s σ H Q I h;exact wpAny_Compare1 (wR ha hb I h fun v u s2 x y H2 I2 rx ry q=>ho pins s2 σ H2 x y v u Q I2 rx ry q) hm
inductive wd (x:V) (Q:Bool->Hp->Prop) (H':Hp):Prop
 | mk (k:Bool) (yL:x=.bl k) (yM:Q k H'):wd x Q H'
def sd (t:TE):TT:=fun σ H Q=>t σ H fun x H'=>wd x Q H'
theorem aH {op:CmpOp} {r:R2} (ho:OpR X (Xz op) r) (ha:PE X a ta) (hb:PE X b tb) (hm:Y6 op b=false):PT X (.Compare a [op] [b] pos) (sd (tOp r ta tb)):=by
 intro pins s σ H Q I h
 refine wpAny_isTrue_Compare1 (thn (ha pins s σ H _ I h) fun v s1 ⟨x,H1,I1,r1,q1⟩=>thn (hb pins s1 σ H1 _ I1 q1) fun u s2 ⟨y,H2,I2,r2,q2⟩ =>
  thn (ho pins s2 σ H2 x y v u _ I2 r1 r2 q2) fun c s3 ⟨z,H3,I3,r3,k,e,q3⟩=>?_) hm
 subst e;cases r3;exact XF ⟨H3,I3,q3⟩
def uT (K:Ub) (x:V) (H:Hp) (k:Bool):Prop :=
 match x with
 | .non=>k=false
 | .bl b=>k=b
 | .int i=>k=(i != 0)
 | .str y=>y.length<=Uz/\k=((y.length:Int) != 0)
 | .byt y=>y.size<=Uz/\k=((y.size:Int) != 0)
 | .ref p=>(∃ xs,SqL K H p xs/\k=!xs.isEmpty)∨(∃ xs,SqT K H p xs/\k=!xs.isEmpty)∨∃ f',H p=some (.dK f')/\k=!f'.isEmpty
 | _=>False
theorem qq {κ:Type} {f':List (κ×V)} {vs:List (κ×Ug)} (r:KV f' vs):(!vs.isEmpty)=!f'.isEmpty:=by
 cases r <;> rfl
theorem lE {xs:List V} {its:List Ug} (r:Vals xs its):(!its.toArray.isEmpty)=!xs.isEmpty:=by
 cases r <;> simp
theorem fD:(Uz:Nat)<2 ^ 63:=by rw [Yb];decide
theorem wn:yu X (fun x H Q=>∃ k,uT X.K x H k/\Q k H):=by
 intro pins s σ H x v Q I rx h;obtain ⟨k,e,q⟩:=h;have hl:=fD;have hs:Uz=16777216:=Yb;cases x with
 | non =>
   cases rx;have e':k=false:=e;subst e';exact truthy_none ⟨H,I,q⟩
 | bl b =>
   cases rx;have e':k=b:=e;subst e';exact XF ⟨H,I,q⟩
 | int i =>
   obtain ⟨t,rfl⟩:=rx;have e':k=(i != 0):=e;subst e';exact PySem.P.truthy_int ⟨H,I,q⟩
 | str y =>
   obtain ⟨t,rfl⟩:=rx;obtain ⟨hy,e'⟩:y.length<=Uz/\k=((y.length:Int) != 0):=e;subst e';exact PySem.P.truthy_str (by omega) ⟨H,I.tok _,q⟩
 | byt y =>
   obtain ⟨t,rfl⟩:=rx;obtain ⟨hy,e'⟩:y.size<=Uz/\k=((y.size:Int) != 0):=e;subst e';exact PySem.W.truthy_bytes (by omega) ⟨H,I.tok _,q⟩
 | ref p =>
   cases rx;have e':(∃ xs,SqL X.K H p xs/\k=!xs.isEmpty)∨(∃ xs,SqT X.K H p xs/\k=!xs.isEmpty)∨∃ f',H p=some (.dK f')/\k=!f'.isEmpty:=e;rcases e' with ⟨xs,hx,e'⟩ | ⟨xs,hx,e'⟩ | ⟨f',hx,e'⟩
   · subst e';obtain ⟨its,r,pl,hz⟩:=I.list hx;have hlen:=r.length;exact wpAny_truthy_list pl.isList (by simp only [Uq];omega) ⟨H,I.tok _,by rw [lE r];exact q⟩
   · subst e';obtain ⟨its,r,pl,hz⟩:=I.tuple hx;have hlen:=r.length;exact truthy_tuple pl (by simp only [Uq];omega) ⟨H,I.tok _,by rw [lE r];exact q⟩
   · subst e';obtain ⟨hz,hS,vs,r,m⟩:f'.length<=Uz/\(p == Wb)=false/\∃ vs,KV f' vs/\s.heap.DictOf (aE X.prog X.w) p vs:=I.hok p _ hx;have hlen:f'.length=vs.length:=Up r;exact wpAny_truthy_dict hS m (by omega) ⟨H,I.tok _,by rw [qq r];exact q⟩
 | _=>exact (show False from e).elim
theorem aV (ha:PE X a ta) (he:∀ whole,isTrue a X.env whole=(do let v ← whole;standAt a.pos;holding [v] (truthy v))) :
 PT X a (fun σ H Q=>ta σ H fun x H'=>∃ k,uT X.K x H' k/\Q k H'):=by
 intro pins s σ H Q I h;exact isTrue_plain (thn (ha pins s σ H _ I h) fun v s1 ⟨x,H1,I1,r1,q1⟩=>wn pins s1 σ H1 x v Q I1 r1 q1) (he _)
theorem iM:OpR X (X3 .Add) (fun x y H Q=>∃ i j,x=.str i/\y=.str j/\i.length+j.length<=Uz/\Q (.str (i++j)) H):=by
 intro pins s σ H x y v u Q I rx ry h;obtain ⟨i,j,rfl,rfl,hz,q⟩:=h;obtain ⟨t,rfl⟩:=rx;obtain ⟨t',rfl⟩:=ry;exact add_str (fun t' tk=>⟨.str (i++j),H,I.tok _,⟨_,rfl⟩,q⟩) hz
theorem vals1 {x:V} {us:List Ug} (r:Vals [x] us):∃ u,us=[u]/\RelV x u:=by
 cases r with
 | cons r1 r2=>cases r2;exact ⟨_,rfl,r1⟩
theorem vals2 {x y:V} {us:List Ug} (r:Vals [x,y] us):∃ u w',us=[u,w']/\RelV x u/\RelV y w':=by
 cases r with
 | cons r1 r2 =>
   cases r2 with
   | cons r3 r4=>cases r4;exact ⟨_,_,rfl,r1,r3⟩
end
end L2
namespace L2
open PySem PySem.Spec PyProof.Rows
structure ObjM (h:Vy) (x dx C:Ud) (mA:UP->Option Ug):Prop where
 obj:h.get? x=some (PySem.W.instObj C dx)
 ns:h.Ns1 dx mA
 ne:dx≠x
theorem sD {h:Vy} {dx:Ud} {mA:UP->Option Ug} (n:h.Ns1 dx mA):∃ od,h.get? dx=some od/\∀ name,PySem.W.lookIn name od=some (mA name):=by
 obtain ⟨o,es,ep,ho,hd,hk,_,hm⟩:=n;refine ⟨o,ho,fun name=>?_⟩;have e:=hm name;unfold nsFind findBy at e;rw [<- Array.find?_toList] at e;unfold PySem.W.lookIn;rw [hd];dsimp only;split
 · rename_i y q
   rw [q] at e;exact congrArg some e
 · rename_i q
   rw [q] at e
   have a:es.toList.any (·.refKey)=false:=by
    rw [List.any_eq_false];intro y hy;obtain ⟨z,t,Ar⟩:=hk y (Array.mem_toList_iff.mp hy);simp [DictEntry.refKey,Ar]
   have a':¬ es.toList.any (·.refKey)=true:=by rw [a];exact UD
   rw [if_neg a'];exact congrArg some e
theorem ObjM.look {h:Vy} {x dx C:Ud} {mA:UP->Option Ug} (I:ObjM h x dx C mA):∃ od,PySem.W.InstAt h x (PySem.W.instObj C dx) C (some od)/\∀ name,PySem.W.lookIn name od=some (mA name) :=
 let ⟨od,ho,hl⟩:=sD I.ns
 ⟨od,⟨I.obj,rfl,rfl,ho⟩,hl⟩
section
variable {prog:Uv} {w:UK} {A:U5} {E:Ug->Um->Prop} {s:Um} {K:Ub} {x dx C f:Ud} {mA:UP->Option Ug} {name:UP} {v:Ug}
end
theorem RelO.some_of {v:V} {o:Option Ug} (r:RelO (some v) o):∃ u,o=some u/\RelV v u:=by
 cases o with
 | none=>exact (show False from r).elim
 | some u=>exact ⟨u,rfl,r⟩
section
variable {P:Uv} {w:UK} {H H':Hp} {h h':Vy} {a C dx:Ud} {fs PZ:List (UP×V)}
theorem vg (hok:HOk P w H h) (e:H a=some (.ins C dx fs)):∃ mA,ObjM h a dx C mA/\(∀ f,RelO (fs.lookup f) (mA f))/\PySem.Within mA (fs.map (·.1))/\fs.length<=1000/\H dx=some (.own a):=by
 obtain ⟨d,z,ne,ob,mA,n,r,q⟩:=(show ObjOk P w H h a (.ins C dx fs) from hok a _ e);exact ⟨mA,⟨ob,n,ne⟩,r,q,z,d⟩
end
structure Cls (K:Ub) (C:Ud):Prop where
 pg:PySem.W.plainGet K C Str.empty=true
 hd:PySem.W.hasDictIn K C=true
 po:PySem.W.plainOver K C=true
 sa:PySem.W.findIn K (.ref C) "__setattr__"=some (some (.builtin "object.__setattr__"))
theorem Cls.get {K:Ub} {C:Ud} (c:Cls K C) (f:UP):PySem.W.plainGet K C f=true:=c.pg
section
variable {X:Cx} {pins:List (Ud×Wu)} {σ:St} {H:Hp} {s:Um} {a C dx:Ud} {fs:List (UP×V)} {f:UP} {v:V} {A:U5} {E:Ug->Um->Prop}
end
section
variable {X:Cx} {o e value:Vs} {f:UP} {pos pos' KQ:Yd} {ta tv:TE}
end
section
variable {X:Cx} {pins:List (Ud×Wu)} {σ:St} {H:Hp} {s:Um} {A:U5} {E:Ug->Um->Prop} {Q:Ug->Um->Prop} {c:Ug} {b:Bool}
inductive ja (K:Ub) (H:Hp):V->Ug->Prop where
 | non:ja K H .non (.type "NoneType")
 | bl (x:Bool):ja K H (.bl x) (.type "bool")
 | int (i:Int):ja K H (.int i) (.type "int")
 | str (x:UP):ja K H (.str x) (.type "str")
 | flt (x:UInt64):ja K H (.flt x) (.type "float")
 | lst {a:Ud} {xs:List V} (e:H a=some (.lst xs)):ja K H (.ref a) (.type "list")
 | frz {a:Ud} {o:Wu} {xs:List V} (e:H a=some (.frz o (.lst xs))):ja K H (.ref a) (.type "list")
 | tup {a:Ud} {xs:List V} (e:H a=some (.tup xs)):ja K H (.ref a) (.type "tuple")
 | dK {a:Ud} {f':List (Key×V)} (e:H a=some (.dK f')):ja K H (.ref a) (.type "dict")
 | dT {a:Ud} {f':List (List Key×V)} (e:H a=some (.dT f')):ja K H (.ref a) (.type "dict")
 | ins {a C dx:Ud} {fs:List (UP×V)} (e:H a=some (.ins C dx fs)) (cl:Cls K C) (ha:PySem.W.findIn K (.ref C) "__class__"=some (some (.builtin "object.__class__")))
  (hn:PySem.W.specialIn K (.builtin "object.__class__") "__get__"=some (some (.builtin "getset_descriptor.__get__"))) (AJ:PySem.W.takesIn K (.builtin "object.__class__")=some true)
  (hm:PySem.W.mroIn K C (.type "object")=some true):ja K H (.ref a) (.ref C)
theorem sP {x:V} {u t:Ug} (I:Inv X pins σ H s) (rx:RelV x u) (ty:ja X.K H x t) (e:Xv X.K t c=some b) (h:∀ tk,Q (.bool b) { s with toks:=tk }) :
 Uy (UU X.prog X.w) A (call (.builtin "isinstance") [u,c]) Q E s:=by
 cases ty with
 | non=>cases (show u=VL from rx);exact VZ PySem.W.kitx_none I.kIn Wr e (fun z=>nomatch z) h
 | bl y=>cases (show u=Value.bool y from rx);exact VZ PySem.W.kitx_bool I.kIn Wr e (fun z=>nomatch z) h
 | int i=>obtain ⟨t,q⟩:=(show ∃ t,u=Value.int i t from rx);cases q;exact VZ PySem.W.kitx_int I.kIn Wr e (fun z=>nomatch z) h
 | str y=>obtain ⟨t,q⟩:=(show ∃ t,u=Value.str y t from rx);cases q;exact VZ PySem.W.kitx_str I.kIn Wr e (fun z=>nomatch z) h
 | flt y=>obtain ⟨t,q⟩:=(show ∃ t,u=Value.float y t from rx);cases q;exact VZ PySem.W.kitx_float I.kIn Wr e (fun z=>nomatch z) h
 | @lst a xs ea =>
   cases (show u=US a from rx);obtain ⟨_,_,n,_,h1⟩:=(show ObjOk X.prog X.w H s.heap a (.lst xs) from I.hok a _ ea);exact VZ PySem.W.kitx_list I.kIn ⟨_,h1,rfl⟩ e (fun z=>nomatch z) h
 | @frz a ob xs ea =>
   cases (show u=US a from rx);obtain ⟨_,_,_,n,_,h1⟩:=(show ObjOk X.prog X.w H s.heap a (.frz ob (.lst xs)) from I.hok a _ ea);exact VZ PySem.W.kitx_list I.kIn ⟨_,h1,rfl⟩ e (fun z=>nomatch z) h
 | @tup a xs ea =>
   cases (show u=US a from rx);obtain ⟨_,_,_,_,h1⟩:=(show ObjOk X.prog X.w H s.heap a (.tup xs) from I.hok a _ ea);exact VZ PySem.W.kitx_tuple I.kIn ⟨_,h1,rfl⟩ e (fun z=>nomatch z) h
 | @dK a f' ea =>
   cases (show u=US a from rx);obtain ⟨_,_,vs,_,p⟩:=(show ObjOk X.prog X.w H s.heap a (.dK f') from I.hok a _ ea);obtain ⟨o,es,ep,h1,h2,_⟩:=p;exact VZ PySem.W.kitx_dict I.kIn ⟨o,h1,h2.1⟩ e (fun z=>nomatch z) h
 | @dT a f' ea =>
   cases (show u=US a from rx);obtain ⟨_,_,xs,_,o,es,ep,h1,h2,_⟩:=(show ObjOk X.prog X.w H s.heap a (.dT f') from I.hok a _ ea);exact VZ PySem.W.kitx_dict I.kIn ⟨o,h1,h2.1⟩ e (fun z=>nomatch z) h
 | @ins a C dx fs ea cl ha hn AJ hm =>
   cases (show u=US a from rx);obtain ⟨mA,O,_⟩:=vg I.hok ea;obtain ⟨od,J,_⟩:=O.look;exact VZ (PySem.W.kitx_own (cl.get _) cl.hd ha hn AJ hm) I.kIn J e (fun z=>nomatch z) h
end
end L2
namespace L2
open PySem PySem.Spec PyProof.Rows
structure Room (k:Nat) (A:U5):Prop where
 hd:A.handled=none
 dp:A.depth+3 * k+5<recursionLimit
 un:A.units+16 * k+200<V1
theorem Room.mono {j k:Nat} {A:U5} (r:Room k A) (h:j<=k):Room j A:=⟨r.hd,by have:=r.dp;omega,by have:=r.un;omega⟩
theorem Room.deeper {k:Nat} {A:U5} (r:Room (k+1) A) (env:Env):Room k (A.deeper env) :=
 ⟨r.hd,by have:=r.dp;show A.depth+1+3 * k+5<_;omega,by have:=r.un;show A.units+3+16 * k+200<_;omega⟩
theorem Room.depth {k:Nat} {A:U5} (r:Room k A):A.depth<recursionLimit:=by have:=r.dp;omega
theorem Room.units {k:Nat} {A:U5} (r:Room k A):A.units+64<V1:=by have:=r.un;omega
def d4:TA:=fun _ H Q=>Q [] H
def bu (ta:TE) (tr:TA):TA:=fun σ H Q=>ta σ H fun x H1=>tr σ H1 fun xs H2=>Q (x::xs) H2
section
variable {X:Cx} {e:Vs} {es:List Vs} {te:TE} {t:TA} {pos:Yd}
theorem ac:PA X [] d4:=fun _ _ _ _ H Q I h=>Wo ⟨[],H,I,.nil,h⟩
theorem aa (ha:PE X e te) (hr:PA X es t) (hs:Vi (e::es) X.env=(false,WE e X.env)::Vi es X.env:=by rfl):PA X (e::es) (bu te t):=by
 intro pos pins s σ H Q I h;rw [hs];show Uy _ _ (spliced ((false,WE e X.env)::Yl pos (Vi es X.env))) _ _ s;refine VW (thn (ha pins s σ H _ I h) fun u s1 ⟨x,H1,I1,r1,q1⟩=>?_);exact thn (hr pos pins s1 σ H1 _ I1 q1) fun us s2 ⟨xs,H2,I2,r2,q2⟩=>⟨x::xs,H2,I2,.cons r1 r2,q2⟩
def kj (t:TA):TE:=fun σ H Q=>t σ H fun xs H1=>xs.length<=Uz/\∀ p,H1 p=none->Q (.ref p) (upd H1 p (.tup xs))
def yz (t:TA):TE:=fun σ H Q=>t σ H fun xs H1=>xs.length<=Uz/\∀ p,H1 p=none->Q (.ref p) (upd H1 p (.lst xs))
theorem aK {x1} (h:PA X es t):PE X (.Tuple es x1 pos) (kj t):=by
 intro pins s σ H Q I hq;refine wpAny_Tuple_spliced (thn (h pos pins s σ H _ I hq) fun us s1 ⟨xs,H1,I1,r,z,q⟩=>⟨by rw [<- r.length];exact z,?_⟩);have hf:H1 s1.heap.objs.size=none:=I1.hok.fresh (Ue _);refine ⟨.ref s1.heap.objs.size,upd H1 s1.heap.objs.size (.tup xs),I1.laid (t':=s1.toks) (fun b u e=>Uj _ e) (Ue _) ?_,rfl,q _ hf⟩;exact ⟨z,us,0,r,Uu _ rfl⟩
theorem bC (h:PA X es t):PE X (.List es pos) (yz t):=by
 intro pins s σ H Q I hq;refine wpAny_List_spliced (thn (h pos pins s σ H _ I hq) fun us s1 ⟨xs,H1,I1,r,z,q⟩=>⟨by rw [<- r.length];exact z,?_⟩);have hf:H1 s1.heap.objs.size=none:=I1.hok.fresh (Ue _);refine ⟨.ref s1.heap.objs.size,upd H1 s1.heap.objs.size (.lst xs),I1.laid (t':=s1.toks) (fun b u e=>Uj _ e) (Ue _) ?_,rfl,q _ hf⟩;exact ⟨z,us,0,r,Uu _ rfl⟩
end
abbrev Sp:=List V->Hp->VK->XK->Prop
abbrev CXT:=List Env->Hp->Um->XK->Ug->Um->Prop
structure vB (P:Uv) (w:UK) (K:Ub) (mg:UP->Option Ug) (base:Vy) (A:U5) (outer:List Env) (s:Um) (H:Hp):Prop where
 frames:A.frames=some outer
 mod:Mod K mg base
 bs:∀ b o,base.get? b=some o->s.heap.get? b=some o/\H b=none
 bsz:base.objs.size<=s.heap.objs.size
 funs:s.heap.FunFrames base outer
 frf:∀ b∈frs outer,H b=none
 hok:HOk P w H s.heap
 bare:AllBare s.gens
def CE (outer:List Env) (P:Uv) (w:UK) (H:Hp) (s:Um) (Q:VK) (u:Ug) (s':Um):Prop :=
 ∃ v H',s'.os=s.os/\AllBare s'.gens/\Un (frs outer) [] H H' s.heap s'.heap/\HOk P w H' s'.heap/\RelV v u/\Q v H'
def CR (CX:CXT) (outer:List Env) (P:Uv) (w:UK) (H:Hp) (s:Um) (Q:VK) (E:XK) (r:Result) (s':Um):Prop :=
 match r with
 | .ok (.ret u)=>CE outer P w H s Q u s'
 | .ok _=>False
 | .error e=>CX outer H s E e s'
structure bf (P:Uv) (w:UK) (K:Ub) (mg:UP->Option Ug) (base:Vy) (CX:CXT) (k:Nat) (f:Ud) (fd:Xw) (ps:List UP) (sp:Sp):Prop where
 len:∀ vs H Q E,sp vs H Q E->vs.length=ps.length
 run:∀ (A:U5) (outer:List Env) (s:Um) (H:Hp) (args:Args) (us:List Ug) (vs:List V) (Q:VK) (E:XK),Room k A->vB P w K mg base A outer s H->BindsTo s fd args (ps.zip us)->Vals vs us->sp vs H Q E →
  Yk (UU P w) A (.call (.ref f) args) (CR CX outer P w H s Q E) s
section
variable {X:Cx} {pins:List (Ud×Wu)} {σ:St} {H:Hp} {s s':Um}
theorem Inv.env0 (I:Inv X pins σ H s):vB X.prog X.w X.K X.mg X.base X.A X.stack s H :=
 ⟨I.ok.frames,I.ok.mod,I.bs,V3 I.ok.bsz I.sz,I.stack,I.stkFree,I.hok,I.bare⟩
theorem Inv.after {Q:VK} {u:Ug} (I:Inv X pins σ H s) (h:CE X.stack X.prog X.w H s Q u s'):EP X pins σ Q u s':=by
 obtain ⟨v,H',os,bare,un,hok,r,q⟩:=h;obtain ⟨hh,g,d,t,P7⟩:=s';obtain rfl:P7=s.os:=os;exact ⟨v,H',I.call (h':=hh) (g':=g) (d':=d) (t':=t) (ch:=[]) un hok bare (fun b z=>absurd z (by simp)),r,q⟩
end
def gx (sp:Sp) (dvs:List V) (E:XK) (t:TA):TE:=fun σ H Q=>t σ H fun vs H1=>sp (vs++dvs) H1 Q E
def Binds (K:Ub) (fd:Xw) (ps:List UP) (ds:List Ug):Prop :=
 ∀ (s:Um) (us:List Ug),K.In s.heap->(us++ds).length=ps.length->BindsTo s fd ⟨us,[]⟩ (ps.zip (us++ds))
theorem Binds.all {K:Ub} {fd:Xw} {ps:List UP} (h:∀ us:List Ug,us.length=ps.length->bindArgs fd ⟨us,[]⟩=pure (ps.zip us)):Binds K fd ps []:=fun s us _ hl=>by
 rw [U0] at hl ⊢;exact .of_eq (h us hl)
def Passes (CX:CXT) (X:Cx) (E:XK):Prop:=∀ (pins:List (Ud×Wu)) (σ:St) (H:Hp) (s:Um) (e:Ug) (s':Um),Inv X pins σ H s->CX X.stack H s E e s'->X.xe e s'
section
variable {X:Cx} {CX:CXT} {k:Nat} {f C:Ud} {fd:Xw} {ps:List UP} {sp:Sp} {dvs:List V} {ds:List Ug} {E:XK} {x m:UP} {p pos apos:Yd} {e o:Vs} {es:List Vs} {ta:TE} {t:TA}
theorem wF {pins:List (Ud×Wu)} {σ:St} {H:Hp} {s:Um} {Q:VK} {us:List Ug} {vs:List V} (F:bf X.prog X.w X.K X.mg X.base CX k f fd ps sp) (hr:Room k X.A) (hb:Binds X.K fd ps ds) (hd:Vals dvs ds) (hx:Passes CX X E)
 (I:Inv X pins σ H s) (r:Vals vs us) (h:sp (vs++dvs) H Q E):Uy (UU X.prog X.w) X.A (call (.ref f) us) (EP X pins σ Q) X.xe s:=by
 have r2:Vals (vs++dvs) (us++ds):=r.append hd;have hl:(us++ds).length=ps.length:=by rw [<- r2.length];exact F.len _ _ _ _ h
 refine wpAny_call (codeAny_mono (F.run X.A X.stack s H ⟨us,[]⟩ (us++ds) (vs++dvs) Q E hr I.env0 (hb s us I.kIn hl) r2 h) fun r s' hq=>?_);cases r with
 | error e=>exact hx pins σ H s e s' I hq
 | ok fl =>
   cases fl with
   | ret u=>exact I.after hq
   | next=>exact Xx hq
   | brk=>exact Xx hq
   | cont=>exact Xx hq
theorem eI (F:bf X.prog X.w X.K X.mg X.base CX k f fd ps sp) (hr:Room k X.A) (hg:Gl X x) (hm:X.mg x=some (.ref f)) (hk:Za X.K (.ref f)=true) (hb:Binds X.K fd ps ds) (hd:Vals dvs ds) (hx:Passes CX X E)
 (ha:PA X (e::es) t) (Fe:(x == ("__debug__":UP))=false:=by decide) (he:Vi (e::es) X.env=(false,WE e X.env)::Vi es X.env:=by rfl) (zD:(Yl pos (Vi es X.env)).any (·.1)=false:=by rfl) :
 PE X (.Call (.Name x p) (e::es) [] pos) (gx sp dvs E t):=by
 intro pins s σ H Q I h;refine VU (qY I hg hm ?_ Fe);refine PySem.W.callWith_K (h₀:=X.base) I.ok.mod.kin hk (thn (ha pos pins s σ H _ I h) fun us s1 ⟨vs,H1,I1,r,q⟩=>⟨I1.kIn,?_⟩) he zD;exact wF F hr hb hd hx I1 r q
end
section
variable {X:Cx} {CX:CXT} {k:Nat} {f C:Ud} {fd:Xw} {ps ks:List UP} {sp:Sp} {E:XK} {x m:UP} {p pos apos P8:Yd} {e o:Vs} {es:List Vs} {SN:List Keyword} {te ta:TE} {t tk:TA} {nm:Option UP}
variable {g:List Ug->List Ug->List Ug} {gV:List V->List V->List V}
end
structure aB (N P:List UP) (sc:Yc):Prop where
 kind:sc.kind=.function
 co:sc.isCoroutine=false
 gen:sc.isGenerator=false
 nd:N.Nodup
 pre:N.take P.length=P
 par:∀ x∈P,sc.names.lookup x=some .local∨sc.names.lookup x=some .cell
 nofree:∀ y∈sc.names,y.2≠.free
theorem ni {kindOf:UP->Option WN} {x:UP}:∀ {binds:List (UP×Ug)} {m:UP->Option Ug},(∀ v,(x,v)∉binds)->bindL kindOf binds m x=m x
 | [],_,_=>rfl
 | (n,v)::r,m,h=>by
   unfold bindL;rw [ni fun w hw=>h w (UG _ hw)];split
   · have:x≠n:=by rintro rfl;exact h v UM
     simp [this]
   · rfl
theorem mU {kindOf:UP->Option WN} {x:UP}:∀ {binds:List (UP×Ug)} {m:UP->Option Ug},(∀ v,(x,v)∉binds)->bindC kindOf binds m x=m x
 | [],_,_=>rfl
 | (n,v)::r,m,h=>by
   unfold bindC;rw [mU fun w hw=>h w (UG _ hw)];split
   · rfl
   · have:x≠n:=by rintro rfl;exact h v UM
     simp [this]
theorem mY {kindOf:UP->Option WN} {x:UP} {v:Ug}:∀ {P:List UP} {vs:List Ug} {i:Nat} {m:UP->Option Ug},P.Nodup->P[i]?=some x->vs[i]?=some v->kindOf x=some .local →
 bindL kindOf (P.zip vs) m x=some v
 | [],_,_,_,_,h,_,_=>by simp at h
 | _::_,[],_,_,_,_,h,_=>by simp at h
 | p::P,w::vs,0,m,nd,h1,h2,hk=>by
   simp at h1 h2;subst h1;subst h2;show bindL kindOf ((p,w)::P.zip vs) m p=_;unfold bindL;rw [ni fun v hv=>(Yp.mp nd).1 (Xl hv).1,if_pos hk];simp
 | p::P,w::vs,i+1,m,nd,h1,h2,hk=>by
   show bindL kindOf ((p,w)::P.zip vs) m x=_;unfold bindL;exact mY (i:=i) (Yp.mp nd).2 (by simpa using h1) (by simpa using h2) hk
theorem mN {kindOf:UP->Option WN} {x:UP} {v:Ug}:∀ {P:List UP} {vs:List Ug} {i:Nat} {m:UP->Option Ug},P.Nodup->P[i]?=some x->vs[i]?=some v->kindOf x≠some .local →
 bindC kindOf (P.zip vs) m x=some v
 | [],_,_,_,_,h,_,_=>by simp at h
 | _::_,[],_,_,_,_,h,_=>by simp at h
 | p::P,w::vs,0,m,nd,h1,h2,hk=>by
   simp at h1 h2;subst h1;subst h2;show bindC kindOf ((p,w)::P.zip vs) m p=_;unfold bindC;rw [mU fun v hv=>(Yp.mp nd).1 (Xl hv).1,if_neg hk];simp
 | p::P,w::vs,i+1,m,nd,h1,h2,hk=>by
   show bindC kindOf ((p,w)::P.zip vs) m x=_;unfold bindC;exact mN (i:=i) (Yp.mp nd).2 (by simpa using h1) (by simpa using h2) hk
def start (N:List UP) (vs:List V):St:=vs.map some++VN (N.length - vs.length) none
def sQ (CX:CXT) (P:Uv) (w:UK) (K:Ub) (mg:UP->Option Ug) (base:Vy) (N:List UP) (qual:UP) (scope:Yc) (f:Ud) (cd:Ug) (A:U5) (outer:List Env) (s:Um) (H:Hp) (E:XK):Cx where
 prog:=P
 w:=w
 K:=K
 mg:=mg
 base:=base
 A:=A.deeper (envOfC qual scope s.heap.objs.size f cd)
 N:=N
 s₀:=s
 H₀:=H
 env:=envOfC qual scope s.heap.objs.size f cd
 outer:=outer
 stack:=envOfC qual scope s.heap.objs.size f cd::outer
 ex:=[]
 calm:=true
 fn:=fun _=>true
 pn:=[]
 xe:=fun e s'=>Uy (UU P w) (A.deeper (envOfC qual scope s.heap.objs.size f cd)) (leaving (envOfC qual scope s.heap.objs.size f cd) e) (fun _ KR=>CX outer H s E e KR) (fun e' KR=>CX outer H s E e' KR) s'
theorem pi {sc:Yc} {n:Nat} {x:UP} (h:sc.names.lookup x=some .cell):∃ c,(cellsFrom n sc.names []).lookup x=some c:=by
 have q:=PySem.W.cellsFrom_some sc.names n [] (.inl h);exact XR.mp q
theorem sk {CX:CXT} {P:Uv} {w:UK} {K:Ub} {mg:UP->Option Ug} {base:Vy} {N ps:List UP} {qual:UP} {scope:Yc} {f:Ud} {cd:Ug} {A:U5} {outer:List Env} {s s1:Um} {H:Hp} {E:XK} {us:List Ug} {vs:List V}
 (S:aB N ps scope) (hd:A.handled=none) (e0:vB P w K mg base A outer s H) (hl:vs.length=ps.length) (r:Vals vs us)
 (x:InCallC s s.heap.objs.size (bindL (envOfC qual scope s.heap.objs.size f cd).kindOf (ps.zip us) fun _=>none) (cellsFrom (s.heap.objs.size+1) scope.names []) (bindC (envOfC qual scope s.heap.objs.size f cd).kindOf (ps.zip us) fun _=>none) s1) :
 Inv (sQ CX P w K mg base N qual scope f cd A outer s H E) [] (start N vs) H s1:=by
 have zD:ps.length<=N.length:=by have:=congrArg W7 S.pre;rw [U1] at this;omega
 obtain ⟨h1,tk,rfl,hk⟩:=x.done;have Hf:∀ b:Ud,b∉(sQ CX P w K mg base N qual scope f cd A outer s H E).ex:=fun b z=>absurd (show b∈([]:List Ud) from z) (by simp)
 refine ⟨⟨e0.mod,S.kind,rfl,rfl,Ue _,fun y z c h1 h2=>?_,fun y hy=>?_,fun y c _ h=>?_,fun _=>hd,Around.frames_deeper e0.frames,.inr ⟨rfl,rfl⟩,fun b z=>absurd z (Hf b),e0.bs,e0.bsz,fun b _ _=>Hf b,fun b z=>absurd z (Hf b),e0.funs,e0.frf⟩,
  rfl,e0.bare,Un.kept hk,⟨_,x.toInCall.ns,fun i y v h1 h2 h3=>?_⟩,fun y c h=>⟨_,x.cell y c h⟩,e0.hok.fresh (Ue _),fun y c h=>?_,fun p hp=>absurd (show p∈([]:List (Ud×Wu)) from hp) (by simp),e0.hok.kept hk,?_⟩
 · exact name_of_addr x.apart (XH h1) (XH h2)
 · have hy:scope.names.lookup y=some .cell∨scope.names.lookup y=some .free:=hy;rcases hy with hy | hy
   · exact pi hy
   · exact absurd rfl (S.nofree _ (XH hy))
 · exact XE (x.above y c (XH h))
 · have hi:i<vs.length:=by
    unfold start at h2;by_cases hi:i<vs.length
    · exact hi
    · rw [WQ (by simpa using hi)] at h2;rw [List.getElem?_replicate] at h2;split at h2 <;> cases h2
   have ha:vs[i]?=some v:=by
    unfold start at h2;rw [Wl (by simpa using hi),Ul] at h2;cases e:vs[i]? with
    | none=>rw [e] at h2;cases h2
    | some a=>rw [e] at h2;cases h2;rfl
   obtain ⟨u,hu,rv⟩:=r.get ha
   have hp:ps[i]?=some y:=by
    rw [<- S.pre,List.getElem?_take_of_lt (by omega)];exact h1
   have N3:ps.Nodup:=by rw [<- S.pre];exact S.nd.sublist (List.take_sublist _ _)
   refine ⟨u,rv,?_⟩;rcases S.par y (Uc hp) with k | k
   · exact .inl ⟨k,mY N3 hp hu k⟩
   · obtain ⟨c,e⟩:=pi (n:=s.heap.objs.size+1) k;refine .inr ⟨.inl k,c,e,?_⟩;have q:=x.cell y c e;rw [mN N3 hp hu (by show scope.names.lookup y≠_;rw [k];decide)] at q;exact q
 · exact e0.hok.fresh (XE (x.above y c (XH h)))
 · unfold start;show _=N.length;rw [UA,T8,WT];omega
theorem xg {CX:CXT} {P:Uv} {w:UK} {K:Ub} {mg:UP->Option Ug} {base:Vy} {k:Nat} {f:Ud} {name qual:UP} {params:Arguments} {body:List V8} {scope:Yc} {dV kV doc pm yJ ct oc:Ug} {an od:Option Ud}
 {Er:Array (Option Ug)} {N ps:List UP} {sp:Sp} (lk:K.lookup f=some ⟨oc,od,.func (XB name qual params body scope dV kV doc pm an yJ ct),Er⟩) (CK:Zb K yJ qual=true) (S:aB N ps scope)
 (len:∀ vs H Q E,sp vs H Q E->vs.length=ps.length)
 (CN:∀ (A:U5) (outer:List Env) (s:Um) (H:Hp) (vs:List V) (Q:VK) (E:XK),Room k (A.deeper (envOfC qual scope s.heap.objs.size f yJ))->sp vs H Q E →
  ∃ t,PSs (sQ CX P w K mg base N qual scope f yJ A outer s H E) body t/\t { nx:=fun _ H'=>Q .non H',rt:=Q } (start N vs) H) :
 bf P w K mg base CX (k+1) f (XB name qual params body scope dV kV doc pm an yJ ct) ps sp:=by
 refine ⟨len,fun A outer s H args us vs Q E hr e0 hb r Es=>?_⟩;have hl:=len _ _ _ _ Es;have KX:K.In s.heap:=e0.mod.kin.keeps fun b o e=>(e0.bs b o e).1;have lim:s.heap.NoLimit:=e0.mod.nolimit.keeps fun b o e=>(e0.bs b o e).1
 have Hi:∀ y∈ps.zip us,scope.names.lookup y.1=some .local∨(scope.names.lookup y.1=some .cell/\((cellsFrom (s.heap.objs.size+1) scope.names []).lookup y.1).isSome=true):=fun ⟨n,v⟩ hy=>by
  rcases S.par n (Xl hy).1 with q | q
  · exact .inl q
  · exact .inr ⟨q,PySem.W.cellsFrom_some _ _ _ (.inl q)⟩
 refine codeAny_call_function hr.depth (KX _ _ lk) rfl S.co S.gen rfl (PySem.W.codeRec_of KX CK) (hb _ _ _ _ ?_);refine wpAny_newFunctionEnv_cells S.kind Hi fun env he s1 x=>?_;subst he;refine ⟨lim.keeps x.toInCall.keep,codeAny_func ?_⟩;obtain ⟨t,ht,hq⟩:=CN A outer s H vs Q E (hr.deeper _) Es;have I:Inv (sQ CX P w K mg base N qual scope f yJ A outer s H E) [] (start N vs) H s1:=sk S hr.hd e0 hl r x;refine Wn (ht [] s1 (start N vs) H _ I hq) (fun fl s' hs=>?_) fun e s' hs=>hs
 have fin:∀ {yA:St} {H':Hp} {v:V} {u:Ug},Inv (sQ CX P w K mg base N qual scope f yJ A outer s H E) [] yA H' s'->RelV v u->Q v H'->CE outer P w H s Q u s' :=
  fun {yA H' v u} J rv q=>⟨v,H',J.os,J.bare,J.base,J.hok,rv,q⟩
 cases fl with
 | ret u =>
   obtain ⟨v,yA,H',J,rv,q⟩:=hs;exact fin J rv q
 | next =>
   obtain ⟨yA,H',J,q⟩:=hs;exact fin (v:=V.non) (u:=VL) J rfl q
 | brk =>
   obtain ⟨_,_,_,q⟩:=hs;exact Xx q
 | cont =>
   obtain ⟨_,_,_,q⟩:=hs;exact Xx q
end L2
namespace L2
open PySem PySem.Spec PyProof.Rows
section
variable {X:Cx} {x:UP} {p pos:Yd} {e:Vs} {es:List Vs} {t:TA} {id T:String} {r:List V->Hp->VK->Prop}
def tCB (r:List V->Hp->VK->Prop) (t:TA):TE:=fun σ H Q=>t σ H fun vs H1=>r vs H1 Q
theorem aw (hc:im X (.builtin id) r) (hg:Gl X x) (hm:X.mg x=none) (hv:YG x=some (.builtin id)) (ha:PA X (e::es) t) (hn:x≠"__name__":=by decide) (Fe:(x == ("__debug__":UP))=false:=by decide)
 (he:Vi (e::es) X.env=(false,WE e X.env)::Vi es X.env:=by rfl) (zD:(Yl pos (Vi es X.env)).any (·.1)=false:=by rfl):PE X (.Call (.Name x p) (e::es) [] pos) (tCB r t):=by
 intro pins s σ H Q I h;refine VU (dg I hg hm hv ?_ hn Fe);exact PyProof.Rows.callWith_builtin1 (thn (ha pos pins s σ H _ I h) fun us s1 ⟨vs,H1,I1,r1,q1⟩=>hc pins s1 σ H1 vs us Q I1 r1 q1) he zD
theorem de (hc:im X (.type T) r) (hg:Gl X x) (hm:X.mg x=none) (hv:YG x=some (.type T)) (ha:PA X (e::es) t) (hn:x≠"__name__":=by decide) (Fe:(x == ("__debug__":UP))=false:=by decide)
 (he:Vi (e::es) X.env=(false,WE e X.env)::Vi es X.env:=by rfl) (zD:(Yl pos (Vi es X.env)).any (·.1)=false:=by rfl):PE X (.Call (.Name x p) (e::es) [] pos) (tCB r t):=by
 intro pins s σ H Q I h;refine VU (dg I hg hm hv ?_ hn Fe);exact Vg (thn (ha pos pins s σ H _ I h) fun us s1 ⟨vs,H1,I1,r1,q1⟩=>hc pins s1 σ H1 vs us Q I1 r1 q1) he zD
end
end L2
namespace HT
open PySem PyProof.Rows
section
open PySem.SeqAt
open PySem.AutoSeq1 (wpAny_loadPart')
open PySem.MeetsSeq PySem.MeetsSeq2 PySem.MeetsSeq3
end
section
variable {prog:Uv} {w:UK} {A:U5} {E:Ug->Um->Prop} {s:Um}
theorem cat_tup {t b:Ud} {vs ws:List Ug} {Q:Ug->Um->Prop} (ht:IsTup s.heap t vs.toArray) (hb:IsTup s.heap b ws.toArray) (hv:vs≠[])
 (h1:ws=[]->Q (.ref t) s) (h2:ws≠[]->Q (.ref s.heap.objs.size) { s with heap:=s.heap.push { cls:=.type "tuple",data:=.seq (vs++ws).toArray } })
 (hsz:vs.length+ws.length<=Uz):Uy (UU prog w) A (X3 .Add (.ref t) (.ref b)) Q E s:=by
 obtain ⟨⟨cls,dd,data,sl⟩,ho,hc,n,hd⟩:=id ht;obtain ⟨⟨Hj,Gq,data2,Gr⟩,DN,Co,n2,hd2⟩:=id hb;simp only at hc hd Co hd2;subst hc hd Co hd2;have e:vs.toArray++ws.toArray=(vs++ws).toArray:=by simp
 by_cases hw:ws=[]
 · exact concat_meets ⟨_,ho,rfl⟩ ⟨_,DN,rfl⟩ noFill_tuple_add seq_tuple_add YU YR (YI _ _)
    (tuple_addW1 t b vs.toArray ws.toArray n n2 dd Gq sl Gr (by simpa using hv) (by simp [hw])) ⟨ho,DN,h1 hw⟩
 · refine concat_meets ⟨_,ho,rfl⟩ ⟨_,DN,rfl⟩ noFill_tuple_add seq_tuple_add YU YR (YI _ _)
    (tuple_addW2 t b vs.toArray ws.toArray n n2 dd Gq sl Gr (by simpa using hv) (by simpa using hw) (by rw [Uq,Uq];exact hsz)) ⟨ho,DN,?_⟩
   rw [e];exact h2 hw
def sIx (n d:Nat):Option Int->Nat
 | none=>d
 | some v=>if v<0 then (v+(n:Int)).toNat else min v.toNat n
theorem sIx_none (n d:Nat):sIx n d none=d:=rfl
theorem sIx_nat (n d k:Nat):sIx n d (some (k:Int))=min k n:=by
 show (if (k:Int)<0 then ((k:Int)+(n:Int)).toNat else min (k:Int).toNat n)=min k n;rw [if_neg (by omega),Vk]
theorem sIx_le (n d:Nat) (hd:d<=n) (o:Option Int):sIx n d o<=n:=by
 cases o with
 | none=>exact hd
 | some v =>
   show (if v<0 then (v+(n:Int)).toNat else min v.toNat n)<=n;by_cases hv:v<0
   · rw [if_pos hv];omega
   · rw [if_neg hv];exact Nat.min_le_right _ _
theorem clip_eq (v:Int) (n d:Nat):(if v<0 then max (v+(n:Int)) 0 else min v (n:Int))=((sIx n d (some v):Nat):Int):=by
 show (if v<0 then max (v+(n:Int)) 0 else min v (n:Int))=(((if v<0 then (v+(n:Int)).toNat else min v.toNat n):Nat):Int);by_cases hv:v<0
 · simp only [if_pos hv];omega
 · simp only [if_neg hv];omega
theorem adjust_gen (lo hi:Option Int) (n:Nat):Xa lo hi 1 (n:Int)=(((sIx n 0 lo:Nat):Int),((sIx n n hi:Nat):Int)):=by
 have h1:¬ ((1:Int)<0):=by omega
 unfold Xa;simp only [h1,if_false];refine Prod.ext ?_ ?_
 · cases lo with
   | none=>rfl
   | some v=>exact clip_eq v n 0
 · cases hi with
   | none=>rfl
   | some v=>exact clip_eq v n n
theorem places_gen (i j:Nat):VT (i:Int) (j:Int) 1=j - i:=by
 unfold VT;have h1:(1:Int) > 0:=by omega
 simp only [h1,if_true,ZJ];split <;> omega
theorem slicePart_ {v:Ug} {o:Option Int} {Q:Option Int->Um->Prop} (p:Zl v o) (h:Q o s):Uy (UU prog w) A (Builtin.Slice.slicePartIndex v) Q E s:=by
 cases p with
 | none=>exact slicePart_none h
 | int i t=>exact slicePart_int h
theorem sliceApplied_gen {sl:Ud} {vl vu:Ug} {lo hi:Option Int} {n:Nat} {Q:Int×Int×Nat->Um->Prop} (hs:s.heap.IsSliceOf sl vl vu .none) (pl:Zl vl lo) (pu:Zl vu hi)
 (h:Q (((sIx n 0 lo:Nat):Int),1,sIx n n hi - sIx n 0 lo) s):Uy (UU prog w) A (XU (.ref sl) (pure (n:Int))) Q E s:=by
 obtain ⟨os,AZ,Cp,AW⟩:=id hs;unfold XU Builtin.Slice.sliceFields;refine T9 (T9 (Vc AZ AW (x:=vl) rfl (T9 (Vc AZ AW (x:=vu) rfl (T9 (Vc AZ AW (x:=.none) rfl (Uk ?_)))))));refine T9 (slicePart_none ?_);show Uy _ _ (if ((1:Int) == 0)=true then _ else _) _ _ s;rw [if_neg (by decide)];refine T9 (slicePart_ pl (T9 (slicePart_ pu (T9 (Uk ?_)))));show Uy _ _ (match Xa lo hi 1 (n:Int) with | (lo,hi)=>pure (lo,(1:Int),VT lo hi 1)) _ _ s;rw [adjust_gen lo hi n];show Uy _ _ (pure (((sIx n 0 lo:Nat):Int),(1:Int),VT ((sIx n 0 lo:Nat):Int) ((sIx n n hi:Nat):Int) 1)) _ _ s;rw [places_gen];exact Uk h
theorem pick_gen (xs:Array Ug) (i k:Nat):((UT k).filterMap fun (m:Nat)=>xs[((i:Int)+(m:Int) * 1).toNat]?).toArray=((xs.toList.drop i).take k).toArray:=by
 have e:(fun (m:Nat)=>xs[((i:Int)+(m:Int) * 1).toNat]?)=fun m=>xs[i+m]?:=by
  funext m;have:((i:Int)+(m:Int) * 1).toNat=i+m:=by omega
  rw [this]
 rw [e];have:=pick_run xs i k;rw [Zw] at this;have e2:((fun x=>xs[x]?) ∘ fun x=>i+x)=fun m=>xs[i+m]?:=rfl;rw [e2] at this;rw [this]
theorem getItem_tuple_cut {t sl:Ud} {items:Array Ug} {vl vu:Ug} {lo hi:Option Int} {Q:Ug->Um->Prop} (ht:IsTup s.heap t items) (hs:s.heap.IsSliceOf sl vl vu .none) (pl:Zl vl lo) (pu:Zl vu hi)
 (hw:¬ (sIx items.size 0 lo=0/\sIx items.size items.size hi=items.size))
 (h:Q (.ref s.heap.objs.size) { s with heap:=s.heap.push { cls:=.type "tuple",data:=.seq ((items.toList.drop (sIx items.size 0 lo)).take (sIx items.size items.size hi - sIx items.size 0 lo)).toArray } })
 (hsz:items.size<=Uz):Uy (UU prog w) A (Yi (.ref t) (.ref sl)) Q E s:=by
 have zF:sizeOk (.seq ((items.toList.drop (sIx items.size 0 lo)).take (sIx items.size items.size hi - sIx items.size 0 lo)).toArray):=by
  show ((items.toList.drop (sIx items.size 0 lo)).take (sIx items.size items.size hi - sIx items.size 0 lo)).toArray.size<=Uz;rw [Uq,U1,Vx,UY];omega
 have hj:sIx items.size items.size hi<=items.size:=sIx_le _ _ (Ue _) hi;obtain ⟨os,AZ,Cp,AW⟩:=id hs;have Hk:s.TypeIs (.ref sl) "slice":=⟨os,AZ,Cp⟩;unfold Yi
 try with_reducible refine VJ ?_
 first | refine T9 (Uk ?_) | skip
 refine T9 (wpAny_sequenceKey ht.typeIs (by decide) ?_)
 refine T9 (Vm (name:=Ui "__getitem__") ht.typeIs U4
  (Vq U4 ht.typeIs entry_tuple_getitem ?_ (args_tuple_getitem _ _)))
 show Uy _ _ (XT (.ref t) >>= _) _ _ s;refine T9 (tupleItemsOf_ ht ?_);refine T9 (WV Hk ?_);rw [if_pos (by decide)];refine T9 (sliceApplied_gen hs pl pu ?_)
 have Bv:¬ ((((sIx items.size 0 lo:Nat):Int) == 0 && (1:Int) == 1 && (sIx items.size items.size hi - sIx items.size 0 lo) == items.size)=true):=by
  intro q;rw [Wg,Wg] at q;have q1:((sIx items.size 0 lo:Nat):Int)=0:=eq_of_beq q.1.1;have q2:sIx items.size items.size hi - sIx items.size 0 lo=items.size:=eq_of_beq q.2;exact hw ⟨by omega,by omega⟩
 show Uy _ _ (if (((sIx items.size 0 lo:Nat):Int) == 0 && (1:Int) == 1 && (sIx items.size items.size hi - sIx items.size 0 lo) == items.size)=true then _ else _) _ _ s;rw [if_neg Bv,pick_gen]
 first
  | exact T9 (m:=VX _) (Vp (Uk ⟨_,rfl,Uk h⟩) zF)
  | exact T9 (m:=VX _) (Vp (T9 (Uk (Uk ⟨_,rfl,Uk h⟩))) zF)
  | exact T9 (T9 (m:=VX _) (Vp (Uk (Uk ⟨_,rfl,Uk h⟩)) zF))
  | exact T9 (T9 (m:=VX _) (Vp (Uk ⟨_,rfl,Uk h⟩) zF))
end
end HT
namespace L2
open PySem PySem.Spec PyProof.Rows
abbrev TO:=St->Hp->(Option Int->Hp->Prop)->Prop
def PO (X:Cx) (e:Option Vs) (t:TO):Prop :=
 ∀ (pins:List (Ud×Wu)) (s:Um) (σ:St) (H:Hp) (Q:Option Int->Hp->Prop),Inv X pins σ H s->t σ H Q →
   Uy (UU X.prog X.w) X.A (evalPart e X.env) (fun u s'=>∃ o H',Inv X pins σ H' s'/\Zl u o/\Q o H') X.xe s
def u5:TO:=fun _ H Q=>Q none H
inductive wc (x:V) (Q:Option Int->Hp->Prop) (H1:Hp):Prop
 | mk (i:Int) (yL:x=.int i) (yM:Q (some i) H1):wc x Q H1
def wb (t:TE):TO:=fun σ H Q=>t σ H fun x H1=>wc x Q H1
section
variable {X:Cx} {e:Vs} {te:TE} {lo hi:Option Vs} {tl th:TO} {pos p2:Yd}
theorem bY:PO X none u5:=by
 intro pins s σ H Q I h;rw [evalPart_none];exact Uk ⟨none,H,I,.none,h⟩
theorem bF (h:PE X e te):PO X (some e) (wb te):=by
 intro pins s σ H Q I hw;rw [evalPart_some];refine thn (h pins s σ H _ I hw) fun u s1 ⟨x,H1,I1,r1,q1⟩=>?_;obtain ⟨i,rfl,q⟩:=q1;obtain ⟨t,rfl⟩:=r1;exact ⟨some i,H1,I1,.int i t,q⟩
def SlR (X:Cx) (r:V->Option Int->Option Int->Hp->VK->Prop):Prop :=
 ∀ (pins:List (Ud×Wu)) (s:Um) (σ:St) (H:Hp) (x:V) (v vl vu:Ug) (lo hi:Option Int) (sl:Ud) (Q:VK),Inv X pins σ H s->RelV x v->s.heap.IsSliceOf sl vl vu .none->Zl vl lo->Zl vu hi->r x lo hi H Q →
   ∃ T id,XO (.type T) "__getitem__"=pure (some (.builtin id))/\s.TypeIs v T/\Uy (UU X.prog X.w) X.A (Yi v (.ref sl)) (EP X pins σ Q) X.xe s
def tSl (r:V->Option Int->Option Int->Hp->VK->Prop) (te:TE) (tl th:TO):TE:=fun σ H Q=>te σ H fun x H1=>tl σ H1 fun l H2=>th σ H2 fun u H3=>r x l u H3 Q
theorem bB {r:V->Option Int->Option Int->Hp->VK->Prop} (hr:SlR X r) (he:PE X e te) (hl:PO X lo tl) (hu:PO X hi th):PE X (.Subscript e (.Slice lo hi none p2) pos) (tSl r te tl th):=by
 intro pins s σ H Q I h;refine Subscript_ (thn (he pins s σ H _ I h) fun v s1 ⟨x,H1,I1,r1,q1⟩=>?_);refine wpAny_Slice (thn (hl pins s1 σ H1 _ I1 q1) fun vl s2 ⟨l,H2,I2,pl,q2⟩=>thn (hu pins s2 σ H2 _ I2 q2) fun vu s3 ⟨u,H3,I3,pu,q3⟩=>?_);rw [evalPart_none];refine Uk ?_;have I4:Inv X pins σ H3 { s3 with heap:=s3.heap.push { cls:=.type "slice",data:=.fields #[vl,vu,.none] } }:=I3.kept (t':=s3.toks) fun b ob q=>Uj _ q;obtain ⟨T,id,hT,ht,hg⟩:=hr pins { s3 with heap:=s3.heap.push { cls:=.type "slice",data:=.fields #[vl,vu,.none] } } σ H3 x v vl vu l u s3.heap.objs.size Q I4 r1 (Heap.IsSliceOf.new ..) pl pu q3;show Uy (UU X.prog X.w) X.A (subscriptTail e (.Slice lo hi none p2) v (.ref s3.heap.objs.size)) (EP X pins σ Q) X.xe { s3 with heap:=s3.heap.push { cls:=.type "slice",data:=.fields #[vl,vu,.none] } };exact tail_any (ops:=[.ref s3.heap.objs.size,v]) ht hT hg (by with_unfolding_all rfl)
def ef (xs:List V) (lo hi:Option Int):List V:=(xs.drop (HT.sIx xs.length 0 lo)).take (HT.sIx xs.length xs.length hi - HT.sIx xs.length 0 lo)
theorem jT (xs:List V) (lo hi:Option Int):(ef xs lo hi).length<=xs.length:=by
 unfold ef;rw [U1,Vx];omega
inductive we (K:Ub) (x:V) (lo:Option Int) (hi:Option Int) (H:Hp) (Q:VK):Prop
 | mk (a:_) (xs:_) (yL:x=.ref a) (yM:SqT K H a xs) (yR:¬ (HT.sIx xs.length 0 lo=0/\HT.sIx xs.length xs.length hi=xs.length)) (yY:∀ p,H p=none->Q (.ref p) (upd H p (.tup (ef xs lo hi)))):we K x lo hi H Q
def xY (K:Ub):V->Option Int->Option Int->Hp->VK->Prop:=we K
theorem eT:SlR X (xY X.K):=by
 intro pins s σ H x v vl vu lo hi sl Q I rx hs pl pu h;obtain ⟨a,xs,rfl,hx,hw,q⟩:=h;cases rx;obtain ⟨its,r,ht,hz⟩:=I.tuple hx;have hlen:its.toArray.size=xs.length:=by rw [Uq];exact r.length.symm
 refine ⟨"tuple",_,U4.lookup,ht.typeIs,?_⟩;refine HT.getItem_tuple_cut ht hs pl pu (by rw [hlen];exact hw) ?_ (by rw [hlen];exact hz);rw [hlen];refine ⟨.ref s.heap.objs.size,_,I.laid (t':=s.toks) (o:=.tup (ef xs lo hi)) (fun b ob q=>Uj _ q) (Ue _) ?_,rfl,q _ (I.hok.fresh (Ue _))⟩;exact ⟨V3 (jT xs lo hi) hz,_,0,(r.drop (HT.sIx xs.length 0 lo)).take (HT.sIx xs.length xs.length hi - HT.sIx xs.length 0 lo),Uu _ rfl⟩
def xD (K:Ub):R2:=fun x y H Q=>∃ a b xs ys,x=.ref a/\y=.ref b/\SqT K H a xs/\SqT K H b ys/\xs≠[]/\xs.length+ys.length<=Uz ∧
 (ys=[]->Q (.ref a) H)/\(ys≠[]->∀ p,H p=none->Q (.ref p) (upd H p (.tup (xs++ys))))
theorem Vals.nil_iff {xs:List V} {us:List Ug} (r:Vals xs us):us=[]↔xs=[]:=by
 cases r with
 | nil=>simp
 | cons _ _=>simp
theorem vD:OpR X (X3 .Add) (xD X.K):=by
 intro pins s σ H x y v u Q I rx ry h;obtain ⟨a,b,xs,ys,rfl,rfl,ha,hb,hx,hz,q1,q2⟩:=h;cases rx;cases ry;obtain ⟨its,r1,p1,_⟩:=I.tuple ha;obtain ⟨yF,r2,p2,_⟩:=I.tuple hb;refine HT.cat_tup p1 p2 (fun z=>hx (r1.nil_iff.mp z)) (fun z=>⟨.ref a,H,I,rfl,q1 (r2.nil_iff.mp z)⟩) (fun z=>?_) (by rw [<- r1.length,<- r2.length];exact hz);refine ⟨.ref s.heap.objs.size,_,I.laid (t':=s.toks) (o:=.tup (xs++ys)) (fun b ob q=>Uj _ q) (Ue _) ?_,rfl,q2 (fun w=>z (r2.nil_iff.mpr w)) _ (I.hok.fresh (Ue _))⟩;exact ⟨by rw [UA];exact hz,_,0,r1.append r2,Uu _ rfl⟩
end
end L2
namespace L2
open PySem PySem.Spec PyProof.Rows
def ixN (n:Nat) (i:Int):Option Nat:=if 0<=i then (if i<n then some i.toNat else none) else if -(n:Int)<=i then some (i+n).toNat else none
def atI {α:Type} (xs:List α) (i:Int):Option α:=(ixN xs.length i).bind fun j=>xs[j]?
theorem nJ {n:Nat} {i:Int} {j:Nat} (h:ixN n i=some j):seqIndex? i n=some j/\j<n/\-(n:Int)<=i/\i<n:=by
 unfold ixN at h;by_cases h0:0<=i
 · rw [if_pos h0] at h;by_cases h1:i<n
   · rw [if_pos h1] at h;have e:i.toNat=j:=UQ h;exact ⟨by rw [seqIndex_of h0 h1,e],by omega,by omega,h1⟩
   · rw [if_neg h1] at h;cases h
 · rw [if_neg h0] at h;by_cases h1:-(n:Int)<=i
   · rw [if_pos h1] at h;have e:(i+n).toNat=j:=UQ h;exact ⟨by rw [seqIndex_neg (by omega) h1,e],by omega,h1,by omega⟩
   · rw [if_neg h1] at h;cases h
theorem oo {α:Type} {xs:List α} {i:Int} {v:α} (h:atI xs i=some v):∃ j,seqIndex? i xs.length=some j/\xs[j]?=some v/\j<xs.length/\-(xs.length:Int)<=i/\i<xs.length:=by
 unfold atI at h;cases e:ixN xs.length i with
 | none=>rw [e] at h;cases h
 | some j =>
   rw [e] at h;obtain ⟨h1,h2,h3,h4⟩:=nJ e;exact ⟨j,h1,h,h2,h3,h4⟩
theorem cu {α:Type} {xs:List α} {j:Nat} {v:α} (h:xs[j]?=some v):atI xs (j:Int)=some v:=by
 have hj:j<xs.length:=(Uh.mp h).1
 have e:ixN xs.length (j:Int)=some j:=by
  unfold ixN;rw [if_pos (by omega),if_pos (by omega)];simp
 unfold atI;rw [e];exact h
def u8 (b:Vs):Prop:=∀ o i,subscripted b false o i=operate [o,i] (Yi o i)
def IxR (X:Cx) (r:R2):Prop :=
 ∀ (value slice:Vs) (pins:List (Ud×Wu)) (s:Um) (σ:St) (H:Hp) (x y:V) (v u:Ug) (Q:VK),Inv X pins σ H s->RelV x v->RelV y u->r x y H Q →
   subscripted slice false v u=operate [v,u] (Yi v u)->Uy (UU X.prog X.w) X.A (subscriptTail value slice v u) (EP X pins σ Q) X.xe s
def MtR (X:Cx) (id:String) (r:V->List V->Hp->VK->Prop):Prop :=
 ∀ (pins:List (Ud×Wu)) (s:Um) (σ:St) (H:Hp) (x:V) (xs:List V) (v:Ug) (us:List Ug) (Q:VK),Inv X pins σ H s->RelV x v->Vals xs us->r x xs H Q →
   Uy (UU X.prog X.w) X.A (call (.builtin id) (v::us)) (EP X pins σ Q) X.xe s
section
variable {X:Cx} {a b:Vs} {ta tb:TE} {pos:Yd}
theorem ax {r:R2} (hr:IxR X r) (ha:PE X a ta) (hb:PE X b tb) (hs:u8 b):PE X (.Subscript a b pos) (tOp r ta tb):=by
 intro pins s σ H Q I h;exact Subscript_ (wR ha hb I h fun v u s2 x y H2 I2 rx ry q=>hr a b pins s2 σ H2 x y v u Q I2 rx ry q (hs _ _))
inductive vL (K:Ub) (x:V) (y:V) (H:Hp) (Q:VK):Prop
 | mk (p:_) (xs:_) (i:_) (v:_) (yL:x=.ref p) (yM:y=.int i) (yR:SqL K H p xs) (yY:atI xs i=some v) (zf:Q v H):vL K x y H Q
def wE (K:Ub):R2:=vL K
inductive vY (K:Ub) (x:V) (y:V) (H:Hp) (Q:VK):Prop
 | mk (p:_) (xs:_) (i:_) (v:_) (yL:x=.ref p) (yM:y=.int i) (yR:SqT K H p xs) (yY:atI xs i=some v) (zf:Q v H):vY K x y H Q
def sO (K:Ub):R2:=vY K
inductive vU (x:V) (y:V) (H:Hp) (Q:VK):Prop
 | mk (z:_) (i:_) (c:_) (yL:x=.str z) (yM:y=.int i) (yR:z.length<=Uz) (yY:atI z.cps.toList i=some c) (zf:Q (.str ⟨#[c]⟩) H):vU  x y H Q
def yd:R2:=vU
theorem aN:IxR X (wE X.K):=by
 intro value slice pins s σ H x y v u Q I rx ry h hs;obtain ⟨p,xs,i,z,rfl,rfl,hq,he,q⟩:=h;cases rx;obtain ⟨t,rfl⟩:=ry;obtain ⟨its,r,pl,hz⟩:=I.list hq;obtain ⟨j,h1,h2,h3,h4,h5⟩:=oo he;obtain ⟨w,ew,B5⟩:=r.get h2;have hl:=r.length;have hn:=fD;have fin:EP X pins σ Q w s:=⟨z,H,I,B5,q⟩;by_cases h0:0<=i
 · have hj:i.toNat=j:=by
    rw [seqIndex_of h0 h5] at h1;exact UQ h1
   exact item_listR pl.isList h0 (by omega) (by rw [hj];simpa using ew) fin hs
 · have hj:(i+(its.toArray.size:Int)).toNat=j:=by
    rw [seqIndex_neg (by omega) h4] at h1;rw [Uq,<- hl];exact UQ h1
   exact subscriptTail_builtinR (x:=w) pl.isList.typeIs slot_list_getitem.lookup
    (wpAny_getItem_list_neg (Q:=fun r s'=>r=w/\EP X pins σ Q r s') pl.isList (by omega) (by rw [Uq] <;> omega) (by omega) (by rw [hj];simpa using ew) ⟨rfl,fin⟩) hs
theorem aC:IxR X (sO X.K):=by
 intro value slice pins s σ H x y v u Q I rx ry h hs;obtain ⟨p,xs,i,z,rfl,rfl,hq,he,q⟩:=h;cases rx;obtain ⟨t,rfl⟩:=ry;obtain ⟨its,r,pl,hz⟩:=I.tuple hq;obtain ⟨j,h1,h2,h3,h4,h5⟩:=oo he;obtain ⟨w,ew,B5⟩:=r.get h2;have hl:=r.length;have hn:=fD;have fin:EP X pins σ Q w s:=⟨z,H,I,B5,q⟩
 exact subscriptTail_builtinR (x:=w) pl.typeIs slot_tuple_getitem.lookup
  (getItem_tuple (j:=j) (Q:=fun r s'=>r=w/\EP X pins σ Q r s') pl (by omega) (by omega) (by rw [Uq,<- hl];exact h1) (by simpa using ew) ⟨rfl,fin⟩) hs
theorem t5:IxR X yd:=by
 intro value slice pins s σ H x y v u Q I rx ry h hs;obtain ⟨z,i,c,rfl,rfl,hz,he,q⟩:=h;obtain ⟨t,rfl⟩:=rx;obtain ⟨t',rfl⟩:=ry;obtain ⟨j,h1,h2,h3,h4,h5⟩:=oo he;have hl:z.cps.toList.length=z.length:=by simp [Str.length]
 rw [hl] at h1 h4 h5;have hn:=fD
 exact tail_any (typeIs_str s z t) slot_str_getitem.lookup (getItem_str (c:=c) (by
  have e1:decide (i < -(2 ^ 63:Int))=false:=decide_eq_false (by omega);have e2:decide (i ≥ 2 ^ 63)=false:=decide_eq_false (by omega);rw [e1,e2,Zs]) (by rw [h1];simpa using h2) ⟨.str ⟨#[c]⟩,H,I.tok _,⟨_,rfl⟩,q⟩) hs
theorem qI (its:List Ug) (n j:Nat) (u:Ug):Vr (·.setIfInBounds j u) { cls:=.type "list",data:=.seq its.toArray n }={ cls:=.type "list",data:=.seq (its.set j u).toArray n }:=by
 simp [Vr]
theorem Inv.lst {pins:List (Ud×Wu)} {σ:St} {H:Hp} {s:Um} {p:Ud} {xs:List V} (I:Inv X pins σ H s) (h:H p=some (.lst xs)) :
 ∃ (its:List Ug) (n:Nat),Vals xs its/\s.heap.get? p=some { cls:=.type "list",data:=.seq its.toArray n }/\xs.length<=Uz:=by
 obtain ⟨z,its,n,r,e⟩:=I.hok p _ h;exact ⟨its,n,r,e,z⟩
theorem Inv.lstUpd {pins:List (Ud×Wu)} {σ:St} {H:Hp} {s:Um} {p:Ud} {xs ys:List V} {its its':List Ug} {n n':Nat} {f:Wu->Wu} (I:Inv X pins σ H s) (h:H p=some (.lst xs))
 (ho:s.heap.get? p=some { cls:=.type "list",data:=.seq its.toArray n }) (hf:f { cls:=.type "list",data:=.seq its.toArray n }={ cls:=.type "list",data:=.seq its'.toArray n' }) (r:Vals ys its') (hz:ys.length<=Uz) (t:Nat) :
 Inv X pins σ (upd H p (.lst ys)) { s with heap:=s.heap.update p f,toks:=t }:=by
 have e:(s.heap.update p f).get? p=some { cls:=.type "list",data:=.seq its'.toArray n' }:=by
  rw [U2 f ho (by rw [hf] <;> rfl),hf]
 refine I.write (x:=p) (e:=p) (by rw [h];trivial) (.inl rfl) (fun b u hb q=>(U7 _ _ (V7 hb)).trans q) ⟨_,e⟩ ?_;exact ⟨hz,its',n',r,e⟩
def w6:V->V->V->Hp->(Hp->Prop)->Prop:=fun o i v H Q=>∃ p xs k j,o=.ref p/\i=.int k/\H p=some (.lst xs)/\ixN xs.length k=some j/\Q (upd H p (.lst (xs.set j v)))
theorem set_list:xo X w6:=by
 intro pins s σ H o i v ov iv u Q I ro ri rv h;obtain ⟨p,xs,k,j,rfl,rfl,hp,hj,q⟩:=h;cases ro;obtain ⟨t,rfl⟩:=ri;obtain ⟨its,n,r,ho,hz⟩:=I.lst hp;obtain ⟨h1,h2,h3,h4⟩:=nJ hj;have hl:=r.length;have hn:=fD
 have I':Inv X pins σ (upd H p (.lst (xs.set j v))) { s with heap:=s.heap.update p (Vr (·.setIfInBounds j u)) } :=
  I.lstUpd hp ho (qI its n j u) (r.set rv j) (by rw [Y3];exact hz) s.toks
 by_cases h0:0<=k
 · have hk:k.toNat=j:=by
    rw [seqIndex_of h0 h4] at h1;exact UQ h1
   exact PySem.W.ki_setAt ho h0 (by omega) (by rw [Uq,<- hl];exact h4) (by rw [hk];exact ⟨_,I',q⟩)
 · have hk:(k+(its.toArray.size:Int)).toNat=j:=by
    rw [seqIndex_neg (by omega) h3] at h1;rw [Uq,<- hl];exact UQ h1
   exact PySem.W.ki_setBack ho (by omega) (by rw [Uq,<- hl];exact h3) (by omega) (by rw [hk];exact ⟨_,I',q⟩)
theorem nC (lo hi:Option Int) (n:Nat):(X9 lo hi none n).1=((HT.sIx n 0 lo:Nat):Int)/\(X9 lo hi none n).2.1=((HT.sIx n n hi:Nat):Int)/\(X9 lo hi none n).2.2=1:=by
 refine ⟨?_,?_,rfl⟩
 · cases lo with
   | none=>simp [X9,HT.sIx]
   | some i =>
     simp only [X9,HT.sIx,Option.getD_none,show (1:Int) > 0 by decide,if_true];by_cases h:i<0
     · simp only [h,if_true] <;> omega
     · simp only [h,if_false] <;> omega
 · cases hi with
   | none=>simp [X9,HT.sIx]
   | some i =>
     simp only [X9,HT.sIx,Option.getD_none,show (1:Int) > 0 by decide,if_true];by_cases h:i<0
     · simp only [h,if_true] <;> omega
     · simp only [h,if_false] <;> omega
theorem mz (its:List Ug) (lo hi:Option Int):slicePick its.toArray lo hi none=((its.drop (HT.sIx its.length 0 lo)).take (HT.sIx its.length its.length hi - HT.sIx its.length 0 lo)).toArray:=by
 obtain ⟨h1,h2,h3⟩:=nC lo hi its.toArray.size;unfold slicePick;rw [h1,h2,h3];simp only [sliceRange_one,pick_run,Uq] <;> rfl
inductive vZ (K:Ub) (x:V) (lo:Option Int) (hi:Option Int) (H:Hp) (Q:VK):Prop
 | mk (a:_) (xs:_) (yL:x=.ref a) (yM:SqL K H a xs) (yR:∀ p,H p=none->Q (.ref p) (upd H p (.lst (ef xs lo hi)))):vZ K x lo hi H Q
def ya (K:Ub):V->Option Int->Option Int->Hp->VK->Prop:=vZ K
theorem nA:SlR X (ya X.K):=by
 intro pins s σ H x v vl vu lo hi sl Q I rx hs pl pu h;obtain ⟨a,xs,rfl,hx,q⟩:=h;cases rx;obtain ⟨its,r,ht,hz⟩:=I.list hx;have hlen:=r.length;refine ⟨"list",_,slot_list_getitem.lookup,ht.isList.typeIs,?_⟩;refine wpAny_getItem_list_slice ht.isList hs pl pu .none (by simp) ?_ (by rw [Uq] <;> omega);rw [mz,<- hlen];refine ⟨.ref s.heap.objs.size,_,I.laid (t':=s.toks) (o:=.lst (ef xs lo hi)) (fun b ob q=>Uj _ q) (Ue _) ?_,rfl,q _ (I.hok.fresh (Ue _))⟩;exact ⟨V3 (jT xs lo hi) hz,_,0,(r.drop (HT.sIx xs.length 0 lo)).take (HT.sIx xs.length xs.length hi - HT.sIx xs.length 0 lo),Uu _ rfl⟩
inductive uM (K:Ub) (xs:List V) (H:Hp) (Q:VK):Prop
 | mk (p:Ud) (ys:List V) (yL:xs=[.ref p]) (yM:SqL K H p ys∨SqT K H p ys) (yR:Q (.int ys.length) H):uM K xs H Q
theorem ai:im X (.builtin "len") (uM X.K):=by
 intro pins s σ H xs us Q I r h;obtain ⟨p,ys,rfl,hq,q⟩:=h;obtain ⟨u,rfl,rx⟩:=vals1 r;cases rx;have hn:=fD;rcases hq with hq | hq
 · obtain ⟨its,r',pl,hz⟩:=I.list hq;have hlen:=r'.length;exact Calls.call_len_list pl.isList (by simp only [Uq] <;> omega) ⟨.int ys.length,H,I.tok _,⟨s.toks+1,by rw [Uq,hlen]⟩,q⟩
 · obtain ⟨its,r',pl,hz⟩:=I.tuple hq;have hlen:=r'.length;exact len_tuple pl (by simp only [Uq] <;> omega) ⟨.int ys.length,H,I.tok _,⟨s.toks+1,by rw [Uq,hlen]⟩,q⟩
theorem cH:im X (.type "tuple") (fun xs H Q=>∃ p ys,xs=[.ref p]/\((SqL X.K H p ys/\∀ l,H l=none->Q (.ref l) (upd H l (.tup ys)))∨(SqT X.K H p ys/\Q (.ref p) H))):=by
 intro pins s σ H xs us Q I r h;obtain ⟨p,ys,rfl,h⟩:=h;obtain ⟨u,rfl,rx⟩:=vals1 r;cases rx;rcases h with ⟨hq,q⟩ | ⟨hq,q⟩
 · obtain ⟨its,r',pl,hz⟩:=I.list hq;have hlen:=r'.length;refine call_tuple_list pl.isList (fun h' kp=>?_) (by simp only [Uq] <;> omega);have I1:Inv X pins σ H { s with heap:=h' }:=I.kept (t':=s.toks) kp
   have I2:Inv X pins σ (upd H h'.objs.size (.tup ys)) { s with heap:=h'.push { cls:=.type "tuple",data:=.seq its.toArray } } :=
    I1.laid (t':=s.toks) (fun b o e=>Uj _ e) (Ue _) (show ObjOk X.prog X.w _ _ _ (.tup ys) from ⟨hz,its,0,r',Uu _ rfl⟩)
   exact ⟨.ref h'.objs.size,_,I2,rfl,q _ (I1.hok.fresh (Ue _))⟩
 · obtain ⟨its,r',pl,hz⟩:=I.tuple hq;exact call_tuple_same pl ⟨.ref p,H,I,rfl,q⟩
def tyV (K:Ub) (T:String) (x:V) (H:Hp):Prop:=match x with
 | .str _=>T="str"
 | .int _=>T="int"
 | .ref p=>(T="list"/\∃ xs,SqL K H p xs)∨(T="tuple"/\∃ o,K.lookup p=some o/\o.cls=.type "tuple"/\o.dict=none) ∨
  (T="dict"/\((∃ f',H p=some (.dK f'))∨∃ f',H p=some (.dT f')))∨(T="set"/\∃ S n,H p=some (.set S n))
 | _=>False
theorem tV {pins:List (Ud×Wu)} {σ:St} {H:Hp} {s:Um} {T:String} {x:V} {v:Ug} (I:Inv X pins σ H s) (r:RelV x v) (ty:tyV X.K T x H) :
 s.TypeIs v T/\∀ a,v=.ref a->∃ ob,s.heap.get? a=some ob/\ob.dict=none:=by
 cases x with
 | str z =>
   obtain ⟨t,rfl⟩:=r;cases (show T="str" from ty);exact ⟨typeIs_str s z t,fun _ e=>nomatch e⟩
 | int i =>
   obtain ⟨t,rfl⟩:=r;cases (show T="int" from ty);exact ⟨typeIs_int s i t,fun _ e=>nomatch e⟩
 | ref p =>
   cases r;rcases ty with ⟨rfl,xs,hq⟩ | ⟨rfl,o,hk,hc,hd⟩ | ⟨rfl,hk⟩ | ⟨rfl,S,n,hk⟩
   · obtain ⟨its,_,pl,_⟩:=I.list hq;refine ⟨pl.isList.typeIs,fun a e=>?_⟩;cases e;obtain ⟨o,n,e,c,hd,_⟩:=pl;exact ⟨o,e,hd⟩
   · refine ⟨⟨o,I.kIn p o hk,hc⟩,fun a e=>?_⟩;cases e;exact ⟨o,I.kIn _ o hk,hd⟩
   · have z:∃ o,s.heap.get? p=some o/\o.ExactDict:=by
      rcases hk with ⟨f',hk⟩ | ⟨f',hk⟩
      · obtain ⟨_,_,_,_,o,_,_,e,ex,_⟩:=I.hok p _ hk;exact ⟨o,e,ex⟩
      · obtain ⟨_,_,_,_,o,_,_,e,ex,_⟩:=I.hok p _ hk;exact ⟨o,e,ex⟩
     obtain ⟨o,e,ex⟩:=z;refine ⟨⟨o,e,ex.1⟩,fun a e2=>?_⟩;cases e2;exact ⟨o,e,ex.2.1⟩
   · obtain ⟨o,_,_,_,e,ex,_⟩:=I.hok p _ hk;refine ⟨⟨o,e,ex.1⟩,fun a e2=>?_⟩;cases e2;exact ⟨o,e,ex.2.1⟩
 | _=>exact Xx ty
def xO (K:Ub) (T:String) (r:V->List V->Hp->VK->Prop) (to:TE):TE:=fun σ H Q=>to σ H fun x H1=>tyV K T x H1/\r x [] H1 Q
def tBM (K:Ub) (T:String) (r:V->List V->Hp->VK->Prop) (to:TE) (t:TA):TE:=fun σ H Q=>to σ H fun x H1=>tyV K T x H1/\t σ H1 fun xs H2=>r x xs H2 Q
variable {o e:Vs} {es:List Vs} {to:TE} {t:TA} {name:UP} {apos yP:Yd} {T id:String} {r:V->List V->Hp->VK->Prop}
theorem jN (pa:PlainAttrs T) (slot:Slot T name id) (Hm:typeOf (.builtin id)=pure (.type "method_descriptor")) (hm:MtR X id r) (ho:PE X o to)
 (A':attributeBase o name X.env (WE o X.env)=WE o X.env:=by rfl) (Ba:(apos.endLine == yP.line)=true:=by rfl):PE X (.Call (.Attribute o name apos) [] [] yP) (xO X.K T r to):=by
 intro pins s σ H Q I h;refine wpAny_Call_method0_late A' Ba (thn (ho pins s σ H _ I h) fun v s1 ⟨x,H1,I1,r1,ty,q1⟩=>?_);obtain ⟨h1,h2⟩:=tV I1 r1 ty;exact ⟨T,id,pa,slot,Hm,h1,h2,Xs rfl (PySem.evalArgs_none (hm pins s1 σ H1 x [] v [] Q I1 r1 .nil q1))⟩
theorem bL (pa:PlainAttrs T) (slot:Slot T name id) (Hm:typeOf (.builtin id)=pure (.type "method_descriptor")) (hm:MtR X id r) (ho:PE X o to) (ha:PA X (e::es) t)
 (A':attributeBase o name X.env (WE o X.env)=WE o X.env:=by rfl)
 (Ff:((Yl yP (Vi (e::es) X.env)).all (fun x=>!x.1) && (backToKw yP (keywordEach [] X.env)).all (fun x=>x.1.isSome)
  && decide ((e::es).length+([]:List Keyword).length+(if ([]:List Keyword).isEmpty then 0 else 1)<30))=true:=by rfl)
 (Ba:(apos.endLine == yP.line)=true:=by rfl) (hs:Vi (e::es) X.env=(false,WE e X.env)::Vi es X.env:=by rfl) (Bw:(Yl yP (Vi es X.env)).any (·.1)=false:=by rfl) :
 PE X (.Call (.Attribute o name apos) (e::es) [] yP) (tBM X.K T r to t):=by
 intro pins s σ H Q I h;refine wpAny_Call_method_late A' Ff Ba rfl (thn (ho pins s σ H _ I h) fun v s1 ⟨x,H1,I1,r1,ty,q1⟩=>?_);obtain ⟨h1,h2⟩:=tV I1 r1 ty;refine ⟨T,id,pa,slot,Hm,h1,h2,?_⟩;have hA:=ha yP pins s1 σ H1 _ I1 q1;rw [hs] at hA ⊢;refine Xs (by show (false || (Yl yP (Vi es X.env)).any (·.1))=false;rw [Bw] <;> rfl) (Yz ?_);exact thn hA fun us s2 ⟨vs,H2,I2,r2,q2⟩=>hm pins s2 σ H2 x vs v us Q I2 r1 r2 q2
end
end L2
namespace L2
open PySem PySem.Spec PyProof.Rows
def MtM (X:Cx) (id:String) (r:V->List V->Hp->VK->Prop):Prop :=
 ∀ (pins:List (Ud×Wu)) (s:Um) (σ:St) (H:Hp) (x:V) (xs:List V) (v:Ug) (us:List Ug) (Q:VK),Inv X pins σ H s->RelV x v->Vals xs us->r x xs H Q →
   Uy (UU X.prog X.w) X.A (call (.builtin id) (v::us)) (EP X pins σ Q) X.xe s
theorem Vals.one:∀ {x:V} {us:List Ug},Vals [x] us->∃ u,us=[u]/\RelV x u
 | _,_,.cons r .nil=>⟨_,rfl,r⟩
theorem Vals.zero:∀ {us:List Ug},Vals [] us->us=[]
 | _,.nil=>rfl
theorem Vals.dropLast {xs:List V} {us:List Ug} (h:Vals xs us):Vals xs.dropLast us.dropLast:=by
 induction h with
 | nil=>exact .nil
 | cons r t ih =>
   cases t with
   | nil=>exact .nil
   | cons q t'=>exact .cons r ih
theorem Vals.reverse {xs:List V} {us:List Ug} (h:Vals xs us):Vals xs.reverse us.reverse:=by
 induction h with
 | nil=>exact .nil
 | cons r t ih=>rw [Vn,Vn];exact Vals.append ih (.cons r .nil)
theorem qR {α:Type} (l:List α):l.eraseIdx (l.length - 1)=l.dropLast:=by
 induction l with
 | nil=>rfl
 | cons a r ih =>
   cases r with
   | nil=>rfl
   | cons b r =>
     have e:(a::b::r).length - 1=((b::r).length - 1)+1:=by
      have h1:(a::b::r).length=r.length+2:=rfl;have h2:(b::r).length=r.length+1:=rfl;omega
     rw [e,List.eraseIdx_cons_succ,ih]
     all_goals rfl
section
variable {X:Cx} {pins:List (Ud×Wu)} {σ:St} {H:Hp} {s:Um} {l b:Ud} {xs ys zs:List V}
theorem Inv.lset {its its':List Ug} {n:Nat} {f:Array Ug->Array Ug} {t':Nat} (I:Inv X pins σ H s) (hH:H l=some (.lst xs))
 (e:s.heap.get? l=some { cls:=.type "list",data:=.seq its.toArray n }) (hf:f its.toArray=its'.toArray) (hv:Vals ys its') (hz:ys.length<=Uz) :
 Inv X pins σ (upd H l (.lst ys)) { s with heap:=s.heap.update l (Vr f),toks:=t' }:=by
 have q:=PySem.IsL.update e f;rw [hf] at q;refine I.write (x:=l) (e:=l) (by rw [hH];exact trivial) (.inl rfl) (fun b' u hb hu=>(U7 s.heap (Vr f) (V7 hb)).trans hu) ⟨_,q⟩ ?_;exact ⟨hz,its',_,hv,q⟩
theorem Inv.lnew {its:List Ug} {t':Nat} (I:Inv X pins σ H s) (hv:Vals ys its) (hz:ys.length<=Uz) :
 Inv X pins σ (upd H s.heap.objs.size (.lst ys)) { s with heap:=s.heap.push { cls:=.type "list",data:=.seq its.toArray },toks:=t' } :=
 I.laid (fun _ _ q=>Uj _ q) (Ue _) ⟨hz,its,0,hv,Uu _ rfl⟩
theorem Inv.fresh (I:Inv X pins σ H s):H s.heap.objs.size=none:=I.hok.fresh (Ue _)
theorem Inv.lstM (I:Inv X pins σ H s) (hH:H l=some (.lst xs)):xs.length<=Uz/\∃ (its:List Ug) (n:Nat),Vals xs its/\xs.length=its.length/\s.heap.get? l=some { cls:=.type "list",data:=.seq its.toArray n }:=by
 obtain ⟨z,its,n,r,e⟩:=I.hok l _ hH;exact ⟨z,its,n,r,r.length,e⟩
theorem lV {n:Nat} (h:n<=Uz):WA n=false:=by
 unfold WA;exact decide_eq_false (by omega)
end
section
variable {X:Cx}
inductive oT (x:V) (vs:List V) (H:Hp) (Q:VK):Prop
 | mk (l:_) (xs:_) (y:_) (yL:x=.ref l) (yM:vs=[y]) (yR:H l=some (.lst xs)) (yY:xs.length<Uz) (zf:Q .non (upd H l (.lst (xs++[y])))):oT  x vs H Q
def qU:V->List V->Hp->VK->Prop:=oT
theorem aP:MtM X "list.append" qU:=by
 intro pins s σ H x vs v us Q I rx rv h;obtain ⟨l,xs,y,rfl,rfl,hH,hz,q⟩:=h;cases rx;obtain ⟨u,rfl,ru⟩:=rv.one;obtain ⟨z,its,n,r,hl,e⟩:=I.lstM hH;refine YN F.slot_list_append ⟨_,e,rfl⟩ F.entry_list_append (F.args_list_append_2 _ _) (PySem.list_append l its.toArray n u (by rw [Uq];omega)) ⟨e,?_⟩;refine ⟨.non,_,I.lset (its':=its++[u]) hH e (by simp) (r.append (.cons ru .nil)) ?_,rfl,q⟩;rw [UA,List.length_singleton];omega
inductive pP (x:V) (vs:List V) (H:Hp) (Q:VK):Prop
 | mk (l:_) (b:_) (xs:_) (zs:_) (yL:x=.ref l) (yM:vs=[.ref b]) (yR:H l=some (.lst xs)) (yY:H b=some (.lst zs)) (zf:xs.length+zs.length<=Uz) (zY:Q .non (upd H l (.lst (xs++zs)))):pP  x vs H Q
def vc:V->List V->Hp->VK->Prop:=pP
theorem g9:MtM X "list.extend" vc:=by
 intro pins s σ H x vs v us Q I rx rv h;obtain ⟨l,b,xs,zs,rfl,rfl,hH,hB,hz,q⟩:=h;cases rx;obtain ⟨u,rfl,ru⟩:=rv.one;cases ru;obtain ⟨z,its,n,r,hl,e⟩:=I.lstM hH;obtain ⟨z2,yF,n2,r2,zw,e2⟩:=I.lstM hB;have hsz:its.toArray.size+yF.toArray.size<=Uz:=by rw [Uq,Uq];omega
 have CO:¬ (!its.toArray.isEmpty && WA (its.toArray.size+yF.toArray.size))=true:=by
  rw [lV hsz,YA];exact UD
 refine YN F.slot_list_extend ⟨_,e,rfl⟩ F.entry_list_extend (F.args_list_extend_2 _ _)
  (AutoSeq1.list_extend_list_list_0 l its.toArray n b yF.toArray n2 CO (by rw [Uq];omega) (by omega)) ⟨e,e2,?_⟩
 refine ⟨.non,_,I.lset (its':=its++yF) hH e (by simp) (r.append r2) ?_,rfl,q⟩;rw [UA];omega
inductive vQ (x:V) (vs:List V) (H:Hp) (Q:VK):Prop
 | mk (l:_) (xs:_) (y:_) (yL:x=.ref l) (yM:vs=[]) (yR:H l=some (.lst xs)) (yY:xs[xs.length - 1]?=some y) (zf:Q y (upd H l (.lst xs.dropLast))):vQ  x vs H Q
def xm:V->List V->Hp->VK->Prop:=vQ
theorem jF:MtM X "list.pop" xm:=by
 intro pins s σ H x vs v us Q I rx rv h;obtain ⟨l,xs,y,rfl,rfl,hH,hy,q⟩:=h;cases rx;have Hn:=rv.zero;subst Hn;obtain ⟨z,its,n,r,hl,e⟩:=I.lstM hH;obtain ⟨u,hu,ru⟩:=r.get hy
 have Bx:its.toArray[its.toArray.size - 1]?=some u:=by
  show its.toArray[its.length - 1]?=some u;rw [<- Xo,<- hl];exact hu
 refine YN F.slot_list_pop ⟨_,e,rfl⟩ F.entry_list_pop (F.args_list_pop_1 _) (MeetsSeq.list_pop_last l its.toArray n u Bx (by rw [Uq];omega)) ⟨e,?_⟩;refine ⟨y,_,I.lset (its':=its.dropLast) hH e ?_ r.dropLast ?_,ru,q⟩
 · show its.toArray.eraseIdxIfInBounds (its.toArray.size - 1)=its.dropLast.toArray;rw [Uq,List.eraseIdxIfInBounds_toArray,qR]
 · rw [List.length_dropLast];omega
inductive vS (x:V) (y:V) (H:Hp) (Q:VK):Prop
 | mk (l:_) (b:_) (xs:_) (zs:_) (yL:x=.ref l) (yM:y=.ref b) (yR:H l=some (.lst xs)) (yY:H b=some (.lst zs)) (zf:xs.length+zs.length<=Uz) (zY:∀ p,H p=none->Q (.ref p) (upd H p (.lst (xs++zs)))):vS  x y H Q
def xX:R2:=vS
theorem uG:OpR X (X3 .Add) xX:=by
 intro pins s σ H x y v u Q I rx ry h;obtain ⟨l,b,xs,zs,rfl,rfl,hH,hB,hz,q⟩:=h;cases rx;cases ry;obtain ⟨z,its,n,r,hl,e⟩:=I.lstM hH;obtain ⟨z2,yF,n2,r2,zw,e2⟩:=I.lstM hB;refine PySem.P.add_list e e2 ?_ (by rw [Uq,Uq];omega);have ea:its.toArray++yF.toArray=(its++yF).toArray:=by simp
 rw [ea];exact ⟨.ref _,_,I.lnew (t':=s.toks) (r.append r2) (by rw [UA];omega),rfl,q _ I.fresh⟩
end
section
variable {prog:Uv} {w:UK} {A:U5} {E:Ug->Um->Prop} {s:Um}
end
section
variable {X:Cx}
end
end L2
namespace Att
open PySem PySem.W PySem.Calls PyProof.Rows
theorem ints_of_wellAll {P:Params} {h:Vy}:∀ (ns:List Int) (vs:List Ug),WellAll P h vs (ns.map WData.int)->IntsAre vs ns:=by
 intro ns;induction ns with
 | nil =>
   intro vs w;rw [Wv] at w;cases w;exact .nil
 | cons n ns ih =>
   intro vs w;rw [Vd] at w;cases w with
   | cons a b =>
     cases a;exact .cons _ _ (ih _ b)
theorem script_of {l:OpenLaw} {n:Nat} (hn:l.most=some n) {P:Params} {h:Vy} {args:List WData} {vals:List Ug}
 (DO:l.row.toRowW.claim.pre args=true) (By:WellAll P h vals args) :
 ∃ a vs ns,vals=[US a]/\args=[WData.list (ns.map WData.int)]/\h.get? a=some { cls:=.type "list",data:=.seq vs.toArray }/\IntsAre vs ns/\ns.length<=n:=by
 have P9:WShape.hasAll [] args [.list .int]=true:=(pre_splitW DO).1;have hc:l.pre.holds [] { args:=args }=true:=(pre_splitW DO).2;obtain ⟨d,r,rfl,h1,h2⟩:=hasAllW_cons P9;obtain rfl:=hasAllW_nil h2;obtain ⟨xs,rfl,h3⟩:=hasW_list h1;obtain ⟨ns,rfl⟩:=items_int h3
 have hlen:ns.length<=n:=by
  unfold OpenLaw.pre at hc
  have h4:(WTm.not (.lt (.lit (.int (n:Int))) (.len (.arg 0)))).holds [] { args:=[.list (ns.map .int)] }=true:=by
   have h4:=(holds_andW hc).1;rw [hn] at h4;exact h4
  have h5:=condW_of h4 (w_not (w_lt w_lit (w_len_list (w_arg rfl))));rw [T8] at h5;refine Nat.le_of_not_lt fun q=>?_;have q':(n:Int)<((ns.length:Nat):Int):=by omega
  first
   | (rw [decide_eq_true q'] at h5;exact absurd h5 (by decide))
   | (simp at h5;omega)
 cases By with
 | cons w1 w2 =>
   cases w2;cases w1 with
   | list ho yG=>exact ⟨_,_,ns,rfl,rfl,ho,ints_of_wellAll ns _ yG,hlen⟩
theorem post_true (l:OpenLaw) (args:List WData):l.row.toRowW.claim.post args (.bool true) args=true :=
 postW_of (r:=l.row.toRowW) (X:=(true == true))
  (show WShape.has [] (.bool true) .bool=true by first | rfl | decide | simp [WShape.has,WShape.arms,WShape.armsAll])
  (show (WTm.eq .res (.lit (.bool true))).value [] { args:=args,res:=some (.bool true),after:=args }=some (.bool (true == true)) from w_eq_bool (w_res rfl) w_lit) rfl
theorem attach_call {l:OpenLaw} {n:Nat} {q:Uv} {loose:List UP} {XP:(UP->Option Ug)->Vy->Prop} {YP:UK->Vy->Prop} {d:DefRec}
 (hn:l.most=some n) (hdf:d.params.defaults=[])
 (call:∀ (w:UK) (s₀ yB:Um) (mg mb:UP->Option Ug) (fa:Ud) (o:Wu) (pm cd doc:Ug) (a:Ud) (vs:List Ug) (ns:List Int),
  Ground q loose [] XP w s₀ mg mb yB.heap->YP w yB.heap →
  yB.heap.get? fa=some o->o.data=.func (docDef d.name d.params d.body d.scope pm cd doc)->yB.heap.CodeRec cd d.name->mg d.name=some (.ref fa) →
  yB.heap.get? a=some { cls:=.type "list",data:=.seq vs.toArray }->IntsAre vs ns->ns.length<=n->yB.gens=#[] →
  Yk (UU l.prog w) callerA (.call (.ref fa) ⟨[.ref a],[]⟩) (fun r s'=>r=.ok (.ret (.bool true))/\OldK yB.heap s'.heap/\s'.os=yB.os/\AllBare s'.gens) yB) :
 WalkO q loose XP YP l.row.toRowW d [] (fun f vs=>PySem.call f vs):=by
 intro w s₀ yB mg mb G Y fa o pm cd doc dV kV ho hd CK hD Ho hg args vals as DO P' N4 By Qa;obtain rfl:dV=.none:=Dflts.none hD hdf;obtain rfl:kV=.none:=Dflts.noKw hD;obtain ⟨a,vs,ns,rfl,rfl,Fg,hints,hlen⟩:=script_of hn DO By;refine enter_call (codeAny_mono (call w s₀ yB mg mb fa o pm cd doc a vs ns G Y ho (fd_plain hd) CK Ho Fg hints hlen hg) fun r s' hq=>?_);obtain ⟨rfl,h2,h3,h4⟩:=hq;exact ⟨.inl ⟨.bool true,.bool true,[],rfl,fun _=>rfl,.bool true,post_true l _,fun _=>⟨List.Pairwise.nil,fun _ hm=>(nomatch hm)⟩⟩,h2,h3,h4⟩
section
variable {prog:Uv} {w:UK} {A:U5} {E:Ug->Um->Prop} {s:Um} {K:Frag}
end
end Att
namespace L2
open PySem PySem.Spec PyProof.Rows
theorem mO:∀ {vs:List Ug} {ns:List Int},IntsAre vs ns->Vals (ns.map V.int) vs
 | _,_,.nil=>.nil
 | _,_,.cons n t h=>.cons ⟨t,rfl⟩ (mO h)
def wH (H:Hp):Prop:=∀ b,H b=none∨∃ o xs,H b=some (.frz o (.lst xs))
theorem uQ {P:Uv} {w:UK} {K:Ub} {mg mb:UP->Option Ug} {CX:CXT} {k:Nat} {fa a:Ud} {fd:Xw} {x:UP} {sp:Sp} {yB:Um} {vs:List Ug} {ns:List Int}
 (KX:K.In yB.heap) (Dy:yB.heap.Ns U3 mg) (hb:yB.heap.Ns builtinsNs mb) (Qb:∀ x:UP,x≠"__name__"->mb x=YG x) (KS:yB.heap.NoLimit) (hg:yB.gens=#[])
 (ha:yB.heap.get? a=some { cls:=.type "list",data:=.seq vs.toArray }) (hi:IntsAre vs ns) (hl:ns.length<=Uz) (hr:Room k callerA)
 (F:∀ base:Vy,K.In base->base.Ns U3 mg->bf P w K mg base CX k fa fd [x] sp) (Hq:∀ (s:Um) (u:Ug),BindsTo s fd ⟨[u],[]⟩ [(x,u)])
 (Es:∀ H:Hp,wH H->SqL K H a (ns.map V.int)->sp [.ref a] H (fun v _=>v=.bl true) fun _ _ _=>False)
 (KU:∀ H e s',CX [] H yB (fun _ _ _=>False) e s'->False) :
 Yk (UU P w) callerA (.call (.ref fa) ⟨[.ref a],[]⟩) (fun r s'=>r=.ok (.ret (.bool true))/\OldK yB.heap s'.heap/\s'.os=yB.os/\AllBare s'.gens) yB:=by
 have rv:=mO hi;have KW:=hi.length
 -- from an abstract heap in N5 nothing but Bm script may be tracked
 have core:∀ H:Hp,wH H->SqL K H a (ns.map V.int)->HOk P w H yB.heap->(∀ b,H b≠none->b=a)->(H a≠none->K.lookup a=none) →
  Yk (UU P w) callerA (.call (.ref fa) ⟨[.ref a],[]⟩) (fun r s'=>r=.ok (.ret (.bool true))/\OldK yB.heap s'.heap/\s'.os=yB.os/\AllBare s'.gens) yB:=by
  intro H hO hS hok hA hK;have BV:∀ {b:Ud} {o:Wu},yB.heap.get? b=some o->H b=none->(ol yB.heap H).get? b=some o:=fun e n=>tY e n
  have Hf:∀ {b:Ud} {o:Wu} {es:Array DictEntry} {ep:Nat},yB.heap.get? b=some o->o.data=.dict es ep->H b=none:=fun {b o es ep} e d=>by
   cases q:H b with
   | none=>rfl
   | some u =>
     have e':b=a:=hA b (by rw [q];simp);subst e';rw [ha] at e;cases e;have d':Data.seq vs.toArray _=Data.dict es ep:=d;cases d'
  have J0:∀ {b:Ud} {m:UP->Option Ug},yB.heap.Ns b m->(ol yB.heap H).Ns b m:=fun {b m} ⟨o,es,ep,e,d,r⟩=>⟨o,es,ep,BV e (Hf e d),d,r⟩
  have N6:K.In (ol yB.heap H):=fun b o e=>BV (KX b o e) (by
   cases q:H b with
   | none=>rfl
   | some u =>
     have e':b=a:=hA b (by rw [q];simp);subst e';rw [hK (by rw [q];simp)] at e;cases e)
  have hM:Mod K mg (ol yB.heap H):=⟨N6,J0 Dy,⟨mb,J0 hb,Qb⟩,let ⟨mc,h1,h2⟩:=KS;⟨mc,J0 h1,h2⟩⟩;have e0:vB P w K mg (ol yB.heap H) callerA [] yB H:=⟨rfl,hM,fun b o e=>vq e,ZG (tF _ _),trivial,fun b hb=>absurd (show b∈([]:List Ud) from hb) (by simp),hok,.of_eq hg⟩;refine codeAny_mono ((F _ N6 (J0 Dy)).run callerA [] yB H ⟨[.ref a],[]⟩ [.ref a] [.ref a] _ _ hr e0 (Hq yB (.ref a)) (.cons rfl .nil) (Es H hO hS)) fun r s' h=>?_;cases r with
  | error e=>exact (KU H e s' h).elim
  | ok fl =>
    cases fl with
    | next=>exact Xx h
    | brk=>exact Xx h
    | cont=>exact Xx h
    | ret u =>
      obtain ⟨v,H',os,bare,un,KY,r',q⟩:=h;have q':v=.bl true:=q;subst q';obtain rfl:u=Value.bool true:=r';refine ⟨rfl,OldK.of_keep fun b o e=>?_,os,bare⟩;cases q:H b with
      | none=>exact un.keep b o e q (by intro z;exact absurd (show b∈([]:List Ud) from z) (by simp)) (by simp)
      | some u =>
        rcases hO b with z | ⟨ob,xs,z⟩
        · rw [q] at z;cases z
        · have z2:=un.frzs b ob _ z;obtain ⟨e1,_⟩:=hok b _ z;obtain ⟨e2,_⟩:=KY b _ z2;rw [e] at e1;cases e1;exact e2
 cases hk:K.lookup a with
 | some o =>
   -- Bm script is one of Bm Hr own objects
   have e:=KX a o hk;rw [ha] at e;cases e;refine core (fun _=>none) (fun _=>.inl rfl) (.inr ⟨_,vs.toArray,_,hk,rfl,rfl,rfl,by rw [Uq,KW];exact hl,by simpa using rv⟩) (fun b u z=>by have z':(none:Option HO)=some u:=z;cases z') (fun b z=>absurd rfl z) fun z=>absurd rfl z
 | none =>
   refine core (fun b=>if b=a then some (.frz { cls:=.type "list",data:=.seq vs.toArray } (.lst (ns.map V.int))) else none) (fun b=>?_) (.inl (.inr ⟨{ cls:=.type "list",data:=.seq vs.toArray },if_pos rfl⟩)) (fun b u z=>?_) (fun b z=>?_) fun _=>hk
   · by_cases hb:b=a
     · exact .inr ⟨_,_,if_pos hb⟩
     · exact .inl (if_neg hb)
   · by_cases hb:b=a
     · have z':=(if_pos hb).symm.trans z;cases z';subst hb;exact ⟨ha,by rw [T8];exact hl,vs,_,rv,ha⟩
     · have z':=(if_neg hb).symm.trans z;cases z'
   · by_cases hb:b=a
     · exact hb
     · exact absurd (if_neg hb) z
end L2
namespace L2
open PySem PySem.Spec PyProof.Rows
theorem u4 {l:PySem.W.OpenLaw} {n k:Nat} {q:Uv} {loose:List UP} {XP:(UP->Option Ug)->Vy->Prop} {YP:UK->Vy->Prop} {d:DefRec} {K:Params->Ub} {CX:UK->CXT} {sp:UK->Sp} {x:UP}
 (hn:l.most=some n) (N7:n<=Uz) (hdf:d.params.defaults=[]) (hr:Room k callerA)
 (hY:∀ (w:UK) (h:Vy),YP w h->(K w.params).In h)
 (F:∀ (w:UK) (mg:UP->Option Ug) (fa:Ud) (h:Vy),(K w.params).In h->h.Ns U3 mg->mg d.name=some (.ref fa) →
  ∃ fd:Xw,(∀ (s:Um) (u:Ug),BindsTo s fd ⟨[u],[]⟩ [(x,u)]) ∧
    ∀ base:Vy,(K w.params).In base->base.Ns U3 mg->bf l.prog w (K w.params) mg base (CX w) k fa fd [x] (sp w))
 (Es:∀ (w:UK) (H:Hp) (a:Ud) (ns:List Int),ns.length<=n->wH H->SqL (K w.params) H a (ns.map V.int)->sp w [.ref a] H (fun v _=>v=.bl true) fun _ _ _=>False)
 (KU:∀ (w:UK) (H:Hp) (s:Um) (e:Ug) (s':Um),CX w [] H s (fun _ _ _=>False) e s'->False) :
 PySem.W.WalkO q loose XP YP l.row.toRowW d [] (fun f vs=>PySem.call f vs):=by
 refine Att.attach_call hn hdf fun w s₀ yB mg mb fa o pm cd doc a vs ns G Y ho hd CK Ho Fg hints hlen hg=>?_;have KX:=hY w _ Y;obtain ⟨fd,hb,hF⟩:=F w mg fa _ KX G.T.g Ho;exact uQ KX G.T.g G.T.b G.T.builtins G.T.nolimit hg Fg hints (V3 hlen N7) hr hF hb (fun H hO hS=>Es w H a ns hlen hO hS) fun H e s'=>KU w H yB e s'
end L2
namespace L2
open PySem PySem.Spec PyProof.Rows
def cr (s:V8):Arguments:=match s with
 | .FunctionDef _ a _ _ _ _ _ _ _ _=>a
 | _=>{ posonlyargs:=[],args:=[],vararg:=none,kwonlyargs:=[],kw_defaults:=[],kwarg:=none,defaults:=[] }
def cg (s:V8):List V8:=match s with
 | .FunctionDef _ _ b _ _ _ _ _ _ _=>b
 | _=>[]
def ao (s:V8):Yc:=match s with
 | .FunctionDef _ _ _ _ _ _ sc _ _ _=>sc
 | _=>{ kind:=.function,names:=[],isGenerator:=false,isCoroutine:=false }
abbrev CX0:CXT:=fun _ _ _ _ _ _=>False
abbrev E0:XK:=fun _ _ _=>False
theorem j6 {X:Cx}:Passes CX0 X E0:=fun _ _ _ _ _ _ _ h=>h.elim
structure Fun (K:Ub) (x qual:UP) (st:V8) (f:Ud) (fd:Xw):Prop where
 ex:∃ (oc:Ug) (od:Option Ud) (kV doc pm:Ug) (an:Option Ud) (yJ ct:Ug) (Er:Array (Option Ug)),
  fd=XB x qual (cr st) (cg st) (ao st) .none kV doc pm an yJ ct/\K.lookup f=some ⟨oc,od,.func fd,Er⟩/\Zb K yJ qual=true
 kp:Za K (.ref f)=true
section
variable {P:Uv} {w:UK} {K:Ub} {mg:UP->Option Ug} {base:Vy}
theorem Fun.ok {x qual:UP} {st:V8} {f:Ud} {fd:Xw} {N ps:List UP} {k:Nat} {sp:Sp} (F:Fun K x qual st f fd) (S:aB N ps (ao st)) (len:∀ vs H Q E,sp vs H Q E->vs.length=ps.length)
 (CN:∀ (yJ:Ug) (A:U5) (outer:List Env) (s:Um) (H:Hp) (vs:List V) (Q:VK) (E:XK),Room k (A.deeper (envOfC qual (ao st) s.heap.objs.size f yJ))->sp vs H Q E →
  ∃ t,PSs (sQ CX0 P w K mg base N qual (ao st) f yJ A outer s H E).nox (cg st) t/\t { nx:=fun _ H'=>Q .non H',rt:=Q } (start N vs) H):bf P w K mg base CX0 (k+1) f fd ps sp:=by
 obtain ⟨oc,od,kV,doc,pm,an,yJ,ct,Er,rfl,lk,CK⟩:=F.ex;refine xg lk CK S len fun A outer s H vs Q E hr Es=>?_;obtain ⟨t,h,q⟩:=CN yJ A outer s H vs Q E hr Es;exact ⟨t,h.nox,q⟩
theorem Fun.binds {x qual:UP} {st:V8} {f:Ud} {fd:Xw} {ps:List UP} (F:Fun K x qual st f fd)
 (h:∀ (kV doc pm:Ug) (an:Option Ud) (yJ ct:Ug) (us:List Ug),us.length=ps.length->bindArgs (XB x qual (cr st) (cg st) (ao st) .none kV doc pm an yJ ct) ⟨us,[]⟩=pure (ps.zip us)):Binds K fd ps []:=by
 obtain ⟨oc,od,kV,doc,pm,an,yJ,ct,Er,rfl,lk,CK⟩:=F.ex;exact .all (h kV doc pm an yJ ct)
theorem fQ {x qual:UP} {st:V8} {f:Ud} {oc:Ug} {od an:Option Ud} {Er:Array (Option Ug)} {kV doc pm yJ ct:Ug} (l:K.lookup f=some ⟨oc,od,.func (XB x qual (cr st) (cg st) (ao st) .none kV doc pm an yJ ct),Er⟩)
 (c:Zb K yJ qual=true) (k:Za K (.ref f)=true):Fun K x qual st f (XB x qual (cr st) (cg st) (ao st) .none kV doc pm an yJ ct):=⟨⟨oc,od,kV,doc,pm,an,yJ,ct,Er,rfl,l,c⟩,k⟩
end
theorem nw {A:U5} {k:Nat} (hr:Room k A):A.units+1<V1:=Yv (Nat.add_le_add_left (by decide:1<=64) _) hr.units
section
variable {X:Cx}
theorem pv (i:Nat) {x:UP} {pos:Yd} (hN:X.N[i]?=some x:=by rfl) (hv:Vis X.env.scope x:=by first | exact Ux rfl | exact Yt (Ux rfl) | exact Yt (Yt rfl)) (hd:(x == ("__debug__":UP))=false:=by decide)
 (CK:(x == ("__classdict__":UP))=false:=by decide):PE X (.Name x pos) (bx i):=wC hN hv hd CK
end
theorem cI {A B:Prop} (h:B):if false=true then A else B:=by
 rw [if_neg UD];exact h
theorem pS {A B:Prop} (h:A):if true=true then A else B:=by
 rw [if_pos rfl];exact h
theorem cB {c A B:Prop} [Decidable c] (h1:c->A) (h2:¬ c->B):if c then A else B:=by
 by_cases h:c
 · rw [if_pos h];exact h1 h
 · rw [if_neg h];exact h2 h
def Same (H H':Hp):Prop:=∀ b o,H b=some o->H' b=some o
theorem Same.refl (H:Hp):Same H H:=fun _ _ h=>h
theorem Same.trans {H H1 H2:Hp} (a:Same H H1) (b:Same H1 H2):Same H H2:=fun c o h=>b c o (a c o h)
theorem Same.free {H H':Hp} (e:Same H H') {l:Ud} (h:H' l=Option.none):H l=Option.none:=by
 cases q:H l with
 | none=>rfl
 | some o =>
   rw [e l o q] at h;cases h
theorem Same.seq {K:Ub} {H H':Hp} {a:Ud} {xs:List V} (e:Same H H') (h:SqL K H a xs):SqL K H' a xs:=by
 rcases h with (h | ⟨o,h⟩) | h
 · exact .inl (.inl (e _ _ h))
 · exact .inl (.inr ⟨o,e _ _ h⟩)
 · exact .inr h
end L2
namespace L2
open PySem PySem.Spec PyProof.Rows
theorem iO (env:Env):∀ (ns:List (UP×WN)) (acc:List (UP×Ud)),(∀ n,(n,VF)∈ns->∃ c,env.cells.lookup n=some c) →
 (∀ x c,acc.lookup x=some c->env.cells.lookup x=some c) →
 ∃ cl,(forIn ns acc fun (x:UP×WN) (cs:List (UP×Ud))=>(if (x.2 == VF)=true then (do let a ← cellOf env x.1;pure (W3 ((x.1,a)::cs))) else pure (W3 cs):Sem _))=pure cl ∧
   (∀ x c,cl.lookup x=some c->env.cells.lookup x=some c)/\(∀ n,(n,VF)∈ns->∃ c,cl.lookup n=some c)/\∀ n c,acc.lookup n=some c->cl.lookup n=some c
 | [],acc,_,ha=>⟨acc,rfl,ha,fun _ h=>by simp at h,fun _ _ h=>h⟩
 | (n,k)::r,acc,hf,ha=>by
   by_cases hk:k=VF
   · subst hk;obtain ⟨c,hc⟩:=hf n UM
     have B6:∀ x c',((n,c)::acc).lookup x=some c'->env.cells.lookup x=some c':=fun x c' e=>by
      rw [WK] at e;cases hx:x == n with
      | true =>
        rw [hx] at e;have e1:x=n:=by simpa using hx
        cases e;rw [e1];exact hc
      | false=>rw [hx] at e;exact ha x c' e
     obtain ⟨cl,h1,h2,h3,h4⟩:=iO env r ((n,c)::acc) (fun m hm=>hf m (UG _ hm)) B6;have up:∀ m c',((n,c)::acc).lookup m=some c'->cl.lookup m=some c':=h4;refine ⟨cl,?_,h2,?_,?_⟩
     · rw [XY];have e0:cellOf env n=pure c:=by unfold cellOf;rw [hc]
       simp only [beq_self_eq_true,if_true,e0,pure_bind];exact h1
     · intro m hm;rcases UB.mp hm with e | e
       · have:m=n:=by simpa using (Prod.mk.inj e).1
         subst this;exact ⟨c,up m c (by rw [WK];simp)⟩
       · exact h3 m e
     · intro m c' e;by_cases hm:m=n
       · subst hm;have:=ha m c' e;rw [hc] at this;cases this;exact up m c (by rw [WK];simp)
       · have J1:(m == n)=false:=by simpa using hm
         exact up m c' (by rw [WK,J1];exact e)
   · have hb:(k == VF)=false:=by simpa using hk
     obtain ⟨cl,h1,h2,h3,h4⟩:=iO env r acc (fun m hm=>hf m (UG _ hm)) ha;refine ⟨cl,?_,h2,?_,h4⟩
     · rw [XY];simp only [hb,Vv,if_false,pure_bind];exact h1
     · intro m hm;rcases UB.mp hm with e | e
       · exact absurd (Prod.mk.inj e).2.symm hk
       · exact h3 m e
theorem lZ {env:Env} {sc:Yc} (hf:∀ n,(n,VF)∈sc.names->∃ c,env.cells.lookup n=some c) :
 ∃ cl,closureFor sc env=pure cl/\(∀ x c,cl.lookup x=some c->env.cells.lookup x=some c)/\∀ n,(n,VF)∈sc.names->∃ c,cl.lookup n=some c:=by
 obtain ⟨cl,h1,h2,h3,_⟩:=iO env sc.names [] hf (fun x c e=>by simp at e);refine ⟨cl,?_,h2,h3⟩;unfold closureFor;have e:(forIn sc.names ([]:List (UP×Ud)) fun (x:UP×WN) (cs:List (UP×Ud))=>(do if (x.2 == VF)=true then (do let a ← cellOf env x.1;pure (W3 ((x.1,a)::cs))) else pure (W3 cs):Sem _))=pure cl:=h1
 first
  | (rw [show (forIn sc.names ([]:List (UP×Ud)) _:Sem _)=pure cl from h1];rfl)
  | (simp only [h1,pure_bind])
theorem kN {f:UP×WN->UP×WN} (hf:∀ p,(f p).1=p.1):∀ {l:List (UP×WN)} {x:UP} {k:WN},l.lookup x=some k->(l.map f).lookup x=some (f (x,k)).2
 | [],_,_,h=>by simp at h
 | (n,k0)::r,x,k,h=>by
   have ih:=@kN f hf r x k;rw [Vd];obtain ⟨a,b,e⟩:∃ a b,f (n,k0)=(a,b):=⟨_,_,rfl⟩;have ea:a=n:=by have:=hf (n,k0);rw [e] at this;exact this
   subst ea;rw [e,WK];cases hx:x == a with
   | true =>
     rw [WK,hx] at h;cases h;have:x=a:=by simpa using hx
     subst this;rw [e]
   | false=>rw [WK,hx] at h;exact ih h
theorem eS {f:UP×WN->UP×WN} (hf:∀ p,(f p).1=p.1):∀ {l:List (UP×WN)} {x:UP} {k:WN},(l.map f).lookup x=some k->∃ k0,(x,k0)∈l/\(f (x,k0)).2=k
 | [],_,_,h=>by simp at h
 | (n,k0)::r,x,k,h=>by
   have ih:=@eS f hf r x k;rw [Vd] at h;obtain ⟨a,b,e⟩:∃ a b,f (n,k0)=(a,b):=⟨_,_,rfl⟩;have ea:a=n:=by have:=hf (n,k0);rw [e] at this;exact this
   subst ea;rw [e,WK] at h;cases hx:x == a with
   | true =>
     rw [hx] at h;cases h;have:x=a:=by simpa using hx
     subst this;exact ⟨k0,UM,by rw [e]⟩
   | false =>
     rw [hx] at h;obtain ⟨k1,h1,h2⟩:=ih h;exact ⟨k1,UG _ h1,h2⟩
def rlb (env:Env) (p:UP×WN):UP×WN:=if (p.2 == VF && env.scope.kind == .function && env.kindOf p.1 == some .cell) then (p.1,Ys) else (p.1,p.2)
theorem nG (env:Env) (p:UP×WN):(rlb env p).1=p.1:=by unfold rlb;split <;> rfl
theorem iu (sc:Yc) (env:Env):(relabel sc env).names=sc.names.map (rlb env):=rfl
theorem jf {sc:Yc} {env:Env} {x:UP} (h:sc.names.lookup x=some .free):(relabel sc env).names.lookup x=some .cell∨(relabel sc env).names.lookup x=some .free:=by
 rw [iu,kN (nG env) h];unfold rlb;split
 · exact .inl rfl
 · exact .inr rfl
theorem kL {sc:Yc} {env:Env} {x:UP} (hn:∀ y∈sc.names,y.2≠Ys) (h:(relabel sc env).names.lookup x=some .cell∨(relabel sc env).names.lookup x=some .free):(x,VF)∈sc.names:=by
 rw [iu] at h
 have:∃ k0,(x,k0)∈sc.names/\((rlb env (x,k0)).2=.cell∨(rlb env (x,k0)).2=.free):=by
  rcases h with h | h
  · obtain ⟨k0,a,b⟩:=eS (nG env) h;exact ⟨k0,a,.inl b⟩
  · obtain ⟨k0,a,b⟩:=eS (nG env) h;exact ⟨k0,a,.inr b⟩
 obtain ⟨k0,hm,hk⟩:=this;have nc:=hn _ hm;cases k0 with
 | free=>exact hm
 | cell=>exact absurd rfl nc
 | _=>simp [rlb] at hk
def cf (X:Cx) (N:List UP) (sc:Yc) (cl:List (UP×Ud)) (C:Ud) (s:Um) (H:Hp) (fp:List Ud) (pins:List (Ud×Wu)):Cx :=
 { X with N:=N,s₀:=s,H₀:=H,env:=compEnvC sc cl C X.env,outer:=X.stack,ex:=fp,fn:=fun _=>false,pn:=X.pn++pins,xe:=fun _ _=>False }
def cσ (js:List (Option Nat)) (σ:St):St:=js.map fun o=>o.bind fun j=>(σ[j]?).join
structure fz (X:Cx) (sc:Yc) (N:List UP) (js:List (Option Nat)):Prop where
 kind:sc.kind=.function
 nocell:∀ y∈sc.names,y.2≠Ys
 names:∀ y∈sc.names,y.2=NameKind.local->sc.names.lookup y.1=some .local
 frees:∀ y∈sc.names,y.2=VF->X.env.kindOf y.1=some .cell∨X.env.kindOf y.1=some .free
 len:js.length=N.length
 slots:∀ (i j:Nat) (x:UP),js[i]?=some (some j)->N[i]?=some x->X.N[j]?=some x/\sc.names.lookup x=some .free/\(X.env.kindOf x=some .cell∨X.env.kindOf x=some .free)
theorem cG {X:Cx} {sc:Yc} {N:List UP} {js:List (Option Nat)} (k:sc.kind=.function) (nc:∀ y∈sc.names,y.2≠Ys) (nm:∀ y∈sc.names,y.2=NameKind.local->sc.names.lookup y.1=some .local)
 (fr:(sc.names.all fun y=>y.2 != VF || X.env.kindOf y.1 == some Ys || X.env.kindOf y.1 == some VF)=true) (ln:js.length=N.length)
 (sl:((js.zip N).all fun p=>match p.1 with | none=>true | some j=>X.N[j]? == some p.2 && sc.names.lookup p.2 == some VF && (X.env.kindOf p.2 == some Ys || X.env.kindOf p.2 == some VF))=true):fz X sc N js:=by
 refine ⟨k,nc,nm,fun y hy hf=>?_,ln,fun i j x e1 e2=>?_⟩
 · have h:=WL.mp fr y hy;rw [hf] at h;simpa using h
 · have hm:(some j,x)∈js.zip N:=by
    have:(js.zip N)[i]?=some (some j,x):=by rw [Wk];exact ⟨e1,e2⟩
    exact Uc this
   have h:=WL.mp sl _ hm;simp at h;exact ⟨h.1.1,h.1.2,h.2⟩
def PTs (X:Cx) (ifs:List Vs) (t:TT):Prop :=
 ∀ (pins:List (Ud×Wu)) (s:Um) (σ:St) (H:Hp) (Q:Bool->Hp->Prop),Inv X pins σ H s->t σ H Q →
   Uy (UU X.prog X.w) X.A (forIn ifs true fun c r=>if r=true then do let ok ← isTrue c X.env (WE c X.env);pure (W3 ok) else pure (W3 r)) (TP X pins σ Q) X.xe s
def bK:TT:=fun _ H Q=>Q true H
theorem bS {X:Cx}:PTs X [] bK:=fun _ _ _ H _ I h=>wpAny_tests_nil ⟨H,I,h⟩
theorem kA {X:Cx} {c:Vs} {t:TT} (h:PT X c t):PTs X [c] t:=fun pins s σ H Q I q=>wpAny_tests_one (h pins s σ H Q I q)
def Keep (σ yA:St):Prop:=σ.length=yA.length/\∀ (i:Nat) (v:V),σ[i]?=some (some v)->yA[i]?=some (some v)
def mJ (js:List (Option Nat)) (g:TG):Prop:=∀ (σ AA:St) (x:V) (H:Hp) (Q:St->Hp->Prop),Keep (cσ js σ) AA->g x AA H Q->g x AA H fun yT H2=>Keep (cσ js σ) yT/\Q yT H2
def oD (js:List (Option Nat)) (g:TGs):Prop:=∀ (σ AA:St) (x:List V) (H:Hp) (Q:St->Hp->Prop),Keep (cσ js σ) AA->g x AA H Q->g x AA H fun yT H2=>Keep (cσ js σ) yT/\Q yT H2
theorem Keep.refl (σ:St):Keep σ σ:=⟨rfl,fun _ _ h=>h⟩
theorem u7 {js:List (Option Nat)} {σ:St} {i:Nat} (h:js[i]?=some none):(cσ js σ)[i]?=some none:=by
 unfold cσ;rw [Ul,h];rfl
theorem aS {js:List (Option Nat)} {i:Nat} (h:js[i]?=some none):mJ js (aG i):=fun σ AA x H Q k q=>by
 refine ⟨⟨by rw [Y3];exact k.1,fun j v e=>?_⟩,q⟩;by_cases hj:i=j
 · subst hj;rw [u7 h] at e;cases e
 · rw [Ze hj];exact k.2 j v e
theorem gC {js:List (Option Nat)}:oD js mC:=fun σ AA x H Q k ⟨e,q⟩=>⟨e,k,q⟩
theorem bW {js:List (Option Nat)} {t:TG} {u:TGs} (mono:∀ x σ H (Q Q':St->Hp->Prop),(∀ a b,Q a b->Q' a b)->t x σ H Q->t x σ H Q') (h1:mJ js t) (h2:oD js u):oD js (db t u):=fun σ AA x H Q k ⟨v,r,e,q⟩ =>
 ⟨v,r,e,mono _ _ _ _ _ (fun a b ⟨k',q'⟩=>h2 σ a r b Q k' q') (h1 σ AA v H _ k q)⟩
theorem aX {i:Nat}:∀ x σ H (Q Q':St->Hp->Prop),(∀ a b,Q a b->Q' a b)->aG i x σ H Q->aG i x σ H Q':=fun _ _ _ _ _ h q=>h _ _ q
theorem gM {js:List (Option Nat)} {K:Ub} {n:Nat} {t:TGs} (h:oD js t):mJ js (mr K n t):=fun σ AA x H Q k ⟨a,xs,e,hs,hl,q⟩=>⟨a,xs,e,hs,hl,h σ AA xs H Q k q⟩
def f8 (js:List (Option Nat)) (g:TG) (tt:TT) (te:TE) (σ:St) (J:It) (D:Ud) (n:Nat) (W:Nat->Hp->Prop) (fin:Hp->Prop):Prop :=
 ∀ i H,W i H->(J.stop i H/\fin H)∨(i<n/\J.go i H/\∀ x H1,J.yld i H x H1->g x (cσ js σ) H1 fun yT H2=>tt yT H2 fun b H3 =>
   if b=true then te yT H3 fun v H4=>∃ ys,H4 D=some (.lst ys)/\ys.length<Uz/\W (i+1) (upd H4 D (.lst (ys++[v]))) else W (i+1) H3)
def vW (js:List (Option Nat)) (wi:TI) (g:TG) (tt:TT) (te:TE):TE:=fun σ H Q=>wi σ H fun J H1=>∀ D,H1 D=none →
 ∃ (n:Nat) (W:Nat->Hp->Prop),W 0 (upd H1 D (.lst []))/\f8 js g tt te σ J D n W fun H'=>Q (.ref D) H'
section
variable {X:Cx} {pins:List (Ud×Wu)} {σ:St} {s:Um} {H:Hp}
theorem tX {sc:Yc} {N:List UP} {js:List (Option Nat)} {cl:List (UP×Ud)} {fp:List Ud} {h1:Vy} {t':Nat} (S:fz X sc N js) (I:Inv X pins σ H s)
 (Bn:∀ x c,cl.lookup x=some c->X.env.cells.lookup x=some c) (Bz:∀ n,(n,VF)∈sc.names->∃ c,cl.lookup n=some c)
 (hf:∀ b∈fp,kh X pins H b) (yK:∀ b∈fp,b<s.heap.objs.size) (Dy:h1.Ns s.heap.objs.size fun x=>List.lookup x ([]:List (UP×Ug)))
 (Et:∀ b o,s.heap.get? b=some o->h1.get? b=some o) :
 Inv (cf X N sc cl s.heap.objs.size s H fp pins) [] (cσ js σ) H { s with heap:=h1,toks:=t' }:=by
 have hok:(cf X N sc cl s.heap.objs.size s H fp pins).Ok :=
  { mod:=I.ok.mod
    kind:=S.kind
    glob:=I.ok.glob
    blt:=I.ok.blt
    above:=Ue _
    inj:=fun x y c a b=>I.ok.inj x y c (Bn x c a) (Bn y c b)
    has:=fun x h=>Bz x (kL S.nocell h)
    cab:=fun x c h=>by cases h
    hd:=I.ok.hd
    frames:=I.ok.frames
    stk:=.inl rfl
    exf:=fun b hb=>⟨fun e=>absurd (yK b hb) (by rw [e];exact VO _),fun x c e z=>(hf b hb).2.2.2.2.1 x c (Bn x c e) z⟩
    bs:=I.bs
    bsz:=V3 I.ok.bsz I.sz
    noex:=fun b o e hb=>by
     rcases (hf b hb).2.2.2.1 with h | h
     · exact I.ok.noex b o e h
     · exact absurd (Vj (Vj (Uw e) I.ok.bsz) h) (VO _)
    exfs:=fun b hb hm=>by
     rcases UB.mp (I.stkSub b hm) with e | e
     · exact (hf b hb).2.1 e
     · exact (hf b hb).2.2.1 e
    funs:=I.stack
    frf:=I.stkFree }
 have hC:H s.heap.objs.size=none:=I.hok.fresh (Ue _);obtain ⟨m0,KZ,Cq⟩:=I.loc
 exact
  { ok:=hok
    os:=rfl
    bare:=I.bare
    base:=Un.kept Et
    loc:=⟨_,Dy,fun i x v e1 e2 NZ=>by
     have AB:∃ j,js[i]?=some (some j)/\σ[j]?=some (some v):=by
      unfold cσ at e2;rw [Ul] at e2;cases q:js[i]? with
      | none=>rw [q] at e2;cases e2
      | some o =>
        rw [q] at e2;cases o with
        | none=>cases e2
        | some j =>
          refine ⟨j,rfl,?_⟩;have e3:(σ[j]?).join=some v:=UQ e2;cases r:σ[j]? with
          | none=>rw [r] at e3;cases e3
          | some z=>rw [r] at e3;exact congrArg some e3
     obtain ⟨j,q1,q2⟩:=AB;obtain ⟨n1,n2,n3⟩:=S.slots i j x q1 e1;obtain ⟨u,ru,look⟩:=Cq j x v n1 q2 (by rcases n3 with z | z;exact .inr (.inl z);exact .inr (.inr z));refine ⟨u,ru,.inr ⟨jf n2,?_⟩⟩;have hm:(x,VF)∈sc.names:=kL (env:=X.env) S.nocell (jf n2);obtain ⟨c,hc⟩:=Bz x hm;refine ⟨c,hc,?_⟩;rcases look with ⟨k1,_⟩ | ⟨_,c',zR,ic⟩
     · rcases n3 with z | z <;> (rw [k1] at z;cases z)
     · have:=Bn x c hc;rw [zR] at this;cases this;exact ic.keeps Et⟩
    cell:=fun x c e=>by
     obtain ⟨v,q⟩:=I.cell x c (Bn x c e);exact ⟨v,q.keeps Et⟩
    free:=hC
    freeC:=fun x c e=>I.freeC x c (Bn x c e)
    pin:=fun p hp=>by
     have zG:p∈X.pn++pins:=by simpa [cf] using hp
     obtain ⟨a1,a2,a3,a4,a5⟩:=I.pin p zG;refine ⟨Et _ _ a1,a2,fun e=>?_,fun hm=>?_,a5⟩
     · have e':p.1=s.heap.objs.size:=e;exact absurd (Uw a1) (by rw [e'];exact VO _)
     · rcases UB.mp (I.stkSub p.1 hm) with e | e
       · exact a3 e
       · exact a4 e
    hok:=I.hok.kept Et
    len:=by
     show (cσ js σ).length=N.length;unfold cσ;rw [T8];exact S.len }
theorem sL {prog:Uv} {w:UK} {A:U5} {R:Result->Um->Prop} {elt target iter:Vs} {ifs:List Vs} {scope:Yc} {pos:Yd} {it acc:Ug} {env:Env} (J:Nat->Um->Prop)
 (turn:∀ n s,J n s->Uy (UU prog w) A (Xf it) (fun r yB=>(r=none/\R (.ok .next) yB)∨∃ v,r=some v ∧
  Uy (UU prog w) A (Zo target it v) (fun _ ze=>Uy (UU prog w) A (assign target env v) (fun _ AI =>
   Uy (UU prog w) A (forIn ifs true fun c r=>if r=true then do let ok ← isTrue c env (WE c env);pure (W3 ok) else pure (W3 r)) (fun ok CP =>
    (ok=false/\∃ m,m<n/\J m CP)∨(ok=true/\Uy (UU prog w) A (WE elt env) (fun x Ht=>Uy (UU prog w) A (call (.builtin "list.append") [acc,x]) (fun _ Hu=>∃ m,m<n/\J m Hu) (fun _ _=>False) Ht) (fun _ _=>False) CP))
    (fun _ _=>False) AI) (fun _ _=>False) ze) (fun _ _=>False) yB) (fun _ _=>False) s)
 {s:Um} (n:Nat) (h:J n s):Yk (UU prog w) A (.compLoop (.ListComp elt [⟨target,iter,ifs,0⟩] scope pos) 0 it acc env) R s:=by
 refine codeAny_loop rfl J (fun n s hJ=>?_) n h;show Uy _ A ((compTurn (.ListComp elt [⟨target,iter,ifs,0⟩] scope pos) 0 it acc env).onRaise _) _ _ s;refine wpAny_noted ?_;rw [compTurn_list];have up:∀ {α:Type} {m:Sem α} {Q:α->Um->Prop} {E:Ug->Um->Prop} {s:Um},Uy (UU prog w) A m Q (fun _ _=>False) s->Uy (UU prog w) A m Q E s:=fun q=>Wn q (fun _ _ z=>z) fun _ _ z=>z.elim;refine T9 (wpAny_standAt (T9 (Wn (up (turn n s hJ)) (fun r yB yQ=>?_) fun _ _ z=>z)));rcases yQ with ⟨rfl,yQ⟩ | ⟨v,rfl,yQ⟩
 · exact Uk yQ
 · refine T9 (Wn (up yQ) (fun _ ze zz=>?_) fun _ _ z=>z);refine T9 (Wn (up zz) (fun _ AI Bb=>?_) fun _ _ z=>z);refine T9 (Wn (up Bb) (fun ok CP zg=>?_) fun _ _ z=>z);rcases zg with ⟨rfl,zg⟩ | ⟨rfl,zg⟩
   · exact Uk ⟨rfl,zg⟩
   · exact T9 (T9 (Wn (up zg) (fun x Ht zh=>T9 (Wn (up zh) (fun _ Hu K0=>Uk (Uk ⟨rfl,K0⟩)) fun _ _ z=>z)) fun _ _ z=>z))
theorem kR {elt tg iter:Vs} {ifs:List Vs} {sc:Yc} {pos:Yd} {N:List UP} {js:List (Option Nat)} {g:TG} {tt:TT} {te:TE} {cl:List (UP×Ud)} {fp:List Ud} {it:Ud} {tn:Nat->Vy->Prop} {J:It} {n:Nat} {W:Nat->Hp->Prop} {fin:Hp->Prop}
 {R:Ug->Ud->Result->Um->Prop} (hc:X.calm=true) (S:fz X sc N js) (I:Inv X pins σ H s) (T:Turn X.prog X.w X.K tg J fp it tn) (st:tn 0 s.heap) (hf:∀ b∈fp,kh X pins H b)
 (Bn:∀ x c,cl.lookup x=some c->X.env.cells.lookup x=some c) (Bz:∀ n,(n,VF)∈sc.names->∃ c,cl.lookup n=some c)
 (hg:∀ cl C s H fp pins,PG (cf X N sc cl C s H fp pins) tg g) (gk:mJ js g) (ht:∀ cl C s H fp pins,PTs (cf X N sc cl C s H fp pins) ifs tt) (he:∀ cl C s H fp pins,PE (cf X N sc cl C s H fp pins) elt te)
 (w0:W 0 (upd H s.heap.objs.size (.lst []))) (turn:f8 js g tt te σ J s.heap.objs.size n W fin)
 (hR:∀ C H' s',C≠X.env.locals->s.heap.objs.size<C->(∃ m,s'.heap.Ns C m)->H' C=none->(∀ h' t',V9 C s'.heap h'->Inv X pins σ H' { s' with heap:=h',toks:=t' })->fin H'->R (.ref s.heap.objs.size) C (.ok .next) s') {E:Ug->Um->Prop} :
 Uy (UU X.prog X.w) X.A (newList []) (fun acc AI=>Uy (UU X.prog X.w) X.A (newFunctionEnv sc X.env.globals cl [] X.env.qual none .none (some X.env)) (fun Hv CP =>
  Yk (UU X.prog X.w) X.A (.compStart (.ListComp elt [⟨tg,iter,ifs,0⟩] sc pos) 0 (.ref it) acc { Hv with scope:=relabel sc X.env }) (R acc Hv.locals) CP) E AI) E s:=by
 refine Vp (wpAny_newFunctionEnv S.nocell (by intro y hy;simp at hy) (fun yQ BA BC=>?_) S.kind);dsimp only at BA BC ⊢;have I3:Inv X pins σ (upd H s.heap.objs.size (.lst [])) { s with heap:=s.heap.push { cls:=.type "list",dict:=none,data:=.seq ([]:List Ug).toArray } }:=I.lnew (t':=s.toks) (its:=[]) .nil (by decide)
 have yK:∀ b∈fp,b<s.heap.objs.size:=fun b hb=>by
  obtain ⟨o,ho,_⟩:=T.obj _ _ st b hb;exact Uw ho
 have Eu:∀ b o,s.heap.get? b=some o->(s.heap.push { cls:=.type "list",dict:=none,data:=.seq ([]:List Ug).toArray }).get? b=some o:=fun b o e=>Uj _ e;have hsz:(s.heap.push { cls:=.type "list",dict:=none,data:=.seq ([]:List Ug).toArray }).objs.size=s.heap.objs.size+1:=Vw ..;generalize N8:({ s with heap:=s.heap.push { cls:=.type "list",dict:=none,data:=.seq ([]:List Ug).toArray } }:Um)=s3 at I3;have Hw:s.heap.push { cls:=.type "list",dict:=none,data:=.seq ([]:List Ug).toArray }=s3.heap:=by rw [<- N8]
 rw [Hw] at BA BC Eu hsz;rw [Hw];have K1:∀ t',({ s with heap:=yQ,toks:=t' }:Um)={ s3 with heap:=yQ,toks:=t' }:=fun t'=>by rw [<- N8]
 rw [K1];have Et:∀ b o,s3.heap.get? b=some o->yQ.get? b=some o:=fun b o e=>BC.extBut b o (UX (Uw e)) (Uj _ e);have K2:∀ b∈fp,kh X pins (upd H s.heap.objs.size (.lst [])) b:=fun b hb=>⟨by rw [am (UX (yK b hb))];exact (hf b hb).1,(hf b hb).2⟩;have I4:=tX (t':=s.toks+([]:List (UP×Ug)).length) S I3 Bn Bz K2 (fun b hb=>by rw [hsz];exact X5 (yK b hb)) BA Et;generalize SO:upd H s.heap.objs.size (.lst [])=H3 at I3 I4 K2 w0;have zy:tn 0 yQ:=T.keep _ _ _ st fun b hb o e=>Et _ _ (Eu _ _ e)
 have Bu:∀ {H':Hp},(∀ b∈fp,H' b=none)->∀ b∈fp,kh (cf X N sc cl s3.heap.objs.size s3 H3 fp pins) [] H' b:=fun {H'} hn b hb=>by
  obtain ⟨f0,f1,f2,f3,f4,f5⟩:=hf b hb;refine ⟨hn b hb,fun e=>?_,fun hm=>?_,.inl hb,fun x c e=>f4 x c (Bn x c e),fun p hp=>f5 p (by simpa [cf] using hp)⟩
  · have e':b=s3.heap.objs.size:=e;have h9:b<s.heap.objs.size:=yK b hb;rw [e',hsz] at h9;exact absurd h9 (Yu.mpr (Nat.le_succ _))
  · rcases UB.mp (I.stkSub b hm) with e | e
    · exact f1 e
    · exact f2 e
 have loop:Yk (UU X.prog X.w) X.A (.compLoop (.ListComp elt [⟨tg,iter,ifs,0⟩] sc pos) 0 (.ref it) (.ref s.heap.objs.size) (compEnvC sc cl s3.heap.objs.size X.env)) (R (.ref s.heap.objs.size) s3.heap.objs.size)
  { s3 with heap:=yQ,toks:=s.toks+([]:List (UP×Ug)).length }:=by
  refine sL (fun k s'=>∃ i H',Inv (cf X N sc cl s3.heap.objs.size s3 H3 fp pins) [] (cσ js σ) H' s'/\tn i s'.heap/\(∀ b∈fp,H' b=none)/\W i H'/\k=n - i) ?_ n ⟨0,H3,I4,zy,fun b hb=>(K2 b hb).1,w0,rfl⟩;rintro k s5 ⟨i,H5,I5,Gp,JZ,w5,rfl⟩;rcases turn i H5 w5 with ⟨stop,qn⟩ | ⟨BW,go,step⟩
  · refine thn (T.done (cf X N sc cl s3.heap.objs.size s3 H3 fp pins) rfl rfl rfl hc i [] s5 (cσ js σ) H5 _ I5 (Bu JZ) Gp stop) fun r s6 ⟨hr,I6⟩=>.inl ⟨hr,?_⟩;have I7:Inv X pins σ H5 s6:=I3.call' (ch:=fp) (I6.os.trans rfl) I6.base I6.hok I6.bare fun b hb=>⟨(hf b hb).2.2.2.1,(hf b hb).2.1,(hf b hb).2.2.2.2.1,(hf b hb).2.2.2.2.2⟩;have N9:H5 s3.heap.objs.size=none:=I6.free;have N':s3.heap.objs.size≠X.env.locals:=XC I3.lt;obtain ⟨m6,Qc,_⟩:=I6.loc;refine hR s3.heap.objs.size H5 s6 N' (by omega) ⟨m6,Qc⟩ N9 (fun h' t' sb=>?_) qn;refine I7.turned (it:=s3.heap.objs.size) (fun b o hb e=>sb.extBut b o hb e) N9 N' (.inr I3.sz) (fun x c e z=>?_) fun p hp z=>?_
    · obtain ⟨v,q⟩:=I3.cell x c e;exact absurd q.lt (by rw [z];exact VO _)
    · exact absurd (Uw (I3.pin p hp).1) (by rw [z];exact VO _)
  · refine thn (T.item (cf X N sc cl s3.heap.objs.size s3 H3 fp pins) rfl rfl rfl hc i [] s5 (cσ js σ) H5 _ I5 (Bu JZ) Gp go) fun r s6 ⟨u,hr,h6⟩=>.inr ⟨u,hr,?_⟩;refine thn h6 fun _ s7 ⟨x,H7,I7,r7,y7,K3,Qd⟩=>?_;have Qe:=I7.pinned (Bu Qd) (T.obj _ _ K3);refine thn (hg cl s3.heap.objs.size s3 H3 fp pins _ s7 (cσ js σ) H7 x u _ Qe r7 (gk σ (cσ js σ) x H7 _ (.refl _) (step x H7 y7))) fun _ s8 ⟨K4,H8,I8,k8,q8⟩=>?_;refine thn (ht cl s3.heap.objs.size s3 H3 fp pins _ s8 K4 H8 _ I8 q8) fun ok s9 ⟨H9,I9,q9⟩=>?_
    have again:∀ {s':Um} {yA:St} {H':Hp},Keep (cσ js σ) yA->Inv (cf X N sc cl s3.heap.objs.size s3 H3 fp pins) ([]++lT fp s7.heap) yA H' s'->W (i+1) H'->∃ m,m<n - i/\∃ i H',Inv (cf X N sc cl s3.heap.objs.size s3 H3 fp pins) [] (cσ js σ) H' s'/\tn i s'.heap/\(∀ b∈fp,H' b=none)/\W i H'/\m=n - i:=fun {s' yA H'} kp I' w'=>by
     refine ⟨n - (i+1),by omega,i+1,H',(I'.unpinned).weak kp.1 kp.2,T.keep _ _ _ K3 fun b hb o e=>(I'.pin (b,o) (U6 _ (U6 _ (fI hb e)))).1,fun b hb=>?_,w',rfl⟩;obtain ⟨o,e,d⟩:=T.obj _ _ K3 b hb;exact (I'.pin (b,o) (U6 _ (U6 _ (fI hb e)))).2.1
    cases ok with
    | false =>
      refine .inl ⟨rfl,again k8 I9 ?_⟩;have Oa:if false=true then _ else W (i+1) H9:=q9
      rw [if_neg UD] at Oa;exact Oa
    | true =>
      refine .inr ⟨rfl,?_⟩;rw [if_pos rfl] at q9;refine thn (he cl s3.heap.objs.size s3 H3 fp pins _ s9 K4 H9 _ I9 q9) fun vv zk ⟨v,zx,Qf,rv,ys,hD,Hz,Qg⟩=>?_;refine thn (aP _ zk K4 zx (.ref s.heap.objs.size) [v] (.ref s.heap.objs.size) [vv] (fun _ H'=>W (i+1) H') Qf rfl (.cons rv .nil) ⟨_,ys,v,rfl,rfl,hD,Hz,Qg⟩) fun _ Ae ⟨_,zS,Qh,_,Qi⟩=>?_;exact again k8 Qh Qi
 exact codeAny_compStart_list loop (T.self X.A 0 _ _ _ zy loop)
theorem cq {elt tg iter:Vs} {ifs:List Vs} {sc:Yc} {pos:Yd} {N:List UP} {js:List (Option Nat)} {wi:TI} {g:TG} {tt:TT} {te:TE} (hc:X.calm=true) (S:fz X sc N js) (hi:PI X tg iter wi)
 (hg:∀ cl C s H fp pins,PG (cf X N sc cl C s H fp pins) tg g) (gk:mJ js g) (ht:∀ cl C s H fp pins,PTs (cf X N sc cl C s H fp pins) ifs tt) (he:∀ cl C s H fp pins,PE (cf X N sc cl C s H fp pins) elt te)
 (hs:∀ x,foldedSetIterable iter X.env x=pure x:=by intro _;rfl):PE X (.ListComp elt [⟨tg,iter,ifs,0⟩] sc pos) (vW js wi g tt te):=by
 intro pins s σ H Q I h;obtain ⟨cl,e1,e2,e3⟩:=lZ (env:=X.env) (sc:=sc) fun n hn=>I.ok.has n (S.frees _ hn rfl);rw [eval_ListComp];refine wpAny_comprehension_free (use:=none) rfl hs e1 S.kind S.names (thn (hi pins s σ H _ I h) fun v s1 h1=>thn h1 fun JY s2 h2=>?_);obtain ⟨it,fp,tn,J,H2,rfl,I2,T,Bt,f2,R2⟩:=h2;obtain ⟨n,W,w0,turn⟩:=R2 s2.heap.objs.size I2.fresh;refine kR (R:=fun acc C=>compPost (UU X.prog X.w) X.A X.xe none (EP X pins σ Q) acc C) hc S I2 T Bt f2 e2 e3 hg gk ht he w0 turn fun C H' s' _ _ hn _ inv fi=>?_;obtain ⟨m,hm⟩:=hn;exact ⟨m,hm,fun h' sb=>⟨.ref s2.heap.objs.size,H',inv h' s'.toks sb,rfl,fi⟩⟩
theorem fO {i:Nat} {y:UP} {elt tg iter:Vs} {ifs:List Vs} {sc:Yc} {pos HA py:Yd} {N:List UP} {js:List (Option Nat)} {wi:TI} {g:TG} {tt:TT} {te:TE} (hN:X.N.Nodup) (hy:X.N[i]?=some y) (Qj:Loc X.env.scope y) (hc:X.calm=true) (S:fz X sc N js) (hi:PI X tg iter wi)
 (hg:∀ cl C s H fp pins,PG (cf X N sc cl C s H fp pins) tg g) (gk:mJ js g) (ht:∀ cl C s H fp pins,PTs (cf X N sc cl C s H fp pins) ifs tt) (he:∀ cl C s H fp pins,PE (cf X N sc cl C s H fp pins) elt te)
 (Qk:swapsWith (.ListComp elt [⟨tg,iter,ifs,0⟩] sc pos) (some (.Name y py)) HA.line X.env=pure true:=by rfl)
 (hs:∀ x,foldedSetIterable iter X.env x=pure x:=by intro _;rfl) (hf:X.fn y=true∨X.env.scope.names.lookup y=some .local:=by first | exact .inl rfl | exact .inr rfl | assumption) :
 PS X (.Assign [.Name y py] (.ListComp elt [⟨tg,iter,ifs,0⟩] sc pos) HA) (wN (vW js wi g tt te) (aG i)):=by
 intro pins s σ H D I h;obtain ⟨cl,e1,e2,e3⟩:=lZ (env:=X.env) (sc:=sc) fun n hn=>I.ok.has n (S.frees _ hn rfl);rw [exec_Assign_Name_used _ _ _ _ Qk];refine T9 (wpAny_standAt (T9 ?_));show Uy _ X.A (do let _ ← comprehension (.ListComp elt [⟨tg,iter,ifs,0⟩] sc pos) sc X.env _ (newList []) false (WE iter X.env) (some (assign (.Name y py) X.env))) _ _ s;refine T9 (Wn (wpAny_comprehension_free (use:=some (assign (.Name y py) X.env)) (Q:=fun _ s'=>SP X pins D .next s') rfl hs e1 S.kind S.names (thn (hi pins s σ H _ I h) fun v s1 h1=>thn h1 fun JY s2 h2=>?_)) (fun _ s' hq=>Uk (Uk hq)) fun _ _ z=>z);obtain ⟨it,fp,tn,J,H2,rfl,I2,T,Bt,f2,R2⟩:=h2;obtain ⟨n,W,w0,turn⟩:=R2 s2.heap.objs.size I2.fresh;refine kR (R:=fun acc C=>compPost (UU X.prog X.w) X.A X.xe (some (assign (.Name y py) X.env)) (fun _ s'=>SP X pins D .next s') acc C) hc S I2 T Bt f2 e2 e3 hg gk ht he w0 turn fun C H' s' Ob hC hn Ql inv fi=>?_;obtain ⟨m,hm⟩:=hn
 have I5:Inv X pins σ H' s':=by
  have q:=inv s'.heap s'.toks (.refl ..);exact q
 refine wpAny_assign_Name (mQ (v:=.ref s2.heap.objs.size) I5 hN hy Qj rfl (fun s6 I6 ⟨a,sb,ha⟩=>?_) hf)
 have Qm:C≠a:=by
  rcases ha with ha | ha
  · rw [ha];exact Ob
  · intro z;obtain ⟨v,q⟩:=I2.cell y a ha;exact absurd (XD q.lt hC) (by rw [z];exact VO _)
 refine ⟨m,hm.sameBut sb Qm,fun h' Qn=>⟨_,H',I6.turned (it:=C) (t':=s6.toks) (fun b o hb e=>Qn.extBut b o hb e) Ql Ob (.inr (V3 I2.sz (XE hC))) (fun x c e z=>?_) fun p hp z=>?_,fi⟩⟩
 · obtain ⟨v,q⟩:=I2.cell x c e;exact absurd (XD q.lt hC) (by rw [z];exact VO _)
 · exact absurd (XD (Uw (I2.pin p hp).1) hC) (by rw [z];exact VO _)
end
end L2
namespace L2
open PySem PySem.Spec PyProof.Rows
def ko {α:Type} (xs:List α) (lo hi:Option Int):List α:=(xs.drop (HT.sIx xs.length 0 lo)).take (HT.sIx xs.length xs.length hi - HT.sIx xs.length 0 lo)
def eE (z:UP) (lo hi:Option Int):UP:=⟨(ko z.cps.toList lo hi).toArray⟩
theorem tQ {α:Type} (xs:List α) (a n:Nat):((UT n).map fun (k:Nat)=>a+k).filterMap (xs[·]?)=(xs.drop a).take n:=by
 induction n with
 | zero=>simp
 | succ n ih =>
   rw [Y2,Ut,List.filterMap_append,ih,Vz];congr 1;rw [List.getElem?_drop];cases h:xs[a+n]? <;> simp [h]
theorem tf (n d:Nat) (i:Int):max 0 (min (if i<0 then i+(n:Int) else i) (n:Int))=((HT.sIx n d (some i):Nat):Int):=by
 show max 0 (min (if i<0 then i+(n:Int) else i) (n:Int))=(((if i<0 then (i+(n:Int)).toNat else min i.toNat n):Nat):Int);by_cases h:i<0
 · rw [if_pos h,if_pos h];omega
 · rw [if_neg h,if_neg h];omega
theorem tU (A B:Int) (a b:Nat) (hA:A=(a:Int)) (hB:B=(b:Int)):sliceRange A B 1=(UT (b - a)).map fun (k:Nat)=>a+k:=by
 subst hA;subst hB;unfold sliceRange;simp only [show (1:Int) > 0 by decide,if_true]
 have c:(if (a:Int)<(b:Int) then ((b:Int) - a+1 - 1) / 1 else 0).toNat=b - a:=by
  split
  · rw [ZJ];omega
  · omega
 rw [c];refine XI fun k _=>?_;omega
theorem qW (lo hi:Option Int) (n:Nat):YL lo hi 1 n=(UT (HT.sIx n n hi - HT.sIx n 0 lo)).map fun (k:Nat)=>HT.sIx n 0 lo+k:=by
 unfold YL;simp only [show (1:Int) > 0 by decide,if_true];cases lo <;> cases hi <;> refine tU _ _ _ _ ?_ ?_ <;> first | rfl | exact tf _ _ _
theorem oR (z:UP) (lo hi:Option Int):(eE z lo hi).length<=z.length:=by
 show (ko z.cps.toList lo hi).toArray.size<=z.cps.size;unfold ko;rw [Uq,U1,Vx,UY];omega
theorem my (x:UP) (t:Tok) (l u:Option (Int×Tok)) {Q:Ug->Um->Prop} {s:Um} (hz:x.length<=Uz) (h:∀ t' k,Q (.str (eE x (l.map (·.1)) (u.map (·.1))) t') { s with toks:=k }):(sliceMade x t l u none).post Q s:=by
 have e:(Zy x l u none).filterMap (x.cps[·]?)=ko x.cps.toList (l.map (·.1)) (u.map (·.1)):=by
  unfold Zy ko;show (YL (l.map (·.1)) (u.map (·.1)) 1 x.length).filterMap (x.cps[·]?)=_;rw [qW,show (x.cps[·]?)=(x.cps.toList[·]?) from funext fun i=>(Xo ..).symm,tQ,UY];rfl
 unfold sliceMade;split
 · rename_i hc
   have hl:(Zy x l u none).length=x.length:=by
    have:=(Wg _ _ ▸ hc).2;simpa using this
   have hw:eE x (l.map (·.1)) (u.map (·.1))=x:=by
    have e2:(ko x.cps.toList (l.map (·.1)) (u.map (·.1)))=x.cps.toList:=by
     have hp:Zy x l u none=(UT (HT.sIx x.length x.length (u.map (·.1)) - HT.sIx x.length 0 (l.map (·.1)))).map fun (k:Nat)=>HT.sIx x.length 0 (l.map (·.1))+k:=qW _ _ _;rw [hp,T8,UW] at hl;have b1:=HT.sIx_le x.length x.length (Ue _) (u.map (·.1));have hx:x.cps.toList.length=x.length:=UY;unfold ko;rw [hx,hl];have Dz:HT.sIx x.length 0 (l.map (·.1))=0∨x.length=0:=by omega
     rcases Dz with h0 | h0
     · rw [h0,Wy,VG (by rw [hx];exact Ue _)]
     · have:x.cps.toList=[]:=VB.mp (by rw [hx];exact h0);rw [this];simp
    unfold eE;rw [e2]
   have:=h t s.toks;rw [hw] at this;exact this
 · show (⟨((Zy x l u none).filterMap (x.cps[·]?)).toArray⟩:UP).length<=Uz/\Q _ _;rw [e];exact ⟨V3 (oR x _ _) hz,h s.toks (s.toks+1)⟩
section
variable {X:Cx}
inductive vV (x:V) (lo:Option Int) (hi:Option Int) (H:Hp) (Q:VK):Prop
 | mk (z:_) (yL:x=.str z) (yM:z.length<=Uz) (yR:Q (.str (eE z lo hi)) H):vV  x lo hi H Q
def xQ:V->Option Int->Option Int->Hp->VK->Prop:=vV
theorem part_of {v:Ug} {o:Option Int} (h:Zl v o):∃ l:Option (Int×Tok),v=partValue l/\l.map (·.1)=o:=by
 cases h with
 | none=>exact ⟨none,rfl,rfl⟩
 | int i t=>exact ⟨some (i,t),rfl,rfl⟩
theorem ql:SlR X xQ:=by
 intro pins s σ H x v vl vu lo hi sl Q I rx hs pl pu h;obtain ⟨z,rfl,hz,q⟩:=h;obtain ⟨t,rfl⟩:=rx;obtain ⟨l,rfl,rfl⟩:=part_of pl;obtain ⟨u,rfl,rfl⟩:=part_of pu;refine ⟨"str",_,F.slot_str_getitem.lookup,typeIs_str s z t,wpAny_getItem_str_slice (l:=l) (u:=u) (st:=none) ?_ rfl (my z t l u hz fun t' k=>?_)⟩
 · obtain ⟨o,ho,hc,hd⟩:=hs;exact ⟨o,ho,hc,hd⟩
 · exact ⟨.str (eE z (l.map (·.1)) (u.map (·.1))),H,I.tok k,⟨_,rfl⟩,q⟩
theorem uK {T:String} {b:Bool} {t:Ug}:im X (.builtin "isinstance") (fun xs H Q=>∃ x,xs=[x,.ty T]/\ja X.K H x t/\Xv X.K t (.type T)=some b/\Q (.bl b) H):=by
 intro pins s σ H xs us Q I r h;obtain ⟨x,rfl,ty,k,q⟩:=h;obtain ⟨u,w',rfl,r1,r2⟩:=vals2 r;cases r2;exact sP I r1 ty k fun tk=>⟨.bl b,H,I.tok tk,rfl,q⟩
end
end L2
namespace PySem
namespace F
theorem bb_owner_rev:Manifest.owners.lookup (String.ofList ['d','e','s','r','e','v','e','r'].reverse)=some Manifest.sig_reversed:=by kernel_rfl
theorem bb_slot_rev_next:Slot "reversed" "__next__" "reversed.__next__" :=
 .of (owner:="reversed") (n:="__next__") (by rw [Wh,VD];kernel_rfl) (by decide +kernel) (by decide +kernel) (by decide +kernel)
  (by first | exact .inl (by decide +kernel) | exact .inr (by decide +kernel)) (by rw [Xk];kernel_rfl)
theorem bb_entry_rev_next:entryFor table "reversed.__next__"=some WY.«reversed.__next__»:=entryFor_of_tree (by kernel_rfl)
theorem bb_args_rev_next (a:Ug):argsOk "reversed.__next__" ⟨[a],[]⟩:=by
 unfold argsOk;rw [signature?_of (id:="reversed.__next__") (n:=['_','_','t','x','e','n','_','_']) (o:=['d','e','s','r','e','v','e','r']) (by kernel_rfl) bb_owner_rev];kernel_rfl
theorem bb_slot_rev_iter:Slot "reversed" "__iter__" "reversed.__iter__" :=
 .of (owner:="reversed") (n:="__iter__") (by rw [Wh,VD];kernel_rfl) (by decide +kernel) (by decide +kernel) (by decide +kernel)
  (by first | exact .inl (by decide +kernel) | exact .inr (by decide +kernel)) (by rw [Xk];kernel_rfl)
theorem bb_args_rev_iter (a:Ug):argsOk "reversed.__iter__" ⟨[a],[]⟩:=by
 unfold argsOk;rw [signature?_of (id:="reversed.__iter__") (n:=['_','_','r','e','t','i','_','_']) (o:=['d','e','s','r','e','v','e','r']) (by kernel_rfl) bb_owner_rev];kernel_rfl
theorem bb_entry_rev_iter:entryFor table "reversed.__iter__"=some WY.«dict_keyiterator.__iter__» :=
 entryFor_alias (id':="dict_keyiterator.__iter__") (by kernel_rfl) (by first | rfl | decide +kernel | (unfold String.splitOn;simp +decide [String.splitOnAux])) (by decide +kernel) (by kernel_rfl)
theorem bb_slot_rev_hint:Slot "reversed" "__length_hint__" "reversed.__length_hint__" :=
 .of (owner:="reversed") (n:="__length_hint__") (by rw [Wh,VD];kernel_rfl) (by decide +kernel) (by decide +kernel) (by decide +kernel)
  (by first | exact .inl (by decide +kernel) | exact .inr (by decide +kernel)) (by rw [Xk];kernel_rfl)
theorem bb_entry_rev_hint:entryFor table "reversed.__length_hint__"=some WY.«reversed.__length_hint__»:=entryFor_of_tree (by kernel_rfl)
theorem bb_args_rev_hint (a:Ug):argsOk "reversed.__length_hint__" ⟨[a],[]⟩:=by
 unfold argsOk;rw [signature?_of (id:="reversed.__length_hint__") (n:=['_','_','t','n','i','h','_','h','t','g','n','e','l','_','_']) (o:=['d','e','s','r','e','v','e','r']) (by kernel_rfl) bb_owner_rev];kernel_rfl
theorem bb_nolen_rev:XO (.type "reversed") "__len__"=pure none:=by rw [Wh,VD];kernel_rfl
theorem bb_nolen_lri:XO (.type "list_reverseiterator") "__len__"=pure none:=by rw [Wh,VD];kernel_rfl
theorem bb_hint_lri:XO (.type "list_reverseiterator") "__length_hint__"=pure (some (.builtin "list_reverseiterator.__length_hint__")):=by rw [Wh,VD];kernel_rfl
theorem bb_tuple_norev:XO (.type "tuple") "__reversed__"=pure none:=by rw [Wh,VD];kernel_rfl
theorem bb_sub_rev_rev:isSubtype (.type "reversed") (.type "reversed")=pure true:=by rw [Xk];kernel_rfl
theorem bb_sub_tuple_dict:isSubtype (.type "tuple") (.type "dict")=pure false:=by rw [Xk];kernel_rfl
end F
end PySem
namespace PySem
open Sem (wp)
section
variable {prog:Uv} {w:UK} {A:U5} {E:Ug->Um->Prop} {s:Um}
theorem bb_slot_rev_init:Slot "reversed" "__init__" "object.__init__" :=
 .of (owner:="object") (n:="__init__") (by rw [Wh,VD];kernel_rfl) (by decide +kernel) (by decide +kernel) (by decide +kernel)
  (by first | exact .inl (by decide +kernel) | exact .inr (by decide +kernel)) (by rw [Xk];kernel_rfl)
theorem bb_called_rev:TypeCalled "reversed" "reversed.__new__" "object.__init__" :=
 ⟨by decide +kernel,by decide +kernel,⟨_,_,F.mro_reversed⟩,F.made_reversed,by decide +kernel,F.bb_sub_rev_rev,bb_slot_rev_init⟩
def revTup (t:Ud) (i:Int):Wu:={ cls:=.type "reversed",data:=.fields #[.ref t,WD i] }
theorem bb_meets_rev_tuple (t:Ud) (items:Array Ug) (hz:(items.size:Int)<2 ^ 63) :
 Meets (WY.«reversed.__new__» ⟨[.type "reversed",.ref t],[]⟩) (fun _ R s=>Xi s.heap t items/\∀ tk,R (.ok (.ret (.ref s.heap.objs.size))) { s with heap:=s.heap.push (revTup t ((items.size:Int) - 1)),toks:=tk }):=by
 refine .of_wp fun prog w A R s h=>?_;obtain ⟨ht,h⟩:=h;unfold WY.«reversed.__new__»;refine T9 (Xq (newClass_reversed _) ?_)
 try dsimp only
 refine T9 (Xq (a:=()) (by first | rfl | kernel_rfl) ?_);refine T9 (Xq (a:=()) (by first | rfl | kernel_rfl) ?_)
 try dsimp only
 refine T9 (VR ht.typeIs F.bb_tuple_norev ?_)
 try dsimp only
 have SQ:=F.bb_sub_tuple_dict;have SR:=U4.lookup;have hT:s.TypeIs (.ref t) "tuple":=ht.typeIs
 wp_walk using PyProof.Rows.len_tuple ht hz,WV hT
 exact ⟨_,rfl,h _⟩
theorem bb_call_rev_tuple {t:Ud} {items:Array Ug} {Q:Ug->Um->Prop} (ht:Xi s.heap t items) (hz:(items.size:Int)<2 ^ 63)
 (h:∀ tk,Q (.ref s.heap.objs.size) { s with heap:=s.heap.push (revTup t ((items.size:Int) - 1)),toks:=tk }):Uy (UU prog w) A (call (.type "reversed") [.ref t]) Q E s :=
 callType_new bb_called_rev (by decide) (F.typeCall_reversed_1 _) (F.newCall_reversed_1 _) (fun obj=>F.args_object_init_2 obj _) F.entry_reversed_new (bb_meets_rev_tuple t items hz)
  ⟨ht,fun tk=>⟨⟨_,Uu _ rfl,rfl⟩,h tk⟩⟩
def IsRevT (h:Vy) (a t:Ud) (i:Int):Prop:=∃ o,h.get? a=some o/\o.cls=.type "reversed"/\o.data=.fields #[.ref t,WD i]
theorem IsRevT.typeIs {a t:Ud} {i:Int} (x:IsRevT s.heap a t i):s.TypeIs (.ref a) "reversed":=let ⟨o,ho,hc,_⟩:=x;⟨o,ho,hc⟩
theorem IsRevT.at {h h':Vy} {a t:Ud} {i:Int} (x:IsRevT h a t i) (e:∀ o,h.get? a=some o->h'.get? a=some o):IsRevT h' a t i:=let ⟨o,ho,r⟩:=x;⟨o,e _ ho,r⟩
theorem bb_rev_iter {it t:Ud} {i:Int} {Q:Ug->Um->Prop} (hit:IsRevT s.heap it t i) (h:Q (.ref it) s):Uy (UU prog w) A (pyIter (.ref it)) Q E s:=by
 refine wpAny_pyIter_slot hit.typeIs F.bb_slot_rev_iter (Vq F.bb_slot_rev_iter hit.typeIs F.bb_entry_rev_iter ?_ (F.bb_args_rev_iter _));show Uy _ _ (ret (.ref it)) _ _ s;exact Uk ⟨_,rfl,"reversed",_,hit.typeIs,F.bb_slot_rev_next.lookup,h⟩
theorem bb_rev_next {it t:Ud} {i:Nat} {items:Array Ug} {x:Ug} {Q:Option Ug->Um->Prop} (hit:IsRevT s.heap it t (i:Int)) (ht:Xi s.heap t items) (hx:items[i]?=some x) (hz:(items.size:Int)<2 ^ 63)
 (hQ:∀ h' tk,IsRevT h' it t ((i:Int) - 1)->V9 it s.heap h'->Q (some x) { s with heap:=h',toks:=tk }):Uy (UU prog w) A (Xf (.ref it)) Q E s:=by
 obtain ⟨o,ho,hc,hd⟩:=id hit;have hi:i<items.size:=(YB.mp hx).1;unfold Xf
 refine T9 (Xe (Vm (name:=Ui "__next__") hit.typeIs F.bb_slot_rev_next
  (Vq F.bb_slot_rev_next hit.typeIs F.bb_entry_rev_next ?_ (F.bb_args_rev_next _))))
 unfold WY.«reversed.__next__»;refine T9 (Xq (a:=(US it,[])) rfl ?_)
 try dsimp only
 refine T9 (Vc ho hd (x:=.ref t) rfl ?_);refine T9 (Vc ho hd (x:=WD (i:Int)) rfl ?_);show Uy _ _ (if (i:Int)<0 then _ else _) _ _ s;rw [if_neg (by omega)];refine T9 (VR ht.typeIs U4.lookup ?_)
 try dsimp only
 rw [if_neg (by decide)];refine T9 (m:=mkInt (i:Int)) (wpAny_mkInt ?_);refine T9 (Xe (PyProof.Rows.getItem_tuple (j:=i) (x:=x) ht (by omega) (by omega) ?_ hx ?_))
 · refine (L2.nJ (n:=items.size) (i:=(i:Int)) (j:=i) ?_).1;unfold L2.ixN;rw [if_pos (by omega),if_pos (by omega)];simp
 · try dsimp only
   refine T9 (Vc ho hd (x:=WD (i:Int)) rfl ?_)
   try dsimp only
   refine T9 (XN ho hd (by simp) ?_);refine Uk ⟨x,rfl,Uk (hQ _ _ ?_ (Wq ..))⟩;exact ⟨_,U2 _ ho (Yq (Wz hd _)),(Obj.cls_mapFields ..).trans hc,by rw [Wz hd];simp⟩
theorem bb_rev_end {it t:Ud} {Q:Option Ug->Um->Prop} (hh:A.handled=none) (hit:IsRevT s.heap it t (-1))
 (hQ:∀ h' tk,ZK it s.heap h'->Q none { s with heap:=h',toks:=tk }):Uy (UU prog w) A (Xf (.ref it)) Q E s:=by
 obtain ⟨o,ho,hc,hd⟩:=id hit;unfold Xf
 refine T9 (Xe (Vm (name:=Ui "__next__") hit.typeIs F.bb_slot_rev_next
  (Vq F.bb_slot_rev_next hit.typeIs F.bb_entry_rev_next ?_ (F.bb_args_rev_next _))))
 unfold WY.«reversed.__next__»;refine T9 (Xq (a:=(US it,[])) rfl ?_)
 try dsimp only
 refine T9 (Vc ho hd (x:=.ref t) rfl ?_);refine T9 (Vc ho hd (x:=WD (-1)) rfl ?_);show Uy _ _ (if (-1:Int)<0 then _ else _) _ _ s;rw [if_pos (by decide)];refine T9 (W5 ?_);refine T9 ?_
 wp_delta
 refine T9 (XN ho hd (by simp) ?_);have DN:=U2 (Obj.mapFields (·.setIfInBounds 1 (WD (-1)))) ho (Yq (Wz hd _));refine XN DN (Wz hd _) (by simp) ?_;refine T9 ?_
 wp_delta
 refine T9 ?_;simp only [newExc,newTuple];refine T9 (Vp ?_ (by size_fits));refine T9 (m:=Yj _ _) (Xq (a:=VL) (by first | rfl | (simp only [Yj];rfl)) ?_);refine Vp ?_ (by size_fits);simp only [raiseNew];refine T9 (wpAny_handled ?_)
 first | rw [show A.in1.handled=none from hh] | rw [hh]
 refine T9 (Uk (wpAny_throw ?_));refine T9 (WZ (T:="StopIteration") (b:=true) ⟨_,Uu _ rfl,rfl⟩ isSubtype_stop ?_);refine Uk (hQ _ _ ?_);refine Heap.ExtBut.push (Heap.ExtBut.push ?_ _) _;intro b o' hb e;rw [U7 _ _ (V7 hb),U7 _ _ (V7 hb)];exact e
theorem bb_walk_revT (hh:A.handled=none) (I t:Ud) (yU:t≠I) (items:Array Ug) (hz:(items.size:Int)<2 ^ 63) :
 Walks prog w A I [I,t] [I] items.size (fun i v=>items[items.size - 1 - i]?=some v) (fun i h=>i<=items.size/\IsRevT h I t ((items.size:Int) - 1 - (i:Int))/\Xi h t items) where
 sub:=fun b hb=>by simp at hb;simp [hb]
 frame:=fun _ _ _ x hk=>⟨x.1,x.2.1.at fun o e=>hk I (by simp) o e,by obtain ⟨o,e,r⟩:=x.2.2;exact ⟨o,hk t (by simp) o e,r⟩⟩
 item:=fun i s Q E hi x hQ=>by
  have e:(items.size:Int) - 1 - (i:Int)=((items.size - 1 - i:Nat):Int):=by omega
  have hit:=x.2.1;rw [e] at hit;have hx:items[items.size - 1 - i]?=some (items[items.size - 1 - i]'(by omega)):=Wm (by omega);refine bb_rev_next hit x.2.2 hx hz fun h' tk DQ zq=>?_;have e2:((items.size - 1 - i:Nat):Int) - 1=(items.size:Int) - 1 - ((i+1:Nat):Int):=by omega
  rw [e2] at DQ;exact hQ _ h' tk hx ⟨hi,DQ,by obtain ⟨o,e,r⟩:=x.2.2;exact ⟨o,(zq.2 t yU).trans e,r⟩⟩ fun b o hb eo=>zq.extBut b o (fun h=>hb (by simp [h])) eo
 done:=fun s Q E x hQ=>by
  have e:(items.size:Int) - 1 - (items.size:Int)=-1:=by omega
  have hit:=x.2.1;rw [e] at hit;exact bb_rev_end hh hit fun h' tk Qo=>hQ h' tk fun b o hb eo=>Qo b o (fun h=>hb (by simp [h])) eo
 self:=fun _ _ _ _ x hQ=>bb_rev_iter x.2.1 hQ
def HintOk (prog:Uv) (w:UK) (A:U5) (I:Ud) (St:Nat->Vy->Prop):Prop :=
 ∀ (s:Um) (Q:Bool->Um->Prop) (E:Ug->Um->Prop),St 0 s.heap->(∀ b tk,s.toks<=tk->Q b { s with toks:=tk })->Uy (UU prog w) A (WW (.ref I)) Q E s
theorem bb_hint_lri {I l:Ud} {items:Array Ug}:HintOk prog w A I (fun i h=>i<=items.size/\h.IsRevIter I l ((items.size:Int) - 1 - (i:Int))/\h.IsList l items):=by
 intro s Q E st h;unfold WW;refine T9 (VR st.2.1.typeIs F.bb_nolen_lri ?_);show Uy _ A (specialOf (US I) (Ui "__length_hint__") >>= _) _ _ _;refine T9 (VR st.2.1.typeIs F.bb_hint_lri ?_)
 (generalize hid:("list_reverseiterator.__length_hint__":String)=Fh;(fail_if_success (clear hid Fh));wp_delta;rw [show splitId Fh=some ("list_reverseiterator","__length_hint__") from by subst hid;decide +kernel];subst hid)
 refine T9 (WZ (b:=true) st.2.1.typeIs (by rw [Xk];kernel_rfl) ?_);exact Uk (h _ _ (Ue _))
theorem bb_len_hint {I t:Ud} {items:Array Ug} {Q:Ug->Um->Prop} (hit:IsRevT s.heap I t ((items.size:Int) - 1)) (ht:Xi s.heap t items) (hz:(items.size:Int)<2 ^ 63)
 (h:∀ u tk,s.toks<=tk->Q (.int (items.size:Int) u) { s with toks:=tk }):Uy (UU prog w) A (call (.builtin "reversed.__length_hint__") [.ref I]) Q E s:=by
 obtain ⟨o,ho,hc,hd⟩:=id hit;refine Vq F.bb_slot_rev_hint hit.typeIs F.bb_entry_rev_hint ?_ (F.bb_args_rev_hint _);unfold WY.«reversed.__length_hint__»;refine T9 (Xq (a:=US I) rfl ?_)
 try dsimp only
 refine T9 (Vc ho hd (x:=.ref t) rfl ?_);rw [if_neg (show ¬ ((US t == VL)=true) from UD)];refine T9 (PyProof.Rows.len_tuple ht hz ?_);refine T9 (m:=asInt? _) (Uk ?_)
 try dsimp only
 refine T9 (Vc ho hd (x:=WD ((items.size:Int) - 1)) rfl ?_);show Uy _ _ (if (items.size:Int)<((items.size:Int) - 1)+1 then _ else _) _ _ _;rw [if_neg (by omega)];have e:((items.size:Int) - 1)+1=(items.size:Int):=by omega
 rw [e];refine T9 (wpAny_mkInt (Uk ⟨_,rfl,h _ _ ?_⟩));show s.toks<=s.toks+1+1+1;omega
theorem bb_hint_rev {I t:Ud} {items:Array Ug} (hz:items.size<=Uz):HintOk prog w A I (fun i h=>i<=items.size/\IsRevT h I t ((items.size:Int) - 1 - (i:Int))/\Xi h t items):=by
 intro s Q E st h;unfold WW;refine T9 (VR st.2.1.typeIs F.bb_nolen_rev ?_);show Uy _ A (specialOf (US I) (Ui "__length_hint__") >>= _) _ _ _;refine T9 (VR st.2.1.typeIs F.bb_slot_rev_hint.lookup ?_)
 (generalize hid:("reversed.__length_hint__":String)=Fh;(fail_if_success (clear hid Fh));wp_delta;rw [show splitId Fh=some ("reversed","__length_hint__") from by subst hid;decide +kernel];subst hid)
 refine T9 (WZ (b:=true) st.2.1.typeIs F.bb_sub_rev_rev ?_)
 have Oc:(items.size:Int)<2 ^ 63:=by
  have:=L2.fD;omega
 rw [if_neg (by decide)]
 try dsimp only
 rw [if_neg (by decide +kernel)];refine T9 (W5 ?_);refine T9 (Xq (F.bb_slot_rev_hint.bind _) ?_)
 try dsimp only
 have hit:=st.2.1;rw [show (items.size:Int) - 1 - ((0:Nat):Int)=(items.size:Int) - 1 by omega] at hit;refine T9 (Xe (bb_len_hint hit st.2.2 Oc fun u tk AJ=>?_));have f1:Builtin.List.listFitsIndex (items.size:Int)=true:=fitsIndex_of (Int.natCast_nonneg _) Oc;have f2:WA (items.size:Int).toNat=false:=L2.lV (V3 (ZG (Vk _)) hz);have f3:¬ (items.size:Int)<0:=Int.not_lt.mpr (Int.natCast_nonneg _);generalize (items.size:Int)=k at f1 f2 f3 ⊢;have fin:Uy (UU prog w) A (pure (k != 0):Sem Bool) Q E { s with toks:=tk }:=Uk (h _ _ AJ);simp only [asInt?,pure_bind,f1,f2,f3,Yg,Vv,if_false];exact fin
theorem bb_list_walk {T:String} {I:Ud} {fp wr:List Ud} {n:Nat} {P:Nat->Ug->Prop} {St:Nat->Vy->Prop} {Q:Ug->Um->Prop} (W:Walks prog w A.in1.in1 I fp wr n P St)
 (hT:∀ i (s:Um),St i s.heap->s.TypeIs (.ref I) T) (h2:(WH T == WH "list")=false) (h3:(WH T == WH "tuple")=false) (hint:HintOk prog w A.in1.in1 I St)
 (zy:St 0 s.heap) (Qp:∀ b∈fp,b<s.heap.objs.size) (hI:I∈fp) (hn:n<=Uz)
 (hQ:∀ h' tk acc c,(∀ b o,b∉wr->s.heap.get? b=some o->h'.get? b=some o)->h'.get? s.heap.objs.size=some { cls:=.type "list",dict:=none,data:=.seq acc c,slots:=#[] }->ItemsOf P acc n->Q (.ref s.heap.objs.size) { s with heap:=h',toks:=tk }) :
 Uy (UU prog w) A (call (.type "list") [.ref I]) Q E s:=by
 have Gs:s.heap.objs.size∉fp:=fun hm=>VO _ (Qp _ hm)
 refine Zz (Q₁:=fun obj yB=>obj=.ref s.heap.objs.size/\yB={ s with heap:=s.heap.push { cls:=.type "list",data:=.seq #[] } }) F.called_list (F.typeCall_list_1 _) F.entry_list_init
  (code_list_new _ ⟨rfl,rfl⟩) fun obj yB yQ=>?_
 obtain ⟨rfl,rfl⟩:=yQ;have hS:(s.heap.push { cls:=.type "list",data:=.seq #[] }).get? s.heap.objs.size=some { cls:=.type "list",data:=.seq #[] }:=Uu _ rfl;have K5:s.heap.objs.size≠I:=fun e=>Gs (e ▸ hI);refine ⟨⟨_,hS,rfl⟩,F.args_list_init_2 _ _,?_⟩;show Uy _ A.in1.in1 (do let old ← WX (.ref s.heap.objs.size);Zh (.ref s.heap.objs.size) (fun _=>#[]);letGo old.toList.reverse;Wj (.ref s.heap.objs.size) (.ref I) .none) _ _ _;refine T9 ?_;unfold WX;refine T9 (VI hS rfl (Uk ?_));refine T9 (V6 hS rfl ?_);have zM:=U2 (Vr (fun _=>(#[]:Array Ug))) hS rfl;refine T9 (YY ?_);generalize hH:(s.heap.push { cls:=.type "list",data:=.seq #[] }).update s.heap.objs.size (Vr (fun _=>(#[]:Array Ug)))=H2 at zM ⊢
 have old:∀ b o,s.heap.get? b=some o->H2.get? b=some o:=fun b o e=>by
  rw [<- hH,U7 _ _ (V7 (UX (Uw e)))];exact Uj _ e
 obtain ⟨c2,DR⟩:∃ c,H2.get? s.heap.objs.size=some { cls:=.type "list",data:=.seq #[] c }:=⟨_,zM⟩;have Bt:St 0 H2:=W.frame 0 _ _ zy fun b _ o e=>old b o e;unfold Wj;refine T9 (WV (hT 0 _ Bt) ?_);have h1:WB (.ref s.heap.objs.size) (.ref I)=false:=by simp [WB,K5]
 simp only [h1,h2,h3,Zs,Vv,if_false];refine T9 (W.self 0 _ _ _ Bt ?_);refine T9 (VJ (hint _ _ _ Bt fun b tk _=>?_))
 have key:∀ (h:Vy) (c₁ tk:Nat),St 0 h->(∀ b o,b≠s.heap.objs.size->H2.get? b=some o->h.get? b=some o)->h.get? s.heap.objs.size=some { cls:=.type "list",data:=.seq #[] c₁ } →
  Yk (UU prog w) A.in1 (.builtin "list.extend.loop" ⟨[.ref s.heap.objs.size,.ref I,.none],[]⟩) (wants (fun r ze=>r=.none/\Q (.ref s.heap.objs.size) ze) E) { s with heap:=h,toks:=tk }:=by
  intro h c₁ tk hs hk Bc;refine codeAny_extend_loopS W.toS hn _ Gs .none n 0 _ #[] c₁ rfl (UL _) hs Bc (ItemsOf.nil _) fun s' zA c' hm Cr yN=>?_;rw [Moved.eq_with hm];refine ⟨rfl,hQ s'.heap s'.toks zA c' (fun b o hb e=>hm.heap b o (fun Af=>?_) (hk b o (UX (Uw e)) (old b o e))) Cr yN⟩;rcases UB.mp Af with e' | Af
  · exact absurd (Uw e) (by rw [e'];exact VO _)
  · exact hb Af
 refine Zm (fun _=>?_) (fun _=>Uk ⟨Xg VQ _,key _ c2 _ Bt (fun b o _ e=>e) DR⟩);refine T9 (W5 ?_);refine T9 ?_;show Uy _ _ (YM s.heap.objs.size (·.push .none) >>= fun _=>YM s.heap.objs.size (·.pop)) _ _ _;refine T9 (V6 DR rfl ?_);have zN:=U2 (Vr (·.push VL)) DR rfl;refine V6 (hz:=by seq_fits) zN rfl ?_;have Bd:=U2 (Vr (·.pop)) zN rfl
 have Be:∀ b o,b≠s.heap.objs.size->H2.get? b=some o->((H2.update s.heap.objs.size (Vr (·.push VL))).update s.heap.objs.size (Vr (·.pop))).get? b=some o :=
  fun b o hb e=>(U7 _ _ (V7 hb)).trans ((U7 _ _ (V7 hb)).trans e)
 exact Uk ⟨Xg VQ _,key _ _ _ (W.frame 0 _ _ Bt fun b hb o e=>Be b o (fun z=>Gs (z ▸ hb)) e) Be Bd⟩
end
end PySem
namespace L2
open PySem PySem.Spec PyProof.Rows
def SqB (b:Bool) (K:Ub) (H:Hp) (a:Ud) (xs:List V):Prop:=if b=true then SqL K H a xs else SqT K H a xs
theorem SqB.l {K:Ub} {H:Hp} {a:Ud} {xs:List V} (h:SqL K H a xs):SqB true K H a xs:=h
theorem tK {ys:List V} {its:List Ug} {acc:Array Ug} (rv:Vals ys its) (yN:ItemsOf (fun i v=>its.toArray[its.toArray.size - 1 - i]?=some v) acc its.toArray.size):Vals ys.reverse acc.toList:=by
 have e:acc.toList=its.reverse:=by
  apply YE;intro i;have hs:acc.size=its.length:=by rw [yN.1,Uq]
  by_cases hi:i<acc.size
  · have h1:acc[i]?=some acc[i]:=Wm hi;have h2:=yN.2 i _ h1;rw [Uq] at h2;rw [Xo,h1,List.getElem?_reverse (by omega),<- h2];simp
  · rw [Xo,X6 (by omega),Wa (by rw [VC];omega)]
 rw [e];exact rv.reverse
section
variable {X:Cx} {e:Vs} {te:TE} {p p2 pos y4:Yd}
def uO (K:Ub) (te:TE):TE:=fun σ H Q=>te σ H fun x H1=>∃ b a ys,x=.ref a/\SqB b K H1 a ys/\∀ l,H1 l=none->Q (.ref l) (upd H1 l (.lst ys.reverse))
theorem nR {pins:List (Ud×Wu)} {σ:St} {H:Hp} {s:Um} {Q:VK} {b:Bool} {a:Ud} {ys:List V} (hc:X.calm=true) (I:Inv X pins σ H s) (hq:SqB b X.K H a ys) (q:∀ l,H l=none->Q (.ref l) (upd H l (.lst ys.reverse))) :
 Uy (UU X.prog X.w) X.A (call (.type "reversed") [.ref a]) (fun u s1=>Uy (UU X.prog X.w) X.A (call (.type "list") [u]) (EP X pins σ Q) X.xe s1) X.xe s:=by
 have hn:=fD;have hh:X.A.in1.in1.handled=none:=I.ok.hd hc
 have fin:∀ {its:List Ug} {s1:Um} {h':Vy} {tk:Nat} {acc:Array Ug} {c:Nat},Vals ys its->ys.length<=Uz->s1.heap.objs.size=s.heap.objs.size+1->s1.os=s.os->s1.gens=s.gens->s1.drawn=s.drawn->(∀ b o,s.heap.get? b=some o->s1.heap.get? b=some o) →
  (∀ b o,b∉[s.heap.objs.size]->s1.heap.get? b=some o->h'.get? b=some o)->h'.get? s1.heap.objs.size=some { cls:=.type "list",dict:=none,data:=.seq acc c,slots:=#[] }->ItemsOf (fun i v=>its.toArray[its.toArray.size - 1 - i]?=some v) acc its.toArray.size →
  EP X pins σ Q (.ref s1.heap.objs.size) { s1 with heap:=h',toks:=tk }:=fun {its s1 h' tk acc c} rv hz es eo eg ed k1 kp hS yN=>by
  have K1:({ s1 with heap:=h',toks:=tk }:Um)={ s with heap:=h',toks:=tk }:=by
   obtain ⟨a1,a2,a3,a4,a5⟩:=s1;have e1:a5=s.os:=eo;have e2:a2=s.gens:=eg;have e3:a3=s.drawn:=ed;subst e1;subst e2;subst e3;rfl
  have hp:s.heap.objs.size<=s1.heap.objs.size:=by rw [es];exact Nat.le_succ _
  refine ⟨.ref s1.heap.objs.size,upd H s1.heap.objs.size (.lst ys.reverse),?_,rfl,q _ (I.hok.fresh hp)⟩;rw [K1];refine I.laid (t':=tk) (fun b o e=>kp b o (fun z=>?_) (k1 b o e)) hp ⟨by rw [VC];exact hz,acc.toList,c,tK rv yN,hS⟩;exact absurd (Uw e) (by rw [UH.mp z];exact VO _)
 cases b
 · have K6:SqT X.K H a ys:=hq;obtain ⟨its,rv,p,hz⟩:=I.tuple K6;have hl:=rv.length;refine bb_call_rev_tuple p (by rw [Uq];omega) fun tk=>?_;obtain ⟨oa,Bf,ca,da⟩:=id p;have yU:a≠s.heap.objs.size:=UX (Uw Bf)
   refine bb_list_walk (T:="reversed") (bb_walk_revT hh s.heap.objs.size a yU its.toArray (by rw [Uq];omega)) (fun i s st=>st.2.1.typeIs) (by decide) (by decide) (bb_hint_rev (by rw [Uq];omega))
    ⟨UL _,?_,⟨oa,Uj _ Bf,ca,da⟩⟩ (fun b hb=>?_) (by simp) (by rw [Uq];omega) fun h' tk acc c kp hS yN=>fin rv hz (Vw ..) rfl rfl rfl (fun b o e=>Uj _ e) kp hS yN
   · rw [show (its.toArray.size:Int) - 1 - ((0:Nat):Int)=(its.toArray.size:Int) - 1 by omega];exact ⟨_,Uu _ rfl,rfl,rfl⟩
   · show b<(s.heap.push _).objs.size;rw [Vw];rcases UB.mp hb with e | e
     · rw [e];exact Nat.lt_succ_self _
     · rw [UH.mp e];exact X5 (Uw Bf)
 · have K6:SqL X.K H a ys:=hq;obtain ⟨its,rv,p,hz⟩:=I.list K6;have hl:=rv.length;refine call_reversed_list p.isList ?_;obtain ⟨oa,Bf,ca,na,da⟩:=id p.isList;have yU:a≠s.heap.objs.size:=UX (Uw Bf)
   refine bb_list_walk (T:="list_reverseiterator") (Walks.listRev hh s.heap.objs.size a yU its.toArray) (fun i s st=>st.2.1.typeIs) (by decide) (by decide) bb_hint_lri
    ⟨UL _,?_,⟨oa,Uj _ Bf,ca,na,da⟩⟩ (fun b hb=>?_) (by simp) (by rw [Uq];omega) fun h' tk acc c kp hS yN=>fin rv hz (Vw ..) rfl rfl rfl (fun b o e=>Uj _ e) kp hS yN
   · rw [show (its.toArray.size:Int) - 1 - ((0:Nat):Int)=(its.toArray.size:Int) - 1 by omega];exact ⟨_,Uu _ rfl,rfl,rfl⟩
   · show b<(s.heap.push _).objs.size;rw [Vw];rcases UB.mp hb with e | e
     · rw [e];exact Nat.lt_succ_self _
     · rw [UH.mp e];exact X5 (Uw Bf)
theorem lU (hc:X.calm=true) (g1:Gl X "list") (m1:X.mg "list"=none) (g2:Gl X "reversed") (m2:X.mg "reversed"=none) (he:PE X e te)
 (h1:Vi [.Call (.Name "reversed" p2) [e] [] y4] X.env=[(false,WE (.Call (.Name "reversed" p2) [e] [] y4) X.env)]:=by rfl) (h2:Vi [e] X.env=[(false,WE e X.env)]:=by rfl) :
 PE X (.Call (.Name "list" p) [.Call (.Name "reversed" p2) [e] [] y4] [] pos) (uO X.K te):=by
 intro pins s σ H Q I h;refine VU (dg I g1 m1 boot_list (Vg ?_ h1 rfl));rw [h1];show Uy _ _ (spliced ((false,WE (.Call (.Name "reversed" p2) [e] [] y4) X.env)::[])) _ _ s;refine VW ?_;refine VU (dg I g2 m2 boot_reversed (Vg ?_ h2 rfl));rw [h2];show Uy _ _ (spliced ((false,WE e X.env)::[])) _ _ s;refine VW (thn (he pins s σ H _ I h) fun u s1 ⟨x,H1,I1,r1,b,a,ys,ex,hq,q⟩=>?_);subst ex;cases r1;refine Wo ?_;refine thn (nR hc I1 hq q) fun v s2 h2=>Wo ?_;exact h2
def Itv (K:Ub) (a:Ud) (n:Nat):It:=⟨fun i H=>i<n/\∃ xs,SqL K H a xs/\xs.length=n,fun i H x H'=>H'=H/\∀ xs,SqL K H a xs->xs[n - 1 - i]?=some x,fun i _=>i=n⟩
theorem t7 {P:Uv} {w:UK} {K:Ub} {tg:Vs} (a it:Ud) (n:Nat):Turn P w K tg (Itv K a n) [it] it (fun i h=>h.IsRevIter it a ((n:Int) - 1 - (i:Nat))) where
 mem:=by simp
 obj:=fun i h st b hb=>by
  have e:b=it:=by simpa using hb
  subst e;obtain ⟨o,e,c,d⟩:=st;exact ⟨o,e,fun v z=>by rw [d] at z;cases z⟩
 keep:=fun i h h' st k=>st.at fun o e=>k it (by simp) o e
 item:=by
  intro X hP hw hK hc i pins s σ H E I hf st hg;subst hP hw hK;obtain ⟨hi,xs,hq,hx⟩:=hg;obtain ⟨its,rv,p,hz⟩:=I.list hq;have hl:=rv.length;obtain ⟨x,Cs⟩:∃ x,xs[n - 1 - i]?=some x:=⟨_,Ua (by omega)⟩;obtain ⟨u,hu,ru⟩:=rv.get Cs;obtain ⟨f0,f1,f2,f3,f4,f5⟩:=hf it (by simp);have e1:(n:Int) - 1 - (i:Nat)=((n - 1 - i:Nat):Int):=by omega
  rw [e1] at st;refine wpAny_pyNext_rev_item st p.isList (x:=u) (by simpa using hu) fun h' Cn sb=>?_;have I1:Inv X pins σ H { s with heap:=h' }:=I.turned (t':=s.toks) (fun b o hb e=>(sb.2 b hb).trans e) f0 f1 f3 f4 f5;have e2:((n - 1 - i:Nat):Int) - 1=(n:Int) - 1 - ((i+1:Nat):Int):=by omega
  rw [e2] at Cn;obtain ⟨o,e,c,d⟩:=id Cn;exact ⟨u,rfl,qS (s:={ s with heap:=h' }) e c d (by decide) ⟨x,H,I1,ru,⟨rfl,fun ys hy=>by rw [I.list_inj hy hq];exact Cs⟩,Cn,fun b hb=>(hf b hb).1⟩⟩
 done:=by
  intro X hP hw hK hc i pins s σ H E I hf st hg;subst hP hw hK;have K7:i=n:=hg;subst K7;obtain ⟨f0,f1,f2,f3,f4,f5⟩:=hf it (by simp);rw [show (i:Int) - 1 - (i:Nat)=-1 by omega] at st;exact wpAny_pyNext_rev_end (I.ok.hd hc) st fun h' eb=>⟨rfl,I.turned (t':=s.toks) (fun b o hb e=>eb b o hb e) f0 f1 f3 f4 f5⟩
 self:=fun _ _ _ _ _ st h=>wpAny_pyIter_revIter st h
def yl (K:Ub) (tl:TE):TI:=fun σ H R=>tl σ H fun x H1=>∃ a xs,x=.ref a/\SqL K H1 a xs/\R (Itv K a xs.length) H1
theorem wu {tg:Vs} (g2:Gl X "reversed") (m2:X.mg "reversed"=none) (he:PE X e te) (h2:Vi [e] X.env=[(false,WE e X.env)]:=by rfl):PI X tg (.Call (.Name "reversed" p2) [e] [] y4) (yl X.K te):=by
 intro pins s σ H R I h;refine VU (dg I g2 m2 boot_reversed (Vg ?_ h2 rfl));rw [h2];show Uy _ _ (spliced ((false,WE e X.env)::[])) _ _ s;refine VW (thn (he pins s σ H _ I h) fun u s1 ⟨x,H1,I1,r1,a,ys,ex,hq,q⟩=>Wo ?_);subst ex;cases r1;obtain ⟨its,rv,p,hz⟩:=I1.list hq;have hl:=rv.length;refine call_reversed_list p.isList ?_
 have hit:(s1.heap.push (revObj a ((its.toArray.size:Int) - 1))).IsRevIter s1.heap.objs.size a ((ys.length:Int) - 1 - ((0:Nat):Int)):=by
  rw [hl,show (its.length:Int) - 1 - ((0:Nat):Int)=(its.toArray.size:Int) - 1 by rw [Uq];omega];exact ⟨_,Uu _ rfl,rfl,rfl⟩
 refine wpAny_pyIter_revIter (s:={ s1 with heap:=s1.heap.push (revObj a ((its.toArray.size:Int) - 1)) }) hit ?_;refine ⟨s1.heap.objs.size,[s1.heap.objs.size],_,_,H1,rfl,I1.kept (t':=s1.toks) fun b o e=>Uj _ e,t7 a _ ys.length,hit,fun b hb=>?_,q⟩;have e:b=s1.heap.objs.size:=by simpa using hb
 subst e;exact I1.fpOk (Ue _) (I1.hok.fresh (Ue _))
theorem vH {K:Ub} {a:Ud} {xs:List V} {g:TG} {tb:TS} {D:Ends} {σ:St} {H:Hp} (Pv:Nat->St->Hp->Prop) (h0:Pv 0 σ H) (hl:∀ i σ H,i<=xs.length->Pv i σ H->SqL K H a xs)
 (hs:∀ i x σ H,i<xs.length->xs[xs.length - 1 - i]?=some x->Pv i σ H->g x σ H fun yT H2=>tb { D with nx:=Pv (i+1),ct:=Pv (i+1),bk:=D.nx } yT H2) (hd:∀ σ H,Pv xs.length σ H->D.nx σ H) :
 ∃ W:Nat->Nat->St->Hp->Prop,(∃ m,W 0 m σ H)/\∀ i m σ H,W i m σ H →
   ((Itv K a xs.length).stop i H/\D.nx σ H)∨((Itv K a xs.length).go i H/\∃ N:St->Hp->Prop,(∀ yA H',N yA H'->∃ m',m'<m/\W (i+1) m' yA H')/\∀ x H',(Itv K a xs.length).yld i H x H'->g x σ H' fun yT H2=>tb { D with nx:=N,ct:=N,bk:=D.nx } yT H2):=by
 refine ⟨fun i m σ H=>i<=xs.length/\m=xs.length - i/\Pv i σ H,⟨xs.length,UL _,rfl,h0⟩,?_⟩;rintro i m σ H ⟨hi,rfl,p⟩;by_cases h:i=xs.length
 · left;exact ⟨h,hd σ H (by rw [<- h];exact p)⟩
 · right;have y9:i<xs.length:=by omega
   refine ⟨⟨y9,xs,hl i σ H hi p,rfl⟩,Pv (i+1),fun yA H' q=>⟨xs.length - (i+1),by omega,by omega,rfl,q⟩,?_⟩;rintro x H' ⟨rfl,hx⟩;exact hs i x σ H' y9 (hx xs (hl i σ H' hi p)) p
end
end L2
namespace BB
open PySem L2
inductive Th where
 | knot (n:UP) (ks:List Th)
 | call (s k:Int)
def q:UP:=Ui "?"
def Th.kids:Th->List Th
 | .knot _ ks=>ks
 | .call _ _=>[]
mutual
def Th.size:Th->Nat
 | .knot _ ks=>aq ks+1
 | .call _ _=>1
def aq:List Th->Nat
 | []=>0
 | t::ts=>t.size+aq ts
end
mutual
def Th.tall:Th->Nat
 | .knot _ ks=>bG ks+1
 | .call _ _=>1
def bG:List Th->Nat
 | []=>0
 | t::ts=>max t.tall (bG ts)
end
mutual
/-- by places Gu -/
def Th.walk:Th->List Th
 | .knot n ks=>.knot n ks::walks ks
 | .call s k=>[.call s k]
def walks:List Th->List Th
 | []=>[]
 | t::ts=>t.walk++walks ts
end
theorem Th.walk_eq (t:Th):t.walk=t::walks t.kids:=by
 cases t with
 | knot n ks=>rw [Th.walk];rfl
 | call s k=>rw [Th.walk];simp [Th.kids,walks]
theorem Th.size_eq (t:Th):t.size=aq t.kids+1:=by
 cases t with
 | knot n ks=>rw [Th.size];rfl
 | call s k=>rw [Th.size];simp [Th.kids,aq]
theorem Th.tall_eq (t:Th):t.tall=bG t.kids+1:=by
 cases t with
 | knot n ks=>rw [Th.tall];rfl
 | call s k=>rw [Th.tall];simp [Th.kids,bG]
theorem ju:∀ a b:List Th,walks (a++b)=walks a++walks b
 | [],b=>by simp [walks]
 | t::a,b=>by rw [Wf,walks,walks,ju a b,Ve]
theorem bg:∀ a b:List Th,aq (a++b)=aq a+aq b
 | [],b=>by simp [aq]
 | t::a,b=>by rw [Wf,aq,aq,bg a b,YK]
mutual
theorem Th.walk_len:∀ t:Th,t.walk.length=t.size
 | .knot n ks=>by rw [Th.walk,Th.size,Uo,jH ks]
 | .call s k=>by rw [Th.walk,Th.size];rfl
theorem jH:∀ ts:List Th,(walks ts).length=aq ts
 | []=>rfl
 | t::ts=>by rw [walks,aq,UA,t.walk_len,jH ts]
end
theorem Th.size_pos (t:Th):1<=t.size:=by rw [t.size_eq];omega
mutual
def At (H:Hp):Th->Ud->Prop
 | .knot n ks,a=>n≠q/\∃ as:List Ud,H a=some (.tup (.str n::as.map V.ref))/\Ats H ks as
 | .call s k,a=>H a=some (.tup [.str q,.int s,.int k])
def Ats (H:Hp):List Th->List Ud->Prop
 | [],as=>as=[]
 | t::ts,as=>∃ a r,as=a::r/\At H t a/\Ats H ts r
end
def KT (H H':Hp):Prop:=∀ b xs,H b=some (.tup xs)->H' b=some (.tup xs)
theorem KT.trans {H H1 H2:Hp} (a:KT H H1) (b:KT H1 H2):KT H H2:=fun c o h=>b c o (a c o h)
theorem Same.kt {H H':Hp} (h:L2.Same H H'):KT H H':=fun b xs e=>h b _ e
theorem dZ {H:Hp} {l:Ud} {o:HO} (h:H l=none):KT H (upd H l o):=fun b xs e=>by rw [am (aL e h)];exact e
theorem aU {H:Hp} {l:Ud} {o:HO} {xs:List V} (h:H l=some (.lst xs)):KT H (upd H l o):=fun b ys e=>by rw [am (f9 e h (by intro z;cases z))];exact e
mutual
theorem At.mono {H H':Hp} (k:KT H H'):∀ {t:Th} {a:Ud},At H t a->At H' t a
 | .knot n ks,a,h=>by
   rw [At] at h ⊢;obtain ⟨h0,as,h1,h2⟩:=h;exact ⟨h0,as,k _ _ h1,Ats.mono k h2⟩
 | .call s c,a,h=>by
   rw [At] at h ⊢;exact k _ _ h
theorem Ats.mono {H H':Hp} (k:KT H H'):∀ {ts:List Th} {as:List Ud},Ats H ts as->Ats H' ts as
 | [],as,h=>by rw [Ats] at h ⊢;exact h
 | t::ts,as,h=>by
   rw [Ats] at h ⊢;obtain ⟨a,r,e,h1,h2⟩:=h;exact ⟨a,r,e,At.mono k h1,Ats.mono k h2⟩
end
theorem Ats.nil {H:Hp}:Ats H [] []:=by rw [Ats]
theorem Ats.cons {H:Hp} {t:Th} {ts:List Th} {a:Ud} {as:List Ud} (h1:At H t a) (h2:Ats H ts as):Ats H (t::ts) (a::as):=by rw [Ats];exact ⟨a,as,rfl,h1,h2⟩
theorem Ats.append {H:Hp}:∀ {ts us:List Th} {as bs:List Ud},Ats H ts as->Ats H us bs->Ats H (ts++us) (as++bs)
 | [],us,as,bs,h,g=>by rw [Ats] at h;subst h;exact g
 | t::ts,us,as,bs,h,g=>by
   rw [Ats] at h;obtain ⟨a,r,rfl,h1,h2⟩:=h;exact .cons h1 (h2.append g)
theorem Ats.length {H:Hp}:∀ {ts:List Th} {as:List Ud},Ats H ts as->as.length=ts.length
 | [],as,h=>by rw [Ats] at h;subst h;rfl
 | t::ts,as,h=>by
   rw [Ats] at h;obtain ⟨a,r,rfl,h1,h2⟩:=h;rw [Uo,Uo,h2.length]
theorem Ats.get {H:Hp}:∀ {ts:List Th} {as:List Ud} {i:Nat} {a:Ud},Ats H ts as->as[i]?=some a->∃ t,ts[i]?=some t/\At H t a
 | [],as,i,a,h,e=>by rw [Ats] at h;subst h;simp at e
 | t::ts,as,i,a,h,e=>by
   rw [Ats] at h;obtain ⟨b,r,rfl,h1,h2⟩:=h;cases i with
   | zero=>simp at e;subst e;exact ⟨t,rfl,h1⟩
   | succ i=>exact h2.get (i:=i) (by simpa using e)
theorem Ats.at {H:Hp}:∀ {ts:List Th} {as:List Ud} {i:Nat} {t:Th},Ats H ts as->ts[i]?=some t->∃ a,as[i]?=some a/\At H t a
 | [],as,i,a,h,e=>by simp at e
 | t::ts,as,i,a,h,e=>by
   rw [Ats] at h;obtain ⟨b,r,rfl,h1,h2⟩:=h;cases i with
   | zero=>simp at e;subst e;exact ⟨b,rfl,h1⟩
   | succ i=>exact h2.at (i:=i) (by simpa using e)
end BB
namespace BB
open PySem L2
def Th.nm:Th->UP
 | .knot n _=>n
 | .call _ _=>q
end BB
namespace BB
open PySem L2
def dE:UP:=Ui "abcdefghijklmnopqrstuvwxyz"
theorem qE:dE.cps.toList=(UT 26).map (97+·):=by decide +kernel
theorem kc:dE.length=26:=by decide +kernel
theorem at_nonneg {α:Type} {xs:List α} {i:Int} {v:α} (h0:0<=i) (h:xs[i.toNat]?=some v):atI xs i=some v:=by
 have e:i=((i.toNat:Nat):Int):=by omega
 rw [e];exact cu h
theorem m9 {i:Int} (h0:0<=i) (h1:i<26):atI dE.cps.toList i=some (97+i.toNat):=by
 refine at_nonneg h0 ?_;rw [qE,Ul,Va (by omega)];rfl
def Low (x:UP):Prop:=∀ c∈x.cps.toList,97<=c/\c<=122
theorem nW {x:UP} (h:Low x) (lo hi:Option Int):Low (eE x lo hi):=by
 intro c hc;have zR:c∈ko x.cps.toList lo hi:=by simpa [eE] using hc
 exact h c (List.mem_of_mem_drop (List.mem_of_mem_take zR))
theorem oj {x y:UP} (hx:Low x) (hy:Low y):Low (x++y):=by
 intro c hc;have zR:c∈(x.cps++y.cps).toList:=hc;rw [XM,U8] at zR;rcases zR with h | h
 · exact hx c h
 · exact hy c h
theorem kx {c:Nat} (h1:97<=c) (h2:c<=122):Low ⟨#[c]⟩:=by
 intro d hd;have:d=c:=by simpa using hd
 omega
theorem rV {x:UP} (h:Low x):x≠q:=by
 intro e;subst e;have:=h 63 (by decide +kernel);omega
end BB
namespace L2
open PySem PySem.Spec PyProof.Rows
theorem Same.seqT {K:Ub} {H H':Hp} {a:Ud} {xs:List V} (e:Same H H') (h:SqT K H a xs):SqT K H' a xs:=by
 rcases h with (h | ⟨o,h⟩) | h
 · exact .inl (.inl (e _ _ h))
 · exact .inl (.inr ⟨o,e _ _ h⟩)
 · exact .inr h
theorem ad {H:Hp} {p:Ud} (h:H p=none) (o:HO):Same H (upd H p o):=fun b u q=>by rw [am (aL q h)];exact q
theorem ay {H H1:Hp} {l:Ud} {o:HO} (h:Same H H1) (n:H l=none):Same H (upd H1 l o):=fun b u e=>by rw [am (aL e n)];exact h b u e
theorem vj {α:Type} {js:List (Option Nat)} {tt:TT} {te:TE} {σ:St} {J:It} {H:Hp} {xs:List V} {fin:Ud->Hp->Prop} (zs:List α) (p:α->Bool) (f:α->V) (hz:zs.length=xs.length) (hn:xs.length<=1000000)
 (Ct:∀ i H2,Same H H2->i<xs.length->J.go i H2) (zH:∀ H2,Same H H2->J.stop xs.length H2) (AK:∀ (i:Nat) H2 x H3,Same H H2->i<xs.length->J.yld i H2 x H3->H3=H2/\xs[i]?=some x)
 (HB:∀ (i:Nat) x z H2 (R:Bool->Hp->Prop),xs[i]?=some x->zs[i]?=some z->Same H H2->R (p z) H2->tt ((cσ js σ).set 0 (some x)) H2 R)
 (HC:∀ (i:Nat) x z H2 (R:VK),xs[i]?=some x->zs[i]?=some z->p z=true->Same H H2->R (f z) H2->te ((cσ js σ).set 0 (some x)) H2 R)
 (q:∀ D,H D=none->fin D (upd H D (.lst ((zs.filter p).map f)))) :
 ∀ D,H D=none->∃ (n:Nat) (W:Nat->Hp->Prop),W 0 (upd H D (.lst []))/\f8 js (aG 0) tt te σ J D n W fun H'=>fin D H':=by
 intro D hD;refine ⟨xs.length,fun i H2=>i<=xs.length/\H2=upd H D (.lst (((zs.take i).filter p).map f)),⟨UL _,by simp⟩,?_⟩;rintro i H2 ⟨hi,rfl⟩;have sm:∀ o,Same H (upd H D o):=fun o=>ad hD o;by_cases h:i=xs.length
 · left;subst h;refine ⟨zH _ (sm _),?_⟩;rw [<- hz,Wt];exact q D hD
 · right;have y9:i<xs.length:=by omega
   refine ⟨y9,Ct i _ (sm _) y9,fun x H1 hy=>?_⟩;obtain ⟨rfl,hx⟩:=AK i _ x H1 (sm _) y9 hy;have K8:i<zs.length:=by omega
   have e1:zs[i]?=some zs[i]:=Ua K8
   have e2:(zs.take (i+1)).filter p=(zs.take i).filter p++(if p zs[i]=true then [zs[i]] else []):=by
    rw [Vz,e1,X0];show _++List.filter p [zs[i]]=_;rw [V4,Y4]
   refine HB i x zs[i] _ _ hx e1 (sm _) ?_
   have hlen:(((zs.take i).filter p).map f).length<=1000000:=by
    rw [T8];have:=WU p (zs.take i);rw [U1] at this;omega
   by_cases hp:p zs[i]=true
   · rw [if_pos hp];refine HC i x zs[i] _ _ hx e1 hp (sm _) ⟨_,ab,Yv hlen (by decide),y9,?_⟩;rw [ky,e2,if_pos hp,Ut];rfl
   · rw [if_neg hp];refine ⟨y9,?_⟩;rw [e2,if_neg hp,U0]
theorem pf {α:Type} {K:Ub} {a:Ud} {js:List (Option Nat)} {tt:TT} {te:TE} {σ:St} {H:Hp} {xs:List V} {fin:Ud->Hp->Prop} (zs:List α) (p:α->Bool) (f:α->V) (hS:SqT K H a xs) (hz:zs.length=xs.length) (hn:xs.length<=1000000)
 (HB:∀ (i:Nat) x z H2 (R:Bool->Hp->Prop),xs[i]?=some x->zs[i]?=some z->Same H H2->R (p z) H2->tt ((cσ js σ).set 0 (some x)) H2 R)
 (HC:∀ (i:Nat) x z H2 (R:VK),xs[i]?=some x->zs[i]?=some z->p z=true->Same H H2->R (f z) H2->te ((cσ js σ).set 0 (some x)) H2 R)
 (q:∀ D,H D=none->fin D (upd H D (.lst ((zs.filter p).map f)))) :
 ∀ D,H D=none->∃ (n:Nat) (W:Nat->Hp->Prop),W 0 (upd H D (.lst []))/\f8 js (aG 0) tt te σ (Itt K a) D n W fun H'=>fin D H' :=
 vj zs p f hz hn (fun i H2 s hi=>⟨xs,xs[i],s.seqT hS,Ua hi⟩) (fun H2 s=>⟨xs,s.seqT hS,Ue _⟩) (fun i H2 x H3 s hi hy=>⟨hy.1,hy.2 xs (s.seqT hS)⟩) HB HC q
end L2
namespace BB
open PySem L2
theorem at0 {α:Type} {x:α} {xs:List α}:atI (x::xs) 0=some x:=cu (j:=0) rfl
theorem at1 {α:Type} {x y:α} {xs:List α}:atI (x::y::xs) 1=some y:=cu (j:=1) rfl
theorem at2 {α:Type} {x y z:α} {xs:List α}:atI (x::y::z::xs) 2=some z:=cu (j:=2) rfl
theorem dO (x:V) (xs:List V):ef (x::xs) (some 1) none=xs:=by
 unfold ef;simp [HT.sIx]
theorem bH:∀ ts:List Th,ts.length<=aq ts
 | []=>UL _
 | t::ts=>by
   have:=t.size_pos;have:=bH ts;rw [Uo,aq];omega
theorem nh (ts:List Th):aq ts.reverse=aq ts:=by
 induction ts with
 | nil=>rfl
 | cons x xs ih=>rw [Vn,bg,ih,aq,aq,aq];omega
theorem aF {n:Nat} (h:n<=1000000):n<Uz:=Yv h (by decide)
theorem ak {n:Nat} (h:n<=1000000):n<=Uz:=XE (aF h)
theorem int_at {ns:List Int} {k:Int} (h0:0<=k) (h:k<(ns.length:Int)):atI (ns.map V.int) k=some (.int (ns.getD k.toNat 0)):=by
 refine at_nonneg h0 ?_;have hk:k.toNat<ns.length:=by omega
 rw [Ul,Ua hk,List.getD_eq_getElem?_getD,Ua hk];rfl
end BB
namespace BB
open PySem L2
section
variable {α β:Type} {F G:α->β->Prop}
theorem P2.append:∀ {a c:List α} {b d:List β},UR F a b->UR F c d->UR F (a++c) (b++d)
 | _,_,_,_,.nil,h=>h
 | _,_,_,_,.cons r t,h=>.cons r (P2.append t h)
theorem P2.get:∀ {a:List α} {b:List β} {i:Nat} {x:α},UR F a b->a[i]?=some x->∃ y,b[i]?=some y/\F x y
 | _,_,_,_,.nil,e=>by simp at e
 | _,_,0,_,.cons r _,e=>by simp at e;subst e;exact ⟨_,rfl,r⟩
 | _,_,i+1,x,.cons _ t,e=>by
   obtain ⟨u,h1,h2⟩:=P2.get (i:=i) (x:=x) t (by simpa using e);exact ⟨u,by simpa using h1,h2⟩
theorem P2.get':∀ {a:List α} {b:List β} {i:Nat} {y:β},UR F a b->b[i]?=some y->∃ x,a[i]?=some x/\F x y
 | _,_,_,_,.nil,e=>by simp at e
 | _,_,0,_,.cons r _,e=>by simp at e;subst e;exact ⟨_,rfl,r⟩
 | _,_,i+1,y,.cons _ t,e=>by
   obtain ⟨u,h1,h2⟩:=P2.get' (i:=i) (y:=y) t (by simpa using e);exact ⟨u,by simpa using h1,h2⟩
theorem P2.mp (f:∀ x y,F x y->G x y):∀ {a:List α} {b:List β},UR F a b->UR G a b
 | _,_,.nil=>.nil
 | _,_,.cons r t=>.cons (f _ _ r) (P2.mp f t)
end
def KAt (H:Hp) (k:UP×Int) (a:Ud):Prop:=H a=some (.tup [.str k.1,.int k.2])
def KsAt (H:Hp) (ks:List (UP×Int)) (as:List Ud):Prop:=UR (KAt H) ks as
theorem KsAt.mono {H H':Hp} (k:KT H H') {ks:List (UP×Int)} {as:List Ud} (h:KsAt H ks as):KsAt H' ks as:=P2.mp (fun x y e=>k _ _ e) h
end BB
namespace L2
open PySem
theorem jD {t u:TS} {D:Ends} {σ:St} {H:Hp} (R:St->Hp->Prop) (h1:∀ k:St->Hp->Prop,(∀ yA H',R yA H'->k yA H')->t { D with nx:=k } σ H) (h2:∀ yA H',R yA H'->u D yA H'):wU t u D σ H:=h1 _ h2
theorem fk {c:TT} {t u:TS} {D:Ends} {σ:St} {H:Hp} (R:Bool->Hp->Prop) (h1:∀ k:Bool->Hp->Prop,(∀ b H',R b H'->k b H')->c σ H k) (h2:∀ H',R true H'->t D σ H') (h3:∀ H',R false H'->u D σ H'):xu c t u D σ H :=
 h1 _ fun b H' r=>by
  cases b with
  | true=>rw [if_pos rfl];exact h2 H' r
  | false=>rw [if_neg UD];exact h3 H' r
end L2
namespace BB
open PySem L2
section
variable {ext:Th->List V} {H H':Hp} {t:Th} {a:Ud} {ts:List Th} {es:List Ud}
end
theorem filter_tt {α:Type} (xs:List α):xs.filter (fun _=>true)=xs:=by
 induction xs with
 | nil=>rfl
 | cons x xs ih=>rw [V4,if_pos rfl,ih]
theorem bR:∀ {ts:List Th} {t:Th},t∈ts->t.tall<=bG ts
 | u::ts,t,h=>by
   rw [bG];rcases UB.mp h with rfl | h
   · omega
   · have:=bR h;omega
theorem jJ {xs:List V} {n:Nat} (h:n<=xs.length):ef xs (some (n:Int)) none=xs.drop n:=by
 unfold ef;rw [HT.sIx_nat,HT.sIx_none,Yo h];exact VG (by rw [Vx];exact Ue _)
theorem take_snoc {α:Type} {xs:List α} {n:Nat} {x:α} (h:xs[n]?=some x):xs.take (n+1)=xs.take n++[x]:=by rw [Vz,h];rfl
theorem aT {xs:List Ud} {i:Nat} {x:V} (h:(xs.map V.ref)[i]?=some x):∃ a,x=.ref a/\xs[i]?=some a:=by
 rw [Ul] at h;obtain ⟨a,h1,h2⟩:=UN.mp h;exact ⟨a,h2.symm,h1⟩
end BB
namespace PySem
open Sem (wp)
section
variable {prog:Uv} {w:UK} {A:U5} {E:Ug->Um->Prop} {s:Um}
theorem bb_tupNext {cur tp:Ud} {i:Nat} {items:Array Ug} {x:Ug} {Q:Ug->Um->Prop} (g:s.heap.IsTupleIter cur tp i) (gt:s.heap.IsTuple tp items) (hx:items[i]?=some x)
 (fin:∀ h',h'.IsTupleIter cur tp (i+1)->V9 cur s.heap h'->Q x { s with heap:=h' }):Uy (UU prog w) A (Vh (.ref cur)) Q E s:=by
 obtain ⟨ob,e1,e2,e3⟩:=id g;obtain ⟨ot,e4,_,nt,e5⟩:=gt;unfold Vh;refine T9 (Vm (name:=Ui "__next__") g.typeIs XS (Vq XS g.typeIs F.entry_tuple_iterator_next ?_ (F.args_tuple_iterator_next_1 _)));show Uy _ _ (field (.ref cur) 0 >>= _) _ _ s;refine T9 (Vc e1 e3 (x:=.ref tp) rfl ?_);show Uy _ _ (if (US tp == VL)=true then _ else _) _ _ s;rw [if_neg (show ¬ ((US tp == VL)=true) from UD)];show Uy _ _ (field (.ref cur) 1 >>= _) _ _ s;refine T9 (Vc e1 e3 (x:=.int i 0) rfl ?_);show Uy _ _ (seqItems? (.ref tp) >>= _) _ _ s;refine T9 (VI e4 e5 ?_);simp only [Vk,hx];refine T9 (XN e1 e3 (by simp) (Uk ⟨x,rfl,Uk (fin _ ?_ (Wq ..))⟩));exact ⟨_,U2 _ e1 (Yq (Wz e3 _)),(Obj.cls_mapFields ..).trans e2,by rw [Wz e3];simp [WD]⟩
theorem bb_tupEnd {cur tp:Ud} {i:Nat} {items:Array Ug} {Q:Ug->Um->Prop} (calm:A.handled=none) (g:s.heap.IsTupleIter cur tp i) (gt:s.heap.IsTuple tp items) (hx:items[i]?=none)
 (fin:∀ h' e,ZK cur s.heap h'->(∃ o,h'.get? e=some o/\o.cls=.type "StopIteration")->E (.ref e) { s with heap:=h' }):Uy (UU prog w) A (Vh (.ref cur)) Q E s:=by
 obtain ⟨ob,e1,e2,e3⟩:=id g;obtain ⟨ot,e4,_,nt,e5⟩:=gt;unfold Vh;refine T9 (Vm (name:=Ui "__next__") g.typeIs XS (Vq XS g.typeIs F.entry_tuple_iterator_next ?_ (F.args_tuple_iterator_next_1 _)));show Uy _ _ (field (.ref cur) 0 >>= _) _ _ s;refine T9 (Vc e1 e3 (x:=.ref tp) rfl ?_);show Uy _ _ (if (US tp == VL)=true then _ else _) _ _ s;rw [if_neg (show ¬ ((US tp == VL)=true) from UD)];show Uy _ _ (field (.ref cur) 1 >>= _) _ _ s;refine T9 (Vc e1 e3 (x:=.int i 0) rfl ?_);show Uy _ _ (seqItems? (.ref tp) >>= _) _ _ s;refine T9 (VI e4 e5 ?_);simp only [Vk,hx];refine T9 (W5 (T9 (XN e1 e3 (by simp) ?_)));show Uy _ _ (newExc (.type "StopIteration") [] >>= _) _ _ _;refine T9 ?_;simp only [newExc,newTuple];refine T9 (Vp ?_ (by size_fits));refine T9 (m:=Yj _ _) (Xq (a:=VL) (by first | rfl | (simp only [Yj];rfl)) ?_);refine Vp ?_ (by size_fits);simp only [raiseNew];refine T9 (wpAny_handled ?_)
 first | rw [show A.in1.handled=none from calm] | rw [calm]
 refine T9 (Uk (wpAny_throw ?_));exact fin _ _ (((Wq ..).extBut.push _).push _) ⟨_,Uu _ rfl,rfl⟩
end
theorem bb_drawsT {prog:Uv} {w:UK} {A:U5} (calm:A.handled=none) (cur tp:Ud) (ne:tp≠cur) (items:Array Ug) :
 Draws prog w A cur [cur,tp] items.size (fun i v=>items[i]?=some v) (fun i h=>h.IsTupleIter cur tp i/\h.IsTuple tp items) where
 live:=fun _ _ st=>let ⟨o,e,_⟩:=st.1;⟨o,e⟩
 frame:=fun _ _ _ st k=>⟨let ⟨o,e,r⟩:=st.1;⟨o,k cur (by simp) o e,r⟩,let ⟨o,e,r⟩:=st.2;⟨o,k tp (by simp) o e,r⟩⟩
 item:=fun i s Q E hi st q=>by
  refine bb_tupNext st.1 st.2 (x:=items[i]) (by simp [hi]) fun h' g' sb=>?_;exact q _ h' s.toks (by simp [hi]) ⟨g',st.2.extBut sb.extBut ne⟩ sb
 done:=fun s Q E st e=>bb_tupEnd calm st.1 st.2 (by simp) e
theorem bb_meetsEnumT (tp:Ud) (items:Array Ug) (n:Nat) (K9:Option Ud) (sl:Array (Option Ug)) :
 Meets (WY.«enumerate.__new__» ⟨[.type "enumerate",.ref tp],[]⟩) (fun _ R s=>s.heap.get? tp=some { cls:=.type "tuple",dict:=K9,data:=.seq items n,slots:=sl } ∧
  R (.ok (.ret (.ref (s.heap.push { cls:=.type "tuple_iterator",data:=.fields #[.ref tp,.int 0 0] }).objs.size)))
    { s with heap:=(s.heap.push { cls:=.type "tuple_iterator",data:=.fields #[.ref tp,.int 0 0] }).push { cls:=.type "enumerate",data:=.fields #[.none,.bool false,.ref s.heap.objs.size,WD 0,.none,.none] } }) :=
 .of_wp fun prog w A R s h=>by
  obtain ⟨hp,g,d,tk,os⟩:=s;obtain ⟨gt,fin⟩:=h;have su:=sub_enumerate;have gT:Heap.IsTuple (Shared.heap ⟨hp,g,d,tk,os⟩) tp items:=⟨_,gt,rfl,n,rfl⟩
  wp_walk using WC gt
  refine wpAny_stack_any fun st=>Uk ?_;split
  · rename_i c _ _ _ _ _
    cases (c == WH "enumerate")
    · wp_walk using WC gt,Xr gT
      exact ⟨_,rfl,fin⟩
    · wp_walk using WC gt,Xr gT
      exact ⟨_,rfl,fin⟩
  · wp_walk using WC gt,Xr gT
    exact ⟨_,rfl,fin⟩
section
variable {prog:Uv} {w:UK} {A:U5} {E:Ug->Um->Prop} {s:Um}
theorem bb_callEnumT {tp:Ud} {items:Array Ug} {Q:Ug->Um->Prop} (gT:s.heap.IsTuple tp items)
 (fin:∀ h',IsEnum h' (s.heap.objs.size+1) s.heap.objs.size 0 .none->h'.IsTupleIter s.heap.objs.size tp 0->h'.objs.size=s.heap.objs.size+2 →
  (∀ b o,s.heap.get? b=some o->h'.get? b=some o)->Q (.ref (s.heap.objs.size+1)) { s with heap:=h' }):Uy (UU prog w) A (call (.type "enumerate") [.ref tp]) Q E s:=by
 obtain ⟨⟨c,K9,dt,sl⟩,e1,e2,n,e3⟩:=gT;replace e2:c=.type "tuple":=e2;replace e3:dt=.seq items n:=e3;subst e2 e3;refine callType_new F.called_enumerate (by decide) (F.typeCall_enumerate_1 _) (F.newCall_enumerate_1 _) (fun obj=>F.args_object_init_2 obj _) F.entry_enumerate_new (bb_meetsEnumT tp items n K9 sl) ⟨e1,?_⟩;have z:(s.heap.push { cls:=.type "tuple_iterator",data:=.fields #[.ref tp,.int 0 0] }).objs.size=s.heap.objs.size+1:=Vw ..;show _/\_;rw [z]
 have ge:IsEnum ((s.heap.push { cls:=.type "tuple_iterator",data:=.fields #[.ref tp,.int 0 0] }).push { cls:=.type "enumerate",data:=.fields #[.none,.bool false,.ref s.heap.objs.size,WD 0,.none,.none] }) (s.heap.objs.size+1) s.heap.objs.size 0 .none:=by
  have t:=Uu (s.heap.push { cls:=.type "tuple_iterator",data:=.fields #[.ref tp,.int 0 0] }) (o:={ cls:=.type "enumerate",data:=.fields #[.none,.bool false,.ref s.heap.objs.size,WD 0,.none,.none] }) rfl;rw [z] at t;exact t
 exact ⟨⟨_,ge,rfl⟩,fin _ ge ⟨_,Uj _ (Uu _ rfl),rfl,rfl⟩ (by rw [Vw,z]) fun b o x=>Uj _ (Uj _ x)⟩
end
end PySem
namespace L2
open PySem PySem.Spec PyProof.Rows
theorem Inv.turnedL {X:Cx} {pins:List (Ud×Wu)} {σ:St} {H:Hp} {s:Um} {h':Vy} {t':Nat} {fp:List Ud} (I:Inv X pins σ H s) (k:∀ b o,b∉fp->s.heap.get? b=some o->h'.get? b=some o) (hf:∀ b∈fp,kh X pins H b) :
 Inv X pins σ H { s with heap:=h',toks:=t' }:=by
 have G7:∀ b u,H b=some u->b∉fp:=fun b u e z=>by rw [(hf b z).1] at e;cases e
 refine I.step (g':=s.gens) (d':=s.drawn) (ch:=fp) (fun b hb=>?_) (fun b o _ _ hc e _=>k b o hc e) (fun b o _ _ hc e _=>⟨o.slots,k b o hc e⟩) (fun _ _ _ _ n=>n)
  (fun b o hc e=>⟨o,k b o hc e⟩) (fun _ _ e=>e) (fun _ _ _ e=>e) (fun b ps e=>⟨#[],by rw [e];simp⟩) (fun m hm=>?_) (fun b u e=>?_) I.bare
 · obtain ⟨f0,f1,f2,f3,f4,f5⟩:=hf b hb;exact ⟨f3,f1,f4,f5⟩
 · obtain ⟨o,es,ep,ho,r⟩:=hm;exact ⟨o,es,ep,k _ o (fun z=>(hf _ z).2.1 rfl) ho,r⟩
 · refine (I.hok b u e).stay (fun c v hc q=>k c v ?_ q) (fun _ q=>q) fun _ _ q=>q;rcases hc with z | z
   · rw [z];exact G7 b u e
   · exact G7 c _ z
def Ite (K:Ub) (a:Ud):It:=⟨fun i H=>∃ xs x,SqT K H a xs/\xs[i]?=some x,fun i H x H'=>∃ p y,H p=none/\x=.ref p/\H'=upd H p (.tup [.int (i:Nat),y])/\∀ xs,SqT K H a xs->xs[i]?=some y,fun i H=>∃ xs,SqT K H a xs/\xs.length=i⟩
theorem si {P:Uv} {w:UK} {K:Ub} {elts:List Vs} {k1} {pos:Yd} (a e it:Ud):Turn P w K (.Tuple elts k1 pos) (Ite K a) [e,it] e (fun i h=>(∃ old,IsEnum h e it ((i:Nat):Int) old)/\h.IsTupleIter it a i) where
 mem:=by simp
 obj:=fun i h st b hb=>by
  obtain ⟨⟨old,he⟩,o,e1,e2,e3⟩:=st;rcases UB.mp hb with rfl | hb
  · exact ⟨_,he,fun v z=>by cases z⟩
  · have:b=it:=by simpa using hb
    subst this;exact ⟨o,e1,fun v z=>by rw [e3] at z;cases z⟩
 keep:=fun i h h' st k=>by
  obtain ⟨⟨old,he⟩,o,e1,e2⟩:=st;exact ⟨⟨old,k e (by simp) _ he⟩,o,k it (by simp) _ e1,e2⟩
 item:=by
  intro X hP hw hK hc i pins s σ H E I hf st hg;subst hP hw hK;obtain ⟨xs,x,hq,hx⟩:=hg;obtain ⟨its,rv,p,hz⟩:=I.tuple hq;obtain ⟨u,hu,ru⟩:=rv.get hx;obtain ⟨⟨old,he⟩,hi⟩:=st
  have Fi:e≠it:=by
   rintro rfl;obtain ⟨o,e1,e2,_⟩:=hi;rw [he] at e1;cases e1;exact absurd (V5 e2) (by decide)
  have Fj:a≠it:=by
   rintro rfl;obtain ⟨o,e1,e2,_⟩:=hi;obtain ⟨o',AD,AB,_⟩:=p;rw [AD] at e1;cases e1;rw [AB] at e2;exact absurd (V5 e2) (by decide)
  have K':a≠e:=by
   rintro rfl;obtain ⟨o',AD,AB,_⟩:=p;rw [he] at AD;cases AD;exact absurd (V5 AB) (by decide)
  have yK:i<its.toArray.size:=by
   have:=(Uh.mp hu).1;simpa using this
  have La:e<s.heap.objs.size:=Uw he;have An:it<s.heap.objs.size:=by obtain ⟨o,e1,_⟩:=hi;exact Uw e1
  refine wpAny_pyNext_enum_itemD (bb_drawsT (A:=X.A.in1) (show X.A.in1.handled=none from I.ok.hd hc) it a Fj its.toArray) he ⟨hi,p⟩ yK Fi (by simp [Fi,K'.symm]) fun y h1 tk hy ho Gv hT hsz hk=>?_
  have Lb:y=u:=by
   have:its[i]?=some y:=by simpa using hy
   rw [hu] at this;exact (UQ this).symm
  subst Lb;refine ⟨_,rfl,wpAny_letOwnedTupleGo_enum ho fun h2 Lc CQ=>?_⟩;replace CQ:V9 e h1 h2:=CQ
  have yU:∀ b∈[e,it],b<s.heap.objs.size:=fun b hb=>by
   rcases UB.mp hb with rfl | hb
   · exact La
   · have:b=it:=by simpa using hb
     subst this;exact An
  have HE:H s.heap.objs.size=none:=I.hok.fresh (Ue _)
  have IA:Inv X pins σ (upd H s.heap.objs.size (.tup [.int (i:Nat),x])) { s with heap:=s.heap.push { cls:=.type "tuple",data:=.seq #[.int (i:Nat) tk,y] },toks:=tk } :=
   I.laid (o:=.tup [.int (i:Nat),x]) (fun b ob q=>Uj _ q) (Ue _) ⟨by show 2<=Uz;decide,[.int (i:Nat) tk,y],0,.cons ⟨tk,rfl⟩ (.cons ru .nil),Uu _ rfl⟩
  refine ⟨.ref s.heap.objs.size,upd H s.heap.objs.size (.tup [.int (i:Nat),x]),?_,rfl,⟨_,x,HE,rfl,rfl,fun ys Hz=>by rw [I.tuple_inj Hz hq];exact hx⟩,⟨⟨y,by simpa using Lc⟩,?_⟩,fun b hb=>?_⟩
  · have IB:Inv X pins σ (upd H s.heap.objs.size (.tup [.int (i:Nat),x])) { s with heap:=h2,toks:=tk+1 }:=by
     refine Inv.turnedL (s:={ s with heap:=s.heap.push { cls:=.type "tuple",data:=.seq #[.int (i:Nat) tk,y] },toks:=tk }) (h':=h2) (fp:=[e,it]) (t':=tk+1) IA (fun b o hb q=>?_) fun b hb=>?_
     · have B4:b≠e:=fun z=>hb (by simp [z]);have Ld:b≠it:=fun z=>hb (by simp [z]);rw [CQ.2 b B4];by_cases yW:b=s.heap.objs.size
       · subst yW;rw [hT];have q':(s.heap.push { cls:=.type "tuple",data:=.seq #[.int (i:Nat) tk,y] }).get? s.heap.objs.size=some o:=q;rw [Uu _ rfl] at q';exact q'
       · have Ao:b<(s.heap.push { cls:=.type "tuple",data:=.seq #[.int (i:Nat) tk,y] }).objs.size:=Uw q;rw [Vw] at Ao;refine hk b o B4 Ld ?_;have q':(s.heap.push { cls:=.type "tuple",data:=.seq #[.int (i:Nat) tk,y] }).get? b=some o:=q;rw [Heap.get?_push_ne _ _ _ yW] at q';exact q'
     · obtain ⟨f0,f1⟩:=hf b hb;exact ⟨by rw [am (UX (yU b hb))];exact f0,f1⟩
    exact IB
  · obtain ⟨o,e1,r⟩:=Gv.1;exact ⟨o,(CQ.2 it (V7 Fi)).trans e1,r⟩
  · rw [am (UX (yU b hb))];exact (hf b hb).1
 done:=by
  intro X hP hw hK hc i pins s σ H E I hf st hg;subst hP hw hK;obtain ⟨xs,hq,hx⟩:=hg;obtain ⟨its,rv,p,hz⟩:=I.tuple hq;obtain ⟨⟨old,he⟩,hi⟩:=st
  have Fj:a≠it:=by
   rintro rfl;obtain ⟨o,e1,e2,_⟩:=hi;obtain ⟨o',AD,AB,_⟩:=p;rw [AD] at e1;cases e1;rw [AB] at e2;exact absurd (V5 e2) (by decide)
  have hn:its.toArray.size=i:=by
   have:=rv.length;rw [Uq];omega
  refine wpAny_pyNext_enum_endD (bb_drawsT (A:=X.A.in1) (show X.A.in1.handled=none from I.ok.hd hc) it a Fj its.toArray) he (by rw [hn];exact ⟨hi,p⟩) fun h' eb=>⟨rfl,?_⟩;exact I.turnedL (fp:=[e,it]) (t':=s.toks) (fun b o hb q=>eb b o (fun z=>hb (by simp [z])) q) hf
 self:=fun _ _ _ _ _ st h=>by
  obtain ⟨⟨old,he⟩,_⟩:=st;exact YX he h
section
variable {X:Cx} {e:Vs} {te:TE} {p2 y4:Yd}
def xh (K:Ub) (tl:TE):TI:=fun σ H R=>tl σ H fun x H1=>∃ a,x=.ref a/\(∃ xs,SqT K H1 a xs)/\R (Ite K a) H1
theorem n5 {elts:List Vs} {k1} {pos:Yd} (g2:Gl X "enumerate") (m2:X.mg "enumerate"=none) (he:PE X e te) (h2:Vi [e] X.env=[(false,WE e X.env)]:=by rfl):PI X (.Tuple elts k1 pos) (.Call (.Name "enumerate" p2) [e] [] y4) (xh X.K te):=by
 intro pins s σ H R I h;refine VU (dg I g2 m2 boot_enumerate (Vg ?_ h2 rfl));rw [h2];show Uy _ _ (spliced ((false,WE e X.env)::[])) _ _ s;refine VW (thn (he pins s σ H _ I h) fun u s1 ⟨x,H1,I1,r1,a,ex,⟨xs,hq⟩,q⟩=>Wo ?_);subst ex;cases r1;obtain ⟨its,rv,p,hz⟩:=I1.tuple hq;refine bb_callEnumT (show s1.heap.IsTuple a its.toArray from p) fun h' g1 g2 g3 g4=>?_;refine YX (s:={ s1 with heap:=h' }) g1 ?_;refine ⟨s1.heap.objs.size+1,[s1.heap.objs.size+1,s1.heap.objs.size],_,_,H1,rfl,I1.kept (t':=s1.toks) g4,si a _ _,⟨⟨_,g1⟩,g2⟩,fun b hb=>?_,q⟩
 have Ap:s1.heap.objs.size<=b:=by
  rcases UB.mp hb with rfl | hb
  · omega
  · have:b=s1.heap.objs.size:=by simpa using hb
    exact ZG this.symm
 exact I1.fpOk Ap (I1.hok.fresh Ap)
inductive uJ (K:Ub) (x:V) (y:V) (H:Hp) (Q:VK):Prop
 | mk (a:_) (b:_) (xs:_) (ys:_) (yL:x=.ref a) (yM:y=.ref b) (yR:SqT K H a xs) (yY:SqT K H b ys) (zf:xs.length+ys.length<=Uz) (zY:(xs=[]->Q (.ref b) H)) (BD:(xs≠[]->ys=[]->Q (.ref a) H)) (BX:(xs≠[]->ys≠[]->∀ p,H p=none->Q (.ref p) (upd H p (.tup (xs++ys))))):uJ K x y H Q
def lO (K:Ub):R2:=uJ K
theorem dz:OpR X (X3 .Add) (lO X.K):=by
 intro pins s σ H x y v u Q I rx ry h;obtain ⟨a,b,xs,ys,e1,e2,ha,hb,hz,q0,q1,q2⟩:=h;by_cases hx:xs=[]
 · subst e1 e2;cases rx;cases ry;obtain ⟨its,r1,p1,_⟩:=I.tuple ha;obtain ⟨yF,r2,p2,_⟩:=I.tuple hb;have hi:its=[]:=r1.nil_iff.mpr hx;obtain ⟨⟨cls,dd,data,sl⟩,ho,hc,n,hd⟩:=p1;obtain ⟨⟨Hj,Gq,data2,Gr⟩,DN,Co,n2,hd2⟩:=p2;simp only at hc hd Co hd2;subst hc hd Co hd2;exact concat_meets ⟨_,ho,rfl⟩ ⟨_,DN,rfl⟩ noFill_tuple_add seq_tuple_add YU YR (YI _ _) (tuple_addW0 a b its.toArray yF.toArray n n2 dd Gq sl Gr (by simp [hi])) ⟨ho,DN,⟨.ref b,H,I,rfl,q0 hx⟩⟩
 · exact vD pins s σ H x y v u Q I rx ry ⟨a,b,xs,ys,e1,e2,ha,hb,hx,hz,q1 hx,q2 hx⟩
end
end L2
namespace PySem
open Sem (wp)
abbrev tzH1 (h:Vy) (l1:Ud):Vy:=h.push { cls:=.type "tuple_iterator",data:=.fields #[.ref l1,.int 0 0] }
abbrev tzH2 (h:Vy) (l1 l2:Ud):Vy:=(tzH1 h l1).push { cls:=.type "tuple_iterator",data:=.fields #[.ref l2,.int 0 0] }
abbrev tzH3 (h:Vy) (l1 l2:Ud):Vy:=(tzH2 h l1 l2).push { cls:=.type "tuple",data:=.seq #[.ref h.objs.size,.ref (tzH1 h l1).objs.size] }
abbrev tzH4 (h:Vy) (l1 l2:Ud):Vy:=(tzH3 h l1 l2).push { cls:=.type "tuple",data:=.seq #[.none,.none] }
abbrev tzH5 (h:Vy) (l1 l2:Ud):Vy:=(tzH4 h l1 l2).push { cls:=.type "zip",data:=.fields #[.none,.bool false,.bool false,.ref (tzH2 h l1 l2).objs.size,.ref (tzH3 h l1 l2).objs.size] }
theorem IsTuple.push' {h:Vy} {l:Ud} {xs:Array Ug} (x:h.IsTuple l xs) (o:Wu):(h.push o).IsTuple l xs:=let ⟨ob,e,r⟩:=x;⟨ob,Uj _ e,r⟩
theorem bb_meets_zip (l1 l2:Ud) (xs ys:Array Ug) :
 Meets (WY.«zip.__new__» ⟨[.type "zip",.ref l1,.ref l2],[]⟩) (fun _ R s=>s.heap.IsTuple l1 xs/\s.heap.IsTuple l2 ys ∧
  R (.ok (.ret (.ref (tzH4 s.heap l1 l2).objs.size))) { s with heap:=tzH5 s.heap l1 l2 }) :=
 .of_wp fun prog w A R s h=>by
  obtain ⟨hp,g,d,tk,os⟩:=s;obtain ⟨zT,zw,h⟩:=h;have zU:=sub_zip;have Qq:Heap.IsTuple (Shared.heap ⟨hp,g,d,tk,os⟩) l1 xs:=zT;have Qr:Heap.IsTuple (Shared.heap ⟨hp.push { cls:=.type "tuple_iterator",data:=.fields #[.ref l1,.int 0 0] },g,d,tk,os⟩) l2 ys:=IsTuple.push' zw _
  wp_walk using Xr Qq,Xr Qr
  exact ⟨_,rfl,h⟩
section
variable {prog:Uv} {w:UK} {A:U5} {E:Ug->Um->Prop} {s:Um}
theorem bb_call_zip {l1 l2:Ud} {xs ys:Array Ug} {Q:Ug->Um->Prop} (zT:s.heap.IsTuple l1 xs) (zw:s.heap.IsTuple l2 ys)
 (h:∀ h',Zg h' (s.heap.objs.size+4) (s.heap.objs.size+2) (s.heap.objs.size+3) .none->Ww h' (s.heap.objs.size+2) (.ref s.heap.objs.size) (.ref (s.heap.objs.size+1)) →
  Ww h' (s.heap.objs.size+3) .none .none->h'.IsTupleIter s.heap.objs.size l1 0->h'.IsTupleIter (s.heap.objs.size+1) l2 0->h'.objs.size=s.heap.objs.size+5 →
  (∀ c o,s.heap.get? c=some o->h'.get? c=some o)->Q (.ref (s.heap.objs.size+4)) { s with heap:=h' }) :
 Uy (UU prog w) A (call (.type "zip") [.ref l1,.ref l2]) Q E s:=by
 refine callType_new F.called_zip (by decide) (F.typeCall_zip_2 _ _) (F.newCall_zip_2 _ _) (fun obj=>F.args_object_init_3 obj _ _) F.entry_zip_new
  (bb_meets_zip l1 l2 xs ys) ⟨zT,zw,?_⟩
 have z1:(tzH1 s.heap l1).objs.size=s.heap.objs.size+1:=Vw ..;have z2:(tzH2 s.heap l1 l2).objs.size=s.heap.objs.size+2:=by rw [Vw,z1]
 have z3:(tzH3 s.heap l1 l2).objs.size=s.heap.objs.size+3:=by rw [Vw,z2]
 have z4:(tzH4 s.heap l1 l2).objs.size=s.heap.objs.size+4:=by rw [Vw,z3]
 have z5:(tzH5 s.heap l1 l2).objs.size=s.heap.objs.size+5:=by rw [Vw,z4]
 have g5:(tzH5 s.heap l1 l2).get? (tzH4 s.heap l1 l2).objs.size=some _:=Uu _ rfl;have g4:(tzH5 s.heap l1 l2).get? (tzH3 s.heap l1 l2).objs.size=some _:=Uj _ (Uu _ rfl);have g3:(tzH5 s.heap l1 l2).get? (tzH2 s.heap l1 l2).objs.size=some _:=Uj _ (Uj _ (Uu _ rfl));have g2:(tzH5 s.heap l1 l2).get? (tzH1 s.heap l1).objs.size=some _:=Uj _ (Uj _ (Uj _ (Uu _ rfl)));have g1:(tzH5 s.heap l1 l2).get? s.heap.objs.size=some _:=Uj _ (Uj _ (Uj _ (Uj _ (Uu _ rfl))));show _/\_;rw [z2,z3,z4] at g5;rw [z1,z2] at g3;rw [z3] at g4;rw [z1] at g2;rw [z4]
 exact ⟨⟨_,g5,rfl⟩,h _ g5 g3 g4 ⟨_,g1,rfl,rfl⟩ ⟨_,g2,rfl,rfl⟩ z5 fun c o x =>
  Uj _ (Uj _ (Uj _ (Uj _ (Uj _ x))))⟩
structure ZSt (xs ys:Array Ug) (z TI TO i1 i2 l1 l2:Ud) (k:Nat) (h:Vy):Prop where
 ap:ZA z TI TO i1 i2 l1 l2
 zip:Zg h z TI TO .none∨∃ (T:Ud) (b:Bool) (x y:Ug),h.get? z=some { cls:=.type "zip",data:=.fields #[WD T,.bool b,.bool false,.ref TI,.ref TO] }/\Ww h T x y/\T≠TO
 hTI:Ww h TI (.ref i1) (.ref i2)
 hTO:∃ a b,Ww h TO a b
 h1:h.IsTupleIter i1 l1 k
 h2:h.IsTupleIter i2 l2 k
 t1:h.IsTuple l1 xs
 t2:h.IsTuple l2 ys
theorem ZSt.typeIs {xs ys:Array Ug} {z TI TO i1 i2 l1 l2:Ud} {k:Nat} (x:ZSt xs ys z TI TO i1 i2 l1 l2 k s.heap):s.TypeIs (.ref z) "zip":=by
 rcases x.zip with e | ⟨T,b,u,v,e,_⟩
 · exact ⟨_,e,rfl⟩
 · exact ⟨_,e,rfl⟩
theorem IsTuple.but {h h':Vy} {c l:Ud} {xs:Array Ug} (x:h.IsTuple l xs) (e:ZK c h h') (n:l≠c):h'.IsTuple l xs:=let ⟨ob,q,r⟩:=x;⟨ob,e _ _ n q,r⟩
theorem IsTupleIter.but {h h':Vy} {c i l:Ud} {k:Nat} (x:h.IsTupleIter i l k) (e:ZK c h h') (n:i≠c):h'.IsTupleIter i l k:=let ⟨ob,q,r⟩:=x;⟨ob,e _ _ n q,r⟩
theorem ZSt.frame {xs ys:Array Ug} {z TI TO i1 i2 l1 l2:Ud} {k:Nat} {h h':Vy} (x:ZSt xs ys z TI TO i1 i2 l1 l2 k h)
 (e:∀ b o,o.cls≠.type "list"->h.get? b=some o->h'.get? b=some o):ZSt xs ys z TI TO i1 i2 l1 l2 k h':=by
 obtain ⟨D,hz,hTI,⟨a,b,hTO⟩,⟨o1,a1,a2,a3⟩,⟨o2,b1,b2,b3⟩,⟨o3,c1,c2,c3⟩,⟨o4,d1,d2,d3⟩⟩:=x;refine ⟨D,?_,e _ _ (by simp) hTI,⟨a,b,e _ _ (by simp) hTO⟩,⟨o1,e _ _ (by rw [a2];simp) a1,a2,a3⟩,⟨o2,e _ _ (by rw [b2];simp) b1,b2,b3⟩,⟨o3,e _ _ (by rw [c2];simp) c1,c2,c3⟩,⟨o4,e _ _ (by rw [d2];simp) d1,d2,d3⟩⟩;rcases hz with g | ⟨T,b,u,v,g,g2,g3⟩
 · exact .inl (e _ _ (by simp) g)
 · exact .inr ⟨T,b,u,v,e _ _ (by simp) g,e _ _ (by simp) g2,g3⟩
end
end PySem
namespace PySem
open Sem (wp)
section
variable {prog:Uv} {w:UK} {A:U5} {E:Ug->Um->Prop} {s:Um}
theorem bb_zip_itemA {z TI TO i1 i2 l1 l2:Ud} {k:Nat} {xs ys:Array Ug} {x y a b:Ug} {Q:Ug->Um->Prop} (D:ZA z TI TO i1 i2 l1 l2)
 (hz:Zg s.heap z TI TO .none) (hTI:Ww s.heap TI (.ref i1) (.ref i2)) (hTO:Ww s.heap TO a b)
 (h1:s.heap.IsTupleIter i1 l1 k) (h2:s.heap.IsTupleIter i2 l2 k) (zT:s.heap.IsTuple l1 xs) (zw:s.heap.IsTuple l2 ys) (hx:xs[k]?=some x) (hy:ys[k]?=some y)
 (hQ:∀ h',Zg h' z TI TO (WD s.heap.objs.size)->Ww h' TO x y->h'.IsTupleIter i1 l1 (k+1)->h'.IsTupleIter i2 l2 (k+1)->Ww h' s.heap.objs.size x y->h'.objs.size=s.heap.objs.size+1 →
  (∀ c o,c≠z->c≠TO->c≠i1->c≠i2->s.heap.get? c=some o->h'.get? c=some o)->Q (.ref s.heap.objs.size) { s with heap:=h' }) :
 Uy (UU prog w) A (WY.«zip.__next__» ⟨[.ref z],[]⟩) (fun fin s'=>∃ v,fin=.done (.ret v)/\Q v s') E s:=by
 show Uy _ _ (field (.ref z) 2 >>= _) _ _ _;refine T9 (Vc hz rfl (x:=.bool false) rfl ?_);show Uy _ _ (field (.ref z) 3 >>= _) _ _ _;refine T9 (Vc hz rfl (x:=.ref TI) rfl ?_);refine T9 (VI hTI rfl ?_);show Uy _ _ (Vo (.ref z) >>= _) _ _ _;refine T9 ?_;unfold Vo;refine T9 (Vc hz rfl (x:=.none) rfl (Uk ?_));simp only [if_true];refine T9 (W5 ?_);refine T9 (Vc hz rfl (x:=.ref TO) rfl ?_);refine T9 (W4 hz (by simp) fun yQ zc yD=>?_);replace zc:Zg yQ z TI TO .ellipsis:=zc;refine T9 ?_;simp only [List.zipIdx_cons,List.zipIdx_nil,XY,Zf];refine T9 (T9 (wpAny_onRaise ?_));show Uy _ _ (Vh (.ref i1) >>= _) _ _ _;refine T9 (bb_tupNext (IsTupleIter.but h1 yD.extBut D.i1z) (IsTuple.but zT yD.extBut D.l1z) hx fun zz Bg yH=>Uk ?_);have Ag:Ww zz TO a b:=yH.extBut _ _ D.TOi1 (yD.extBut _ _ D.TOz hTO);refine T9 (VI Ag rfl ?_);refine T9 (Zx Ag fun Bb AL za=>?_);replace AL:Ww Bb TO x b:=AL;refine T9 (YY (Uk ?_));refine T9 (T9 (wpAny_onRaise ?_));show Uy _ _ (Vh (.ref i2) >>= _) _ _ _
 refine T9 (bb_tupNext (IsTupleIter.but (IsTupleIter.but (IsTupleIter.but h2 yD.extBut D.i2z) yH.extBut D.i12.symm) za.extBut D.TOi2.symm)
  (IsTuple.but (IsTuple.but (IsTuple.but zw yD.extBut D.l2z) yH.extBut D.l2i1) za.extBut D.l2TO) hy fun zg CS y6=>Uk ?_)
 have CT:Ww zg TO x b:=y6.extBut _ _ D.TOi2 AL;refine T9 (VI CT rfl ?_);refine T9 (Zx CT fun zh AM zO=>?_);replace AM:Ww zh TO x y:=AM;refine T9 (YY (Uk (Uk ?_)));refine T9 (VI AM rfl ?_);refine T9 (wpAny_newTuple ?_);have hsz:zh.objs.size=s.heap.objs.size:=by rw [zO.1,y6.1,za.1,yH.1,yD.1]
 have Ew:Zg zh z TI TO .ellipsis:=zO.extBut _ _ D.TOz.symm (y6.extBut _ _ D.i2z.symm (za.extBut _ _ D.TOz.symm (yH.extBut _ _ D.i1z.symm zc)))
 have HF:∀ c o,c≠z->c≠TO->c≠i1->c≠i2->s.heap.get? c=some o->zh.get? c=some o:=fun c o c1 c2 c3 c4 e =>
  zO.extBut _ _ c2 (y6.extBut _ _ c4 (za.extBut _ _ c2 (yH.extBut _ _ c3 (yD.extBut _ _ c1 e))))
 have HG:zh.IsTupleIter i1 l1 (k+1):=IsTupleIter.but (IsTupleIter.but (IsTupleIter.but Bg za.extBut D.TOi1.symm) y6.extBut D.i12) zO.extBut D.TOi1.symm;have HH:zh.IsTupleIter i2 l2 (k+1):=IsTupleIter.but CS zO.extBut D.TOi2.symm;have HI:z<zh.objs.size:=Uw Ew;show Uy _ _ (Builtin.SmallTypes.ownedTupleHandOut (.ref z) (.ref zh.objs.size) >>= _) _ _ _;refine T9 ?_;unfold Builtin.SmallTypes.ownedTupleHandOut;have HJ:Zg (zh.push { cls:=.type "tuple",data:=.seq #[x,y] }) z TI TO .ellipsis:=Uj _ Ew;refine T9 (W4 HJ (by simp) fun Le CU CV=>?_);replace CU:Zg Le z TI TO (WD zh.objs.size):=CU;refine W4 CU (by simp) fun CW BY CY=>?_;replace BY:Zg CW z TI TO (WD zh.objs.size):=BY;have up:∀ c o,c≠z->zh.get? c=some o->CW.get? c=some o:=fun c o c1 e=>CY.extBut _ _ c1 (CV.extBut _ _ c1 (Uj _ e));have Ex:Ww CW zh.objs.size x y:=CY.extBut _ _ (XC HI) (CV.extBut _ _ (XC HI) (Uu _ rfl));have Od:CW.objs.size=zh.objs.size+1:=by rw [CY.1,CV.1,Vw]
 rw [hsz] at BY Ex Od;refine Uk ⟨_,rfl,?_⟩;show Q (.ref zh.objs.size) _;rw [hsz];refine hQ CW BY (up _ _ D.TOz AM) ?_ ?_ Ex Od fun c o c1 c2 c3 c4 e=>up c o c1 (HF c o c1 c2 c3 c4 e)
 · obtain ⟨o,e,r⟩:=HG;exact ⟨o,up _ o D.i1z e,r⟩
 · obtain ⟨o,e,r⟩:=HH;exact ⟨o,up _ o D.i2z e,r⟩
theorem bb_loadIfAlive {a:Ud} {o:Wu} {Q:Option Wu->Um->Prop} (hQ:∀ u,some o=some u->Q (some u) s) (h:s.heap.get? a=some o):Uy (UU prog w) A (loadIfAlive a) Q E s:=by
 intro Γ p SS;show Sem.wp _ _ (.loadIfAlive a .pure) _ _ _ _;rw [Sem.wp_loadIfAlive,h];exact hQ o rfl
theorem bb_notfree {z T:Ud} {b:Bool} {f2 TI TO u v:Ug} (hz:s.heap.get? z=some { cls:=.type "zip",data:=.fields #[WD T,.bool b,f2,TI,TO] }) (hT:Ww s.heap T u v) :
 Uy (UU prog w) A (Vo (.ref z)) (fun a s1=>a=false/\∃ yQ,s1={ s with heap:=yQ }/\yQ.get? z=some { cls:=.type "zip",data:=.fields #[WD T,.bool true,f2,TI,TO] }/\V9 z s.heap yQ) E s:=by
 unfold Vo;refine T9 (Vc hz rfl (x:=WD T) rfl ?_);show Uy _ _ (loadIfAlive (T:Int).toNat >>= _) _ _ _;rw [Vk];refine T9 (bb_loadIfAlive (fun o (e:some _=some o)=>?_) hT);cases e;show Uy _ _ (if (some _:Option Wu).isNone=true then _ else _) _ _ _;rw [if_neg (show ¬ ((some _:Option Wu).isNone=true) from UD)];refine T9 (Vc hz rfl (x:=.bool b) rfl ?_);cases b with
 | true=>exact Uk ⟨rfl,s.heap,rfl,hz,rfl,fun _ _=>rfl⟩
 | false=>exact T9 (W4 hz (by simp) fun yQ zc yD=>Uk ⟨rfl,yQ,rfl,zc,yD⟩)
theorem bb_zip_itemB {z TI TO i1 i2 l1 l2 T:Ud} {k:Nat} {xs ys:Array Ug} {x y u v:Ug} {b:Bool} {Q:Ug->Um->Prop} (D:ZA z TI TO i1 i2 l1 l2)
 (hz:s.heap.get? z=some { cls:=.type "zip",data:=.fields #[WD T,.bool b,.bool false,.ref TI,.ref TO] }) (hT:Ww s.heap T u v) (hTI:Ww s.heap TI (.ref i1) (.ref i2))
 (h1:s.heap.IsTupleIter i1 l1 k) (h2:s.heap.IsTupleIter i2 l2 k) (zT:s.heap.IsTuple l1 xs) (zw:s.heap.IsTuple l2 ys) (hx:xs[k]?=some x) (hy:ys[k]?=some y)
 (hQ:∀ h',h'.get? z=some { cls:=.type "zip",data:=.fields #[WD T,.bool true,.bool false,.ref TI,.ref TO] }->h'.IsTupleIter i1 l1 (k+1)->h'.IsTupleIter i2 l2 (k+1)->Ww h' s.heap.objs.size x y->h'.objs.size=s.heap.objs.size+1 →
  (∀ c o,c≠z->c≠i1->c≠i2->s.heap.get? c=some o->h'.get? c=some o)->Q (.ref s.heap.objs.size) { s with heap:=h' }) :
 Uy (UU prog w) A (WY.«zip.__next__» ⟨[.ref z],[]⟩) (fun fin s'=>∃ v,fin=.done (.ret v)/\Q v s') E s:=by
 show Uy _ _ (field (.ref z) 2 >>= _) _ _ _;refine T9 (Vc hz rfl (x:=.bool false) rfl ?_);show Uy _ _ (field (.ref z) 3 >>= _) _ _ _;refine T9 (Vc hz rfl (x:=.ref TI) rfl ?_);refine T9 (VI hTI rfl ?_);show Uy _ _ (Vo (.ref z) >>= _) _ _ _;refine T9 (Wn (bb_notfree hz hT) (fun a s1 ⟨e1,yQ,e2,zc,yD⟩=>?_) fun _ _ x=>x);subst e1 e2;simp only [Vv,if_false];rw [<- X1];refine T9 ?_;simp only [XY,Zf];refine T9 (T9 (VJ ?_));show Uy _ _ (Vh (.ref i1) >>= _) _ _ _;refine T9 (bb_tupNext (IsTupleIter.but h1 yD.extBut D.i1z) (IsTuple.but zT yD.extBut D.l1z) hx fun zz Bg yH=>Uk (Uk ?_));refine T9 (T9 (VJ ?_));show Uy _ _ (Vh (.ref i2) >>= _) _ _ _;refine T9 (bb_tupNext (IsTupleIter.but (IsTupleIter.but h2 yD.extBut D.i2z) yH.extBut D.i12.symm) (IsTuple.but (IsTuple.but zw yD.extBut D.l2z) yH.extBut D.l2i1) hy fun zg CS y6=>Uk (Uk (Uk ?_)));refine T9 (wpAny_newTuple (hsz:=by show 2<=Uz;decide) (Uk ⟨_,rfl,?_⟩));have hsz:zg.objs.size=s.heap.objs.size:=by rw [y6.1,yH.1,yD.1]
 show Q (.ref zg.objs.size) { s with heap:=zg.push { cls:=.type "tuple",data:=.seq #[x,y] } };have Ey:Ww (zg.push { cls:=.type "tuple",data:=.seq #[x,y] }) zg.objs.size x y:=Uu _ rfl;have Au:(zg.push { cls:=.type "tuple",data:=.seq #[x,y] }).objs.size=zg.objs.size+1:=Vw ..;have HK:=IsTupleIter.but Bg y6.extBut D.i12;rw [hsz] at Ey Au;rw [hsz];refine hQ _ (Uj _ (y6.extBut _ _ D.i2z.symm (yH.extBut _ _ D.i1z.symm zc))) ?_ ?_ Ey Au fun c o c1 c3 c4 e=>Uj _ (y6.extBut _ _ c4 (yH.extBut _ _ c3 (yD.extBut _ _ c1 e)))
 · obtain ⟨o,e,r⟩:=HK;exact ⟨o,Uj _ e,r⟩
 · obtain ⟨o,e,r⟩:=CS;exact ⟨o,Uj _ e,r⟩
theorem bb_zip_end {z TI TO i1 i2 l1 l2:Ud} {k:Nat} {xs ys:Array Ug} {Q:Fin->Um->Prop} (hh:A.handled=none)
 (S:ZSt xs ys z TI TO i1 i2 l1 l2 k s.heap) (Av:xs[k]?=none∨ys[k]?=none)
 (hE:∀ h' e,(∀ c o,c≠z->c≠TO->c≠i1->c≠i2->s.heap.get? c=some o->h'.get? c=some o)->(∃ o,h'.get? e=some o/\o.cls=.type "StopIteration")->E (.ref e) { s with heap:=h' }) :
 Uy (UU prog w) A (WY.«zip.__next__» ⟨[.ref z],[]⟩) Q E s:=by
 obtain ⟨D,hz,hTI,⟨a,b,hTO⟩,h1,h2,zT,zw⟩:=S;rcases hz with hz | ⟨T,bb,u,v,hz,hT,Oe⟩
 · show Uy _ _ (field (.ref z) 2 >>= _) _ _ _;refine T9 (Vc hz rfl (x:=.bool false) rfl ?_);show Uy _ _ (field (.ref z) 3 >>= _) _ _ _;refine T9 (Vc hz rfl (x:=.ref TI) rfl ?_);refine T9 (VI hTI rfl ?_);show Uy _ _ (Vo (.ref z) >>= _) _ _ _;refine T9 ?_;unfold Vo;refine T9 (Vc hz rfl (x:=.none) rfl (Uk ?_));simp only [if_true];refine T9 (W5 ?_);refine T9 (Vc hz rfl (x:=.ref TO) rfl ?_);refine T9 (W4 hz (by simp) fun yQ zc yD=>?_);replace zc:Zg yQ z TI TO .ellipsis:=zc;refine T9 ?_;simp only [List.zipIdx_cons,List.zipIdx_nil,XY,Zf];refine T9 (T9 (wpAny_onRaise ?_));show Uy _ _ (Vh (.ref i1) >>= _) _ _ _;cases hx:xs[k]? with
   | none =>
     refine T9 (bb_tupEnd hh (IsTupleIter.but h1 yD.extBut D.i1z) (IsTuple.but zT yD.extBut D.l1z) hx fun zz e yH he=>?_);obtain ⟨oe,Fl,HL⟩:=he;have Ez:Zg zz z TI TO .ellipsis:=yH _ _ D.i1z.symm zc;have Lf:e≠z:=fun x=>by subst x;rw [Ez] at Fl;cases Fl;simp at HL
     refine W4 Ez (by simp) fun Bb _ za=>hE Bb e (fun c o c1 _ c3 _ x=>za.extBut _ _ c1 (yH _ _ c3 (yD.extBut _ _ c1 x))) ⟨oe,za.extBut _ _ Lf Fl,HL⟩
   | some x =>
     have hy:ys[k]?=none:=by rcases Av with h | h;rw [hx] at h;cases h;exact h
     refine T9 (bb_tupNext (IsTupleIter.but h1 yD.extBut D.i1z) (IsTuple.but zT yD.extBut D.l1z) hx fun zz Bg yH=>Uk ?_);have Ag:Ww zz TO a b:=yH.extBut _ _ D.TOi1 (yD.extBut _ _ D.TOz hTO);refine T9 (VI Ag rfl ?_);refine T9 (Zx Ag fun Bb AL za=>?_);refine T9 (YY (Uk ?_));refine T9 (T9 (wpAny_onRaise ?_));show Uy _ _ (Vh (.ref i2) >>= _) _ _ _
     refine T9 (bb_tupEnd hh (IsTupleIter.but (IsTupleIter.but (IsTupleIter.but h2 yD.extBut D.i2z) yH.extBut D.i12.symm) za.extBut D.TOi2.symm)
      (IsTuple.but (IsTuple.but (IsTuple.but zw yD.extBut D.l2z) yH.extBut D.l2i1) za.extBut D.l2TO) hy fun zg e y6 he=>?_)
     obtain ⟨oe,Fl,HL⟩:=he;have EA:Zg zg z TI TO .ellipsis:=y6 _ _ D.i2z.symm (za.extBut _ _ D.TOz.symm (yH.extBut _ _ D.i1z.symm zc));have Lf:e≠z:=fun x=>by subst x;rw [EA] at Fl;cases Fl;simp at HL
     refine W4 EA (by simp) fun zh _ zO=>hE zh e (fun c o c1 c2 c3 c4 x=>zO.extBut _ _ c1 (y6 _ _ c4 (za.extBut _ _ c2 (yH.extBut _ _ c3 (yD.extBut _ _ c1 x))))) ⟨oe,zO.extBut _ _ Lf Fl,HL⟩
 · show Uy _ _ (field (.ref z) 2 >>= _) _ _ _;refine T9 (Vc hz rfl (x:=.bool false) rfl ?_);show Uy _ _ (field (.ref z) 3 >>= _) _ _ _;refine T9 (Vc hz rfl (x:=.ref TI) rfl ?_);refine T9 (VI hTI rfl ?_);show Uy _ _ (Vo (.ref z) >>= _) _ _ _;refine T9 (Wn (bb_notfree hz hT) (fun a s1 ⟨e1,yQ,e2,zc,yD⟩=>?_) fun _ _ x=>x);subst e1 e2;simp only [Vv,if_false];rw [<- X1];refine T9 ?_;simp only [XY,Zf];refine T9 (T9 (VJ ?_));show Uy _ _ (Vh (.ref i1) >>= _) _ _ _;cases hx:xs[k]? with
   | none =>
     refine T9 (bb_tupEnd hh (IsTupleIter.but h1 yD.extBut D.i1z) (IsTuple.but zT yD.extBut D.l1z) hx fun zz e yH he=>?_);exact hE zz e (fun c o c1 _ c3 _ x=>yH _ _ c3 (yD.extBut _ _ c1 x)) he
   | some x =>
     have hy:ys[k]?=none:=by rcases Av with h | h;rw [hx] at h;cases h;exact h
     refine T9 (bb_tupNext (IsTupleIter.but h1 yD.extBut D.i1z) (IsTuple.but zT yD.extBut D.l1z) hx fun zz Bg yH=>Uk (Uk ?_));refine T9 (T9 (VJ ?_));show Uy _ _ (Vh (.ref i2) >>= _) _ _ _;refine T9 (bb_tupEnd hh (IsTupleIter.but (IsTupleIter.but h2 yD.extBut D.i2z) yH.extBut D.i12.symm) (IsTuple.but (IsTuple.but zw yD.extBut D.l2z) yH.extBut D.l2i1) hy fun zg e y6 he=>?_);exact hE zg e (fun c o c1 _ c3 c4 x=>y6 _ _ c4 (yH.extBut _ _ c3 (yD.extBut _ _ c1 x))) he
theorem bb_zip_next {z TI TO i1 i2 l1 l2:Ud} {k:Nat} {xs ys:Array Ug} {x y:Ug} {Q:Option Ug->Um->Prop} (S:ZSt xs ys z TI TO i1 i2 l1 l2 k s.heap) (hx:xs[k]?=some x) (hy:ys[k]?=some y)
 (hQ:∀ h',ZSt xs ys z TI TO i1 i2 l1 l2 (k+1) h'->Ww h' s.heap.objs.size x y->h'.objs.size=s.heap.objs.size+1 →
  (∀ c o,c∉[z,TO,i1,i2]->s.heap.get? c=some o->h'.get? c=some o)->Q (some (.ref s.heap.objs.size)) { s with heap:=h' }) :
 Uy (UU prog w) A (Xf (.ref z)) Q E s:=by
 have hT:=S.typeIs;obtain ⟨D,hz,hTI,⟨a,b,hTO⟩,h1,h2,zT,zw⟩:=S;have n1:s.heap.objs.size≠TO:=XC (Uw hTO);unfold Xf;refine T9 (Xe (Vm (name:=Ui "__next__") hT Xy (Vq Xy hT F.entry_zip_next ?_ (F.args_zip_next_1 _))));rcases hz with hz | ⟨T,bb,u,v,hz,Ey,Oe⟩
 · refine bb_zip_itemA D hz hTI hTO h1 h2 zT zw hx hy fun h' a1 a2 a3 a4 a5 a6 a7=>Uk ?_;refine hQ h' ⟨D,.inr ⟨_,_,_,_,a1,a5,n1⟩,a7 _ _ D.TIz D.TITO D.TIi1 D.TIi2 hTI,⟨_,_,a2⟩,a3,a4,?_,?_⟩ a5 a6 fun c o hc e=>a7 c o (fun q=>hc (by simp [q])) (fun q=>hc (by simp [q])) (fun q=>hc (by simp [q])) (fun q=>hc (by simp [q])) e
   · obtain ⟨o,e,r⟩:=zT;exact ⟨o,a7 _ _ D.l1z D.l1TO D.l1i1 D.l1i2 e,r⟩
   · obtain ⟨o,e,r⟩:=zw;exact ⟨o,a7 _ _ D.l2z D.l2TO D.l2i1 D.l2i2 e,r⟩
 · refine bb_zip_itemB D hz Ey hTI h1 h2 zT zw hx hy fun h' a1 a3 a4 a5 a6 a7=>Uk ?_;have Qs:T≠z:=by rintro rfl;exact absurd (V5 (congrArg Obj.cls (UQ (hz.symm.trans Ey)))) (by decide)
   have Lg:T≠i1:=by rintro rfl;obtain ⟨o,e,c,_⟩:=h1;have e2:=UQ (Ey.symm.trans e);rw [<- e2] at c;exact absurd (V5 c) (by decide)
   have Lh:T≠i2:=by rintro rfl;obtain ⟨o,e,c,_⟩:=h2;have e2:=UQ (Ey.symm.trans e);rw [<- e2] at c;exact absurd (V5 c) (by decide)
   refine hQ h' ⟨D,.inr ⟨T,true,u,v,a1,a7 _ _ Qs Lg Lh Ey,Oe⟩,a7 _ _ D.TIz D.TIi1 D.TIi2 hTI,⟨a,b,a7 _ _ D.TOz D.TOi1 D.TOi2 hTO⟩,a3,a4,?_,?_⟩ a5 a6 fun c o hc e=>a7 c o (fun q=>hc (by simp [q])) (fun q=>hc (by simp [q])) (fun q=>hc (by simp [q])) e
   · obtain ⟨o,e,r⟩:=zT;exact ⟨o,a7 _ _ D.l1z D.l1i1 D.l1i2 e,r⟩
   · obtain ⟨o,e,r⟩:=zw;exact ⟨o,a7 _ _ D.l2z D.l2i1 D.l2i2 e,r⟩
theorem bb_zip_done {z TI TO i1 i2 l1 l2:Ud} {k:Nat} {xs ys:Array Ug} {Q:Option Ug->Um->Prop} (hh:A.handled=none) (S:ZSt xs ys z TI TO i1 i2 l1 l2 k s.heap) (Av:xs[k]?=none∨ys[k]?=none)
 (hQ:∀ h',(∀ c o,c∉[z,TO,i1,i2]->s.heap.get? c=some o->h'.get? c=some o)->Q none { s with heap:=h' }):Uy (UU prog w) A (Xf (.ref z)) Q E s:=by
 have hT:=S.typeIs;unfold Xf
 refine T9 (Xe (Vm (name:=Ui "__next__") hT Xy
  (Vq Xy hT F.entry_zip_next (bb_zip_end hh S Av fun h' e hk he=>?_) (F.args_zip_next_1 _))))
 obtain ⟨o,ho,hc⟩:=he;refine T9 (WZ (T:="StopIteration") (b:=true) ⟨o,ho,hc⟩ isSubtype_stop ?_);exact Uk (hQ _ fun c o hc=>hk c o (fun q=>hc (by simp [q])) (fun q=>hc (by simp [q])) (fun q=>hc (by simp [q])) (fun q=>hc (by simp [q])))
theorem bb_zip_iter {z TI TO i1 i2 l1 l2:Ud} {k:Nat} {xs ys:Array Ug} {Q:Ug->Um->Prop} (S:ZSt xs ys z TI TO i1 i2 l1 l2 k s.heap) (h:Q (.ref z) s):Uy (UU prog w) A (pyIter (.ref z)) Q E s:=by
 have hT:=S.typeIs;refine wpAny_pyIter_slot hT F.slot_zip_iter (Vq F.slot_zip_iter hT F.entry_zip_iter ?_ (F.args_zip_iter_1 _));show Uy _ _ (ret (.ref z)) _ _ s;exact Uk ⟨_,rfl,"zip",_,hT,Xy.lookup,h⟩
end
end PySem
namespace PySem
open Sem (wp)
namespace F
theorem bb_nolen_zip:XO (.type "zip") "__len__"=pure none:=by rw [Wh,VD];kernel_rfl
theorem bb_nohint_zip:XO (.type "zip") "__length_hint__"=pure none:=by rw [Wh,VD];kernel_rfl
end F
def ZIt (xs ys:Array Ug) (n0:Nat) (h:Vy) (acc:Array Ug) (k:Nat):Prop:=acc.size=k/\∀ (j:Nat) (v:Ug),acc[j]?=some v->∃ (T:Ud) (x y:Ug),v=US T/\n0<=T/\Ww h T x y/\xs[j]?=some x/\ys[j]?=some y
section
variable {prog:Uv} {w:UK} {A:U5} {R:Result->Um->Prop}
theorem bb_zip_loop {z TI TO i1 i2 l1 l2 S:Ud} {xs ys:Array Ug} {n n0:Nat} (hh:A.in1.handled=none) (hn:n=min xs.size ys.size) (hz:n<=Uz) (J2:S∉[z,TO,i1,i2]) (hf:∀ c∈[z,TO,i1,i2],c<n0) (res:Ug) :
 ∀ (k i:Nat) (s:Um) (acc:Array Ug) (c:Nat),n - i=k->i<=n->ZSt xs ys z TI TO i1 i2 l1 l2 i s.heap->n0<=s.heap.objs.size->s.heap.get? S=some { cls:=.type "list",dict:=none,data:=.seq acc c,slots:=#[] }->ZIt xs ys n0 s.heap acc i →
 (∀ h' zA c',(∀ b o,b≠S->b∉[z,TO,i1,i2]->s.heap.get? b=some o->h'.get? b=some o)->h'.get? S=some { cls:=.type "list",dict:=none,data:=.seq zA c',slots:=#[] }->ZIt xs ys n0 h' zA n->R (.ok (.ret res)) { s with heap:=h' }) →
 Yk (UU prog w) A (.builtin "list.extend.loop" ⟨[.ref S,.ref z,res],[]⟩) R s:=by
 intro k;have EB:∀ {T:Ud},n0<=T->T∉[z,TO,i1,i2]:=fun h m=>absurd (hf _ m) (Yu.mpr h);induction k with
 | zero =>
   intro i s acc c hk hi zy h0 hS yN hR;have BW:i=n:=by omega
   subst BW;refine X7 YF ?_;rw [Xd VQ _];show Uy _ A.in1 (Xf (.ref z) >>= _) _ _ s
   have Av:xs[i]?=none∨ys[i]?=none:=by
    rcases Nat.le_total xs.size ys.size with h | h
    · exact .inl (X6 (by omega))
    · exact .inr (X6 (by omega))
   refine T9 (bb_zip_done hh zy Av fun h' zV=>Uk ?_);refine hR h' acc c (fun b o _ hb e=>zV b o hb e) (zV _ _ J2 hS) ⟨yN.1,fun j v hv=>?_⟩;obtain ⟨T,x,y,e1,e2,e3,e4⟩:=yN.2 j v hv;exact ⟨T,x,y,e1,e2,zV _ _ (EB e2) e3,e4⟩
 | succ k ih =>
   intro i s acc c hk hi zy h0 hS yN hR;have yK:i<n:=by omega
   refine X7 YF ?_;rw [Xd VQ _];show Uy _ A.in1 (Xf (.ref z) >>= _) _ _ s;have hx:xs[i]?=some xs[i]:=Wm (by omega);have hy:ys[i]?=some ys[i]:=Wm (by omega);refine T9 (bb_zip_next zy hx hy fun h' Li hT hsz zV=>?_);have Cr:=zV S _ J2 hS;have Lj:S<s.heap.objs.size:=Uw hS;show Uy _ A.in1 (YM S (·.push (.ref s.heap.objs.size)) >>= _) _ _ _;refine T9 ?_;have Be:∀ b o,b≠S->h'.get? b=some o->(h'.update S (Vr (·.push (US s.heap.objs.size)))).get? b=some o:=fun b o hb e=>(U7 _ _ (V7 hb)).trans e
   refine V6 Cr rfl (Uk ⟨Xg VQ _,ih (i+1) _ (acc.push (.ref s.heap.objs.size)) _ (by omega) yK (Li.frame fun b o ho e=>Be b o (fun z=>?_) e) ?_ (U2 _ Cr rfl) ?_ fun Ll zA c' Fm Fn CZ=>?_⟩)
    (by rw [yN.1];omega) (by show (acc.push _).size<=Uz+1;rw [Array.size_push,yN.1];omega)
   · rw [z,Cr] at e;cases e;exact ho rfl
   · show n0<=(h'.update S _).objs.size;rw [Yr];omega
   · refine ⟨by rw [Array.size_push,yN.1],fun j v hv=>?_⟩;rw [Array.getElem?_push] at hv;split at hv
     · rename_i e
       rw [yN.1] at e;cases hv;subst e;exact ⟨_,_,_,rfl,h0,Be _ _ (XC Lj) hT,hx,hy⟩
     · obtain ⟨T,x,y,e1,e2,e3,e4⟩:=yN.2 j v hv
       have Qt:T≠S:=by
        rintro rfl;exact absurd (V5 (congrArg Obj.cls (UQ (e3.symm.trans hS)))) (by decide)
       exact ⟨T,x,y,e1,e2,Be _ _ Qt (zV _ _ (EB e2) e3),e4⟩
   · exact hR Ll zA c' (fun b o hb yW e=>Fm b o hb yW (Be b o hb (zV b o yW e))) Fn CZ
end
section
variable {prog:Uv} {w:UK} {A:U5} {E:Ug->Um->Prop} {s:Um}
theorem bb_list_zip {z TI TO i1 i2 l1 l2:Ud} {xs ys:Array Ug} {n n0:Nat} {Q:Ug->Um->Prop} (hh:A.in1.in1.handled=none) (zy:ZSt xs ys z TI TO i1 i2 l1 l2 0 s.heap) (hn:n=min xs.size ys.size) (hz:n<=Uz) (h0:n0<=s.heap.objs.size) (hf:∀ c∈[z,TO,i1,i2],c<n0)
 (hQ:∀ h' acc c,(∀ b o,b∉[z,TO,i1,i2]->s.heap.get? b=some o->h'.get? b=some o)->h'.get? s.heap.objs.size=some { cls:=.type "list",dict:=none,data:=.seq acc c,slots:=#[] }->ZIt xs ys n0 h' acc n->Q (.ref s.heap.objs.size) { s with heap:=h' }) :
 Uy (UU prog w) A (call (.type "list") [.ref z]) Q E s:=by
 have Gs:s.heap.objs.size∉[z,TO,i1,i2]:=fun hm=>absurd (hf _ hm) (Yu.mpr h0);have K5:s.heap.objs.size≠z:=fun e=>Gs (by simp [e])
 refine Zz (Q₁:=fun obj yB=>obj=.ref s.heap.objs.size/\yB={ s with heap:=s.heap.push { cls:=.type "list",data:=.seq #[] } }) F.called_list (F.typeCall_list_1 _) F.entry_list_init
  (code_list_new _ ⟨rfl,rfl⟩) fun obj yB yQ=>?_
 obtain ⟨rfl,rfl⟩:=yQ;have hS:(s.heap.push { cls:=.type "list",data:=.seq #[] }).get? s.heap.objs.size=some { cls:=.type "list",data:=.seq #[] }:=Uu _ rfl;refine ⟨⟨_,hS,rfl⟩,F.args_list_init_2 _ _,?_⟩;show Uy _ A.in1.in1 (do let old ← WX (.ref s.heap.objs.size);Zh (.ref s.heap.objs.size) (fun _=>#[]);letGo old.toList.reverse;Wj (.ref s.heap.objs.size) (.ref z) .none) _ _ _;refine T9 ?_;unfold WX;refine T9 (VI hS rfl (Uk ?_));refine T9 (V6 hS rfl ?_);have zM:=U2 (Vr (fun _=>(#[]:Array Ug))) hS rfl;refine T9 (YY ?_);have B7:((s.heap.push { cls:=.type "list",data:=.seq #[] }).update s.heap.objs.size (Vr (fun _=>(#[]:Array Ug)))).objs.size=s.heap.objs.size+1:=by rw [Yr,Vw]
 generalize hH:(s.heap.push { cls:=.type "list",data:=.seq #[] }).update s.heap.objs.size (Vr (fun _=>(#[]:Array Ug)))=H2 at zM B7 ⊢
 have old:∀ b o,s.heap.get? b=some o->H2.get? b=some o:=fun b o e=>by
  rw [<- hH,U7 _ _ (V7 (UX (Uw e)))];exact Uj _ e
 obtain ⟨c2,DR⟩:∃ c,H2.get? s.heap.objs.size=some { cls:=.type "list",data:=.seq #[] c }:=⟨_,zM⟩;have Bt:ZSt xs ys z TI TO i1 i2 l1 l2 0 H2:=zy.frame fun b o _ e=>old b o e;have HM:({ s with heap:=H2 }:Um).TypeIs (.ref z) "zip":=Bt.typeIs;unfold Wj;refine T9 (WV HM ?_);have h1:WB (.ref s.heap.objs.size) (.ref z)=false:=by simp [WB,K5]
 have h2:(WH "zip" == WH "list")=false:=by decide
 have h3:(WH "zip" == WH "tuple")=false:=by decide
 simp only [h1,h2,h3,Zs,Vv,if_false];refine T9 (bb_zip_iter Bt ?_);refine T9 (VJ ?_);unfold WW;refine T9 (VR HM F.bb_nolen_zip ?_);show Uy _ _ (specialOf (US z) (Ui "__length_hint__") >>= _) _ _ _;refine T9 (VR HM F.bb_nohint_zip ?_);refine Uk ?_
 have key:∀ (h:Vy) (c₁:Nat),ZSt xs ys z TI TO i1 i2 l1 l2 0 h->n0<=h.objs.size->(∀ b o,b≠s.heap.objs.size->H2.get? b=some o->h.get? b=some o)->h.get? s.heap.objs.size=some { cls:=.type "list",data:=.seq #[] c₁ } →
  Yk (UU prog w) A.in1 (.builtin "list.extend.loop" ⟨[.ref s.heap.objs.size,.ref z,.none],[]⟩) (wants (fun r ze=>r=.none/\Q (.ref s.heap.objs.size) ze) E) { s with heap:=h }:=by
  intro h c₁ hs Dz hk Bc;refine bb_zip_loop hh hn hz Gs hf .none n 0 _ #[] c₁ rfl (UL _) hs Dz Bc ⟨rfl,fun j v e=>by simp at e⟩ fun h' zA c' hm Cr yN=>?_;exact ⟨rfl,hQ h' zA c' (fun b o hb e=>hm b o (UX (Uw e)) hb (hk b o (UX (Uw e)) (old b o e))) Cr yN⟩
 show Uy _ _ (rule "list.extend.makes-room" >>= fun _=>Builtin.List.listTouch (.ref s.heap.objs.size) >>= fun _=>again (.builtin "list.extend.loop" ⟨[.ref s.heap.objs.size,.ref z,.none],[]⟩)) _ _ _;refine T9 (W5 ?_);refine T9 ?_;show Uy _ _ (YM s.heap.objs.size (·.push .none) >>= fun _=>YM s.heap.objs.size (·.pop)) _ _ _;refine T9 (V6 DR rfl ?_);have zN:=U2 (Vr (·.push VL)) DR rfl;refine V6 (hz:=by seq_fits) zN rfl ?_;have Bd:=U2 (Vr (·.pop)) zN rfl
 have Be:∀ b o,b≠s.heap.objs.size->H2.get? b=some o->((H2.update s.heap.objs.size (Vr (·.push VL))).update s.heap.objs.size (Vr (·.pop))).get? b=some o :=
  fun b o hb e=>(U7 _ _ (V7 hb)).trans ((U7 _ _ (V7 hb)).trans e)
 refine Uk ⟨Xg VQ _,key _ _ (Bt.frame fun b o ho e=>Be b o (fun q=>?_) e) ?_ Be Bd⟩
 · rw [q,DR] at e;cases e;exact ho rfl
 · rw [Yr,Yr];show n0<=H2.objs.size;omega
end
end PySem
namespace L2
open PySem PySem.Spec PyProof.Rows
theorem Inv.laidAll {X:Cx} {pins:List (Ud×Wu)} {σ:St} {H H':Hp} {s:Um} {h':Vy} {t':Nat} (I:Inv X pins σ H s) (k:∀ b u,s.heap.get? b=some u->h'.get? b=some u)
 (old:∀ b,b<s.heap.objs.size->H' b=H b) (new:∀ b u,s.heap.objs.size<=b->H' b=some u->ObjOk X.prog X.w H' h' b u):Inv X pins σ H' { s with heap:=h',toks:=t' }:=by
 have sm:∀ b u,H b=some u->H' b=some u:=fun b u e=>by rw [old b (I.hok.lt e)];exact e
 refine I.un ⟨fun b u q _ _ _=>k b u q,fun b u q _ _ _=>⟨u.slots,k b u q⟩,fun b u q n _=>by rw [old b (Uw q)];exact n,fun b u q _=>⟨u,k b u q⟩,fun b xs q=>sm _ _ q,fun b u xs q=>sm _ _ q,fun b ps q=>⟨#[],by rw [sm _ _ q];simp⟩⟩ fun b u q=>?_;by_cases hb:b<s.heap.objs.size
 · rw [old b hb] at q;exact (I.hok b u q).stay (fun c v _ e=>k c v e) (fun c e=>sm _ _ e) fun c xs e=>sm _ _ e
 · exact new b u (Yu.mp hb) q
def mh (H:Hp):List Ud->List (V×V)->Hp
 | t::ts,p::ps=>upd (mh H ts ps) t (.tup [p.1,p.2])
 | _,_=>H
theorem k9 {H:Hp} {b:Ud}:∀ {ts:List Ud} {ps:List (V×V)},b∉ts->mh H ts ps b=H b
 | [],_,_=>rfl
 | _::_,[],_=>rfl
 | t::ts,p::ps,h=>by
   rw [mh,am (fun e=>h (by simp [e]))];exact k9 fun m=>h (UG _ m)
theorem pB {H:Hp}:∀ {ts:List Ud} {ps:List (V×V)} {b:Ud} {u:HO},mh H ts ps b=some u->H b=some u∨∃ (j:Nat) (p:V×V),ts[j]?=some b/\ps[j]?=some p/\u=.tup [p.1,p.2]
 | [],_,_,_,h=>.inl h
 | _::_,[],_,_,h=>.inl h
 | t::ts,p::ps,b,u,h=>by
   rw [mh] at h;by_cases e:b=t
   · subst e;rw [ab] at h;exact .inr ⟨0,p,rfl,rfl,(UQ h).symm⟩
   · rw [am e] at h;rcases pB h with q | ⟨j,p',q1,q2,q3⟩
     · exact .inl q
     · exact .inr ⟨j+1,p',by simpa using q1,by simpa using q2,q3⟩
theorem oI {H:Hp}:∀ {ts:List Ud} {ps:List (V×V)} {t:Ud},ts.length=ps.length->t∈ts->∃ (i:Nat) (p:V×V),ts[i]?=some t/\ps[i]?=some p/\mh H ts ps t=some (.tup [p.1,p.2])
 | [],_,_,_,h=>nomatch h
 | _::_,[],_,hl,_=>by simp at hl
 | u::ts,p::ps,t,hl,h=>by
   by_cases e:t=u
   · subst e;exact ⟨0,p,rfl,rfl,by rw [mh,ab]⟩
   · obtain ⟨i,p',q1,q2,q3⟩:=oI (H:=H) (ts:=ts) (ps:=ps) (t:=t) (by simpa using hl) (by
      rcases UB.mp h with h | h
      · exact absurd h e
      · exact h)
     exact ⟨i+1,p',by simpa using q1,by simpa using q2,by rw [mh,am e];exact q3⟩
theorem jB {α β:Type} {F:α->β->Prop}:∀ {ps:List α} {ts:List β},ps.length=ts.length->(∀ (j:Nat) p t,ps[j]?=some p->ts[j]?=some t->F p t)->UR F ps ts
 | [],[],_,_=>.nil
 | [],_::_,h,_=>by simp at h
 | _::_,[],h,_=>by simp at h
 | p::ps,t::ts,h,f=>.cons (f 0 p t rfl rfl) (jB (by simpa using h) fun j p' t' e1 e2=>f (j+1) p' t' (by simpa using e1) (by simpa using e2))
theorem rO {P:Nat->Ud->Prop}:∀ {vs:List Ug} (n:Nat),(∀ (j:Nat) v,vs[j]?=some v->∃ T,v=US T/\P (n+j) T)->∃ ts:List Ud,vs=ts.map US/\∀ (j:Nat) T,ts[j]?=some T->P (n+j) T
 | [],n,_=>⟨[],rfl,fun j T h=>by simp at h⟩
 | v::vs,n,h=>by
   obtain ⟨T,e1,e2⟩:=h 0 v rfl
   obtain ⟨ts,q1,q2⟩:=rO (P:=P) (vs:=vs) (n+1) fun j v' hv=>by
    have:=h (j+1) v' (by simpa using hv);rw [show n+1+j=n+(j+1) by omega];exact this
   refine ⟨T::ts,by rw [e1,q1];rfl,fun j T' hT=>?_⟩;cases j with
   | zero=>simp at hT;subst hT;exact e2
   | succ j =>
     have:=q2 j T' (by simpa using hT);rw [show n+1+j=n+(j+1) by omega] at this;exact this
theorem wP {α β:Type} {xs:List α} {ys:List β} {j:Nat} {p:α×β} (h:(xs.zip ys)[j]?=some p):xs[j]?=some p.1/\ys[j]?=some p.2:=by
 rw [Wk] at h;exact h
def uP (K:Ub) (t:TA):TE:=fun σ H Q=>t σ H fun vs H2=>∃ a b xs ys,vs=[.ref a,.ref b]/\SqT K H2 a xs/\SqT K H2 b ys ∧
 ∀ (l:Ud) (ts:List Ud) (H':Hp),Same H2 H'->H2 l=none->H' l=some (.lst (ts.map V.ref))->UR (fun (p:V×V) t=>H' t=some (.tup [p.1,p.2])) (xs.zip ys) ts->Q (.ref l) H'
section
variable {X:Cx} {e1 e2:Vs} {t:TA} {p p2 pos y4:Yd}
theorem qA (hc:X.calm=true) (g1:Gl X "list") (m1:X.mg "list"=none) (g2:Gl X "zip") (m2:X.mg "zip"=none) (ha:PA X [e1,e2] t)
 (h1:Vi [.Call (.Name "zip" p2) [e1,e2] [] y4] X.env=[(false,WE (.Call (.Name "zip" p2) [e1,e2] [] y4) X.env)]:=by rfl) (h2:Vi [e1,e2] X.env=(false,WE e1 X.env)::Vi [e2] X.env:=by rfl) (h3:(Yl y4 (Vi [e2] X.env)).any (·.1)=false:=by rfl) :
 PE X (.Call (.Name "list" p) [.Call (.Name "zip" p2) [e1,e2] [] y4] [] pos) (uP X.K t):=by
 intro pins s σ H Q I h;refine VU (dg I g1 m1 boot_list (Vg ?_ h1 rfl));rw [h1];show Uy _ _ (spliced ((false,WE (.Call (.Name "zip" p2) [e1,e2] [] y4) X.env)::[])) _ _ s;refine VW ?_;refine VU (dg I g2 m2 boot_zip ?_);refine Vg (thn (ha y4 pins s σ H _ I h) fun us s2 ⟨vs,H2,I2,r,a,b,xs,ys,ev,EC,ED,q⟩=>?_) h2 h3;subst ev;obtain ⟨u1,u2,rfl,r1,r2⟩:=vals2 r;cases r1;cases r2;obtain ⟨ia,Fp,pa,Gw⟩:=I2.tuple EC;obtain ⟨ib,Fq,pb,Lm⟩:=I2.tuple ED;have AX:=Fp.length;have Qu:=Fq.length;have Aw:a<s2.heap.objs.size:=by obtain ⟨o,e,_⟩:=pa;exact Uw e
 have Ao:b<s2.heap.objs.size:=by obtain ⟨o,e,_⟩:=pb;exact Uw e
 have hh:X.A.in1.in1.handled=none:=I2.ok.hd hc;refine bb_call_zip (show s2.heap.IsTuple a ia.toArray from pa) (show s2.heap.IsTuple b ib.toArray from pb) fun h' z1 z2 z3 z4 z5 z6 z7=>Wo ?_;have D:ZA (s2.heap.objs.size+4) (s2.heap.objs.size+2) (s2.heap.objs.size+3) s2.heap.objs.size (s2.heap.objs.size+1) a b:=zipApart_new Aw Ao
 have st:ZSt ia.toArray ib.toArray (s2.heap.objs.size+4) (s2.heap.objs.size+2) (s2.heap.objs.size+3) s2.heap.objs.size (s2.heap.objs.size+1) a b 0 h':=by
  refine ⟨D,.inl z1,z2,⟨_,_,z3⟩,z4,z5,?_,?_⟩
  · obtain ⟨o,e,r⟩:=pa;exact ⟨o,z7 _ _ e,r⟩
  · obtain ⟨o,e,r⟩:=pb;exact ⟨o,z7 _ _ e,r⟩
 have hf:∀ c∈[s2.heap.objs.size+4,s2.heap.objs.size+3,s2.heap.objs.size,s2.heap.objs.size+1],s2.heap.objs.size<=c/\c<h'.objs.size:=fun c hc=>by
  simp at hc;rw [z6];have zR:(c:Nat)=s2.heap.objs.size+4∨(c:Nat)=s2.heap.objs.size+3∨(c:Nat)=s2.heap.objs.size∨(c:Nat)=s2.heap.objs.size+1:=hc;constructor
  · show (s2.heap.objs.size:Nat)<=(c:Nat);omega
  · show (c:Nat)<s2.heap.objs.size+5;omega
 refine bb_list_zip (s:={ s2 with heap:=h' }) hh st rfl (by rw [Uq,Uq];omega) (Ue _) (fun c hc=>(hf c hc).2) fun h2 acc c kp hS yN=>?_;replace hS:h2.get? h'.objs.size=some { cls:=.type "list",dict:=none,data:=.seq acc c,slots:=#[] }:=hS;have Fs:∀ b o,s2.heap.get? b=some o->h2.get? b=some o:=fun b o e=>kp b o (fun m=>absurd (Uw e) (Yu.mpr (hf b m).1)) (z7 b o e);obtain ⟨hsz,hit⟩:=yN
 obtain ⟨ts,et,ht⟩:=rO (P:=fun j T=>h'.objs.size<=T/\∃ x y,Ww h2 T x y/\ia.toArray[j]?=some x/\ib.toArray[j]?=some y) (vs:=acc.toList) 0 (fun j v hv=>by
  obtain ⟨T,x,y,g1,g2,g3,g4,g5⟩:=hit j v (by simpa using hv);rw [Nat.zero_add];exact ⟨T,g1,g2,x,y,g3,g4,g5⟩)
 simp only [Nat.zero_add] at ht
 have zb:ts.length=(xs.zip ys).length:=by
  have e:=congrArg W7 et;rw [T8,UY,hsz,Uq,Uq] at e;rw [Xm];omega
 have rel:∀ (j:Nat) (p:V×V) (T:Ud),(xs.zip ys)[j]?=some p->ts[j]?=some T->∃ x y,Ww h2 T x y/\RelV p.1 x/\RelV p.2 y:=fun j p T hp hT=>by
  obtain ⟨_,x,y,g3,g4,g5⟩:=ht j T hT;obtain ⟨AN,AO⟩:=wP hp;obtain ⟨x',k1,k2⟩:=Fp.get AN;obtain ⟨y',k3,k4⟩:=Fq.get AO
  have e1:x'=x:=by
   have:ia[j]?=some x:=by simpa using g4
   rw [k1] at this;exact UQ this
  have e2:y'=y:=by
   have:ib[j]?=some y:=by simpa using g5
   rw [k3] at this;exact UQ this
  subst e1 e2;exact ⟨_,_,g3,k2,k4⟩
 have same:∀ (i j:Nat) (p p':V×V) (T:Ud),(xs.zip ys)[i]?=some p->(xs.zip ys)[j]?=some p'->ts[i]?=some T->ts[j]?=some T->p=p':=fun i j p p' T h1 h2 h3 h4=>by
  obtain ⟨x,y,g1,g2,g3⟩:=rel i p T h1 h3;obtain ⟨x',y',k1,k2,k3⟩:=rel j p' T h2 h4;have e:=UQ (g1.symm.trans k1);have ed:=congrArg Obj.data e;injection ed with Qv _;have el:=congrArg ZL Qv;have ex:x=x':=(Zr el).1;have ey:y=y':=(Zr (Zr el).2).1;subst ex ey;obtain ⟨p1,p2⟩:=p;obtain ⟨q1,q2⟩:=p';have f1:p1=q1:=g2.inj k2;have f2:p2=q2:=g3.inj k3;rw [f1,f2]
 have HN:h'.objs.size∉ts:=fun m=>by
  obtain ⟨j,hj⟩:=List.getElem?_of_mem m;obtain ⟨_,x,y,g3,_⟩:=ht j _ hj;exact absurd (V5 (congrArg Obj.cls (UQ (g3.symm.trans hS)))) (by decide)
 have HP:s2.heap.objs.size<h'.objs.size:=by rw [z6];omega
 have HQ:∀ T∈ts,h'.objs.size<=T:=fun T m=>by
  obtain ⟨j,hj⟩:=List.getElem?_of_mem m;exact (ht j _ hj).1
 have EE:∀ b,s2.heap.objs.size<=b->H2 b=none:=fun b hb=>I2.hok.fresh hb;have zw:H2 h'.objs.size=none:=EE _ (XE HP)
 have Qw:∀ (j:Nat) (p:V×V) (T:Ud),(xs.zip ys)[j]?=some p->ts[j]?=some T->mh H2 ts (xs.zip ys) T=some (.tup [p.1,p.2]):=fun j p T hp hT=>by
  obtain ⟨i,p',k1,k2,k3⟩:=oI (H:=H2) zb (Uc hT);rw [k3,same i j p' p T k2 hp k1 hT]
 have I3:Inv X pins σ (upd (mh H2 ts (xs.zip ys)) h'.objs.size (.lst (ts.map V.ref))) { s2 with heap:=h2,toks:=s2.toks }:=by
  refine I2.laidAll Fs (fun b hb=>?_) fun b u hb hu=>?_
  · rw [am (UX (XD hb HP)),k9];exact fun m=>absurd (XD hb HP) (Yu.mpr (HQ b m))
  · by_cases e:b=h'.objs.size
    · subst e;rw [ab] at hu;cases hu;refine ⟨by rw [T8,zb,Xm];omega,ts.map US,c,?_,by rw [<- et];exact hS⟩
      exact jB (by simp) fun j p t e1 e2=>by
       rw [Ul] at e1 e2;cases q:ts[j]? with
       | none=>rw [q] at e1;cases e1
       | some T=>rw [q] at e1 e2;cases e1;cases e2;rfl
    · rw [am e] at hu;rcases pB hu with q | ⟨j,p,q1,q2,q3⟩
      · rw [EE b hb] at q;cases q
      · subst q3;obtain ⟨x,y,g1,g2,g3⟩:=rel j p b q2 q1;exact ⟨by show 2<=Uz;decide,[x,y],0,.cons g2 (.cons g3 .nil),g1⟩
 refine ⟨.ref h'.objs.size,_,I3,rfl,q h'.objs.size ts _ (fun b o e=>?_) zw ab ?_⟩
 · have hb:=I2.hok.lt e;rw [am (UX (XD hb HP)),k9]
   · exact e
   · exact fun m=>absurd (XD hb HP) (Yu.mpr (HQ b m))
 · refine jB zb.symm fun j p T hp hT=>?_;rw [am (show T≠h'.objs.size from fun e=>HN (by rw [<- e];exact Uc hT))];exact Qw j p T hp hT
end
end L2
namespace L2
open PySem PySem.Spec PyProof.Rows
section
variable {κ:Type} [DecidableEq κ]
def aW (f':List (κ×V)) (k:κ):Option V:=(f'.find? fun kv=>decide (kv.1=k)).map (·.2)
def putK (f':List (κ×V)) (k:κ) (v:V):List (κ×V) :=
 if (f'.any fun kv=>decide (kv.1=k))=true then f'.map (fun kv=>if kv.1=k then (kv.1,v) else kv) else f'++[(k,v)]
theorem bO {p:κ×V} {r:List (κ×V)} {k:κ} (e:p.1=k):aW (p::r) k=some p.2:=by simp [aW,W2,e]
theorem bU {p:κ×V} {r:List (κ×V)} {k:κ} (e:¬ p.1=k):aW (p::r) k=aW r k:=by simp [aW,W2,e]
theorem eA (k:κ):∀ f':List (κ×V),(f'.any fun kv=>decide (kv.1=k))=(aW f' k).isSome
 | []=>rfl
 | p::r=>by
   rw [List.any_cons];by_cases e:p.1=k
   · simp only [bO e,decide_eq_true e,Bool.true_or,Option.isSome_some]
   · rw [bU e,decide_eq_false e,XW];exact eA k r
theorem o6 (k j:κ) (y:V):∀ f':List (κ×V),aW (f'.map fun kv=>if kv.1=k then (kv.1,y) else kv) j=(aW f' j).map fun x=>if j=k then y else x
 | []=>rfl
 | p::r=>by
   have ih:=o6 k j y r;rw [Vd];by_cases h:p.1=k
   · rw [if_pos h];by_cases e:p.1=j
     · rw [bO (p:=(p.1,y)) e,bO e,Yn,if_pos (e.symm.trans h)]
     · rw [bU (p:=(p.1,y)) e,bU e,ih]
   · rw [if_neg h];by_cases e:p.1=j
     · rw [bO (p:=p) e,bO e,Yn,if_neg (fun z=>h (e.trans z))]
     · rw [bU (p:=p) e,bU e,ih]
theorem mE (k j:κ) (y:V):∀ f':List (κ×V),aW f' k=none->aW (f'++[(k,y)]) j=if j=k then some y else aW f' j
 | [],_=>by
   by_cases e:k=j
   · rw [if_pos e.symm];exact bO (p:=(k,y)) e
   · rw [if_neg (fun z=>e z.symm)];exact bU (p:=(k,y)) e
 | p::r,hn=>by
   rw [Wf];have hk:¬ p.1=k:=fun z=>by rw [bO z] at hn;cases hn
   rw [bU hk] at hn;have ih:=mE k j y r hn;by_cases e:p.1=j
   · rw [bO e,bO e,if_neg (fun z=>hk (e.trans z))]
   · rw [bU e,bU e,ih]
theorem jh (f':List (κ×V)) (k j:κ) (y:V):aW (putK f' k y) j=if j=k then some y else aW f' j:=by
 unfold putK;by_cases a:(f'.any fun kv=>decide (kv.1=k))=true
 · rw [if_pos a,o6];rw [eA] at a;by_cases e:j=k
   · obtain ⟨x,hx⟩:=XR.mp a;rw [if_pos e,e,hx,Yn,if_pos rfl]
   · rw [if_neg e];cases aW f' j with
     | none=>rfl
     | some x=>rw [Yn,if_neg e]
 · rw [if_neg a];refine mE k j y f' ?_;rw [eA] at a;cases q:aW f' k with
   | none=>rfl
   | some x=>rw [q] at a;exact (a rfl).elim
theorem ce (f':List (κ×V)) (k:κ) (v:V):(putK f' k v).length<=f'.length+1:=by
 unfold putK;split
 · rw [T8];omega
 · rw [UA,Uo,W0];omega
theorem kS {f':List (κ×V)} {k:κ} (v:V) (h:aW f' k=none):putK f' k v=f'++[(k,v)]:=by
 unfold putK;rw [eA,h];exact if_neg (by decide)
theorem RelO.isSome_eq {o:Option V} {u:Option Ug} (r:RelO o u):o.isSome=u.isSome:=by
 cases o with
 | none=>cases u with
   | none=>rfl
   | some _=>exact (show False from r).elim
 | some _=>cases u with
   | none=>exact (show False from r).elim
   | some _=>rfl
theorem RelO.getD {o:Option V} {u:Option Ug} {d:V} {d':Ug} (r:RelO o u) (rd:RelV d d'):RelV (o.getD d) (u.getD d'):=by
 cases o with
 | none=>cases u with
   | none=>exact rd
   | some _=>exact (show False from r).elim
 | some _=>cases u with
   | none=>exact (show False from r).elim
   | some _=>exact r
theorem KV.val {f':List (κ×V)} {vs:List (κ×Ug)} (r:KV f' vs) (k:κ):RelO (aW f' k) (valueAt vs k):=by
 unfold KV at r;induction r with
 | nil=>exact Wr
 | @cons p q ps qs h t ih =>
   obtain ⟨h1,h2⟩:=h;by_cases e:p.1=k
   · have e':q.1=k:=h1.symm.trans e;have b:valueAt (q::qs) k=some q.2:=by simp [valueAt,W2,e']
     rw [bO e,b];exact h2
   · have e':¬ q.1=k:=fun z=>e (h1.trans z);have b:valueAt (q::qs) k=valueAt qs k:=by simp [valueAt,W2,e']
     rw [bU e,b];exact ih
theorem KV.any {f':List (κ×V)} {vs:List (κ×Ug)} (r:KV f' vs) (k:κ):(f'.any fun kv=>decide (kv.1=k))=vs.any fun kv=>decide (kv.1=k):=by
 unfold KV at r;induction r with
 | nil=>rfl
 | cons h t ih=>rw [List.any_cons,List.any_cons,ih,h.1]
theorem KV.repl {f':List (κ×V)} {vs:List (κ×Ug)} (r:KV f' vs) (k:κ) {y:V} {u:Ug} (ry:RelV y u) :
 KV (f'.map fun kv=>if kv.1=k then (kv.1,y) else kv) (vs.map fun kv=>if kv.1=k then (kv.1,u) else kv):=by
 unfold KV at r ⊢;induction r with
 | nil=>exact .nil
 | @cons p q ps qs h t ih =>
   rw [Vd,Vd];refine .cons ?_ ih;obtain ⟨h1,h2⟩:=h;by_cases e:p.1=k
   · rw [if_pos e,if_pos (h1.symm.trans e)];exact ⟨h1,ry⟩
   · rw [if_neg e,if_neg (fun z=>e (h1.trans z))];exact ⟨h1,h2⟩
theorem KV.put {f':List (κ×V)} {vs:List (κ×Ug)} (r:KV f' vs) (k:κ) {y:V} {u:Ug} (ry:RelV y u):KV (putK f' k y) (stored vs k u):=by
 unfold putK stored;rw [r.any k];by_cases e:(vs.any fun kv=>decide (kv.1=k))=true
 · rw [if_pos e,if_pos e];exact r.repl k ry
 · rw [if_neg e,if_neg e];exact Paired.snoc r ⟨rfl,ry⟩
theorem KV.length {f':List (κ×V)} {vs:List (κ×Ug)} (r:KV f' vs):f'.length=vs.length:=Up r
end
theorem li {P:Uv} {w:UK} {k:Key} {u:Ug} (r:RelV (kV k) u):(aE P w).is k u=true:=by
 cases k with
 | inl i=>obtain ⟨t,e⟩:=(show ∃ t,u=Value.int i t from r);subst e;exact oO P w i t
 | inr x=>obtain ⟨t,e⟩:=(show ∃ t,u=Value.str x t from r);subst e;exact oM P w x t
theorem mK {P:Uv} {w:UK}:∀ {ks:List Key} {us:List Ug},Vals (ks.map kV) us->ItemsAre (aE P w) ks us
 | [],_,r=>by rw [Wv] at r;cases r;exact .nil
 | k::ks,_,r=>by
   rw [Vd] at r;cases r with
   | cons h t=>exact .cons (li h) (mK t)
abbrev KTd (H:Hp):List (List Key×V)->List (List Key×Ud×Ug)->Prop:=UR fun p q=>p.1=q.1/\H q.2.1=some (.tup (p.1.map kV))/\RelV p.2 q.2.2
theorem KTd.val {H:Hp} {f':List (List Key×V)} {xs:List (List Key×Ud×Ug)} (r:KTd H f' xs) (k:List Key):RelO (aW f' k) ((XQ xs k).map (·.2)):=by
 induction r with
 | nil=>exact Wr
 | @cons p q ps qs h t ih =>
   obtain ⟨h1,_,h2⟩:=h;by_cases e:p.1=k
   · have e':q.1=k:=h1.symm.trans e;have b:XQ (q::qs) k=some q.2:=by simp [XQ,W2,e']
     rw [bO e,b];exact h2
   · have e':¬ q.1=k:=fun z=>e (h1.trans z);have b:XQ (q::qs) k=XQ qs k:=by simp [XQ,W2,e']
     rw [bU e,b];exact ih
theorem KTd.repl {H:Hp} {f':List (List Key×V)} {xs:List (List Key×Ud×Ug)} (r:KTd H f' xs) (k:List Key) {y:V} {u:Ug} (ry:RelV y u) :
 KTd H (f'.map fun kv=>if kv.1=k then (kv.1,y) else kv) (xs.map (putAt k u)):=by
 induction r with
 | nil=>exact .nil
 | @cons p q ps qs h t ih =>
   rw [Vd,Vd];refine .cons ?_ ih;obtain ⟨h1,h2,h3⟩:=h;unfold putAt;by_cases e:p.1=k
   · rw [if_pos e,if_pos (h1.symm.trans e)];exact ⟨h1,h2,ry⟩
   · rw [if_neg e,if_neg (fun z=>e (h1.trans z))];exact ⟨h1,h2,h3⟩
theorem KTd.put {H:Hp} {f':List (List Key×V)} {xs:List (List Key×Ud×Ug)} (r:KTd H f' xs) (k:List Key) {b:Ud} {y:V} {u:Ug} (hb:H b=some (.tup (k.map kV))) (ry:RelV y u) :
 KTd H (putK f' k y) (Y0 xs k b u):=by
 have e:(f'.any fun kv=>decide (kv.1=k))=(XQ xs k).isSome:=by
  rw [eA,(r.val k).isSome_eq,ZD]
 unfold putK Y0;rw [e];by_cases q:(XQ xs k).isSome=true
 · rw [if_pos q,if_pos q];exact r.repl k ry
 · rw [if_neg q,if_neg q];exact Paired.snoc r ⟨rfl,hb,ry⟩
theorem KTd.keeps {H H':Hp} {f':List (List Key×V)} {xs:List (List Key×Ud×Ug)} (r:KTd H f' xs) (ht:∀ b ys,H b=some (.tup ys)->H' b=some (.tup ys)):KTd H' f' xs :=
 UR.mapP r fun _ _ z=>⟨z.1,ht _ _ z.2.1,z.2.2⟩
section
variable {P:Uv} {w:UK} {H:Hp} {h:Vy} {a:Ud}
theorem vO {u:HO} (ok:HOk P w H h) (e:Rd H a u):ObjOk P w H h a u:=e.ok ok
theorem mD {f':List (Key×V)} (ok:HOk P w H h) (e:Rd H a (.dK f')):f'.length<=Uz/\(a == Wb)=false/\∃ vs,KV f' vs/\h.DictOf (aE P w) a vs :=
 show ObjOk P w H h a (.dK f') from vO ok e
theorem v5 {f':List (Key×V)} (ok:HOk P w H h) (e:H a=some (.dK f')):f'.length<=Uz/\(a == Wb)=false/\∃ vs,KV f' vs/\h.DictOf (aE P w) a vs:=mD ok (.inl e)
theorem iR {ks:List Key} (ok:HOk P w H h) (e:H a=some (.tup (ks.map kV))):(Y9 (aE P w)).is h ks a:=by
 obtain ⟨_,its,n,r,h1⟩:=(show ObjOk P w H h a (.tup (ks.map kV)) from ok a _ e);exact ⟨_,its.toArray,n,h1,rfl,rfl,by simpa using mK r⟩
theorem mH {f':List (List Key×V)} (ok:HOk P w H h) (e:Rd H a (.dT f')):f'.length<=Uz/\(a == Wb)=false ∧
 ∃ xs,KTd H f' xs/\h.DictOfH (Y9 (aE P w)) a xs:=by
 obtain ⟨z,y,xs,r,o,es,ep,h1,h2,h3,h4,h5⟩:=(show ObjOk P w H h a (.dT f') from vO ok e);refine ⟨z,y,xs,r,o,es,ep,h1,h2,h3,h4,fun x hx=>?_,h5⟩
 have all:∀ {l:List (List Key×V)} {m:List (List Key×Ud×Ug)},KTd H l m->∀ x∈m,(Y9 (aE P w)).is h x.1 x.2.1:=by
  intro l m q;induction q with
  | nil=>intro x hx;exact nomatch hx
  | @cons p q ps qs hq t ih =>
    intro x hx;rcases UB.mp hx with e | hx
    · subst e;exact iR ok (by rw [<- hq.1];exact hq.2.1)
    · exact ih x hx
 exact all r x hx
theorem vR {f':List (List Key×V)} (ok:HOk P w H h) (e:H a=some (.dT f')):f'.length<=Uz/\(a == Wb)=false ∧
 ∃ xs,KTd H f' xs/\h.DictOfH (Y9 (aE P w)) a xs:=mH ok (.inl e)
end
def DGet (H:Hp) (a:Ud) (y:V) (r:Option V):Prop :=
 (∃ f' k,Rd H a (.dK f')/\y=kV k/\r=aW f' k)∨∃ f' k b,Rd H a (.dT f')/\y=.ref b/\H b=some (.tup (k.map kV))/\r=aW f' k
def DPut (H:Hp) (a:Ud) (y v:V) (H':Hp):Prop :=
 (∃ f' k,H a=some (.dK f')/\y=kV k/\f'.length<Uz/\H'=upd H a (.dK (putK f' k v))) ∨
 ∃ f' k b,H a=some (.dT f')/\y=.ref b/\H b=some (.tup (k.map kV))/\f'.length<Uz/\H'=upd H a (.dT (putK f' k v))
theorem DGet.k {H:Hp} {a:Ud} {f':List (Key×V)} {k:Key} (e:H a=some (.dK f')):DGet H a (kV k) (aW f' k):=.inl ⟨f',k,.inl e,rfl,rfl⟩
theorem DGet.t {H:Hp} {a b:Ud} {f':List (List Key×V)} {k:List Key} (e:H a=some (.dT f')) (eb:H b=some (.tup (k.map kV))):DGet H a (.ref b) (aW f' k):=.inr ⟨f',k,b,.inl e,rfl,eb,rfl⟩
theorem DPut.t {H:Hp} {a b:Ud} {f':List (List Key×V)} {k:List Key} {v:V} (e:H a=some (.dT f')) (eb:H b=some (.tup (k.map kV))) (hl:f'.length<Uz) :
 DPut H a (.ref b) v (upd H a (.dT (putK f' k v))):=.inr ⟨f',k,b,e,rfl,eb,hl,rfl⟩
section
variable {X:Cx} {pins:List (Ud×Wu)} {σ:St} {H:Hp} {s:Um} {a:Ud} {y v:V} {u r:Ug} {o:Option V} {A:U5} {E:Ug->Um->Prop}
theorem Inv.big (I:Inv X pins σ H s):Wb<s.heap.objs.size:=by
 have h:U3<s.heap.objs.size:=(I.mod.glob.keeps I.bk).lt;exact XD (by decide) h
theorem sY {Q:Ug->Um->Prop} (hu:A.units+1<V1) (I:Inv X pins σ H s) (g:DGet H a y (some v)) (ry:RelV y u) (h:∀ w' s',Inv X pins σ H s'->RelV v w'->Q w' s') :
 Uy (UU X.prog X.w) A (Yi (.ref a) u) Q E s:=by
 rcases g with ⟨f',k,e,ey,l⟩ | ⟨f',k,b,e,ey,eb,l⟩
 · subst ey;obtain ⟨z,hd,vs,rel,dd⟩:=mD I.hok e;obtain ⟨w',hw,B5⟩:=RelO.some_of (v:=v) (o:=valueAt vs k) (by rw [l];exact rel.val k);exact wpAny_getItem_of (li ry) dd.mapOf hw (h w' _ (I.tok _) B5)
 · subst ey;cases (show u=US b from ry);obtain ⟨z,hd,xs,rel,dd⟩:=mH I.hok e;obtain ⟨w',hw,B5⟩:=RelO.some_of (v:=v) (o:=(XQ xs k).map (·.2)) (by rw [l];exact rel.val k);obtain ⟨p,hp,AO⟩:=UN.mp hw;refine wpAny_getItem_heap (X8 hu) (iR I.hok eb) dd hp ?_;rw [AO];exact h w' _ (I.tok _) B5
theorem yb {Q:Ug->Um->Prop} (hu:A.units+1<V1) (I:Inv X pins σ H s) (g:DGet H a y o) (ry:RelV y u) (h:∀ s',Inv X pins σ H s'->Q (.bool o.isSome) s') :
 Uy (UU X.prog X.w) A (Xz .In u (.ref a)) Q E s:=by
 rcases g with ⟨f',k,e,ey,l⟩ | ⟨f',k,b,e,ey,eb,l⟩
 · subst ey;obtain ⟨z,hd,vs,rel,dd⟩:=mD I.hok e;refine wpAny_in_of (li ry) hd dd.mapOf ?_;rw [<- (rel.val k).isSome_eq,<- l];exact h _ (I.tok _)
 · subst ey;cases (show u=US b from ry);obtain ⟨z,hd,xs,rel,dd⟩:=mH I.hok e;refine wpAny_in_heap (X8 hu) (iR I.hok eb) hd dd ?_;have q:=(rel.val k).isSome_eq;rw [ZD] at q;rw [<- q,<- l];exact h _ (I.tok _)
theorem gU {h':Vy} {t':Nat} {ob:HO} (I:Inv X pins σ H s) (mu:Mut (H a)) (hs:V9 a s.heap h') (he:∃ q,h'.get? a=some q) (new:ObjOk X.prog X.w (upd H a ob) h' a ob) :
 Inv X pins σ (upd H a ob) { s with heap:=h',toks:=t' } :=
 I.write (x:=a) (e:=a) mu (.inl rfl) (fun b q hb z=>(hs.2 b hb).trans z) he new
theorem ug {P:Uv} {w:UK} {H':Hp} {h':Vy} {f':List (Key×V)} {vs:List (Key×Ug)} (z:f'.length<=Uz) (hd:(a == Wb)=false) (rel:KV f' vs) (dd:h'.DictOf (aE P w) a vs) :
 ObjOk P w H' h' a (.dK f'):=⟨z,hd,vs,rel,dd⟩
theorem tH {H':Hp} {Q:Unit->Um->Prop} (hu:A.units+1<V1) (I:Inv X pins σ H s) (g:DPut H a y v H') (ry:RelV y u) (rv:RelV v r) (h:∀ s',Inv X pins σ H' s'->Q () s') :
 Uy (UU X.prog X.w) A (setItem (.ref a) u r) Q E s:=by
 rcases g with ⟨f',k,e,ey,l,eH⟩ | ⟨f',k,b,e,ey,eb,l,eH⟩
 · subst ey eH;obtain ⟨z,hd,vs,rel,dd⟩:=v5 I.hok e;have hz:vs.length<=Uz:=by rw [<- rel.length];exact z
   have hl:(putK f' k v).length<=Uz:=by have:=ce f' k v;omega
   refine wpAny_setItem_pairs (hsz:=hz) (li ry) dd fun h' B8 hs=>h _ ?_;have he:∃ q,h'.get? a=some q:=let ⟨q,_,_,hq,_⟩:=B8;⟨q,hq⟩
   exact gU I (by rw [e];exact Wr) hs he (ug hl hd (rel.put k rv) B8)
 · subst ey eH;cases (show u=US b from ry);obtain ⟨z,hd,xs,rel,dd⟩:=vR I.hok e;have hz:xs.length<=Uz:=by rw [<- Up rel];exact z
   have hl:(putK f' k v).length<=Uz:=by have:=ce f' k v;omega
   refine wpAny_setItem_heap (hsz:=hz) (X8 hu) (iR I.hok eb) dd fun h' B8 hs=>h _ ?_;obtain ⟨q,es,ep,hq,h2,h3,h4,_,h5⟩:=B8;refine gU I (by rw [e];exact Wr) hs ⟨q,hq⟩ ⟨hl,hd,_,(rel.put k eb rv).keeps fun c ys ec=>?_,q,es,ep,hq,h2,h3,h4,h5⟩;rw [am (f9 ec e (fun z=>nomatch z))];exact ec
end
section
variable {X:Cx} {pins:List (Ud×Wu)} {σ:St} {H:Hp} {s:Um} {a:Ud} {f':List (Key×V)} {k:Key} {u:Ug} {A:U5} {E:Ug->Um->Prop}
end
def wM (i:Vs):Prop:=∀ ov iv,subscripted i false ov iv=operate [ov,iv] (Yi ov iv)
theorem rH {prog:Uv} {w:UK} {A:U5} {E:Ug->Um->Prop} {s:Um} {env:Env} {value slice:Vs} {pos:Yd} {T id:String} {Q:Ug->Um->Prop}
 (hl:XO (.type T) "__getitem__"=pure (some (.builtin id))) (hs:wM slice)
 (h:Uy (UU prog w) A (WE value env) (fun o yB=>Uy (UU prog w) A (WE slice env) (fun i ze=>ze.TypeIs o T/\Uy (UU prog w) A (Yi o i) Q E ze) E yB) E s) :
 Uy (UU prog w) A (WE (.Subscript value slice pos) env) Q E s:=by
 refine Subscript_ (Wn h (fun o yB yQ=>Wn yQ (fun i ze zz=>?_) fun _ _ x=>x) fun _ _ x=>x);obtain ⟨hT,zz⟩:=zz;unfold subscriptTail;refine T9 ?_;rw [getitemInPython_of_ne hT.not_modules];refine T9 (VR hT hl ?_)
 have fin:Uy (UU prog w) A (subscripted slice false o i) (fun r AI=>Uy (UU prog w) A (letTemporaryGo value o r >>= fun _=>pure r) Q E AI) E ze:=by
  rw [hs o i];exact wpAny_operating (Wn zz (fun r AI Bb=>T9 (wpAny_letTemporaryGo (Uk Bb))) fun _ _ x=>x)
 first
  | exact Uk (T9 fin)
  | exact T9 (Uk (T9 fin))
  | exact T9 fin
theorem pN {X:Cx} {pins:List (Ud×Wu)} {σ:St} {H:Hp} {s:Um} {a:Ud} {y:V} {o:Option V} (I:Inv X pins σ H s) (g:DGet H a y o):s.TypeIs (.ref a) "dict":=by
 rcases g with ⟨f',k,e,_,_⟩ | ⟨f',k,b,e,_,_,_⟩
 · obtain ⟨_,_,vs,_,dd⟩:=mD I.hok e;exact dd.typeIs
 · obtain ⟨_,_,xs,_,dd⟩:=mH I.hok e;exact dd.typeIs
def xf (td ty:TE):TE:=fun σ H Q=>td σ H fun x H1=>ty σ H1 fun y H2=>∃ a v,x=.ref a/\DGet H2 a y (some v)/\Q v H2
def yx (ty td:TE):TE:=fun σ H Q=>ty σ H fun y H1=>td σ H1 fun x H2=>∃ a o,x=.ref a/\DGet H2 a y o/\Q (.bl o.isSome) H2
def xP (td ty tv:TE):TS:=fun D σ H=>tv σ H fun v H1=>td σ H1 fun x H2=>ty σ H2 fun y H3=>∃ a H4,x=.ref a/\DPut H3 a y v H4/\D.nx σ H4
section
variable {X:Cx} {o i e value:Vs} {pos pos' KQ:Yd} {td ty tv:TE}
theorem nX (hu:X.A.units+1<V1) (ho:PE X o td) (hi:PE X i ty) (hs:wM i):PE X (.Subscript o i pos) (xf td ty):=by
 intro pins s σ H Q I h;refine rH PySem.F.slot_dict_getitem.lookup hs (thn (ho pins s σ H _ I h) fun u s1 ⟨x,H1,I1,rx,q1⟩=>thn (hi pins s1 σ H1 _ I1 q1) fun iv s2 ⟨y,H2,I2,ry,a,v,ex,g,q2⟩=>?_);subst ex;obtain rfl:u=US a:=rx;exact ⟨pN I2 g,sY hu I2 g ry fun w' s3 I3 B5=>⟨v,H2,I3,B5,q2⟩⟩
theorem wq (hu:X.A.units+1<V1) (hi:PE X i ty) (ho:PE X o td):PC X .In i o (yx ty td):=by
 intro pins s σ H Q I h;refine thn (hi pins s σ H _ I h) fun iv s1 ⟨y,H1,I1,ry,q1⟩=>thn (ho pins s1 σ H1 _ I1 q1) fun u s2 ⟨x,H2,I2,rx,a,ov,ex,g,q2⟩=>?_;subst ex;obtain rfl:u=US a:=rx;exact yb hu I2 g ry fun s3 I3=>⟨.bl ov.isSome,H2,I3,rfl,q2⟩
theorem uX (hu:X.A.units+1<V1) (ho:PE X o td) (hi:PE X i ty) (hv:PE X value tv) (hs:swapsWith value (some (.Subscript o i pos')) pos.line X.env=pure false) :
 PS X (.Assign [.Subscript o i pos'] value pos) (xP td ty tv):=by
 intro pins s σ H D I h;refine wpAny_Assign_Subscript (thn (hv pins s σ H _ I h) fun r s1 ⟨v,H1,I1,rv,q1⟩=>thn (ho pins s1 σ H1 _ I1 q1) fun u s2 ⟨x,H2,I2,rx,q2⟩=>thn (hi pins s2 σ H2 _ I2 q2) fun iv s3 ⟨y,H3,I3,ry,a,H4,ex,g,q3⟩=>?_) hs;subst ex;obtain rfl:u=US a:=rx;exact tH hu I3 g ry rv fun s4 I4=>⟨σ,H4,I4,q3⟩
end
theorem oX {P:Uv} {w:UK} {H:Hp} (h:Vy) (hb:Wb<h.objs.size):ObjOk P w H (h.push { cls:=.type "dict",data:=.dict #[] }) h.objs.size (.dK []) :=
 ⟨UL _,beq_eq_false_iff_ne.mpr (V7 (UX hb)),[],.nil,Heap.DictOf.new h⟩
theorem o5 {P:Uv} {w:UK} {H:Hp} (h:Vy) (hb:Wb<h.objs.size):ObjOk P w H (h.push { cls:=.type "dict",data:=.dict #[] }) h.objs.size (.dT []) :=
 ⟨UL _,beq_eq_false_iff_ne.mpr (V7 (UX hb)),[],.nil,_,#[],0,Uu _ rfl,⟨rfl,rfl,rfl⟩,rfl,rfl,Yx⟩
def wg:TE:=fun _ H Q=>∀ p,H p=none->Q (.ref p) (upd H p (.dK []))
def wI:TE:=fun _ H Q=>∀ p,H p=none->Q (.ref p) (upd H p (.dT []))
section
variable {X:Cx} {pos:Yd}
theorem uB:PE X (.Dict [] [] pos) wg:=fun pins s σ H Q I h =>
 wpAny_Dict_empty ⟨.ref s.heap.objs.size,_,I.laid (a:=s.heap.objs.size) (o:=.dK []) (t':=s.toks) (fun _ _ q=>Uj _ q) (Ue _) (oX s.heap I.big),rfl,h _ (I.hok.fresh (Ue _))⟩
theorem ui:PE X (.Dict [] [] pos) wI:=fun pins s σ H Q I h =>
 wpAny_Dict_empty ⟨.ref s.heap.objs.size,_,I.laid (a:=s.heap.objs.size) (o:=.dT []) (t':=s.toks) (fun _ _ q=>Uj _ q) (Ue _) (o5 s.heap I.big),rfl,h _ (I.hok.fresh (Ue _))⟩
end
def qr:List (TE×TE)->St->Hp->(List (V×V)->Hp->Prop)->Prop
 | [],_,H,Q=>Q [] H
 | (tk,tv)::r,σ,H,Q=>tk σ H fun x H1=>tv σ H1 fun y H2=>qr r σ H2 fun ps H3=>Q ((x,y)::ps) H3
abbrev VV:List (V×V)->List (Ug×Ug)->Prop:=UR fun p q=>RelV p.1 q.1/\RelV p.2 q.2
def PPs (X:Cx) (pos:Yd) (keys:List (Option Vs)) (values:List Vs) (DS:List (TE×TE)):Prop :=
 ∀ (pins:List (Ud×Wu)) (s:Um) (σ:St) (H:Hp) (Q:List (V×V)->Hp->Prop),Inv X pins σ H s->qr DS σ H Q →
   Uy (UU X.prog X.w) X.A (evalPairs (pairTrees keys values X.env pos)) (fun vs s'=>∃ ps H',Inv X pins σ H' s'/\VV ps vs/\Q ps H') X.xe s
theorem rK {X:Cx} {pos:Yd}:PPs X pos [] [] []:=fun pins s σ H Q I h=>pairTrees_nil_walk ⟨[],H,I,.nil,h⟩
theorem pI {X:Cx} {pos:Yd} {k v:Vs} {ks:List (Option Vs)} {vs:List Vs} {tk tv:TE} {DS:List (TE×TE)} (hk:PE X k tk) (hv:PE X v tv) (hr:PPs X pos ks vs DS) :
 PPs X pos (some k::ks) (v::vs) ((tk,tv)::DS):=fun pins s σ H Q I h =>
 pairTrees_cons_walk (thn (hk pins s σ H _ I h) fun u s1 ⟨x,H1,I1,rx,q1⟩=>thn (hv pins s1 σ H1 _ I1 q1) fun w2 s2 ⟨y,H2,I2,ry,q2⟩ =>
  thn (hr pins s2 σ H2 _ I2 q2) fun ws s3 ⟨ps,H3,I3,rel,q3⟩=>⟨(x,y)::ps,H3,I3,.cons ⟨rx,ry⟩ rel,q3⟩)
def jE (f' more:List (Key×V)):List (Key×V):=more.foldl (fun acc kv=>putK acc kv.1 kv.2) f'
theorem KV.merge:∀ {more:List (Key×V)} {rs:List (Key×Ug)} {f':List (Key×V)} {vs:List (Key×Ug)},KV more rs->KV f' vs->KV (jE f' more) (merged vs rs):=by
 intro more rs f' vs r;unfold KV at r;induction r generalizing f' vs with
 | nil=>intro q;exact q
 | @cons p q ps qs h t ih =>
   intro r0
   have e:KV (putK f' p.1 p.2) (stored vs q.1 q.2):=by
    have:=r0.put p.1 h.2;rw [<- h.1];exact this
   exact ih e
theorem iG:∀ (more f':List (Key×V)),(jE f' more).length<=f'.length+more.length
 | [],f'=>by show f'.length<=f'.length+0;omega
 | p::r,f'=>by
   have h1:=iG r (putK f' p.1 p.2);have h2:=ce f' p.1 p.2;show (jE (putK f' p.1 p.2) r).length<=_;rw [Uo];omega
theorem lG {P:Uv} {w:UK}:∀ {f':List (Key×V)} {ws:List (Ug×Ug)},VV (f'.map fun kv=>(kV kv.1,kv.2)) ws->∃ rs,Carries (aE P w) ws rs/\KV f' rs
 | [],_,r=>by rw [Wv] at r;cases r;exact ⟨[],Wr,.nil⟩
 | p::f',_,r=>by
   rw [Vd] at r;cases r with
   | @cons a b as bs h t =>
     obtain ⟨rs,c,q⟩:=lG (P:=P) (w:=w) t;obtain ⟨b1,b2⟩:=b;exact ⟨(p.1,b2)::rs,⟨li h.1,rfl,c⟩,.cons ⟨rfl,h.2⟩ q⟩
def wY (DS:List (TE×TE)):TE:=fun σ H Q=>∀ p,H p=none->qr DS σ (upd H p (.dK [])) fun ps H2=>H2 p=some (.dK [])/\∃ f':List (Key×V),ps=f'.map (fun kv=>(kV kv.1,kv.2))/\f'.length<=15/\Q (.ref p) (upd H2 p (.dK (jE [] f')))
theorem rj {X:Cx} {pos:Yd} {keys:List (Option Vs)} {values:List Vs} {DS:List (TE×TE)} (h:PPs X pos keys values DS) (yG:keys.all (·.isSome)=true) (hl:keys.length=values.length) (h0:keys≠[])
 (Qx:keys.length<=15):PE X (.Dict keys values pos) (wY DS):=by
 intro pins s σ H Q I q;have hn:=I.hok.fresh (Ue s.heap.objs.size);have I1:=I.laid (a:=s.heap.objs.size) (o:=.dK []) (h':=s.heap.push { cls:=.type "dict",data:=.dict #[] }) (t':=s.toks) (fun _ _ q=>Uj _ q) (Ue _) (oX s.heap I.big);refine wpAny_Dict_walk (knd:=aE X.prog X.w) yG hl h0 Qx (thn (h pins _ σ _ _ I1 (q _ hn)) fun ws s2 ⟨ps,H2,I2,rel,e,f',ep,lk,q2⟩=>?_);subst ep;obtain ⟨rs,c,rk⟩:=lG (P:=X.prog) (w:=X.w) rel;obtain ⟨z,hd,SU,r0,dd⟩:=v5 I2.hok e;cases r0;refine ⟨rs,c,dd,fun h' B8 hs=>⟨.ref s.heap.objs.size,_,?_,rfl,q2⟩⟩
 have hz:(jE [] f').length<=Uz:=by
  have h1:=iG f' [];rw [W0] at h1;rw [Yb];omega
 have he:∃ q,h'.get? s.heap.objs.size=some q:=let ⟨q,_,_,hq,_⟩:=B8;⟨q,hq⟩
 exact gU I2 (by rw [e];exact Wr) hs he (ug hz hd (rk.merge .nil) B8)
structure M2 (X:Cx) (o:Vs) (m:UP) (apos:Yd) (e f:Vs) (yP:Yd):Prop where
 base:attributeBase o m X.env (WE o X.env)=WE o X.env
 few:((Yl yP (Vi [e,f] X.env)).all (fun x=>!x.1) && (backToKw yP (keywordEach [] X.env)).all (fun x=>x.1.isSome)
  && decide (([e,f]:List Vs).length+([]:List Keyword).length+(if ([]:List Keyword).isEmpty then 0 else 1)<30))=true
 line:(apos.endLine == yP.line)=true
 trees:Yl yP (Vi [e,f] X.env)=[(false,WE e X.env),(false,WE f X.env)]
def IsD (H:Hp) (a:Ud):Prop:=(∃ f',Rd H a (.dK f'))∨∃ f',Rd H a (.dT f')
theorem wQ {X:Cx} {pins:List (Ud×Wu)} {σ:St} {H:Hp} {s:Um} {a:Ud} (I:Inv X pins σ H s) (d:IsD H a) :
 s.TypeIs (.ref a) "dict"/\(∀ b,US a=.ref b->∃ ob,s.heap.get? b=some ob/\ob.dict=none)/\(a == Wb)=false:=by
 rcases d with ⟨f',e⟩ | ⟨f',e⟩
 · obtain ⟨_,hd,vs,_,dd⟩:=mD I.hok e;refine ⟨dd.typeIs,fun b q=>?_,hd⟩;cases q;obtain ⟨ob,_,_,h1,h2,_⟩:=dd;exact ⟨ob,h1,h2.2.1⟩
 · obtain ⟨_,hd,xs,_,dd⟩:=mH I.hok e;refine ⟨dd.typeIs,fun b q=>?_,hd⟩;cases q;obtain ⟨ob,_,_,h1,h2,_⟩:=dd;exact ⟨ob,h1,h2.2.1⟩
section
variable {X:Cx} {pins:List (Ud×Wu)} {σ:St} {H:Hp} {s:Um} {a:Ud} {y d:V} {u r:Ug} {o:Option V} {A:U5} {E:Ug->Um->Prop}
theorem wJ {Q:Ug->Um->Prop} (hu:A.units+1<V1) (I:Inv X pins σ H s) (g:DGet H a y o) (ry:RelV y u) (rd:RelV d r) (h:∀ w' s',Inv X pins σ H s'->RelV (o.getD d) w'->Q w' s') :
 Uy (UU X.prog X.w) A (call (.builtin "dict.get") [.ref a,u,r]) Q E s:=by
 rcases g with ⟨f',k,e,ey,l⟩ | ⟨f',k,b,e,ey,eb,l⟩
 · subst ey;obtain ⟨z,hd,vs,rel,dd⟩:=mD I.hok e;refine call_meetsIn Xn dd.typeIs YV (YS _ _ _) (meets_dict_get_default (aE X.prog X.w) a (li ry) hd r) ⟨_,dd.mapOf,h _ _ (I.tok _) ?_⟩;rw [l];exact (rel.val k).getD rd
 · subst ey;cases (show u=US b from ry);obtain ⟨z,hd,xs,rel,dd⟩:=mH I.hok e;refine call_meetsIn Xn dd.typeIs YV (YS _ _ _) (meetsH_dict_get_default (Y9 (aE X.prog X.w)) a b hd r) ⟨X8 hu,k,xs,iR I.hok eb,dd,h _ _ (I.tok _) ?_⟩;rw [l];exact (rel.val k).getD rd
end
def uH (td ty tx:TE):TE:=fun σ H Q=>td σ H fun x H1=>∃ a,x=.ref a/\IsD H1 a/\ty σ H1 fun y H2=>tx σ H2 fun z H3=>∃ o,DGet H3 a y o/\Q (o.getD z) H3
section
variable {X:Cx} {o e f:Vs} {apos yP:Yd} {td ty tx:TE}
theorem uy (hu:X.A.units+1<V1) (ho:PE X o td) (he:PE X e ty) (hf:PE X f tx) (m:M2 X o "get" apos e f yP):PE X (.Call (.Attribute o "get" apos) [e,f] [] yP) (uH td ty tx):=by
 intro pins s σ H Q I h;refine wpAny_Call_method m.base m.few m.line YQ Xn PySem.F.type_dict_get (thn (ho pins s σ H _ I h) fun u s1 ⟨x,H1,I1,rx,a,ex,d,q1⟩=>?_);subst ex;obtain rfl:u=US a:=rx;obtain ⟨t1,t2,_⟩:=wQ I1 d;refine ⟨t1,t2,?_⟩;rw [m.trees]
 refine Xs rfl (Yz (VW (thn (he pins s1 σ H1 _ I1 q1) fun iv s2 ⟨y,H2,I2,ry,q2⟩ =>
  VW (thn (hf pins s2 σ H2 _ I2 q2) fun fv s3 ⟨z,H3,I3,rz,ov,g,q3⟩=>Wo ?_))))
 exact wJ hu I3 g ry rz fun w' s4 I4 B5=>⟨_,H3,I4,B5,q3⟩
end
section
variable {X:Cx} {pins:List (Ud×Wu)} {σ:St} {H:Hp} {s:Um} {a:Ud} {f':List (Key×V)} {A:U5} {E:Ug->Um->Prop}
end
section
variable {X:Cx} {pins:List (Ud×Wu)} {σ:St} {H:Hp} {s:Um} {a:Ud} {y:V} {u:Ug} {A:U5} {E:Ug->Um->Prop}
end
end L2
namespace L2
open PySem PySem.Spec PyProof.Rows
inductive vP (K:Ub) (T:String) (xs:List V) (H:Hp) (Q:VK):Prop
 | mk (x:_) (b:_) (t:_) (yL:xs=[x,.ty T]) (yM:ja K H x t) (yR:Xv K t (.type T)=some b) (yY:Q (.bl b) H):vP K T xs H Q
def xN (K:Ub) (T:String):List V->Hp->VK->Prop:=vP K T
theorem cM {X:Cx} {T:String}:im X (.builtin "isinstance") (xN X.K T):=by
 intro pins s σ H xs us Q I r h;obtain ⟨x,b,t,e,ty,k,q⟩:=h;exact uK (T:=T) (b:=b) (t:=t) pins s σ H xs us Q I r ⟨x,e,ty,k,q⟩
theorem uu {α:Type} {js:List (Option Nat)} {g:TG} {tt:TT} {te:TE} {σ:St} {J:It} {H:Hp} {xs:List V} {fin:Ud->Hp->Prop} (zs:List α) (p:α->Bool) (f:α->V) (hz:zs.length=xs.length) (hn:xs.length<=1000000)
 (Ct:∀ i H2,Same H H2->i<xs.length->J.go i H2) (zH:∀ H2,Same H H2->J.stop xs.length H2) (AK:∀ (i:Nat) H2 x H3,Same H H2->i<xs.length->J.yld i H2 x H3->H3=H2/\xs[i]?=some x)
 (hb:∀ (i:Nat) x z H2 (R:VK) (R0:Hp->Prop),xs[i]?=some x->zs[i]?=some z->Same H H2->(p z=true->R (f z) H2)->(p z=false->R0 H2)->g x (cσ js σ) H2 fun yT H3=>tt yT H3 fun b H4=>if b=true then te yT H4 R else R0 H4)
 (q:∀ D,H D=none->fin D (upd H D (.lst ((zs.filter p).map f)))) :
 ∀ D,H D=none->∃ (n:Nat) (W:Nat->Hp->Prop),W 0 (upd H D (.lst []))/\f8 js g tt te σ J D n W fun H'=>fin D H':=by
 intro D hD;refine ⟨xs.length,fun i H2=>i<=xs.length/\H2=upd H D (.lst (((zs.take i).filter p).map f)),⟨UL _,by simp⟩,?_⟩;rintro i H2 ⟨hi,rfl⟩;have sm:∀ o,Same H (upd H D o):=fun o=>ad hD o;by_cases h:i=xs.length
 · left;subst h;refine ⟨zH _ (sm _),?_⟩;rw [<- hz,Wt];exact q D hD
 · right;have y9:i<xs.length:=by omega
   refine ⟨y9,Ct i _ (sm _) y9,fun x H1 hy=>?_⟩;obtain ⟨rfl,hx⟩:=AK i _ x H1 (sm _) y9 hy;have K8:i<zs.length:=by omega
   have e1:zs[i]?=some zs[i]:=Ua K8
   have e2:(zs.take (i+1)).filter p=(zs.take i).filter p++(if p zs[i]=true then [zs[i]] else []):=by
    rw [Vz,e1,X0];show _++List.filter p [zs[i]]=_;rw [V4,Y4]
   have hlen:(((zs.take i).filter p).map f).length<=1000000:=by
    rw [T8];have:=WU p (zs.take i);rw [U1] at this;omega
   refine hb i x zs[i] _ _ _ hx e1 (sm _) (fun hp=>⟨_,ab,Yv hlen (by decide),y9,?_⟩) (fun hp=>⟨y9,?_⟩)
   · rw [ky,e2,if_pos hp,Ut];rfl
   · rw [e2,if_neg (by rw [hp];exact UD),U0]
theorem iy {α:Type} {K:Ub} {a:Ud} {js:List (Option Nat)} {g:TG} {tt:TT} {te:TE} {σ:St} {H:Hp} {xs:List V} {fin:Ud->Hp->Prop} (zs:List α) (p:α->Bool) (f:α->V) (hS:SqL K H a xs) (hz:zs.length=xs.length) (hn:xs.length<=1000000)
 (hb:∀ (i:Nat) x z H2 (R:VK) (R0:Hp->Prop),xs[i]?=some x->zs[i]?=some z->Same H H2->(p z=true->R (f z) H2)->(p z=false->R0 H2)->g x (cσ js σ) H2 fun yT H3=>tt yT H3 fun b H4=>if b=true then te yT H4 R else R0 H4)
 (q:∀ D,H D=none->fin D (upd H D (.lst ((zs.filter p).map f)))) :
 ∀ D,H D=none->∃ (n:Nat) (W:Nat->Hp->Prop),W 0 (upd H D (.lst []))/\f8 js g tt te σ (Itl K a) D n W fun H'=>fin D H' :=
 uu zs p f hz hn (fun i H2 s hi=>⟨xs,xs[i],s.seq hS,Ua hi⟩) (fun H2 s=>⟨xs,s.seq hS,Ue _⟩) (fun i H2 x H3 s hi hy=>⟨hy.1,hy.2 xs (s.seq hS)⟩) hb q
variable {K:Ub}
theorem qD:Xv K (.type "tuple") (.type "tuple")=some true:=rfl
theorem tO:Xv K (.type "str") (.type "str")=some true:=rfl
theorem qu:Xv K (.type "list") (.type "list")=some true:=rfl
end L2
namespace BB
open PySem L2
set_option genInjectivity true in
inductive Dv where
 | int (i:Int)
 | str (x:UP)
 | tup (ds:List Dv)
mutual
def Dv.deep:Dv->Nat
 | .int _=>0
 | .str _=>0
 | .tup ds=>cX ds+1
def cX:List Dv->Nat
 | []=>0
 | d::ds=>max d.deep (cX ds)
end
mutual
def Dv.tot:Dv->Nat
 | .int _=>1
 | .str _=>1
 | .tup ds=>u9 ds+1
def u9:List Dv->Nat
 | []=>0
 | d::ds=>d.tot+u9 ds
end
mutual
def DAt (H:Hp):Dv->V->Prop
 | .int i,v=>v=.int i
 | .str x,v=>v=.str x
 | .tup ds,v=>∃ a vs,v=.ref a/\H a=some (.tup vs)/\DAts H ds vs
def DAts (H:Hp):List Dv->List V->Prop
 | [],vs=>vs=[]
 | d::ds,vs=>∃ v r,vs=v::r/\DAt H d v/\DAts H ds r
end
theorem DAts.nil {H:Hp}:DAts H [] []:=by rw [DAts]
theorem DAts.cons {H:Hp} {d:Dv} {ds:List Dv} {v:V} {vs:List V} (h1:DAt H d v) (h2:DAts H ds vs):DAts H (d::ds) (v::vs):=by rw [DAts];exact ⟨v,vs,rfl,h1,h2⟩
theorem DAts.length {H:Hp}:∀ {ds:List Dv} {vs:List V},DAts H ds vs->vs.length=ds.length
 | [],vs,h=>by rw [DAts] at h;subst h;rfl
 | d::ds,vs,h=>by
   rw [DAts] at h;obtain ⟨v,r,rfl,h1,h2⟩:=h;rw [Uo,Uo,h2.length]
theorem DAts.at {H:Hp}:∀ {ds:List Dv} {vs:List V} {i:Nat} {d:Dv},DAts H ds vs->ds[i]?=some d->∃ v,vs[i]?=some v/\DAt H d v
 | [],vs,i,d,h,e=>by simp at e
 | d0::ds,vs,i,d,h,e=>by
   rw [DAts] at h;obtain ⟨v,r,rfl,h1,h2⟩:=h;cases i with
   | zero=>simp at e;subst e;exact ⟨v,rfl,h1⟩
   | succ i =>
     obtain ⟨u,g1,g2⟩:=h2.at (i:=i) (by simpa using e);exact ⟨u,by simpa using g1,g2⟩
theorem fB:∀ {ds:List Dv} {i:Nat} {d:Dv},ds[i]?=some d->d.deep<=cX ds
 | [],i,d,e=>by simp at e
 | d0::ds,i,d,e=>by
   rw [cX];cases i with
   | zero=>simp at e;subst e;omega
   | succ i =>
     have:=fB (ds:=ds) (i:=i) (by simpa using e);omega
theorem og:∀ {ds:List Dv} {i:Nat} {d:Dv},ds[i]?=some d->d.tot<=u9 ds
 | [],i,d,e=>by simp at e
 | d0::ds,i,d,e=>by
   rw [u9];cases i with
   | zero=>simp at e;subst e;omega
   | succ i =>
     have:=og (ds:=ds) (i:=i) (by simpa using e);omega
theorem Dv.tot_pos (d:Dv):1<=d.tot:=by
 cases d with
 | int i=>rw [Dv.tot];omega
 | str x=>rw [Dv.tot];omega
 | tup ds=>rw [Dv.tot];omega
mutual
def Th.dv:Th->Dv
 | .knot n ks=>.tup (.str n::dvs ks)
 | .call s k=>.tup [.str q,.int s,.int k]
def dvs:List Th->List Dv
 | []=>[]
 | t::ts=>t.dv::dvs ts
end
mutual
theorem At.dv {H:Hp}:∀ {t:Th} {a:Ud},At H t a->DAt H t.dv (.ref a)
 | .knot n ks,a,h=>by
   rw [At] at h;obtain ⟨_,as,h1,h2⟩:=h;rw [Th.dv,DAt];exact ⟨a,_,rfl,h1,.cons (by rw [DAt]) (Ats.dvs h2)⟩
 | .call s k,a,h=>by
   rw [At] at h;rw [Th.dv,DAt];exact ⟨a,_,rfl,h,.cons (by rw [DAt]) (.cons (by rw [DAt]) (.cons (by rw [DAt]) .nil))⟩
theorem Ats.dvs {H:Hp}:∀ {ts:List Th} {as:List Ud},Ats H ts as->DAts H (dvs ts) (as.map V.ref)
 | [],as,h=>by rw [Ats] at h;subst h;rw [BB.dvs];exact .nil
 | t::ts,as,h=>by
   rw [Ats] at h;obtain ⟨a,r,rfl,h1,h2⟩:=h;rw [BB.dvs,Vd];exact .cons (At.dv h1) (Ats.dvs h2)
end
mutual
theorem Th.dv_deep:∀ t:Th,t.dv.deep<=t.tall
 | .knot n ks=>by
   have:=jj ks;rw [Th.dv,Dv.deep,cX,Dv.deep,Th.tall];omega
 | .call s k=>by rw [Th.dv,Th.tall];simp [Dv.deep,cX]
theorem jj:∀ ts:List Th,cX (dvs ts)<=bG ts
 | []=>by rw [dvs,cX];exact UL _
 | t::ts=>by
   have:=t.dv_deep;have:=jj ts;rw [dvs,cX,bG];omega
end
theorem mj {K:Ub} {H:Hp} {a b:Ud} {xs ys:List V} {Q:VK} (ha:H a=some (.tup xs)) (hb:H b=some (.tup ys)) (hz:xs.length+ys.length<=1000000) (q:∀ p H',L2.Same H H'->H' p=some (.tup (xs++ys))->Q (.ref p) H'):lO K (.ref a) (.ref b) H Q:=by
 refine ⟨a,b,xs,ys,rfl,rfl,SqT.of ha,SqT.of hb,ak hz,fun e=>?_,fun _ e=>?_,fun _ _ p hp=>?_⟩
 · exact q b H (.refl _) (by rw [e];exact hb)
 · exact q a H (.refl _) (by rw [e,U0];exact ha)
 · exact q p _ (ad hp _) ab
mutual
/-- all Of with Og places,a knot ahead of its kids -/
def Th.pl (pre:List Int):Th->List (List Int×Th)
 | .knot n ks=>(pre,.knot n ks)::pls pre 0 ks
 | .call s k=>[(pre,.call s k)]
def pls (pre:List Int) (i:Int):List Th->List (List Int×Th)
 | []=>[]
 | t::ts=>t.pl (pre++[i])++pls pre (i+1) ts
end
theorem Th.pl_eq (pre:List Int) (t:Th):t.pl pre=(pre,t)::pls pre 0 t.kids:=by
 cases t with
 | knot n ks=>rw [Th.pl];rfl
 | call s k=>rw [Th.pl];simp [Th.kids,pls]
mutual
theorem Th.pl_len (pre:List Int):∀ t:Th,(t.pl pre).length=t.size
 | .knot n ks=>by rw [Th.pl,Th.size,Uo,rT pre 0 ks]
 | .call s k=>by rw [Th.pl,Th.size];rfl
theorem rT (pre:List Int) (i:Int):∀ ts:List Th,(pls pre i ts).length=aq ts
 | []=>by rw [pls,aq];rfl
 | t::ts=>by rw [pls,aq,UA,Th.pl_len _ t,rT pre (i+1) ts]
end
def szP:List (List Int×Th)->Nat
 | []=>0
 | p::ps=>p.2.size+szP ps
def plP:List (List Int×Th)->List (List Int×Th)
 | []=>[]
 | p::ps=>p.2.pl p.1++plP ps
theorem cJ:∀ a b,szP (a++b)=szP a+szP b
 | [],b=>by simp [szP]
 | p::a,b=>by rw [Wf,szP,szP,cJ a b,YK]
theorem ku (a:List (List Int×Th)):szP a.reverse=szP a:=by
 induction a with
 | nil=>rfl
 | cons x xs ih=>rw [Vn,cJ,ih,szP,szP,szP];omega
theorem kH:∀ a b,plP (a++b)=plP a++plP b
 | [],b=>by simp [plP]
 | p::a,b=>by rw [Wf,plP,plP,kH a b,Ve]
theorem rZ:∀ a,(plP a).length=szP a
 | []=>rfl
 | p::a=>by rw [plP,szP,UA,Th.pl_len,rZ a]
theorem nS:∀ a,a.length<=szP a
 | []=>UL _
 | p::a=>by
   have:=p.2.size_pos;have:=nS a;rw [Uo,szP];omega
def cW (pre:List Int) (i:Int):List Th->List (List Int×Th)
 | []=>[]
 | t::ts=>(pre++[i],t)::cW pre (i+1) ts
theorem gS (pre:List Int) (i:Int):∀ ts,(cW pre i ts).length=ts.length
 | []=>rfl
 | t::ts=>by rw [cW,Uo,Uo,gS pre (i+1) ts]
theorem o9 (pre:List Int) (i:Int):∀ ts,plP (cW pre i ts)=pls pre i ts
 | []=>by rw [cW,plP,pls]
 | t::ts=>by rw [cW,plP,pls,o9 pre (i+1) ts]
theorem jv (pre:List Int) (i:Int):∀ ts,szP (cW pre i ts)=aq ts
 | []=>by rw [cW,szP,aq]
 | t::ts=>by rw [cW,szP,aq,jv pre (i+1) ts]
theorem kO (pre:List Int):∀ (i:Int) (ts:List Th) (j:Nat) (t:Th),ts[j]?=some t->(cW pre i ts)[j]?=some (pre++[i+j],t)
 | i,[],j,t,e=>by simp at e
 | i,u::ts,0,t,e=>by simp at e;subst e;rw [cW];simp
 | i,u::ts,j+1,t,e=>by
   rw [cW,U9,kO pre (i+1) ts j t (by simpa using e)];have:i+1+(j:Int)=i+((j+1:Nat):Int):=by omega
   rw [this]
theorem lh (pre:List Int):∀ (i:Int) (ts:List Th) (p:List Int×Th),p∈cW pre i ts->p.1.length=pre.length+1/\p.2∈ts
 | i,[],p,h=>by rw [cW] at h;cases h
 | i,u::ts,p,h=>by
   rw [cW] at h;rcases UB.mp h with rfl | h
   · exact ⟨by simp,UM ..⟩
   · have:=lh pre (i+1) ts p h;exact ⟨this.1,UG _ this.2⟩
theorem P2.reverse {α β:Type} {F:α->β->Prop}:∀ {a:List α} {b:List β},UR F a b->UR F a.reverse b.reverse
 | _,_,.nil=>.nil
 | _,_,.cons r t=>by
   rw [Vn,Vn];exact P2.append (P2.reverse t) (.cons r .nil)
theorem P2.snoc_inv {α β:Type} {F:α->β->Prop} {a:List α} {b:List β} {y:β} (h:UR F a (b++[y])):∃ us x,a=us++[x]/\UR F us b/\F x y:=by
 have r:=P2.reverse h;rw [VM,List.reverse_singleton,List.singleton_append] at r;cases e:a.reverse with
 | nil=>rw [e] at r;cases r
 | cons x us =>
   rw [e] at r;cases r with
   | cons h1 h2 =>
     refine ⟨us.reverse,x,?_,?_,h1⟩
     · rw [<- Vn,<- e,We]
     · have:=P2.reverse h2;rw [We] at this;exact this
theorem oE {t u:Th} (h:u∈t.kids):u.tall+1<=t.tall:=by
 have:=bR h;rw [t.tall_eq];omega
def Th.sub:Th->List Int->Option Th
 | t,[]=>some t
 | t,i::r=>if 0<=i then (match t.kids[i.toNat]? with | some u=>u.sub r | none=>none) else none
termination_by _ p=>p.length
theorem i7 (t:Th):t.sub []=some t:=by rw [Th.sub]
theorem pR {t u:Th} {i:Int} {r:List Int} (h0:0<=i) (h:t.kids[i.toNat]?=some u):t.sub (i::r)=u.sub r:=by rw [Th.sub,if_pos h0,h]
mutual
theorem uL:∀ (t:Th) (pre p:List Int) (u:Th),(p,u)∈t.pl pre->∃ r,p=pre++r/\t.sub r=some u/\r.length+u.tall<=t.tall/\u.size<=t.size
 | .knot n ks,pre,p,u,h=>by
   rw [Th.pl] at h;rcases UB.mp h with e | h
   · cases e;exact ⟨[],by simp,i7 _,by simp,Ue _⟩
   · obtain ⟨j,v,r,h1,rfl,h3,h4,h5,h6,h7⟩:=rJ ks pre 0 p u h;refine ⟨(0+(j:Int))::r,by simp,?_,?_,?_⟩
     · rw [pR (u:=v) (by omega) (by rw [show (0+(j:Int)).toNat=j by omega];exact h1)];exact h3
     · rw [Th.tall,Uo];omega
     · rw [Th.size];omega
 | .call s k,pre,p,u,h=>by
   rw [Th.pl] at h;have e:(p,u)=(pre,Th.call s k):=by simpa using h
   cases e;exact ⟨[],by simp,i7 _,by simp,Ue _⟩
theorem rJ:∀ (ts:List Th) (pre:List Int) (i:Int) (p:List Int) (u:Th),(p,u)∈pls pre i ts->∃ (j:Nat) (v:Th) (r:List Int),ts[j]?=some v/\p=pre++(i+(j:Int))::r/\v.sub r=some u/\r.length+u.tall<=v.tall/\v.tall<=bG ts/\u.size<=v.size/\v.size<=aq ts
 | [],pre,i,p,u,h=>by rw [pls] at h;cases h
 | t::ts,pre,i,p,u,h=>by
   rw [pls] at h;rcases U8.mp h with h | h
   · obtain ⟨r,rfl,h1,h2,h3⟩:=uL t (pre++[i]) p u h;exact ⟨0,t,r,rfl,by simp,h1,h2,by rw [bG];omega,h3,by rw [aq];omega⟩
   · obtain ⟨j,v,r,h1,rfl,h3,h4,h5,h6,h7⟩:=rJ ts pre (i+1) p u h;refine ⟨j+1,v,r,by simpa using h1,?_,h3,h4,by rw [bG];omega,h6,by rw [aq];omega⟩;have:i+1+(j:Int)=i+((j+1:Nat):Int):=by omega
     rw [this]
end
theorem aI:∀ {ts:List Th} {t:Th},t∈ts->t.size<=aq ts
 | u::ts,t,h=>by
   rw [aq];rcases UB.mp h with rfl | h
   · omega
   · have:=aI h;omega
end BB
namespace BB
open PySem L2
section
variable {ext:Th->List V} {H H':Hp} {t:Th} {a:Ud} {ts:List Th} {es:List Ud}
end
def Th.isCall:Th->Bool
 | .knot _ _=>false
 | .call _ _=>true
def nM:List Int×Th->Option (List Int×Int×Int)
 | (_,.knot _ _)=>none
 | (p,.call s k)=>some (p,s,k)
def callsOf (ps:List (List Int×Th)):List (List Int×Int×Int):=ps.filterMap nM
theorem dW (a b:List (List Int×Th)):callsOf (a++b)=callsOf a++callsOf b:=List.filterMap_append
theorem j3 (a:List (List Int×Th)):(callsOf a).length<=a.length:=List.length_filterMap_le _ _
def CAt (H:Hp) (c:List Int×Int×Int) (a:Ud):Prop:=∃ pa ca,H a=some (.tup [.ref pa,.ref ca])/\H pa=some (.tup (c.1.map V.int))/\H ca=some (.tup [.int c.2.1,.int c.2.2])
def CsAt (H:Hp) (cs:List (List Int×Int×Int)) (as:List Ud):Prop:=UR (CAt H) cs as
theorem CAt.mono {H H':Hp} (k:KT H H') {c:List Int×Int×Int} {a:Ud} (h:CAt H c a):CAt H' c a:=by
 obtain ⟨pa,ca,h1,h2,h3⟩:=h;exact ⟨pa,ca,k _ _ h1,k _ _ h2,k _ _ h3⟩
theorem CsAt.mono {H H':Hp} (k:KT H H') {cs:List (List Int×Int×Int)} {as:List Ud} (h:CsAt H cs as):CsAt H' cs as:=P2.mp (fun _ _ e=>CAt.mono k e) h
end BB
namespace BB
open PySem PySem.Spec PyProof.Rows L2
mutual
theorem DAt.inj {H:Hp}:∀ {d e:Dv} {v:V},DAt H d v->DAt H e v->d=e
 | .int i,.int j,v,h,g=>by rw [DAt] at h;rw [DAt] at g;rw [h] at g;cases g;rfl
 | .int i,.str y,v,h,g=>by rw [DAt] at h;rw [DAt] at g;rw [h] at g;cases g
 | .int i,.tup es,v,h,g=>by rw [DAt] at h;rw [DAt] at g;obtain ⟨a,vs,e,_⟩:=g;rw [h] at e;cases e
 | .str x,.int j,v,h,g=>by rw [DAt] at h;rw [DAt] at g;rw [h] at g;cases g
 | .str x,.str y,v,h,g=>by rw [DAt] at h;rw [DAt] at g;rw [h] at g;cases g;rfl
 | .str x,.tup es,v,h,g=>by rw [DAt] at h;rw [DAt] at g;obtain ⟨a,vs,e,_⟩:=g;rw [h] at e;cases e
 | .tup ds,.int j,v,h,g=>by rw [DAt] at h;rw [DAt] at g;obtain ⟨a,vs,e,_⟩:=h;rw [e] at g;cases g
 | .tup ds,.str y,v,h,g=>by rw [DAt] at h;rw [DAt] at g;obtain ⟨a,vs,e,_⟩:=h;rw [e] at g;cases g
 | .tup ds,.tup es,v,h,g=>by
   rw [DAt] at h;rw [DAt] at g;obtain ⟨a,vs,e1,h1,h2⟩:=h;obtain ⟨b,ws,e2,g1,g2⟩:=g;rw [e1] at e2;cases e2;rw [h1] at g1;cases g1;rw [DAts.inj h2 g2]
theorem DAts.inj {H:Hp}:∀ {ds es:List Dv} {vs:List V},DAts H ds vs->DAts H es vs->ds=es
 | [],[],vs,h,g=>rfl
 | [],e::es,vs,h,g=>by rw [DAts] at h;rw [DAts] at g;obtain ⟨v,r,z,_⟩:=g;rw [h] at z;cases z
 | d::ds,[],vs,h,g=>by rw [DAts] at h;rw [DAts] at g;obtain ⟨v,r,z,_⟩:=h;rw [g] at z;cases z
 | d::ds,e::es,vs,h,g=>by
   rw [DAts] at h;rw [DAts] at g;obtain ⟨v,r,z,h1,h2⟩:=h;obtain ⟨v',r',z',g1,g2⟩:=g;rw [z] at z';cases z';rw [DAt.inj h1 g1,DAts.inj h2 g2]
end
end BB
namespace L2
open PySem PySem.Spec PySem.SeqAt PyProof.Rows BB
open Classical in
theorem uv {X:Cx} {pins:List (Ud×Wu)} {σ:St} {H:Hp} {s:Um} (I:Inv X pins σ H s) {ds es:List Dv} {a b:Ud} {vs ws:List V} {A:U5} (ha:SqT X.K H a vs) (hb:SqT X.K H b ws) (Cu:DAts H ds vs) (zt:DAts H es ws) (hu:A.units<V1)
 (ih:∀ (j:Nat) (d e:Dv) (x y:V) (u v:Ug),ds[j]?=some d->DAt H d x->DAt H e y->RelV x u->RelV y v->EqAt A.in1 s u v (decide (d=e))):RcAt A s (.ref a) (.ref b) (decide (Dv.tup ds=Dv.tup es)):=by
 obtain ⟨its,r1,p1,_⟩:=I.tuple ha;obtain ⟨yF,r2,p2,_⟩:=I.tuple hb;have l1:its.length=ds.length:=by rw [<- r1.length,Cu.length]
 have l2:yF.length=es.length:=by rw [<- r2.length,zt.length]
 have C0:RcAt A s (.ref a) (.ref b) ((UT (min its.toArray.size yF.toArray.size)).all (fun j=>decide (ds[j]?=es[j]?)) && its.toArray.size == yF.toArray.size):=by
  refine RcAt.tuples (show s.heap.IsTuple a its.toArray from p1) (show s.heap.IsTuple b yF.toArray from p2) hu fun j h1 h2=>?_;have B9:j<ds.length:=by rw [<- l1];simpa using h1
  have BE:j<es.length:=by rw [<- l2];simpa using h2
  have e1:ds[j]?=some ds[j]:=Ua B9;have e2:es[j]?=some es[j]:=Ua BE;obtain ⟨x',Cs,dx⟩:=Cu.at e1;obtain ⟨y',Bx,dy⟩:=zt.at e2;obtain ⟨u',zZ,DT⟩:=r1.get Cs;obtain ⟨v',zu,BF⟩:=r2.get Bx;have e3:decide (ds[j]?=es[j]?)=decide (ds[j]=es[j]):=by rw [e1,e2];simp
  have e4:its.toArray[j]=u':=by
   rw [Ua (by rw [l1];exact B9)] at zZ;simpa using zZ
  have e5:yF.toArray[j]=v':=by
   rw [Ua (by rw [l2];exact BE)] at zu;simpa using zu
  rw [e3,e4,e5];exact ih j ds[j] es[j] x' y' u' v' e1 dx dy DT BF
 have e:decide (Dv.tup ds=Dv.tup es)=((UT (min its.toArray.size yF.toArray.size)).all (fun j=>decide (ds[j]?=es[j]?)) && its.toArray.size == yF.toArray.size):=by
  rw [Uq,Uq,l1,l2];by_cases h:ds=es
  · subst h;rw [decide_eq_true rfl];symm;simp
  · rw [decide_eq_false (fun z=>h (Dv.tup.inj z))];symm;by_cases hl:ds.length=es.length
    · rw [hl,YW]
      have:¬ ((UT es.length).all (fun j=>decide (ds[j]?=es[j]?)))=true:=by
       intro z;apply h;apply YE;intro j;by_cases hj:j<es.length
       · have:=WL.mp z j (WO.mpr hj);exact of_decide_eq_true this
       · rw [Wa (by omega),Wa (by omega)]
      rw [VP.mpr this];rfl
    · have:(ds.length == es.length)=false:=by simpa using hl
      rw [this,YA]
 rw [e];exact C0
open Classical in
theorem oA {X:Cx} {pins:List (Ud×Wu)} {σ:St} {H:Hp} {s:Um} (I:Inv X pins σ H s):∀ (n:Nat) (d e:Dv),d.tot<=n->∀ (x y:V) (u v:Ug) (A:U5),DAt H d x->DAt H e y->RelV x u->RelV y v->A.units+d.deep<V1->EqAt A s u v (decide (d=e))
 | 0,d,e,hn,x,y,u,v,A,hd,he,ru,rv,hu=>by have:=d.tot_pos;omega
 | n+1,.int i,.int j,hn,x,y,u,v,A,hd,he,ru,rv,hu=>by
   rw [DAt] at hd;rw [DAt] at he;subst hd he;obtain ⟨t,rfl⟩:=ru;obtain ⟨t',rfl⟩:=rv
   have e:decide (Dv.int i=Dv.int j)=(i == j):=by
    by_cases h:i=j
    · subst h;simp
    · rw [decide_eq_false (fun z=>h (Dv.int.inj z))];simp [h]
   rw [e];exact EqAt.int_int i t j t'
 | n+1,.int i,.str b,hn,x,y,u,v,A,hd,he,ru,rv,hu=>by
   rw [DAt] at hd;rw [DAt] at he;subst hd he;obtain ⟨t,rfl⟩:=ru;obtain ⟨t',rfl⟩:=rv;rw [decide_eq_false (fun z=>by cases z)];exact EqAt.int_str i t b t'
 | n+1,.int i,.tup es,hn,x,y,u,v,A,hd,he,ru,rv,hu=>by
   rw [DAt] at hd;rw [DAt] at he;obtain ⟨a,vs,rfl,ha,_⟩:=he;subst hd;obtain ⟨t,rfl⟩:=ru;cases rv;obtain ⟨its,_,p,_⟩:=I.tuple (SqT.of (K:=X.K) ha);rw [decide_eq_false (fun z=>by cases z)];exact EqAt.int_tuple i t (show s.heap.IsTuple a its.toArray from p) (by omega)
 | n+1,.str b,.int j,hn,x,y,u,v,A,hd,he,ru,rv,hu=>by
   rw [DAt] at hd;rw [DAt] at he;subst hd he;obtain ⟨t,rfl⟩:=ru;obtain ⟨t',rfl⟩:=rv;rw [decide_eq_false (fun z=>by cases z)];exact EqAt.str_int b t j t'
 | n+1,.str b,.str c,hn,x,y,u,v,A,hd,he,ru,rv,hu=>by
   rw [DAt] at hd;rw [DAt] at he;subst hd he;obtain ⟨t,rfl⟩:=ru;obtain ⟨t',rfl⟩:=rv
   have e:decide (Dv.str b=Dv.str c)=(b == c):=by
    by_cases h:b=c
    · subst h;simp
    · rw [decide_eq_false (fun z=>h (Dv.str.inj z))];simp [h]
   rw [e];exact EqAt.str_str b t c t'
 | n+1,.str b,.tup es,hn,x,y,u,v,A,hd,he,ru,rv,hu=>by
   rw [DAt] at hd;rw [DAt] at he;obtain ⟨a,vs,rfl,ha,_⟩:=he;subst hd;obtain ⟨t,rfl⟩:=ru;cases rv;obtain ⟨its,_,p,_⟩:=I.tuple (SqT.of (K:=X.K) ha);rw [decide_eq_false (fun z=>by cases z)];exact EqAt.str_tuple b t (show s.heap.IsTuple a its.toArray from p) (by omega)
 | n+1,.tup ds,.int j,hn,x,y,u,v,A,hd,he,ru,rv,hu=>by
   rw [DAt] at hd;rw [DAt] at he;obtain ⟨a,vs,rfl,ha,_⟩:=hd;subst he;cases ru;obtain ⟨t,rfl⟩:=rv;obtain ⟨its,_,p,_⟩:=I.tuple (SqT.of (K:=X.K) ha);rw [decide_eq_false (fun z=>by cases z)];exact EqAt.tuple_int j t (show s.heap.IsTuple a its.toArray from p) (by omega)
 | n+1,.tup ds,.str b,hn,x,y,u,v,A,hd,he,ru,rv,hu=>by
   rw [DAt] at hd;rw [DAt] at he;obtain ⟨a,vs,rfl,ha,_⟩:=hd;subst he;cases ru;obtain ⟨t,rfl⟩:=rv;obtain ⟨its,_,p,_⟩:=I.tuple (SqT.of (K:=X.K) ha);rw [decide_eq_false (fun z=>by cases z)];exact EqAt.tuple_str b t (show s.heap.IsTuple a its.toArray from p) (by omega)
 | n+1,.tup ds,.tup es,hn,x,y,u,v,A,hd,he,ru,rv,hu=>by
   have Cv:=hd;have Ln:=he;rw [DAt] at hd;rw [DAt] at he;obtain ⟨a,vs,rfl,ha,Cu⟩:=hd;obtain ⟨b,ws,rfl,hb,zt⟩:=he;cases ru;cases rv;by_cases Ax:a=b
   · subst Ax;rw [decide_eq_true (DAt.inj Cv Ln)];exact EqAt.same _
   rw [Dv.tot] at hn;rw [Dv.deep] at hu;refine EqAt.of_refs Ax (uv I (SqT.of ha) (SqT.of hb) Cu zt (by omega) fun j d e x' y' u' v' e1 dx dy DT BF=>?_);have q1:=og e1;have q2:=fB e1;refine oA I n d e (by omega) x' y' u' v' A.in1 dx dy DT BF ?_;show A.units+1+_<V1;omega
def u6 (K:Ub) (B:Nat):R2:=fun x y H Q=>∃ b ws d es,y=.ref b/\SqT K H b ws/\DAt H d x/\DAts H es ws/\cX es<=B/\∀ r:Bool,(r=true↔d∉es)->Q (.bl r) H
open Classical in
theorem mG {X:Cx} {B:Nat} (hu:X.A.units+B+2<V1):OpR X (Xz .NotIn) (u6 X.K B):=by
 intro pins s σ H x y v u Q I rx ry h;obtain ⟨b,ws,d,es,rfl,hb,hd,zt,hB,q⟩:=h;cases ry;obtain ⟨its,r1,p1,_⟩:=I.tuple hb
 have key:∀ (j:Nat) (z:Ug),its[j]?=some z->∃ e y',es[j]?=some e/\DAt H e y'/\RelV y' z:=by
  intro j z hz;have hj:j<its.length:=(Uh.mp hz).1;have l1:=r1.length;have l2:=zt.length;have Gx:j<es.length:=by omega
  obtain ⟨y',Bx,dy⟩:=zt.at (Ua Gx);obtain ⟨v',zu,BF⟩:=r1.get Bx;rw [hz] at zu;cases zu;exact ⟨_,y',Ua Gx,dy,BF⟩
 have uniq:∀ (z:Ug) (e e':Dv) (y' C1:V),DAt H e y'->RelV y' z->DAt H e' C1->RelV C1 z->e=e':=by
  intro z e e' y' C1 h1 h2 h3 h4;have:=h2.inj h4;subst this;exact h1.inj h3
 refine notIn_tupleAt (fun z=>decide (∃ y',DAt H d y'/\RelV y' z)) (show s.heap.IsTuple b its.toArray from p1) (fun z hz=>?_) ⟨.bl _,H,I,rfl,q _ ?_⟩
 · obtain ⟨j,hj⟩:=UC.mp (show z∈its by simpa using hz);obtain ⟨e,y',he,dy,ry⟩:=key j z hj;have hq:=fB he
   have e3:decide (∃ y',DAt H d y'/\RelV y' z)=decide (e=d):=by
    by_cases h:e=d
    · rw [decide_eq_true h,decide_eq_true ⟨y',h ▸ dy,ry⟩]
    · rw [decide_eq_false h,decide_eq_false];rintro ⟨C1,h1,h2⟩;exact h (uniq z e d y' C1 dy ry h1 h2)
   rw [e3];refine oA I _ e d (Ue _) y' x z v X.A.in1 dy hd ry rx ?_;show X.A.units+1+_<V1;omega
 · rw [Bool.not_eq_true',<- Bool.not_eq_true];refine not_congr ?_;constructor
   · intro z;obtain ⟨v',h1,h2⟩:=Array.any_eq_true'.mp z;obtain ⟨j,hj⟩:=UC.mp (show v'∈its by simpa using h1);obtain ⟨e,y',he,dy,ry⟩:=key j v' hj;obtain ⟨C1,h3,h4⟩:=of_decide_eq_true h2;rw [<- uniq v' e d y' C1 dy ry h3 h4];exact Uc he
   · intro z;obtain ⟨j,hj⟩:=UC.mp z;obtain ⟨y',Bx,dy⟩:=zt.at hj;obtain ⟨v',zu,BF⟩:=r1.get Bx;refine Array.any_eq_true'.mpr ⟨v',?_,decide_eq_true ⟨y',dy,BF⟩⟩;have:=Uc zu;simpa using this
end L2
namespace BB
open PySem L2
def Th.put:Th->List Int->Th->Th
 | _,[],o=>o
 | t,i::r,o=>match t.kids[i.toNat]? with
   | some u=>.knot t.nm (t.kids.set i.toNat (u.put r o))
   | none=>o
termination_by _ p=>p.length
theorem nY (t o:Th):t.put [] o=o:=by rw [Th.put]
theorem kX {t u o:Th} {i:Int} {r:List Int} (h:t.kids[i.toNat]?=some u):t.put (i::r) o=.knot t.nm (t.kids.set i.toNat (u.put r o)):=by rw [Th.put,h]
theorem nI {t u:Th} {i:Int} {r:List Int} (h:t.sub (i::r)=some u):0<=i/\∃ w,t.kids[i.toNat]?=some w/\w.sub r=some u:=by
 rw [Th.sub] at h;split at h
 · rename_i h0
   split at h
   · rename_i w hw
     exact ⟨h0,w,hw,h⟩
   · cases h
 · cases h
theorem no:∀ {ks:List Th} {i:Nat} {w x:Th},ks[i]?=some w->aq (ks.set i x)+w.size=aq ks+x.size
 | [],i,w,x,h=>by simp at h
 | k::ks,0,w,x,h=>by
   simp at h;subst h;rw [List.set_cons_zero,aq,aq];omega
 | k::ks,i+1,w,x,h=>by
   have:=no (ks:=ks) (i:=i) (w:=w) (x:=x) (by simpa using h);rw [List.set_cons_succ,aq,aq];omega
theorem pT:∀ (p:List Int) (t u o:Th),t.sub p=some u->(t.put p o).size+u.size=t.size+o.size
 | [],t,u,o,h=>by
   rw [i7] at h;cases h;rw [nY];omega
 | i::r,t,u,o,h=>by
   obtain ⟨h0,w,hw,hs⟩:=nI h;have h1:=pT r w u o hs;have h2:=no (x:=w.put r o) hw;rw [kX hw,Th.size,t.size_eq];omega
theorem Ats.set {H:Hp}:∀ {ts:List Th} {as:List Ud} (i:Nat) {x:Th} {a:Ud},Ats H ts as->At H x a->Ats H (ts.set i x) (as.set i a)
 | [],as,i,x,a,h,g=>by rw [Ats] at h;subst h;exact .nil
 | t::ts,as,i,x,a,h,g=>by
   rw [Ats] at h;obtain ⟨b,r,rfl,h1,h2⟩:=h;cases i with
   | zero=>exact .cons g h2
   | succ i=>exact .cons h1 (Ats.set i h2 g)
end BB
namespace PySem
theorem bb_extendT (l:Ud) (items:Array Ug) (n:Nat) (b:Ud) (Ah:Array Ug) (n2:Nat) (dd:Option Ud) (sl:Array (Option Ug)) (g0:¬(!items.isEmpty && WA (items.size+Ah.size))=true) (g1:items.size<=Uz) (g2:items.size+Ah.size<=Uz+1) :
 Meets (WY.«list.extend» ⟨[.ref l,.ref b],[]⟩) (fun _ R s=>s.heap.get? l=some { cls:=.type "list",dict:=none,data:=.seq items n,slots:=#[] }/\s.heap.get? b=some { cls:=.type "tuple",dict:=dd,data:=.seq Ah n2,slots:=sl }/\R (.ok (.ret VL)) { s with heap:=s.heap.update l (Vr fun x=>x++Ah),toks:=s.toks }) :=
 .of_wp fun prog w A R s h=>by
  obtain ⟨hp,g,d,tk,os⟩:=s;obtain ⟨hl,hb,h⟩:=h;have f1:=AutoSeq1.idx_int;have f2:=AutoSeq1.sub_tuple_tuple;have f3:=AutoSeq1.sub_list_list;have f4:=AutoSeq1.sub_tuple_list;have f5:=AutoSeq1.sub_list_tuple;have z2:(items++Ah).size<=Uz+1:=by rw [Array.size_append];exact g2
  wp_walk using (V6 hl rfl (hz:=g1) (_hz':=z2)),WC hl,WC hb
  exact ⟨_,rfl,h⟩
end PySem
namespace L2
open PySem PySem.Spec PyProof.Rows
section
variable {X:Cx}
def tJ (K:Ub):V->List V->Hp->VK->Prop:=fun x vs H Q=>∃ l b xs zs,x=.ref l/\vs=[.ref b]/\H l=some (.lst xs)/\SqT K H b zs/\xs.length+zs.length<=Uz/\Q .non (upd H l (.lst (xs++zs)))
theorem qO:MtM X "list.extend" (tJ X.K):=by
 intro pins s σ H x vs v us Q I rx rv h;obtain ⟨l,b,xs,zs,rfl,rfl,hH,hB,hz,q⟩:=h;cases rx;obtain ⟨u,rfl,ru⟩:=rv.one;cases ru;obtain ⟨z,its,n,r,hl,e⟩:=I.lstM hH;obtain ⟨yF,r2,p2,_⟩:=I.tuple hB;have zw:=r2.length;obtain ⟨⟨Hj,Gq,data2,Gr⟩,e2,Co,n2,hd2⟩:=p2;simp only at Co hd2;subst Co hd2;have hsz:its.toArray.size+yF.toArray.size<=Uz:=by rw [Uq,Uq];omega
 have CO:¬ (!its.toArray.isEmpty && WA (its.toArray.size+yF.toArray.size))=true:=by
  rw [lV hsz,YA];exact UD
 refine YN F.slot_list_extend ⟨_,e,rfl⟩ F.entry_list_extend (F.args_list_extend_2 _ _)
  (bb_extendT l its.toArray n b yF.toArray n2 Gq Gr CO (by rw [Uq];omega) (by omega)) ⟨e,e2,?_⟩
 refine ⟨.non,_,I.lset (its':=its++yF) hH e (by simp) (r.append r2) ?_,rfl,q⟩;rw [UA];omega
theorem tE {bs:List Bool} {its:List Ug} (r:Vals (bs.map V.bl) its) {i:Nat} {v:Ug} (h:its[i]?=some v):∃ b,bs[i]?=some b/\v=.bool b:=by
 have hl:=r.length;have hi:i<its.length:=(Uh.mp h).1;rw [T8] at hl;obtain ⟨u,hu,ru⟩:=r.get (i:=i) (x:=.bl bs[i]) (by rw [Ul,Ua (by omega)];rfl);rw [h] at hu;cases hu;cases ru;exact ⟨_,Ua (by omega),rfl⟩
def yj (K:Ub):List V->Hp->VK->Prop:=fun xs H Q=>∃ (p:Ud) (bs:List Bool),xs=[.ref p]/\SqL K H p (bs.map V.bl)/\Q (.bl (bs.all id)) H
theorem lH (hc:X.calm=true):im X (.builtin "all") (yj X.K):=by
 intro pins s σ H xs us Q I r h;obtain ⟨p,bs,rfl,hl,q⟩:=h;obtain ⟨u,rfl,rx⟩:=vals1 r;cases rx;obtain ⟨its,rv,pl,_⟩:=I.list hl;have hlen:=rv.length;rw [T8] at hlen;have yK:p<s.heap.objs.size:=by obtain ⟨_,_,e,_⟩:=pl;exact Uw e
 refine call_all_walk (wpAny_pyIter_list pl.isList ?_);refine ⟨s.heap.objs.size,[s.heap.objs.size,p],[s.heap.objs.size],its.toArray.size,_,_,fun i=>(bs[i]?).getD true,rfl,Walks.list (A:=X.A.in1) (I.ok.hd hc) _ p (UX yK) its.toArray,⟨⟨_,Uu _ rfl,rfl,rfl⟩,pl.isList.push _⟩,fun i v s' Q' E' hP hQ=>?_,fun h' tk hk=>?_⟩
 · obtain ⟨b,e,rfl⟩:=tE rv (i:=i) (v:=v) (by simpa using hP);simp only [e,Option.getD_some] at hQ;exact XF hQ
 · have e:((UT its.toArray.size).all fun i=>(bs[i]?).getD true)=bs.all id:=by
    rw [Uq,<- hlen];exact LSm.range_all bs
   rw [e];exact ⟨.bl (bs.all id),H,I.kept (LSm.kept_iter hk),rfl,q⟩
end
end L2
namespace BB
open PySem L2
def kDv (k:UP×Int):Dv:=.tup [.str k.1,.int k.2]
theorem uc {H:Hp}:∀ {ks:List (UP×Int)} {as:List Ud},UR (KAt H) ks as->DAts H (ks.map kDv) (as.map V.ref)
 | _,_,.nil=>.nil
 | _,_,.cons r h=>by
   rw [Vd,Vd];refine .cons ?_ (uc h);rw [kDv,DAt];exact ⟨_,_,rfl,r,.cons (by rw [DAt]) (.cons (by rw [DAt]) .nil)⟩
theorem lw:∀ ks:List (UP×Int),cX (ks.map kDv)<=1
 | []=>by rw [Wv,cX];exact UL _
 | k::ks=>by
   have:=lw ks;rw [Vd,cX,kDv];simp only [Dv.deep,cX];omega
def star:UP:=Ui "*"
theorem oS {x:UP} (h:Low x):x≠star:=by
 intro e;subst e;have:=h 42 (by decide +kernel);omega
open Classical in
def Th.isHole:Th->Bool
 | .knot n ks=>decide (n=star/\ks=[])
 | .call _ _=>false
def Th.isKnot (t:Th):Bool:=!t.isCall && !t.isHole
theorem rG {k:Nat} {A:U5} (hr:L2.Room k A):A.units+50+2<V1:=by
 have:=hr.units;omega
end BB
namespace PySem
open Sem (wp)
namespace F
theorem bb_entry_upd:entryFor table "dict.update.loop"=some WY.«dict.update.loop»:=entryFor_of_tree (by kernel_rfl)
theorem bb_plain_upd:plainId "dict.update.loop"=true:=by decide +kernel
end F
section
variable {prog:Uv} {w:UK} {A:U5} {E:Ug->Um->Prop} {s:Um} {a:Ud} {xs:Array Ug} {k:Nat}
end
end PySem
namespace L2
open PySem PySem.Spec PyProof.Rows BB
section
variable {X:Cx}
end
end L2
namespace BB
open PySem L2
end BB
namespace HT
open PySem PySem.Spec PyProof.Rows
section
variable {prog:Uv} {w:UK} {A:U5} {E:Ug->Um->Prop} {s:Um}
theorem getItem_tuple_whole {t sl:Ud} {items:Array Ug} {vl vu:Ug} {lo hi:Option Int} {Q:Ug->Um->Prop} (ht:IsTup s.heap t items) (hs:s.heap.IsSliceOf sl vl vu .none) (pl:Zl vl lo) (pu:Zl vu hi)
 (hw:sIx items.size 0 lo=0/\sIx items.size items.size hi=items.size) (h:Q (.ref t) s):Uy (UU prog w) A (Yi (.ref t) (.ref sl)) Q E s:=by
 obtain ⟨os,AZ,Cp,AW⟩:=id hs;have Hk:s.TypeIs (.ref sl) "slice":=⟨os,AZ,Cp⟩;have hT:s.TypeIs (.ref t) "tuple":=ht.typeIs;unfold Yi
 try with_reducible refine VJ ?_
 first | refine T9 (Uk ?_) | skip
 refine T9 (wpAny_sequenceKey ht.typeIs (by decide) ?_)
 refine T9 (Vm (name:=Ui "__getitem__") ht.typeIs U4
  (Vq U4 ht.typeIs entry_tuple_getitem ?_ (args_tuple_getitem _ _)))
 show Uy _ _ (XT (.ref t) >>= _) _ _ s;refine T9 (tupleItemsOf_ ht ?_);refine T9 (WV Hk ?_);rw [if_pos (by decide)];refine T9 (sliceApplied_gen hs pl pu ?_)
 have Lo:(((sIx items.size 0 lo:Nat):Int) == 0 && (1:Int) == 1 && (sIx items.size items.size hi - sIx items.size 0 lo) == items.size)=true:=by
  rw [hw.1,hw.2];simp
 show Uy _ _ (if (((sIx items.size 0 lo:Nat):Int) == 0 && (1:Int) == 1 && (sIx items.size items.size hi - sIx items.size 0 lo) == items.size)=true then _ else _) _ _ s;rw [if_pos Lo];refine T9 (m:=Builtin.Tuple.tupleIsExact _) ?_;unfold Builtin.Tuple.tupleIsExact;refine T9 (WV hT (Uk ?_));rw [if_pos (by decide)];exact T9 (W5 (Uk ⟨_,rfl,Uk h⟩))
end
end HT
namespace L2
open PySem PySem.Spec PyProof.Rows
end L2
namespace PySem
open Sem (wp)
section
variable {prog:Uv} {w:UK} {A:U5} {E:Ug->Um->Prop} {s:Um} {it d:Ud} {i ep:Nat} {od:Wu} {es:Array DictEntry}
theorem bb_keyNext {en:DictEntry} {Q:Option Ug->Um->Prop} (g:s.heap.IsKeyIter it d i es.size ep) (g1:s.heap.get? d=some od) (g2:od.data=.dict es ep) (hx:es[i]?=some en)
 (fin:∀ h',h'.IsKeyIter it d (i+1) es.size ep->V9 it s.heap h'->Q (some en.key) { s with heap:=h' }):Uy (UU prog w) A (Xf (.ref it)) Q E s:=by
 obtain ⟨o,q1,q2,q3⟩:=id g;unfold Xf;refine T9 (Xe (Vm (name:=Ui "__next__") g.typeIs WM (Vq WM g.typeIs F.entry_dict_keyiterator_next ?_ (F.args_dict_keyiterator_next_1 _))));refine T9 (Uk ?_);refine T9 ?_;refine T9 ?_
 first | refine T9 (Xp g.typeIs (Uk ?_)) | refine T9 (X2 g.typeIs (Uk ?_))
 refine T9 (wpAny_fieldsOf q1 q3 ?_);have own:Builtin.Dict_items.ownsTuple "dict_keyiterator"=false:=by decide
 simp only [own,Vv,if_false];show Uy _ _ (if (US d == VL)=true then _ else _) _ _ s;rw [if_neg (show ¬ ((US d == VL)=true) from UD)];refine T9 (Uk ?_);refine T9 (YZ g1 g2 ?_);rw [if_neg (by simp)];refine T9 (Uk ?_);refine T9 (wpAny_dictEpoch g1 g2 ?_);rw [if_neg (by simp)];refine Uk ?_;have lt:i<es.size:=(YB.mp hx).1;have ee:es[i]=en:=(YB.mp hx).2;simp only [show ¬ ((i:Int)<0) from by omega,if_false,Vk,Wm lt];refine T9 ?_
 first | refine T9 (Xp g.typeIs (Uk ?_)) | refine T9 (X2 g.typeIs (Uk ?_))
 refine T9 (wpAny_isOneOf_keyiter g.typeIs ?_);show Uy _ _ (setField (.ref it) 1 (WD ((i:Int)+1)) >>= _) _ _ s;refine T9 (XN q1 q3 (by simp) ?_);have g':(s.heap.update it (Obj.mapFields (·.setIfInBounds 1 (WD ((i:Int)+1))))).IsKeyIter it d (i+1) es.size ep:=⟨_,U2 _ q1 (Yq (Wz q3 _)),(Obj.cls_mapFields ..).trans q2,by rw [Wz q3];simp [WD]⟩;refine T9 (VJ ?_);refine T9 (wpAny_isOneOf_keyiter (s:={ s with heap:=s.heap.update it (Obj.mapFields (·.setIfInBounds 1 (WD ((i:Int)+1)))) }) g'.typeIs ?_);show Uy _ _ (pure es[i].key) _ _ _;rw [ee];exact Uk (Uk ⟨_,rfl,Uk (fin _ g' (Wq ..))⟩)
theorem bb_keyEnd {Q:Option Ug->Um->Prop} (calm:A.handled=none) (g:s.heap.IsKeyIter it d i es.size ep) (g1:s.heap.get? d=some od) (g2:od.data=.dict es ep) (hx:es.size<=i)
 (fin:∀ h',ZK it s.heap h'->Q none { s with heap:=h' }):Uy (UU prog w) A (Xf (.ref it)) Q E s:=by
 obtain ⟨o,q1,q2,q3⟩:=id g;unfold Xf;refine T9 (Xe (Vm (name:=Ui "__next__") g.typeIs WM (Vq WM g.typeIs F.entry_dict_keyiterator_next ?_ (F.args_dict_keyiterator_next_1 _))));refine T9 (Uk ?_);refine T9 ?_;refine T9 ?_
 first | refine T9 (Xp g.typeIs (Uk ?_)) | refine T9 (X2 g.typeIs (Uk ?_))
 refine T9 (wpAny_fieldsOf q1 q3 ?_);have own:Builtin.Dict_items.ownsTuple "dict_keyiterator"=false:=by decide
 simp only [own,Vv,if_false];show Uy _ _ (if (US d == VL)=true then _ else _) _ _ s;rw [if_neg (show ¬ ((US d == VL)=true) from UD)];refine T9 (Uk ?_);refine T9 (YZ g1 g2 ?_);rw [if_neg (by simp)];refine T9 (Uk ?_);refine T9 (wpAny_dictEpoch g1 g2 ?_);rw [if_neg (by simp)];refine Uk ?_;simp only [show ¬ ((i:Int)<0) from by omega,if_false,Vk,X6 hx];refine T9 ?_
 first | refine T9 (Xp g.typeIs (Uk ?_)) | refine T9 (X2 g.typeIs (Uk ?_))
 show Uy _ _ (setField (.ref it) 0 .none >>= _) _ _ s;refine T9 (XN q1 q3 (by simp) ?_);show Uy _ _ (newExc (.type "StopIteration") [] >>= _) _ _ _;refine T9 ?_;simp only [newExc,newTuple];refine T9 (Vp ?_ (by size_fits));refine T9 (m:=Yj _ _) (Xq (a:=VL) (by first | rfl | (simp only [Yj];rfl)) ?_);refine Vp ?_ (by size_fits);simp only [raiseNew];refine T9 (wpAny_handled ?_)
 first | rw [show A.in1.handled=none from calm] | rw [calm]
 refine T9 (Uk (wpAny_throw ?_));refine T9 (WZ (T:="StopIteration") (b:=true) ⟨_,Uu _ rfl,rfl⟩ isSubtype_stop ?_);exact Uk (fin _ (((Wq ..).extBut.push _).push _))
theorem bb_keyIter {Q:Ug->Um->Prop} (ns:(d == Wb)=false) (g1:s.heap.get? d=some od) (gc:od.cls=.type "dict") (g2:od.data=.dict es ep)
 (fin:Q (.ref s.heap.objs.size) { s with heap:=s.heap.push { cls:=.type "dict_keyiterator",data:=.fields #[.ref d,.int 0 0,.int es.size 0,.int ep 0] } }):Uy (UU prog w) A (pyIter (.ref d)) Q E s:=by
 have gT:s.TypeIs (.ref d) "dict":=⟨_,g1,gc⟩;refine wpAny_pyIter_slot gT F.slot_dict_iter (Vq F.slot_dict_iter gT F.entry_dict_iter ?_ (F.args_dict_iter_1 _));unfold WY.«dict.__iter__»;refine T9 ?_;unfold Builtin.Dict.dictSlotNone;refine T9 (Zt gT ?_);show Uy _ _ (pure (US d)) _ _ s;refine Uk ?_;show Uy _ _ (Builtin.Dict.showsAll d >>= _) _ _ s;unfold Builtin.Dict.showsAll;rw [if_neg (by rw [ns];exact UD)];refine T9 (Uk ?_);refine T9 (YZ g1 g2 ?_);refine T9 (wpAny_dictEpoch g1 g2 ?_);refine T9 (Vp (Uk ⟨_,rfl,"dict_keyiterator",_,⟨_,Uu _ rfl,rfl⟩,WM.lookup,?_⟩));simpa [WD] using fin
end
end PySem
namespace L2
open PySem PySem.Spec PyProof.Rows
section
variable {X:Cx} {e:Vs} {te:TE}
end
end L2
namespace BB
open PySem L2
inductive Top where
 | nm (n:UP) (m:Nat)
 | th (t:Th)
def bl:List Top->List Th
 | []=>[]
 | .nm n m::S=>.knot n ((bl S).take m)::(bl S).drop m
 | .th t::S=>t::bl S
def TopsOk:List Top->Prop
 | []=>True
 | .nm _ m::S=>m<=(bl S).length/\TopsOk S
 | .th _::S=>TopsOk S
theorem TopsOk.drop:∀ {l:List Top} (i:Nat),TopsOk l->TopsOk (l.drop i)
 | l,0,h=>by rw [Wy];exact h
 | [],i+1,h=>by rw [List.drop_nil];exact h
 | .nm n m::S,i+1,h=>by
   rw [TopsOk] at h;rw [Zk];exact TopsOk.drop i h.2
 | .th t::S,i+1,h=>by
   rw [TopsOk] at h;rw [Zk];exact TopsOk.drop i h
theorem qw:∀ l:List Top,(bl l).length<=l.length
 | []=>Ue _
 | .nm n m::S=>by
   have:=qw S;rw [bl,Uo,Uo,Vx];omega
 | .th t::S=>by
   have:=qw S;rw [bl,Uo,Uo];omega
mutual
def Th.fill (f:Int->Int->Th):Th->Th
 | .knot n ks=>.knot n (fills f ks)
 | .call s k=>f s k
def fills (f:Int->Int->Th):List Th->List Th
 | []=>[]
 | t::ts=>t.fill f::fills f ts
end
theorem ii (f:Int->Int->Th):∀ ts:List Th,(fills f ts).length=ts.length
 | []=>by rw [fills]
 | t::ts=>by rw [fills,Uo,Uo,ii f ts]
mutual
theorem rA:∀ t:Th,t.fill Th.call=t
 | .knot n ks=>by rw [Th.fill,pL ks]
 | .call s k=>by rw [Th.fill]
theorem pL:∀ ts:List Th,fills Th.call ts=ts
 | []=>by rw [fills]
 | t::ts=>by rw [fills,rA t,pL ts]
end
def eJ (f:Int->Int->Th):Th->Top
 | .knot n ks=>.nm n ks.length
 | .call s k=>.th (f s k)
theorem ll (f:Int->Int->Th):∀ (n:Nat) (ts:List Th),aq ts<=n->∀ S,bl ((walks ts).map (eJ f)++S)=fills f ts++bl S/\(TopsOk S->TopsOk ((walks ts).map (eJ f)++S))
 | _,[],_,S=>by rw [walks,fills];exact ⟨rfl,fun h=>h⟩
 | 0,t::ts,hn,S=>by
   have:=t.size_pos;rw [aq] at hn;omega
 | n+1,t::ts,hn,S=>by
   have hs:=t.size_eq;rw [aq] at hn;have h2:=ll f n ts (by omega) S;have e:(walks (t::ts)).map (eJ f)++S=eJ f t::((walks t.kids).map (eJ f)++((walks ts).map (eJ f)++S)):=by rw [walks,t.walk_eq];simp
   have h1:=ll f n t.kids (by omega) ((walks ts).map (eJ f)++S);rw [e];cases t with
   | knot nm ks =>
     simp only [Th.kids] at h1 ⊢;refine ⟨?_,fun hS=>?_⟩
     · show bl (.nm nm ks.length::_)=_;rw [bl,h1.1,h2.1,<- ii f ks,List.take_left,List.drop_left,fills,Th.fill];rfl
     · show TopsOk (.nm nm ks.length::_);rw [TopsOk];refine ⟨?_,h1.2 (h2.2 hS)⟩;rw [h1.1,UA,ii];exact WI _ _
   | call s k =>
     simp only [Th.kids,walks,Wv,Wc] at h1 ⊢;refine ⟨?_,fun hS=>?_⟩
     · show bl (.th (f s k)::_)=_;rw [bl,h2.1,fills,Th.fill];rfl
     · show TopsOk (.th (f s k)::_);rw [TopsOk];exact h2.2 hS
theorem r8 (f:Int->Int->Th) (t:Th):bl (t.walk.map (eJ f))=[t.fill f]/\TopsOk (t.walk.map (eJ f)):=by
 have h:=ll f _ [t] (Ue _) [];have e:walks [t]=t.walk:=by simp [walks]
 rw [e,U0] at h;refine ⟨?_,h.2 (by rw [TopsOk];trivial)⟩;rw [h.1,fills,fills,bl];rfl
theorem rN (x:V) (xs:List V):ef (x::xs) none (some 1)=[x]:=by
 unfold ef;rw [show (some (1:Int))=some ((1:Nat):Int) from rfl,HT.sIx_nat,HT.sIx_none,Uo,Yo (by omega)];rfl
end BB
namespace PySem
open Sem (wp)
end PySem
namespace L2
open PySem PySem.Spec PyProof.Rows BB
end L2
namespace BB
open PySem L2
theorem pF {k:Nat} {A:U5} (hr:L2.Room k A):A.units+150+2<V1:=by
 have:=hr.un;omega
def hole:Th:=.knot star []
def Th.name:Th->UP
 | .knot n _=>n
 | .call _ _=>q
def aJ:Th->Th->Bool
 | .knot n ks,.knot m us=>!(Th.knot n ks).isHole && decide (n=m) && decide (ks.length=us.length)
 | _,_=>false
mutual
def Th.sbs:Th->Th->List (Th×Th)
 | .knot n ks,r=>(.knot n ks,r)::(if aJ (.knot n ks) r=true then sy ks r.kids else [])
 | .call s k,r=>[(.call s k,r)]
def sy:List Th->List Th->List (Th×Th)
 | [],_=>[]
 | k::ks,us=>match us with
   | []=>[]
   | u::us=>k.sbs u++sy ks us
end
def wks:List (Th×Th)->List (Th×Th)
 | []=>[]
 | p::ps=>p.1.sbs p.2++wks ps
theorem kP:∀ a b:List (Th×Th),wks (a++b)=wks a++wks b
 | [],b=>rfl
 | p::a,b=>by rw [Wf,wks,wks,kP a b,Ve]
theorem rX:∀ ks us:List Th,wks (ks.zip us)=sy ks us
 | [],_=>by rw [YC,wks,sy]
 | k::ks,[]=>by rw [Yw,wks,sy]
 | k::ks,u::us=>by rw [Xj,wks,sy,rX ks us]
theorem Th.sbs_eq (l r:Th):l.sbs r=(l,r)::(if aJ l r=true then wks (l.kids.zip r.kids) else []):=by
 cases l with
 | knot n ks=>rw [Th.sbs,rX];rfl
 | call s k =>
   rw [Th.sbs];have:aJ (.call s k) r=false:=by cases r <;> rfl
   rw [this];rfl
def szL:List (Th×Th)->Nat
 | []=>0
 | p::ps=>p.1.size+szL ps
theorem dP:∀ a b,szL (a++b)=szL a+szL b
 | [],b=>by simp [szL]
 | p::a,b=>by rw [Wf,szL,szL,dP a b,YK]
theorem rR (a:List (Th×Th)):szL a.reverse=szL a:=by
 induction a with
 | nil=>rfl
 | cons x xs ih=>rw [Vn,dP,ih,szL,szL,szL];omega
theorem i8:∀ ks us:List Th,szL (ks.zip us)<=aq ks
 | [],_=>by rw [YC,szL];exact UL _
 | k::ks,[]=>by rw [Yw,szL];exact UL _
 | k::ks,u::us=>by
   have:=i8 ks us;rw [Xj,szL,aq];show k.size+_<=_;omega
theorem n8:∀ a:List (Th×Th),a.length<=szL a
 | []=>UL _
 | p::a=>by
   have:=p.1.size_pos;have:=n8 a;rw [Uo,szL];omega
theorem nV:∀ (n:Nat) (ps:List (Th×Th)),szL ps<=n->(wks ps).length<=szL ps
 | _,[],_=>UL _
 | 0,p::ps,h=>by
   have:=p.1.size_pos;rw [szL] at h;omega
 | n+1,p::ps,h=>by
   have hs:=p.1.size_eq;have hz:=i8 p.1.kids p.2.kids;rw [szL] at h;have h1:=nV n ps (by omega);have h2:=nV n (p.1.kids.zip p.2.kids) (by omega);rw [wks,Th.sbs_eq,szL,UA,Uo];split
   · omega
   · rw [W0];omega
theorem vo (l r:Th):(l.sbs r).length<=l.size:=by
 have:=nV _ [(l,r)] (Ue _);rw [wks,wks,U0,szL,szL] at this;exact this
theorem oh:∀ (n:Nat) (ps:List (Th×Th)),szL ps<=n->∀ x∈wks ps,∃ p∈ps,x.1.tall<=p.1.tall/\x.2.tall<=p.2.tall/\x.1.size<=p.1.size/\x.2.size<=p.2.size
 | _,[],_,x,h=>nomatch h
 | 0,p::ps,h,x,_=>by
   have:=p.1.size_pos;rw [szL] at h;omega
 | n+1,p::ps,h,x,hx=>by
   have hs:=p.1.size_eq;have hz:=i8 p.1.kids p.2.kids;rw [szL] at h;rw [wks,Th.sbs_eq,U8] at hx;rcases hx with hx | hx
   · rcases UB.mp hx with rfl | hx
     · exact ⟨p,UM ..,Ue _,Ue _,Ue _,Ue _⟩
     · split at hx
       · obtain ⟨y,hy,h1,h2,h3,h4⟩:=oh n _ (by omega) x hx;have m1:y.1∈p.1.kids:=(Xl hy).1;have m2:y.2∈p.2.kids:=(Xl hy).2;have t1:=bR m1;have t2:=bR m2;have z1:=aI m1;have z2:=aI m2;have e1:=p.1.tall_eq;have e2:=p.2.tall_eq;have e4:=p.2.size_eq;exact ⟨p,UM ..,by omega,by omega,by omega,by omega⟩
       · cases hx
   · obtain ⟨y,hy,r⟩:=oh n ps (by omega) x hx;exact ⟨y,UG _ hy,r⟩
theorem ve {l r:Th} {x:Th×Th} (h:x∈l.sbs r):x.1.tall<=l.tall/\x.2.tall<=r.tall/\x.1.size<=l.size/\x.2.size<=r.size:=by
 obtain ⟨p,hp,r⟩:=oh _ [(l,r)] (Ue _) x (by rw [wks,wks,U0];exact h);rw [UH] at hp;subst hp;exact r
mutual
def Th.lies:Th->Th->Bool
 | .knot n ks,r=>(Th.knot n ks).isHole || (aJ (.knot n ks) r && bP ks r.kids)
 | .call _ _,_=>false
def bP:List Th->List Th->Bool
 | [],_=>true
 | k::ks,us=>match us with
   | []=>true
   | u::us=>k.lies u && bP ks us
end
theorem ji {l r:Th} (h:l.isHole=true):aJ l r=false:=by
 cases l with
 | knot n ks =>
   cases r with
   | knot m us =>
     show (!(Th.knot n ks).isHole && decide (n=m) && decide (ks.length=us.length))=false;rw [h];rfl
   | call s k=>rfl
 | call s k=>cases h
mutual
def Th.noCall:Th->Prop
 | .knot _ ks=>bX ks
 | .call _ _=>False
def bX:List Th->Prop
 | []=>True
 | t::ts=>t.noCall/\bX ts
end
theorem bz:∀ {ts:List Th} {t:Th},bX ts->t∈ts->t.noCall
 | [],_,_,h=>nomatch h
 | u::ts,t,hn,h=>by
   rw [bX] at hn;rcases UB.mp h with rfl | h
   · exact hn.1
   · exact bz hn.2 h
end BB
namespace BB
open PySem L2
def Th.wid:Th->Nat
 | .knot _ ks=>ks.length
 | .call _ _=>2
theorem bV {l r:Th} (h:aJ l r=true):∃ n ks us,l=.knot n ks/\r=.knot n us/\ks.length=us.length/\l.isHole=false:=by
 cases l with
 | knot n ks =>
   cases r with
   | knot m us =>
     have h':(!(Th.knot n ks).isHole && decide (n=m) && decide (ks.length=us.length))=true:=h;simp only [Wg,decide_eq_true_eq,Bool.not_eq_true'] at h';obtain ⟨⟨h1,h2⟩,h3⟩:=h';subst h2;exact ⟨n,ks,us,rfl,rfl,h3,h1⟩
   | call s k=>cases h
 | call s k=>cases r <;> cases h
theorem uI (l r:Th) (S:List (Th×Th)):wks ((l,r)::S)=(l,r)::((if aJ l r=true then wks (l.kids.zip r.kids) else [])++wks S):=by
 rw [wks,Th.sbs_eq];rfl
end BB
namespace BB
open PySem L2
theorem l6:∀ {ts:List Th},(∀ t∈ts,t.noCall)->bX ts
 | [],_=>by rw [bX];trivial
 | t::ts,h=>by
   rw [bX];exact ⟨h t (UM ..),l6 fun u hu=>h u (UG _ hu)⟩
theorem jX:hole.noCall:=by rw [hole,Th.noCall,bX];trivial
theorem gq:hole.isHole=true:=by
 show decide (star=star/\([]:List Th)=[])=true;exact decide_eq_true ⟨rfl,rfl⟩
theorem mR:hole.tall=1:=by rw [hole,Th.tall,bG]
theorem ff:hole.size=1:=by rw [hole,Th.size,aq]
theorem vy:star≠q:=by decide
end BB
namespace L2
open PySem PySem.Spec PySem.SeqAt PyProof.Rows BB
end L2
namespace BB
open PySem L2
theorem iS {k u:Th} {ks us:List Th}:bP (k::ks) (u::us)=(k.lies u && bP ks us):=by rw [bP]
theorem pick {α β γ:Type} {F:α->β->Prop} {G:α->β->γ->Prop} (h:∀ x a,F x a->∃ c,G x a c):∀ {xs:List α} {as:List β},UR F xs as->∃ cs:List γ,cs.length=as.length/\∀ (i:Nat) x a c,xs[i]?=some x->as[i]?=some a->cs[i]?=some c->G x a c
 | _,_,.nil=>⟨[],rfl,fun i x a c e=>by simp at e⟩
 | _,_,.cons r t=>by
   obtain ⟨c,hc⟩:=h _ _ r;obtain ⟨cs,h1,h2⟩:=pick h t;refine ⟨c::cs,by rw [Uo,Uo,h1],fun i x a c' e1 e2 e3=>?_⟩;cases i with
   | zero=>simp at e1 e2 e3;subst e1 e2 e3;exact hc
   | succ i=>exact h2 i x a c' (by simpa using e1) (by simpa using e2) (by simpa using e3)
theorem rp {α γ:Type} {R:α->γ->Prop} (p:α->Bool):∀ {xs:List α} {cs:List γ},xs.length=cs.length->(∀ (i:Nat) x c,xs[i]?=some x->cs[i]?=some c->R x c)->UR R (xs.filter p) (((xs.zip cs).filter fun z=>p z.1).map (·.2))
 | [],[],_,_=>.nil
 | [],_::_,h,_=>by simp at h
 | _::_,[],h,_=>by simp at h
 | x::xs,c::cs,h,r=>by
   rw [Xj,V4,V4];have ih:=rp p (xs:=xs) (cs:=cs) (R:=R) (by simpa using h) fun i x' c' e1 e2=>r (i+1) x' c' (by simpa using e1) (by simpa using e2);by_cases e:p x=true
   · rw [if_pos e,if_pos e];exact .cons (r 0 x c rfl rfl) ih
   · rw [if_neg e,if_neg e];exact ih
theorem P2.mapl {α β γ:Type} {R:β->γ->Prop} (f:α->β):∀ {xs:List α} {cs:List γ},UR (fun x c=>R (f x) c) xs cs->UR R (xs.map f) cs
 | _,_,.nil=>.nil
 | _,_,.cons r h=>.cons r (P2.mapl f h)
end BB
namespace BB
open PySem L2
def TK (K:Ub) (H:Hp) (a:Ud) (xs:List V):Prop:=H a=some (.tup xs)∨∃ (o:Wu) (its:Array Ug) (n:Nat),K.lookup a=some o/\o.cls=.type "tuple"/\o.data=.seq its n/\its.size<=Uz/\Vals xs its.toList
theorem TK.of {K:Ub} {H:Hp} {a:Ud} {xs:List V} (h:H a=some (.tup xs)):TK K H a xs:=.inl h
theorem TK.sq {K:Ub} {H:Hp} {a:Ud} {xs:List V} (h:TK K H a xs):SqT K H a xs:=by
 rcases h with h | h
 · exact SqT.of h
 · exact .inr h
theorem TK.mono {K:Ub} {H H':Hp} {a:Ud} {xs:List V} (h:TK K H a xs) (k:KT H H'):TK K H' a xs:=by
 rcases h with h | h
 · exact .inl (k _ _ h)
 · exact .inr h
mutual
def AtK (K:Ub) (H:Hp):Th->Ud->Prop
 | .knot n ks,a=>n≠q/\∃ as:List Ud,TK K H a (.str n::as.map V.ref)/\AtsK K H ks as
 | .call s k,a=>TK K H a [.str q,.int s,.int k]
def AtsK (K:Ub) (H:Hp):List Th->List Ud->Prop
 | [],as=>as=[]
 | t::ts,as=>∃ a r,as=a::r/\AtK K H t a/\AtsK K H ts r
end
mutual
theorem AtK.mono {K:Ub} {H H':Hp} (k:KT H H'):∀ {t:Th} {a:Ud},AtK K H t a->AtK K H' t a
 | .knot n ks,a,h=>by
   rw [AtK] at h ⊢;obtain ⟨h0,as,h1,h2⟩:=h;exact ⟨h0,as,h1.mono k,AtsK.mono k h2⟩
 | .call s c,a,h=>by
   rw [AtK] at h ⊢;exact h.mono k
theorem AtsK.mono {K:Ub} {H H':Hp} (k:KT H H'):∀ {ts:List Th} {as:List Ud},AtsK K H ts as->AtsK K H' ts as
 | [],as,h=>by rw [AtsK] at h ⊢;exact h
 | t::ts,as,h=>by
   rw [AtsK] at h ⊢;obtain ⟨a,r,e,h1,h2⟩:=h;exact ⟨a,r,e,AtK.mono k h1,AtsK.mono k h2⟩
end
theorem AtsK.nil {K:Ub} {H:Hp}:AtsK K H [] []:=by rw [AtsK]
theorem AtsK.cons {K:Ub} {H:Hp} {t:Th} {ts:List Th} {a:Ud} {as:List Ud} (h1:AtK K H t a) (h2:AtsK K H ts as):AtsK K H (t::ts) (a::as):=by rw [AtsK];exact ⟨a,as,rfl,h1,h2⟩
theorem AtsK.append {K:Ub} {H:Hp}:∀ {ts us:List Th} {as bs:List Ud},AtsK K H ts as->AtsK K H us bs->AtsK K H (ts++us) (as++bs)
 | [],us,as,bs,h,g=>by rw [AtsK] at h;subst h;exact g
 | t::ts,us,as,bs,h,g=>by
   rw [AtsK] at h;obtain ⟨a,r,rfl,h1,h2⟩:=h;exact .cons h1 (h2.append g)
theorem AtsK.length {K:Ub} {H:Hp}:∀ {ts:List Th} {as:List Ud},AtsK K H ts as->as.length=ts.length
 | [],as,h=>by rw [AtsK] at h;subst h;rfl
 | t::ts,as,h=>by
   rw [AtsK] at h;obtain ⟨a,r,rfl,h1,h2⟩:=h;rw [Uo,Uo,h2.length]
theorem AtsK.reverse {K:Ub} {H:Hp}:∀ {ts:List Th} {as:List Ud},AtsK K H ts as->AtsK K H ts.reverse as.reverse
 | [],as,h=>by rw [AtsK] at h;subst h;exact .nil
 | t::ts,as,h=>by
   rw [AtsK] at h;obtain ⟨a,r,rfl,h1,h2⟩:=h;rw [Vn,Vn];exact h2.reverse.append (.cons h1 .nil)
theorem AtsK.get {K:Ub} {H:Hp}:∀ {ts:List Th} {as:List Ud} {i:Nat} {a:Ud},AtsK K H ts as->as[i]?=some a->∃ t,ts[i]?=some t/\AtK K H t a
 | [],as,i,a,h,e=>by rw [AtsK] at h;subst h;simp at e
 | t::ts,as,i,a,h,e=>by
   rw [AtsK] at h;obtain ⟨b,r,rfl,h1,h2⟩:=h;cases i with
   | zero=>simp at e;subst e;exact ⟨t,rfl,h1⟩
   | succ i=>exact h2.get (i:=i) (by simpa using e)
theorem AtsK.at {K:Ub} {H:Hp}:∀ {ts:List Th} {as:List Ud} {i:Nat} {t:Th},AtsK K H ts as->ts[i]?=some t->∃ a,as[i]?=some a/\AtK K H t a
 | [],as,i,a,h,e=>by simp at e
 | t::ts,as,i,a,h,e=>by
   rw [AtsK] at h;obtain ⟨b,r,rfl,h1,h2⟩:=h;cases i with
   | zero=>simp at e;subst e;exact ⟨b,rfl,h1⟩
   | succ i=>exact h2.at (i:=i) (by simpa using e)
theorem AtsK.snoc_inv {K:Ub} {H:Hp} {ts:List Th} {as:List Ud} {a:Ud} (h:AtsK K H ts (as++[a])):∃ us t,ts=us++[t]/\AtsK K H us as/\AtK K H t a:=by
 have r:=h.reverse;rw [VM,List.reverse_singleton,List.singleton_append] at r;cases e:ts.reverse with
 | nil=>rw [e,AtsK] at r;cases r
 | cons t us =>
   rw [e,AtsK] at r;obtain ⟨b,z,e1,h1,h2⟩:=r;cases e1;refine ⟨us.reverse,t,?_,?_,h1⟩
   · rw [<- Vn,<- e,We]
   · have:=h2.reverse;rw [We] at this;exact this
mutual
def DAtK (K:Ub) (H:Hp):Dv->V->Prop
 | .int i,v=>v=.int i
 | .str x,v=>v=.str x
 | .tup ds,v=>∃ a vs,v=.ref a/\TK K H a vs/\DAtsK K H ds vs
def DAtsK (K:Ub) (H:Hp):List Dv->List V->Prop
 | [],vs=>vs=[]
 | d::ds,vs=>∃ v r,vs=v::r/\DAtK K H d v/\DAtsK K H ds r
end
theorem DAtsK.nil {K:Ub} {H:Hp}:DAtsK K H [] []:=by rw [DAtsK]
theorem DAtsK.cons {K:Ub} {H:Hp} {d:Dv} {ds:List Dv} {v:V} {vs:List V} (h1:DAtK K H d v) (h2:DAtsK K H ds vs):DAtsK K H (d::ds) (v::vs):=by rw [DAtsK];exact ⟨v,vs,rfl,h1,h2⟩
theorem DAtsK.length {K:Ub} {H:Hp}:∀ {ds:List Dv} {vs:List V},DAtsK K H ds vs->vs.length=ds.length
 | [],vs,h=>by rw [DAtsK] at h;subst h;rfl
 | d::ds,vs,h=>by
   rw [DAtsK] at h;obtain ⟨v,r,rfl,h1,h2⟩:=h;rw [Uo,Uo,h2.length]
theorem DAtsK.at {K:Ub} {H:Hp}:∀ {ds:List Dv} {vs:List V} {i:Nat} {d:Dv},DAtsK K H ds vs->ds[i]?=some d->∃ v,vs[i]?=some v/\DAtK K H d v
 | [],vs,i,d,h,e=>by simp at e
 | d0::ds,vs,i,d,h,e=>by
   rw [DAtsK] at h;obtain ⟨v,r,rfl,h1,h2⟩:=h;cases i with
   | zero=>simp at e;subst e;exact ⟨v,rfl,h1⟩
   | succ i =>
     obtain ⟨u,g1,g2⟩:=h2.at (i:=i) (by simpa using e);exact ⟨u,by simpa using g1,g2⟩
mutual
theorem AtK.dv {K:Ub} {H:Hp}:∀ {t:Th} {a:Ud},AtK K H t a->DAtK K H t.dv (.ref a)
 | .knot n ks,a,h=>by
   rw [AtK] at h;obtain ⟨_,as,h1,h2⟩:=h;rw [Th.dv,DAtK];exact ⟨a,_,rfl,h1,.cons (by rw [DAtK]) (AtsK.dvs h2)⟩
 | .call s k,a,h=>by
   rw [AtK] at h;rw [Th.dv,DAtK];exact ⟨a,_,rfl,h,.cons (by rw [DAtK]) (.cons (by rw [DAtK]) (.cons (by rw [DAtK]) .nil))⟩
theorem AtsK.dvs {K:Ub} {H:Hp}:∀ {ts:List Th} {as:List Ud},AtsK K H ts as->DAtsK K H (dvs ts) (as.map V.ref)
 | [],as,h=>by rw [AtsK] at h;subst h;rw [BB.dvs];exact .nil
 | t::ts,as,h=>by
   rw [AtsK] at h;obtain ⟨a,r,rfl,h1,h2⟩:=h;rw [BB.dvs,Vd];exact .cons (AtK.dv h1) (AtsK.dvs h2)
end
mutual
theorem At.k {K:Ub} {H:Hp}:∀ {t:Th} {a:Ud},At H t a->AtK K H t a
 | .knot n ks,a,h=>by
   rw [At] at h;rw [AtK];obtain ⟨h0,as,h1,h2⟩:=h;exact ⟨h0,as,.of h1,Ats.k h2⟩
 | .call s c,a,h=>by
   rw [At] at h;rw [AtK];exact .of h
theorem Ats.k {K:Ub} {H:Hp}:∀ {ts:List Th} {as:List Ud},Ats H ts as->AtsK K H ts as
 | [],as,h=>by rw [Ats] at h;rw [AtsK];exact h
 | t::ts,as,h=>by
   rw [Ats] at h;rw [AtsK];obtain ⟨a,r,e,h1,h2⟩:=h;exact ⟨a,r,e,At.k h1,Ats.k h2⟩
end
theorem AtK.row {K:Ub} {H:Hp} {t:Th} {a:Ud} (h:AtK K H t a):∃ r,TK K H a (.str t.name::r)/\r.length=t.wid:=by
 cases t with
 | knot n ks =>
   rw [AtK] at h;obtain ⟨_,as,h1,h2⟩:=h;exact ⟨_,h1,by rw [T8,h2.length];rfl⟩
 | call s k =>
   rw [AtK] at h;exact ⟨_,h,rfl⟩
theorem pA {K:Ub} {H:Hp} {l:Th} {x:Ud} (h:AtK K H l x) (r:Th):aJ l r=(l.isKnot && (decide (l.name=r.name) && decide (l.wid=r.wid))):=by
 cases l with
 | knot n ks =>
   rw [AtK] at h;cases r with
   | knot m us =>
     show (!(Th.knot n ks).isHole && decide (n=m) && decide (ks.length=us.length))=(!false && !(Th.knot n ks).isHole && (decide (n=m) && decide (ks.length=us.length)));rw [Bool.and_assoc];rfl
   | call s k =>
     show false=(_ && (decide (n=q) && _));rw [decide_eq_false h.1];simp
 | call s k=>cases r <;> rfl
theorem yt {K:Ub} {H:Hp} {a b:Ud} {xs ys:List V} {Q:VK} (ha:TK K H a xs) (hb:TK K H b ys) (hz:xs.length+ys.length<=1000000) (q:∀ p H',L2.Same H H'->TK K H' p (xs++ys)->Q (.ref p) H'):lO K (.ref a) (.ref b) H Q:=by
 refine ⟨a,b,xs,ys,rfl,rfl,ha.sq,hb.sq,ak hz,fun e=>?_,fun _ e=>?_,fun _ _ p hp=>?_⟩
 · exact q b H (.refl _) (by rw [e];exact hb)
 · exact q a H (.refl _) (by rw [e,U0];exact ha)
 · exact q p _ (ad hp _) (.of ab)
def PPK (K:Ub) (H:Hp) (p:Th×Th) (a:Ud):Prop:=∃ x y,H a=some (.tup [.ref x,.ref y])/\AtK K H p.1 x/\AtK K H p.2 y
theorem PPK.mono {K:Ub} {H H':Hp} (k:KT H H') {p:Th×Th} {a:Ud} (h:PPK K H p a):PPK K H' p a:=by
 obtain ⟨x,y,h1,h2,h3⟩:=h;exact ⟨x,y,k _ _ h1,h2.mono k,h3.mono k⟩
theorem dJ {K:Ub} {H H':Hp} (k:KT H H') {ps:List (Th×Th)} {as:List Ud} (h:UR (PPK K H) ps as):UR (PPK K H') ps as:=P2.mp (fun _ _ e=>PPK.mono k e) h
theorem pY {K:Ub} {H:Hp}:∀ {ks us:List Th} {as bs ts:List Ud},AtsK K H ks as->AtsK K H us bs->UR (fun (p:V×V) t=>H t=some (.tup [p.1,p.2])) ((as.map V.ref).zip (bs.map V.ref)) ts->UR (PPK K H) (ks.zip us) ts
 | [],us,as,bs,ts,h1,h2,h=>by
   rw [AtsK] at h1;subst h1;rw [Wv,YC] at h;cases h;rw [YC];exact .nil
 | k::ks,[],as,bs,ts,h1,h2,h=>by
   rw [AtsK] at h2;subst h2;rw [Wv,Yw] at h;cases h;rw [Yw];exact .nil
 | k::ks,u::us,as,bs,ts,h1,h2,h=>by
   rw [AtsK] at h1 h2;obtain ⟨a,ar,rfl,a1,a2⟩:=h1;obtain ⟨b,br,rfl,b1,b2⟩:=h2;rw [Vd,Vd,Xj] at h;cases h with
   | cons r h =>
     rw [Xj];exact .cons ⟨a,b,r,a1,b1⟩ (pY a2 b2 h)
def TopAtK (K:Ub) (H:Hp):Top->Ud->Prop
 | .nm n m,a=>∃ ta,H a=some (.tup [.ref ta,.int (m:Nat)])/\n≠q/\TK K H ta [.str n]
 | .th t,a=>∃ ta,H a=some (.tup [.ref ta,.int 0])/\AtK K H t ta
theorem TopAtK.mono {K:Ub} {H H':Hp} (k:KT H H'):∀ {x:Top} {a:Ud},TopAtK K H x a->TopAtK K H' x a
 | .nm n m,a,h=>by
   obtain ⟨ta,h1,h2,h3⟩:=h;exact ⟨ta,k _ _ h1,h2,h3.mono k⟩
 | .th t,a,h=>by
   obtain ⟨ta,h1,h2⟩:=h;exact ⟨ta,k _ _ h1,h2.mono k⟩
theorem dN {K:Ub} {H H':Hp} (k:KT H H') {l:List Top} {as:List Ud} (h:UR (TopAtK K H) l as):UR (TopAtK K H') l as:=P2.mp (fun _ _ e=>TopAtK.mono k e) h
theorem AtK.whole {K:Ub} {H:Hp} {t:Th} {a:Ud} (h:AtK K H t a):∃ xs,TK K H a xs/\xs.length<=t.size+2/\∀ (H':Hp) (p:Ud),KT H H'->TK K H' p xs->AtK K H' t p:=by
 cases t with
 | knot n ks =>
   rw [AtK] at h;obtain ⟨h0,as,h1,h2⟩:=h;refine ⟨_,h1,?_,fun H' p kt hp=>?_⟩
   · have:=h2.length;have:=bH ks;rw [Uo,T8,Th.size];omega
   · rw [AtK];exact ⟨h0,as,hp,h2.mono kt⟩
 | call s k =>
   rw [AtK] at h;refine ⟨_,h,by rw [Th.size];exact Ue _,fun H' p kt hp=>?_⟩;rw [AtK];exact hp
theorem uN {K:Ub} {H:Hp} {a:Ud} (h:TK K H a [.str star]):AtK K H hole a:=by
 rw [hole,AtK];exact ⟨vy,[],h,by rw [AtsK]⟩
mutual
theorem DAtK.inj {X:Cx} {pins:List (Ud×Wu)} {σ:St} {H:Hp} {s:Um} (I:Inv X pins σ H s):∀ {d e:Dv} {v:V},DAtK X.K H d v->DAtK X.K H e v->d=e
 | .int i,.int j,v,h,g=>by rw [DAtK] at h;rw [DAtK] at g;rw [h] at g;cases g;rfl
 | .int i,.str y,v,h,g=>by rw [DAtK] at h;rw [DAtK] at g;rw [h] at g;cases g
 | .int i,.tup es,v,h,g=>by rw [DAtK] at h;rw [DAtK] at g;obtain ⟨a,vs,e,_⟩:=g;rw [h] at e;cases e
 | .str x,.int j,v,h,g=>by rw [DAtK] at h;rw [DAtK] at g;rw [h] at g;cases g
 | .str x,.str y,v,h,g=>by rw [DAtK] at h;rw [DAtK] at g;rw [h] at g;cases g;rfl
 | .str x,.tup es,v,h,g=>by rw [DAtK] at h;rw [DAtK] at g;obtain ⟨a,vs,e,_⟩:=g;rw [h] at e;cases e
 | .tup ds,.int j,v,h,g=>by rw [DAtK] at h;rw [DAtK] at g;obtain ⟨a,vs,e,_⟩:=h;rw [e] at g;cases g
 | .tup ds,.str y,v,h,g=>by rw [DAtK] at h;rw [DAtK] at g;obtain ⟨a,vs,e,_⟩:=h;rw [e] at g;cases g
 | .tup ds,.tup es,v,h,g=>by
   rw [DAtK] at h;rw [DAtK] at g;obtain ⟨a,vs,e1,h1,h2⟩:=h;obtain ⟨b,ws,e2,g1,g2⟩:=g;rw [e1] at e2;cases e2;have e3:=I.tuple_inj h1.sq g1.sq;subst e3;rw [DAtsK.inj I h2 g2]
theorem DAtsK.inj {X:Cx} {pins:List (Ud×Wu)} {σ:St} {H:Hp} {s:Um} (I:Inv X pins σ H s):∀ {ds es:List Dv} {vs:List V},DAtsK X.K H ds vs->DAtsK X.K H es vs->ds=es
 | [],[],vs,h,g=>rfl
 | [],e::es,vs,h,g=>by rw [DAtsK] at h;rw [DAtsK] at g;obtain ⟨v,r,z,_⟩:=g;rw [h] at z;cases z
 | d::ds,[],vs,h,g=>by rw [DAtsK] at h;rw [DAtsK] at g;obtain ⟨v,r,z,_⟩:=h;rw [g] at z;cases z
 | d::ds,e::es,vs,h,g=>by
   rw [DAtsK] at h;rw [DAtsK] at g;obtain ⟨v,r,z,h1,h2⟩:=h;obtain ⟨v',r',z',g1,g2⟩:=g;rw [z] at z';cases z';rw [DAtK.inj I h1 g1,DAtsK.inj I h2 g2]
end
end BB
namespace L2
open PySem PySem.Spec PySem.SeqAt PyProof.Rows BB
open Classical in
theorem mL {X:Cx} {pins:List (Ud×Wu)} {σ:St} {H:Hp} {s:Um} (I:Inv X pins σ H s) {ds es:List Dv} {a b:Ud} {vs ws:List V} {A:U5} (ha:SqT X.K H a vs) (hb:SqT X.K H b ws) (Cu:DAtsK X.K H ds vs) (zt:DAtsK X.K H es ws) (hu:A.units<V1)
 (ih:∀ (j:Nat) (d e:Dv) (x y:V) (u v:Ug),ds[j]?=some d->DAtK X.K H d x->DAtK X.K H e y->RelV x u->RelV y v->EqAt A.in1 s u v (decide (d=e))):RcAt A s (.ref a) (.ref b) (decide (Dv.tup ds=Dv.tup es)):=by
 obtain ⟨its,r1,p1,_⟩:=I.tuple ha;obtain ⟨yF,r2,p2,_⟩:=I.tuple hb;have l1:its.length=ds.length:=by rw [<- r1.length,Cu.length]
 have l2:yF.length=es.length:=by rw [<- r2.length,zt.length]
 have C0:RcAt A s (.ref a) (.ref b) ((UT (min its.toArray.size yF.toArray.size)).all (fun j=>decide (ds[j]?=es[j]?)) && its.toArray.size == yF.toArray.size):=by
  refine RcAt.tuples (show s.heap.IsTuple a its.toArray from p1) (show s.heap.IsTuple b yF.toArray from p2) hu fun j h1 h2=>?_;have B9:j<ds.length:=by rw [<- l1];simpa using h1
  have BE:j<es.length:=by rw [<- l2];simpa using h2
  have e1:ds[j]?=some ds[j]:=Ua B9;have e2:es[j]?=some es[j]:=Ua BE;obtain ⟨x',Cs,dx⟩:=Cu.at e1;obtain ⟨y',Bx,dy⟩:=zt.at e2;obtain ⟨u',zZ,DT⟩:=r1.get Cs;obtain ⟨v',zu,BF⟩:=r2.get Bx;have e3:decide (ds[j]?=es[j]?)=decide (ds[j]=es[j]):=by rw [e1,e2];simp
  have e4:its.toArray[j]=u':=by
   rw [Ua (by rw [l1];exact B9)] at zZ;simpa using zZ
  have e5:yF.toArray[j]=v':=by
   rw [Ua (by rw [l2];exact BE)] at zu;simpa using zu
  rw [e3,e4,e5];exact ih j ds[j] es[j] x' y' u' v' e1 dx dy DT BF
 have e:decide (Dv.tup ds=Dv.tup es)=((UT (min its.toArray.size yF.toArray.size)).all (fun j=>decide (ds[j]?=es[j]?)) && its.toArray.size == yF.toArray.size):=by
  rw [Uq,Uq,l1,l2];by_cases h:ds=es
  · subst h;rw [decide_eq_true rfl];symm;simp
  · rw [decide_eq_false (fun z=>h (Dv.tup.inj z))];symm;by_cases hl:ds.length=es.length
    · rw [hl,YW]
      have:¬ ((UT es.length).all (fun j=>decide (ds[j]?=es[j]?)))=true:=by
       intro z;apply h;apply YE;intro j;by_cases hj:j<es.length
       · have:=WL.mp z j (WO.mpr hj);exact of_decide_eq_true this
       · rw [Wa (by omega),Wa (by omega)]
      rw [VP.mpr this];rfl
    · have:(ds.length == es.length)=false:=by simpa using hl
      rw [this,YA]
 rw [e];exact C0
open Classical in
theorem oV {X:Cx} {pins:List (Ud×Wu)} {σ:St} {H:Hp} {s:Um} (I:Inv X pins σ H s):∀ (n:Nat) (d e:Dv),d.tot<=n->∀ (x y:V) (u v:Ug) (A:U5),DAtK X.K H d x->DAtK X.K H e y->RelV x u->RelV y v->A.units+d.deep<V1->EqAt A s u v (decide (d=e))
 | 0,d,e,hn,x,y,u,v,A,hd,he,ru,rv,hu=>by have:=d.tot_pos;omega
 | n+1,.int i,.int j,hn,x,y,u,v,A,hd,he,ru,rv,hu=>by
   rw [DAtK] at hd;rw [DAtK] at he;subst hd he;obtain ⟨t,rfl⟩:=ru;obtain ⟨t',rfl⟩:=rv
   have e:decide (Dv.int i=Dv.int j)=(i == j):=by
    by_cases h:i=j
    · subst h;simp
    · rw [decide_eq_false (fun z=>h (Dv.int.inj z))];simp [h]
   rw [e];exact EqAt.int_int i t j t'
 | n+1,.int i,.str b,hn,x,y,u,v,A,hd,he,ru,rv,hu=>by
   rw [DAtK] at hd;rw [DAtK] at he;subst hd he;obtain ⟨t,rfl⟩:=ru;obtain ⟨t',rfl⟩:=rv;rw [decide_eq_false (fun z=>by cases z)];exact EqAt.int_str i t b t'
 | n+1,.int i,.tup es,hn,x,y,u,v,A,hd,he,ru,rv,hu=>by
   rw [DAtK] at hd;rw [DAtK] at he;obtain ⟨a,vs,rfl,ha,_⟩:=he;subst hd;obtain ⟨t,rfl⟩:=ru;cases rv;obtain ⟨its,_,p,_⟩:=I.tuple (ha.sq);rw [decide_eq_false (fun z=>by cases z)];exact EqAt.int_tuple i t (show s.heap.IsTuple a its.toArray from p) (by omega)
 | n+1,.str b,.int j,hn,x,y,u,v,A,hd,he,ru,rv,hu=>by
   rw [DAtK] at hd;rw [DAtK] at he;subst hd he;obtain ⟨t,rfl⟩:=ru;obtain ⟨t',rfl⟩:=rv;rw [decide_eq_false (fun z=>by cases z)];exact EqAt.str_int b t j t'
 | n+1,.str b,.str c,hn,x,y,u,v,A,hd,he,ru,rv,hu=>by
   rw [DAtK] at hd;rw [DAtK] at he;subst hd he;obtain ⟨t,rfl⟩:=ru;obtain ⟨t',rfl⟩:=rv
   have e:decide (Dv.str b=Dv.str c)=(b == c):=by
    by_cases h:b=c
    · subst h;simp
    · rw [decide_eq_false (fun z=>h (Dv.str.inj z))];simp [h]
   rw [e];exact EqAt.str_str b t c t'
 | n+1,.str b,.tup es,hn,x,y,u,v,A,hd,he,ru,rv,hu=>by
   rw [DAtK] at hd;rw [DAtK] at he;obtain ⟨a,vs,rfl,ha,_⟩:=he;subst hd;obtain ⟨t,rfl⟩:=ru;cases rv;obtain ⟨its,_,p,_⟩:=I.tuple (ha.sq);rw [decide_eq_false (fun z=>by cases z)];exact EqAt.str_tuple b t (show s.heap.IsTuple a its.toArray from p) (by omega)
 | n+1,.tup ds,.int j,hn,x,y,u,v,A,hd,he,ru,rv,hu=>by
   rw [DAtK] at hd;rw [DAtK] at he;obtain ⟨a,vs,rfl,ha,_⟩:=hd;subst he;cases ru;obtain ⟨t,rfl⟩:=rv;obtain ⟨its,_,p,_⟩:=I.tuple (ha.sq);rw [decide_eq_false (fun z=>by cases z)];exact EqAt.tuple_int j t (show s.heap.IsTuple a its.toArray from p) (by omega)
 | n+1,.tup ds,.str b,hn,x,y,u,v,A,hd,he,ru,rv,hu=>by
   rw [DAtK] at hd;rw [DAtK] at he;obtain ⟨a,vs,rfl,ha,_⟩:=hd;subst he;cases ru;obtain ⟨t,rfl⟩:=rv;obtain ⟨its,_,p,_⟩:=I.tuple (ha.sq);rw [decide_eq_false (fun z=>by cases z)];exact EqAt.tuple_str b t (show s.heap.IsTuple a its.toArray from p) (by omega)
 | n+1,.tup ds,.tup es,hn,x,y,u,v,A,hd,he,ru,rv,hu=>by
   have Cv:=hd;have Ln:=he;rw [DAtK] at hd;rw [DAtK] at he;obtain ⟨a,vs,rfl,ha,Cu⟩:=hd;obtain ⟨b,ws,rfl,hb,zt⟩:=he;cases ru;cases rv;by_cases Ax:a=b
   · subst Ax;rw [decide_eq_true (DAtK.inj I Cv Ln)];exact EqAt.same _
   rw [Dv.tot] at hn;rw [Dv.deep] at hu;refine EqAt.of_refs Ax (mL I ha.sq hb.sq Cu zt (by omega) fun j d e x' y' u' v' e1 dx dy DT BF=>?_);have q1:=og e1;have q2:=fB e1;refine oV I n d e (by omega) x' y' u' v' A.in1 dx dy DT BF ?_;show A.units+1+_<V1;omega
def v7 (K:Ub) (B:Nat):R2:=fun x y H Q=>∃ a b vs ws ds es,x=.ref a/\y=.ref b/\SqT K H a vs/\SqT K H b ws/\DAtsK K H ds vs/\DAtsK K H es ws/\cX ds<=B/\∀ b:Bool,(b=true↔ds=es)->Q (.bl b) H
open Classical in
theorem vf {X:Cx} {B:Nat} (hu:X.A.units+B+2<V1):OpR X (Xz .Eq) (v7 X.K B):=by
 intro pins s σ H x y v u Q I rx ry h;obtain ⟨a,b,vs,ws,ds,es,rfl,rfl,ha,hb,Cu,zt,hB,q⟩:=h;cases rx;cases ry
 have r:RcAt X.A s (.ref a) (.ref b) (decide (Dv.tup ds=Dv.tup es)):=mL I ha hb Cu zt (by omega) fun j d e x' y' u' v' e1 dx dy DT BF=>by
  have q2:=fB e1;refine oV I _ d e (Ue _) x' y' u' v' X.A.in1 dx dy DT BF ?_;show X.A.units+1+_<V1;omega
 refine r X.prog X.w X.xe _ ⟨.bl (decide (Dv.tup ds=Dv.tup es)),H,I,rfl,q _ ?_⟩;constructor
 · intro z;exact Dv.tup.inj (of_decide_eq_true z)
 · intro z;rw [z];exact decide_eq_true rfl
def yh (K:Ub):V->Option Int->Option Int->Hp->VK->Prop:=fun x lo hi H Q=>∃ a xs,x=.ref a/\TK K H a xs/\∀ p H',Same H H'->TK K H' p (ef xs lo hi)->Q (.ref p) H'
theorem qV {X:Cx}:SlR X (yh X.K):=by
 intro pins s σ H x v vl vu lo hi sl Q I rx hs pl pu h;obtain ⟨a,xs,rfl,ha,q⟩:=h;by_cases hw:HT.sIx xs.length 0 lo=0/\HT.sIx xs.length xs.length hi=xs.length
 · obtain ⟨its,r,p1,hz⟩:=I.tuple ha.sq;have hl:=r.length;cases rx
   have e:ef xs lo hi=xs:=by
    unfold ef;rw [hw.1,hw.2,Wy,ZE,Wt]
   refine ⟨"tuple",_,U4.lookup,p1.typeIs,HT.getItem_tuple_whole p1 hs pl pu (by rw [Uq,<- hl];exact hw) ⟨.ref a,H,I,rfl,q a H (.refl _) (by rw [e];exact ha)⟩⟩
 · exact eT pins s σ H _ v vl vu lo hi sl Q I rx hs pl pu ⟨a,xs,rfl,ha.sq,hw,fun p hp=>q p _ (ad hp _) (.of ab)⟩
end L2
namespace BB
open PySem L2
mutual
def Th.com:Th->Th->Th
 | .knot n ks,r=>if aJ (.knot n ks) r=true then .knot n (dF ks r.kids) else hole
 | .call _ _,_=>hole
def dF:List Th->List Th->List Th
 | [],_=>[]
 | k::ks,us=>match us with
   | []=>[]
   | u::us=>k.com u::dF ks us
end
theorem qa:∀ ks us:List Th,dF ks us=(ks.zip us).map fun p=>p.1.com p.2
 | [],_=>by rw [dF];rfl
 | k::ks,[]=>by rw [dF];rfl
 | k::ks,u::us=>by rw [dF,qa ks us];rfl
theorem iK (l r:Th):l.com r=if aJ l r=true then .knot l.name ((l.kids.zip r.kids).map fun p=>p.1.com p.2) else hole:=by
 cases l with
 | knot n ks=>rw [Th.com,qa];rfl
 | call s k =>
   rw [Th.com];have:aJ (.call s k) r=false:=by cases r <;> rfl
   rw [this];rfl
def topC (p:Th×Th):Top:=if aJ p.1 p.2=true then .nm p.1.name p.1.kids.length else .th hole
theorem qG:∀ (n:Nat) (ps:List (Th×Th)),szL ps<=n->∀ S,bl ((wks ps).map topC++S)=ps.map (fun p=>p.1.com p.2)++bl S/\(TopsOk S->TopsOk ((wks ps).map topC++S))
 | _,[],_,S=>⟨rfl,fun h=>h⟩
 | 0,p::ps,h,S=>by
   have:=p.1.size_pos;rw [szL] at h;omega
 | n+1,p::ps,h,S=>by
   have hs:=p.1.size_eq;have hz:=i8 p.1.kids p.2.kids;rw [szL] at h;have i2:=qG n ps (by omega) S;rw [wks,Th.sbs_eq,Ut,Ve,Vd,Wf];have hc:(p::ps).map (fun p=>p.1.com p.2)=p.1.com p.2::ps.map (fun p=>p.1.com p.2):=rfl;by_cases zy:aJ p.1 p.2=true
   · have i1:=qG n (p.1.kids.zip p.2.kids) (by omega) ((wks ps).map topC++S);obtain ⟨nm,ks,us,e1,e2,e3,_⟩:=bV zy
     have hl:((p.1.kids.zip p.2.kids).map fun p=>p.1.com p.2).length=p.1.kids.length:=by
      rw [T8,Xm,e1,e2];simp only [Th.kids];omega
     have ht:topC (p.1,p.2)=.nm p.1.name p.1.kids.length:=by unfold topC;rw [if_pos zy]
     rw [if_pos zy,ht];refine ⟨?_,fun hS=>?_⟩
     · rw [bl,i1.1,i2.1,hc,iK,if_pos zy,<- hl,List.take_left,List.drop_left];rfl
     · rw [TopsOk];exact ⟨by rw [i1.1,UA,hl];exact WI _ _,i1.2 (i2.2 hS)⟩
   · have ht:topC (p.1,p.2)=.th hole:=by unfold topC;rw [if_neg zy]
     rw [if_neg zy,ht,Wv,Wc];refine ⟨?_,fun hS=>?_⟩
     · rw [bl,i2.1,hc,iK,if_neg zy];rfl
     · rw [TopsOk];exact i2.2 hS
theorem wf (l r:Th):bl ((l.sbs r).map topC)=[l.com r]/\TopsOk ((l.sbs r).map topC):=by
 have h:=qG _ [(l,r)] (Ue _) [];rw [wks,wks,U0,U0] at h;refine ⟨?_,h.2 (by rw [TopsOk];trivial)⟩;rw [h.1,bl];rfl
theorem cQ (l r:Th):aJ l r=aJ r l:=by
 cases l with
 | knot n ks =>
   cases r with
   | knot m us =>
     show (!decide (n=star/\ks=[]) && decide (n=m) && decide (ks.length=us.length))=(!decide (m=star/\us=[]) && decide (m=n) && decide (us.length=ks.length));by_cases h1:n=m
     · subst h1;by_cases h2:ks.length=us.length
       · have h3:(n=star/\ks=[])↔(n=star/\us=[]):=by
          constructor
          · rintro ⟨a,b⟩;rw [b] at h2;exact ⟨a,VB.mp h2.symm⟩
          · rintro ⟨a,b⟩;rw [b] at h2;exact ⟨a,VB.mp h2⟩
         rw [decide_eq_decide.mpr h3,h2]
       · have BE:¬ us.length=ks.length:=fun e=>h2 e.symm;simp [h2,BE]
     · have B9:¬ m=n:=fun e=>h1 e.symm;simp [h1,B9]
   | call s k=>rfl
 | call s k=>cases r <;> rfl
mutual
theorem oW:∀ l r:Th,(l.com r).size<=l.size/\(l.com r).tall<=l.tall
 | .knot n ks,r=>by
   have h:=m5 ks r.kids;rw [Th.com];split
   · rw [Th.size,Th.size,Th.tall,Th.tall];omega
   · have:=(Th.knot n ks).size_pos;have:=(Th.knot n ks).tall_eq;rw [ff,mR];omega
 | .call s k,r=>by rw [Th.com,ff,mR,Th.size,Th.tall];omega
theorem m5:∀ ks us:List Th,aq (dF ks us)<=aq ks/\bG (dF ks us)<=bG ks
 | [],us=>by rw [dF,aq,bG];exact ⟨Ue _,Ue _⟩
 | k::ks,[]=>by rw [dF,aq,bG];exact ⟨UL _,UL _⟩
 | k::ks,u::us=>by
   have h1:=oW k u;have h2:=m5 ks us;rw [dF,aq,aq,bG,bG];omega
end
mutual
theorem l3:∀ l r:Th,(l.com r).noCall
 | .knot n ks,r=>by
   rw [Th.com];split
   · rw [Th.noCall];exact jW ks r.kids
   · exact jX
 | .call s k,r=>by rw [Th.com];exact jX
theorem jW:∀ ks us:List Th,bX (dF ks us)
 | [],us=>by rw [dF,bX];trivial
 | k::ks,[]=>by rw [dF,bX];trivial
 | k::ks,u::us=>by rw [dF,bX];exact ⟨l3 k u,jW ks us⟩
end
end BB
namespace BB
open PySem L2
theorem TK.const {K:Ub} {H:Hp} {a:Ud} {xs:List V} (h:∀ H:Hp,SqT K H a xs):TK K H a xs:=by
 rcases h (fun _=>none) with (h | ⟨o,h⟩) | h
 · cases h
 · cases h
 · exact .inr h
theorem vi {K:Ub} {H:Hp} {t:Th} {a h0:Ud} {Q:VK} (hA:AtK K H t a) (e0:TK K H h0 [.str star]) (zb:t.tall<=150) (k:Q (.bl t.isHole) H):v7 K 150 (.ref a) (.ref h0) H Q:=by
 cases t with
 | knot n ks =>
   rw [AtK] at hA;obtain ⟨hn,as,h1,h2⟩:=hA;rw [Th.tall] at zb;have hd:=jj ks;refine ⟨a,h0,_,_,.str n::dvs ks,[.str star],rfl,rfl,h1.sq,e0.sq,.cons (by rw [DAtK]) h2.dvs,.cons (by rw [DAtK]) .nil,by rw [cX,Dv.deep];omega,fun b hb=>?_⟩
   have e:b=(Th.knot n ks).isHole:=by
    rw [XZ,hb];show _↔decide (n=star/\ks=[])=true;rw [decide_eq_true_iff];constructor
    · intro z;have z1:=Zr z;refine ⟨Dv.str.inj z1.1,?_⟩;cases ks with
      | nil=>rfl
      | cons x xs=>rw [dvs] at z1;cases z1.2
    · rintro ⟨z1,z2⟩;rw [z1,z2,dvs]
   rw [e];exact k
 | call sn kn =>
   rw [AtK] at hA;refine ⟨a,h0,_,_,[.str q,.int sn,.int kn],[.str star],rfl,rfl,hA.sq,e0.sq,.cons (by rw [DAtK]) (.cons (by rw [DAtK]) (.cons (by rw [DAtK]) .nil)),.cons (by rw [DAtK]) .nil,by simp [cX,Dv.deep],fun b hb=>?_⟩
   have e:b=(Th.call sn kn).isHole:=by
    show b=false;cases b with
    | false=>rfl
    | true=>exact absurd (hb.mp rfl) (by simp)
   rw [e];exact k
end BB
namespace L2
open PySem PySem.Spec PyProof.Rows BB
def xA (K:Ub) (T:String):List V->Hp->VK->Prop:=fun xs H Q=>xN K T xs H Q∨∃ a ys b,xs=[.ref a,.ty T]/\SqT K H a ys/\Xv K (.type "tuple") (.type T)=some b/\Q (.bl b) H
theorem sh {X:Cx} {T:String}:im X (.builtin "isinstance") (xA X.K T):=by
 intro pins s σ H xs us Q I r h;rcases h with h | ⟨a,ys,b,rfl,hq,e,q⟩
 · exact cM pins s σ H xs us Q I r h
 · obtain ⟨u1,u2,rfl,r1,r2⟩:=vals2 r;cases r1;cases r2;obtain ⟨its,rv,⟨o,h1,h2,_⟩,hz⟩:=I.tuple hq;exact VZ PySem.W.kitx_tuple I.kIn ⟨o,h1,h2⟩ e (fun z=>nomatch z) fun tk=>⟨.bl b,H,I.tok _,rfl,q⟩
end L2
namespace BB
open PySem L2
theorem iJ {f:Th} (h:f.isHole=false):f.lies hole=false:=by
 cases f with
 | knot n ks =>
   rw [Th.lies,h]
   have:aJ (.knot n ks) hole=false:=by
    rw [cQ];exact ji gq
   rw [this];rfl
 | call s k=>rw [Th.lies]
theorem eY {f a b:Th} (h1:aJ f a=true) (h2:aJ f b=true):aJ a b=true:=by
 obtain ⟨n,ks,us,rfl,rfl,e3,hh⟩:=bV h1;obtain ⟨n',SV,vs,e1,rfl,e4,_⟩:=bV h2;cases e1
 have hn:(Th.knot n us).isHole=false:=by
  cases hz:(Th.knot n us).isHole with
  | false=>rfl
  | true =>
    rw [cQ,ji hz] at h1;cases h1
 show (!(Th.knot n us).isHole && decide (n=n) && decide (us.length=vs.length))=true;rw [hn];have:us.length=vs.length:=by omega
 simp [this]
theorem mx {f a b:Th} (h:aJ a b=true):aJ f a=aJ f b:=by
 cases h1:aJ f a with
 | true =>
   cases h2:aJ f b with
   | true=>rfl
   | false =>
     have:=eY (f:=a) (a:=f) (b:=b) (by rw [cQ];exact h1) h;rw [h2] at this;cases this
 | false =>
   cases h2:aJ f b with
   | false=>rfl
   | true =>
     have:=eY (f:=b) (a:=f) (b:=a) (by rw [cQ];exact h2) (by rw [cQ];exact h);rw [h1] at this;cases this
theorem o8 {n:UP} {us vs:List Th} (f:Th) (h:us.length=vs.length):aJ f (.knot n us)=aJ f (.knot n vs):=by
 cases f with
 | knot m ks=>show (_ && _ && decide (ks.length=us.length))=(_ && _ && decide (ks.length=vs.length));rw [h]
 | call s k=>rfl
theorem p9:∀ ks us:List Th,(dF ks us).length=min ks.length us.length
 | [],us=>by rw [dF];simp
 | k::ks,[]=>by rw [dF];simp
 | k::ks,u::us=>by rw [dF,Uo,p9 ks us,Uo,Uo];omega
mutual
theorem pe:∀ f a b:Th,f.lies (a.com b)=(f.lies a && f.lies b)
 | .call s k,a,b=>by rw [Th.lies,Th.lies,Th.lies];rfl
 | .knot n ks,a,b=>by
   cases hh:(Th.knot n ks).isHole with
   | true =>
     rw [Th.lies,Th.lies,Th.lies,hh];rfl
   | false =>
     by_cases Ax:aJ a b=true
     · obtain ⟨m,us,vs,rfl,rfl,e3,_⟩:=bV Ax;have hc:(Th.knot m us).com (.knot m vs)=.knot m (dF us vs):=by rw [Th.com,if_pos Ax];rfl
       have hl:(dF us vs).length=us.length:=by rw [p9];omega
       rw [hc,Th.lies,Th.lies,Th.lies,hh,XW,XW,XW,o8 (.knot n ks) hl,<- mx (f:=.knot n ks) Ax];cases hs:aJ (.knot n ks) (.knot m us) with
       | false=>rfl
       | true =>
         show (true && bP ks (dF us vs))=((true && bP ks us) && (true && bP ks vs));rw [Bool.true_and,Bool.true_and,Bool.true_and];obtain ⟨_,_,_,e1,e2,e4,_⟩:=bV hs;cases e1;cases e2;exact lz ks us vs e4 (by omega)
     · have hc:a.com b=hole:=by rw [iK,if_neg Ax]
       rw [hc,iJ hh];cases h1:(Th.knot n ks).lies a with
       | false=>rfl
       | true =>
         cases h2:(Th.knot n ks).lies b with
         | false=>rfl
         | true =>
           rw [Th.lies,hh,XW,Wg] at h1 h2;exact absurd (eY h1.1 h2.1) Ax
theorem lz:∀ ks us vs:List Th,ks.length=us.length->ks.length=vs.length->bP ks (dF us vs)=(bP ks us && bP ks vs)
 | [],us,vs,_,_=>by rw [bP,bP,bP];rfl
 | k::ks,[],vs,h,_=>by simp at h
 | k::ks,u::us,[],_,h=>by simp at h
 | k::ks,u::us,v::vs,h1,h2=>by
   rw [dF,iS,iS,iS,pe k u v,lz ks us vs (by simpa using h1) (by simpa using h2)];cases k.lies u <;> cases k.lies v <;> cases bP ks us <;> cases bP ks vs <;> rfl
end
end BB
namespace BB
open PySem L2
def PAtK (K:Ub) (H:Hp) (p:List Int×Th) (a:Ud):Prop:=∃ pa ta,H a=some (.tup [.ref pa,.ref ta])/\H pa=some (.tup (p.1.map V.int))/\AtK K H p.2 ta
def PsAtK (K:Ub) (H:Hp) (ps:List (List Int×Th)) (as:List Ud):Prop:=UR (PAtK K H) ps as
theorem PAtK.mono {K:Ub} {H H':Hp} (k:KT H H') {p:List Int×Th} {a:Ud} (h:PAtK K H p a):PAtK K H' p a:=by
 obtain ⟨pa,ta,h1,h2,h3⟩:=h;exact ⟨pa,ta,k _ _ h1,k _ _ h2,h3.mono k⟩
theorem PsAtK.mono {K:Ub} {H H':Hp} (k:KT H H') {ps:List (List Int×Th)} {as:List Ud} (h:PsAtK K H ps as):PsAtK K H' ps as:=P2.mp (fun _ _ e=>PAtK.mono k e) h
theorem vp {xs:List V} {n:Nat} (h:n<=xs.length):ef xs none (some (n:Int))=xs.take n:=by
 unfold ef;rw [HT.sIx_none,HT.sIx_nat,Yo h,Wy,ZE]
end BB
namespace L2
open PySem PySem.Spec PySem.Calls PyProof.Rows PySem.W
section
variable {prog:Uv} {w:UK} {A:U5} {E:Ug->Um->Prop} {h:Vy} {g:Array GenState} {d:Drawn} {t:Nat} {os:YJ} {a C:Ud} {o:Wu} {K:Frag}
end
end L2
namespace L2
open PySem PySem.Spec PySem.Calls PyProof.Rows PySem.W
section
variable {P:Uv} {w:UK} {K:Ub} {mg:UP->Option Ug} {base:Vy} {N:List UP} {qual:UP} {scope:Yc} {f:Ud} {cd:Ug} {A:U5} {outer:List Env} {s:Um} {H:Hp} {E:XK}
end
end L2
namespace L2
open PySem PySem.Spec PySem.Calls PyProof.Rows PySem.W
section
variable {X:Cx} {pins:List (Ud×Wu)} {σ:St} {H:Hp} {s:Um}
end
end L2
namespace L2
open PySem PySem.Spec PySem.Calls PyProof.Rows PySem.W
section
variable {P:Uv} {w:UK} {K:Ub} {mg:UP->Option Ug} {base:Vy}
end
end L2
namespace L2
open PySem PySem.Spec PySem.Calls PyProof.Rows PySem.SeqAt
theorem gj {k:Nat} {A:U5} (hr:Room k A):A.units+2<V1:=by
 have:=hr.units;omega
end L2
namespace L2
open PySem PySem.Spec PySem.Calls PyProof.Rows
end L2
namespace BB
open PySem
end BB
namespace L2
open PySem PySem.Spec PySem.Calls PyProof.Rows BB
section
variable {prog:Uv} {w:UK} {A:U5} {R:Result->Um->Prop}
end
end L2
namespace PySem
section
variable {prog:Uv} {w:UK} {A:U5} {E:Ug->Um->Prop} {s:Um}
end
end PySem
namespace L2
open PySem PySem.Spec PySem.Calls PyProof.Rows BB
end L2
namespace L2
open PySem PySem.Spec PySem.Calls PyProof.Rows BB
section
variable {X:Cx}
end
end L2
namespace BB
open PySem L2
theorem oq {α:Type} {js:List (Option Nat)} {g:TG} {tt:TT} {te:TE} {σ:St} {J:It} {H:Hp} {xs:List V} {fin:Ud->Hp->Prop} (zs:List α) (f:α->V) (hz:zs.length=xs.length) (hn:xs.length<=1000000)
 (Ct:∀ i H2,L2.Same H H2->i<xs.length->J.go i H2) (zH:∀ H2,L2.Same H H2->J.stop xs.length H2) (AK:∀ (i:Nat) H2 x H3,L2.Same H H2->i<xs.length->J.yld i H2 x H3->H3=H2/\xs[i]?=some x)
 (hb:∀ (i:Nat) x z H2 (R:VK) (W':Hp->Prop),xs[i]?=some x->zs[i]?=some z->L2.Same H H2->(∀ H3,L2.Same H2 H3->R (f z) H3)->g x (cσ js σ) H2 fun yT H3=>tt yT H3 fun b H4=>if b=true then te yT H4 R else W' H4)
 (zW:∀ D H',H D=none->L2.Same H H'->H' D=some (.lst (zs.map f))->fin D H') :
 ∀ D,H D=none->∃ (n:Nat) (W:Nat->Hp->Prop),W 0 (upd H D (.lst []))/\f8 js g tt te σ J D n W fun H'=>fin D H':=by
 intro D hD;refine ⟨xs.length,fun i H'=>i<=xs.length/\L2.Same H H'/\H' D=some (.lst ((zs.take i).map f)),⟨UL _,ad hD _,by rw [ab];rfl⟩,?_⟩;rintro i H' ⟨hi,s1,e1⟩;by_cases yK:i<xs.length
 · refine .inr ⟨yK,Ct i H' s1 yK,fun v H1 hy=>?_⟩;obtain ⟨e,hx⟩:=AK i H' v H1 s1 yK hy;subst e;obtain ⟨z,Au⟩:∃ z,zs[i]?=some z:=⟨_,Ua (by omega)⟩;refine hb i v z _ _ _ hx Au s1 fun H3 s3=>⟨_,s3 _ _ e1,?_,yK,ay (s1.trans s3) hD,?_⟩
   · rw [T8,U1];have:Uz=16777216:=Yb;omega
   · rw [ab,take_snoc Au,Ut];rfl
 · have y9:i=xs.length:=by omega
   subst y9;refine .inl ⟨zH _ s1,zW D H' hD s1 ?_⟩;rw [e1,VG (by omega)]
theorem o0 {α:Type} {K:Ub} {a:Ud} {js:List (Option Nat)} {g:TG} {tt:TT} {te:TE} {σ:St} {H:Hp} {xs:List V} {fin:Ud->Hp->Prop} (zs:List α) (f:α->V) (hS:SqT K H a xs) (hz:zs.length=xs.length) (hn:xs.length<=1000000)
 (hb:∀ (i:Nat) x z H2 (R:VK) (W':Hp->Prop),xs[i]?=some x->zs[i]?=some z->L2.Same H H2->(∀ H3,L2.Same H2 H3->R (f z) H3)->g x (cσ js σ) H2 fun yT H3=>tt yT H3 fun b H4=>if b=true then te yT H4 R else W' H4)
 (zW:∀ D H',H D=none->L2.Same H H'->H' D=some (.lst (zs.map f))->fin D H') :
 ∀ D,H D=none->∃ (n:Nat) (W:Nat->Hp->Prop),W 0 (upd H D (.lst []))/\f8 js g tt te σ (Itt K a) D n W fun H'=>fin D H' :=
 oq zs f hz hn (fun i H2 s hi=>⟨xs,xs[i],s.seqT hS,Ua hi⟩) (fun H2 s=>⟨xs,s.seqT hS,Ue _⟩) (fun i H2 x H3 s hi hy=>⟨hy.1,hy.2 xs (s.seqT hS)⟩) hb zW
theorem nH {α:Type} {K:Ub} {a:Ud} {js:List (Option Nat)} {g:TG} {tt:TT} {te:TE} {σ:St} {H:Hp} {xs:List V} {fin:Ud->Hp->Prop} (zs:List α) (f:α->V) (hS:SqL K H a xs) (hz:zs.length=xs.length) (hn:xs.length<=1000000)
 (hb:∀ (i:Nat) x z H2 (R:VK) (W':Hp->Prop),xs[i]?=some x->zs[i]?=some z->L2.Same H H2->(∀ H3,L2.Same H2 H3->R (f z) H3)->g x (cσ js σ) H2 fun yT H3=>tt yT H3 fun b H4=>if b=true then te yT H4 R else W' H4)
 (zW:∀ D H',H D=none->L2.Same H H'->H' D=some (.lst (zs.map f))->fin D H') :
 ∀ D,H D=none->∃ (n:Nat) (W:Nat->Hp->Prop),W 0 (upd H D (.lst []))/\f8 js g tt te σ (Itl K a) D n W fun H'=>fin D H' :=
 oq zs f hz hn (fun i H2 s hi=>⟨xs,xs[i],s.seq hS,Ua hi⟩) (fun H2 s=>⟨xs,s.seq hS,Ue _⟩) (fun i H2 x H3 s hi hy=>⟨hy.1,hy.2 xs (s.seq hS)⟩) hb zW
end BB
namespace HT
open PySem PySem.Spec PyProof.Rows
section
variable {prog:Uv} {w:UK} {A:U5} {E:Ug->Um->Prop} {s:Um}
theorem adjust_back (n:Nat):Xa none none (-1) (n:Int)=((n:Int) - 1,-1):=rfl
theorem places_back (n:Nat):VT ((n:Int) - 1) (-1) (-1)=n:=by
 unfold VT;have h1:¬ ((-1:Int) > 0):=by omega
 simp only [h1,if_false];by_cases h:n=0
 · subst h;decide
 · have h2:((n:Int) - 1) > -1:=by omega
   simp only [h2,if_true];rw [show (- -1:Int)=1 by decide,ZJ];omega
theorem pick_back (xs:Array Ug):((UT xs.size).filterMap fun (m:Nat)=>xs[(((xs.size:Nat):Int) - 1+(m:Int) * (-1)).toNat]?).toArray=xs.toList.reverse.toArray:=by
 congr 1
 have e:∀ m∈UT xs.size,xs[(((xs.size:Nat):Int) - 1+(m:Int) * (-1)).toNat]?=xs.toList.reverse[m]?:=by
  intro m hm;have EF:=WO.mp hm;rw [List.getElem?_reverse (by rw [UY];exact EF),Xo,UY];congr 1;omega
 have f:∀ (l:List Nat) (f g:Nat->Option Ug),(∀ m∈l,f m=g m)->l.filterMap f=l.filterMap g:=by
  intro l f g;induction l with
  | nil=>intro _;rfl
  | cons y ys ih =>
    intro h;rw [XJ,XJ,h y (by simp),ih (fun m hm=>h m (by simp [hm]))]
 rw [f _ _ _ e]
 have gl:∀ (ys:List Ug),(UT ys.length).filterMap (fun m=>ys[m]?)=ys:=by
  intro ys;have:=pick_run ys.toArray 0 ys.length;simp only [Zw] at this
  have e3:((fun x=>ys.toArray[x]?) ∘ fun x=>0+x)=fun m=>ys[m]?:=by
   funext m;simp
  rw [e3] at this;rw [this];simp
 have:=gl xs.toList.reverse;rw [VC,UY] at this;exact this
theorem sliceApplied_back {sl:Ud} {n:Nat} {t:Tok} {Q:Int×Int×Nat->Um->Prop} (hs:s.heap.IsSliceOf sl .none .none (.int (-1) t))
 (h:Q ((n:Int) - 1,-1,n) s):Uy (UU prog w) A (XU (.ref sl) (pure (n:Int))) Q E s:=by
 obtain ⟨os,AZ,Cp,AW⟩:=id hs;unfold XU Builtin.Slice.sliceFields;refine T9 (T9 (Vc AZ AW (x:=.none) rfl (T9 (Vc AZ AW (x:=.none) rfl (T9 (Vc AZ AW (x:=.int (-1) t) rfl (Uk ?_)))))));refine T9 (slicePart_int ?_);show Uy _ _ (if ((-1:Int) == 0)=true then _ else _) _ _ s;rw [if_neg (by decide)];refine T9 (slicePart_none (T9 (slicePart_none (T9 (Uk ?_)))));show Uy _ _ (match Xa none none (-1) (n:Int) with | (lo,hi)=>pure (lo,(-1:Int),VT lo hi (-1))) _ _ s;rw [adjust_back n];show Uy _ _ (pure ((n:Int) - 1,(-1:Int),VT ((n:Int) - 1) (-1) (-1))) _ _ s;rw [places_back];exact Uk h
theorem getItem_tuple_back {t sl:Ud} {items:Array Ug} {tk:Tok} {Q:Ug->Um->Prop} (ht:IsTup s.heap t items) (hs:s.heap.IsSliceOf sl .none .none (.int (-1) tk))
 (h:Q (.ref s.heap.objs.size) { s with heap:=s.heap.push { cls:=.type "tuple",data:=.seq items.toList.reverse.toArray } })
 (hsz:items.size<=Uz):Uy (UU prog w) A (Yi (.ref t) (.ref sl)) Q E s:=by
 have zF:sizeOk (.seq items.toList.reverse.toArray):=by
  show items.toList.reverse.toArray.size<=Uz;rw [Uq,VC,UY];exact hsz
 obtain ⟨os,AZ,Cp,AW⟩:=id hs;have Hk:s.TypeIs (.ref sl) "slice":=⟨os,AZ,Cp⟩;unfold Yi
 try with_reducible refine VJ ?_
 first | refine T9 (Uk ?_) | skip
 refine T9 (wpAny_sequenceKey ht.typeIs (by decide) ?_)
 refine T9 (Vm (name:=Ui "__getitem__") ht.typeIs U4
  (Vq U4 ht.typeIs entry_tuple_getitem ?_ (args_tuple_getitem _ _)))
 show Uy _ _ (XT (.ref t) >>= _) _ _ s;refine T9 (tupleItemsOf_ ht ?_);refine T9 (WV Hk ?_);rw [if_pos (by decide)];refine T9 (sliceApplied_back hs ?_)
 have Bv:¬ ((((items.size:Nat):Int) - 1 == 0 && (-1:Int) == 1 && items.size == items.size)=true):=by
  simp
 show Uy _ _ (if (((items.size:Nat):Int) - 1 == 0 && (-1:Int) == 1 && items.size == items.size)=true then _ else _) _ _ s;rw [if_neg Bv,pick_back]
 first
  | exact T9 (m:=VX _) (Vp (Uk ⟨_,rfl,Uk h⟩) zF)
  | exact T9 (m:=VX _) (Vp (T9 (Uk (Uk ⟨_,rfl,Uk h⟩))) zF)
  | exact T9 (T9 (m:=VX _) (Vp (Uk (Uk ⟨_,rfl,Uk h⟩)) zF))
  | exact T9 (T9 (m:=VX _) (Vp (Uk ⟨_,rfl,Uk h⟩) zF))
end
end HT
namespace L2
open PySem PySem.Spec PyProof.Rows
section
variable {X:Cx} {e:Vs} {te:TE} {pos p2 p3 p4:Yd}
def BkR (X:Cx) (r:V->Hp->VK->Prop):Prop :=
 ∀ (pins:List (Ud×Wu)) (s:Um) (σ:St) (H:Hp) (x:V) (v:Ug) (t:Tok) (sl:Ud) (Q:VK),Inv X pins σ H s->RelV x v->s.heap.IsSliceOf sl .none .none (.int (-1) t)->r x H Q →
   ∃ T id,XO (.type T) "__getitem__"=pure (some (.builtin id))/\s.TypeIs v T/\Uy (UU X.prog X.w) X.A (Yi v (.ref sl)) (EP X pins σ Q) X.xe s
def tBk (r:V->Hp->VK->Prop) (te:TE):TE:=fun σ H Q=>te σ H fun x H1=>r x H1 Q
theorem r6 {r:V->Hp->VK->Prop} (hr:BkR X r) (he:PE X e te):PE X (.Subscript e (.Slice none none (some (.UnaryOp .USub (.Constant (.int 1) 0 p3) p4)) p2) pos) (tBk r te):=by
 intro pins s σ H Q I h;refine Subscript_ (thn (he pins s σ H _ I h) fun v s1 ⟨x,H1,I1,r1,q1⟩=>?_);refine wpAny_Slice ?_;rw [evalPart_none];refine Uk ?_;refine Uk ?_;have Qy:PO X (some (.UnaryOp .USub (.Constant (.int 1) 0 p3) p4)) (wb (tUn (rU fun i=>.int (-i)) (tC (.int 1)))):=bF (xc wO af);refine thn (Qy pins s1 σ H1 (fun o H'=>o=some (-1)/\r x H' Q) I1 ⟨1,rfl,_,rfl,rfl,q1⟩) fun vs s2 ⟨o,H2,I2,ps,ho,q2⟩=>?_;subst ho;cases ps with
 | int i t =>
   have I4:Inv X pins σ H2 { s2 with heap:=s2.heap.push { cls:=.type "slice",data:=.fields #[.none,.none,.int (-1) t] } }:=I2.kept (t':=s2.toks) fun b ob q=>Uj _ q;obtain ⟨T,id,hT,ht,hg⟩:=hr pins { s2 with heap:=s2.heap.push { cls:=.type "slice",data:=.fields #[.none,.none,.int (-1) t] } } σ H2 x v t s2.heap.objs.size Q I4 r1 (Heap.IsSliceOf.new ..) q2;show Uy (UU X.prog X.w) X.A (subscriptTail e (.Slice none none (some (.UnaryOp .USub (.Constant (.int 1) 0 p3) p4)) p2) v (.ref s2.heap.objs.size)) (EP X pins σ Q) X.xe { s2 with heap:=s2.heap.push { cls:=.type "slice",data:=.fields #[.none,.none,.int (-1) t] } };exact tail_any (ops:=[v,.ref s2.heap.objs.size]) ht hT hg (by with_unfolding_all rfl)
def xR (K:Ub):V->Hp->VK->Prop:=fun x H Q=>∃ a xs,x=.ref a/\SqT K H a xs/\∀ p,H p=none->Q (.ref p) (upd H p (.tup xs.reverse))
def yp (K:Ub):V->Hp->VK->Prop:=fun x H Q=>∃ a xs,x=.ref a/\SqL K H a xs/\∀ p,H p=none->Q (.ref p) (upd H p (.lst xs.reverse))
theorem Vals.rev {xs:List V} {us:List Ug} (r:Vals xs us):Vals xs.reverse us.reverse:=by
 induction r with
 | nil=>exact .nil
 | cons r1 r2 ih=>rw [Vn,Vn];exact ih.append (.cons r1 .nil)
theorem wT:BkR X (xR X.K):=by
 intro pins s σ H x v t sl Q I rx hs h;obtain ⟨a,xs,rfl,hx,q⟩:=h;cases rx;obtain ⟨its,r,ht,hz⟩:=I.tuple hx;have hlen:its.toArray.size=xs.length:=by rw [Uq];exact r.length.symm
 refine ⟨"tuple",_,U4.lookup,ht.typeIs,?_⟩;refine HT.getItem_tuple_back ht hs ?_ (by rw [hlen];exact hz);refine ⟨.ref s.heap.objs.size,_,I.laid (t':=s.toks) (o:=.tup xs.reverse) (fun b ob q=>Uj _ q) (Ue _) ?_,rfl,q _ (I.hok.fresh (Ue _))⟩;exact ⟨by rw [VC];exact hz,_,0,r.rev,Uu _ rfl⟩
theorem lR (its:List Ug):slicePick its.toArray none none (some (-1))=its.reverse.toArray:=by
 unfold slicePick;have e:X9 none none (some (-1)) its.toArray.size=((its.toArray.size:Int) - 1,-1,-1):=rfl;rw [e];unfold sliceRange;have h1:¬ ((-1:Int) > 0):=by omega
 simp only [h1,if_false]
 have hc:(if ((its.toArray.size:Nat):Int) - 1 > -1 then (((its.toArray.size:Nat):Int) - 1 - -1 - -1 - 1) / (- -1) else 0).toNat=its.toArray.size:=by
  by_cases h:its.toArray.size=0
  · rw [h];decide
  · rw [if_pos (by omega),show (- -1:Int)=1 by decide,ZJ];omega
 rw [hc,Zw];have:=HT.pick_back its.toArray;rw [<- this];congr 1;congr 1;funext m;show its.toArray[(((its.toArray.size:Nat):Int) - 1+-1 * (m:Int)).toNat]?=_;rw [Int.mul_comm]
theorem vG:BkR X (yp X.K):=by
 intro pins s σ H x v t sl Q I rx hs h;obtain ⟨a,xs,rfl,hx,q⟩:=h;cases rx;obtain ⟨its,r,ht,hz⟩:=I.list hx;have hlen:=r.length;refine ⟨"list",_,slot_list_getitem.lookup,ht.isList.typeIs,?_⟩;refine wpAny_getItem_list_slice ht.isList hs .none .none (.int _ _) (by simp) ?_ (by rw [Uq] <;> omega);rw [lR];refine ⟨.ref s.heap.objs.size,_,I.laid (t':=s.toks) (o:=.lst xs.reverse) (fun b ob q=>Uj _ q) (Ue _) ?_,rfl,q _ (I.hok.fresh (Ue _))⟩;exact ⟨by rw [VC];exact hz,_,0,r.rev,Uu _ rfl⟩
end
end L2
namespace L2
open PySem PySem.Spec PySem.Calls PyProof.Rows
section
variable {X:Cx}
end
end L2
namespace L2
open PySem PySem.Spec PySem.Calls PyProof.Rows
section
variable {X:Cx}
def isStr (z:UP):Ug->Bool
 | .str y _=>y == z
 | _=>false
def uZ (K:Ub):V->List V->Hp->VK->Prop:=fun x vs H Q=>∃ (l:Ud) (zs:List UP) (z:UP) (j:Nat),x=.ref l/\vs=[.str z]/\SqL K H l (zs.map V.str)/\zs[j]?=some z/\(∀ i,i<j->zs[i]?≠some z)/\zs.length<=100000/\Q (.int (j:Nat)) H
theorem nq:MtM X "list.index" (uZ X.K):=by
 intro pins s σ H x vs v us Q I rx rv h;obtain ⟨l,zs,z,j,rfl,rfl,hS,hj,Bv,hz,q⟩:=h;cases rx;obtain ⟨u,rfl,t,rfl⟩:=rv.one;obtain ⟨its,r,pl,_⟩:=I.list hS;have hlen:=r.length;rw [T8] at hlen;obtain ⟨⟨cls,dd,data,sl⟩,ho,hc,n,hd⟩:=pl.isList;simp only at hc hd;subst hc hd;have BG:j<zs.length:=(Uh.mp hj).1
 have get:∀ m,m<zs.length->∃ y t',its[m]?=some (.str y t')/\zs[m]?=some y:=fun m hm=>by
  obtain ⟨v,hv,rv⟩:=r.get (i:=m) (x:=.str zs[m]) (by rw [Ul,Ua hm];rfl);obtain ⟨t',rfl⟩:=rv;exact ⟨_,t',hv,Ua hm⟩
 refine YN Xb ⟨_,ho,rfl⟩ PySem.F.entry_list_index (PySem.F.args_list_index_2 _ _)
  (SeqAt.list_indexAt l its.toArray n dd sl (.str z t) (isStr z) j (by rw [Uq];omega) (by omega) ?_ ?_) ⟨ho,fun y hy=>?_,⟨.int (j:Nat),H,I.tok _,⟨_,rfl⟩,q⟩⟩
 · obtain ⟨y,t',h1,h2⟩:=get j BG;rw [hj] at h2;cases h2
   have h3:its.toArray[j]'(by rw [Uq];omega)=.str z t':=by
    rw [Ua (by omega)] at h1;simpa using h1
   rw [h3];show (z == z)=true;simp
 · intro m hm yK;obtain ⟨y,t',h1,h2⟩:=get m (by omega)
   have h3:its.toArray[m]'hm=.str y t':=by
    rw [Ua (by omega)] at h1;simpa using h1
   rw [h3];show (y == z)=false;refine VP.mpr fun e=>Bv m yK ?_;rw [h2,beq_iff_eq.mp e]
 · have Bx:y∈its:=by simpa using hy
   obtain ⟨m,hm,rfl⟩:=List.getElem_of_mem Bx;obtain ⟨y,t',h1,h2⟩:=get m (by omega);rw [Ua hm] at h1;have h3:=UQ h1;rw [h3];exact SeqAt.EqAt.str_str _ _ _ _
end
end L2
namespace BB
open PySem L2
structure bZ (ks:List (UP×Int)):Prop where
 ne:1<=ks.length
 le:ks.length<=8
 low:∀ k∈ks,Low k.1/\k.1.length<=8
 num:∀ k∈ks,0<=k.2/\k.2<=3
 zero:∃ k∈ks,k.2=0
 nd:∀ (i j:Nat) (k l:UP×Int),ks[i]?=some k->ks[j]?=some l->k.1=l.1->i=j
mutual
/-- a pattern over kinds,its calls of so many states and kids -/
def Th.FitS (ks:List (UP×Int)) (S C:Int):Th->Prop
 | .knot n ts=>(n,(ts.length:Int))∈ks/\FitSs ks S C ts
 | .call s k=>0<=s/\s<S/\0<=k/\k<C
def FitSs (ks:List (UP×Int)) (S C:Int):List Th->Prop
 | []=>True
 | t::ts=>t.FitS ks S C/\FitSs ks S C ts
end
theorem FitSs.of {ks:List (UP×Int)} {S C:Int}:∀ {ts:List Th},(∀ t∈ts,t.FitS ks S C)->FitSs ks S C ts
 | [],_=>by rw [FitSs];trivial
 | t::ts,h=>by
   rw [FitSs];exact ⟨h t (UM ..),FitSs.of fun u hu=>h u (UG _ hu)⟩
theorem mZ {ts:List Th} {n:Nat} (h:∀ t∈ts,t.tall<=n):bG ts<=n:=by
 induction ts with
 | nil=>rw [bG];exact UL _
 | cons t ts ih =>
   rw [bG];have h1:=h t (UM ..);have h2:=ih fun u hu=>h u (UG _ hu);omega
def SameB (l:Ud) (H H':Hp):Prop:=∀ b o,b≠l->H b=some o->H' b=some o
theorem SameB.refl {l:Ud} {H:Hp}:SameB l H H:=fun _ _ _ e=>e
theorem SameB.trans {l:Ud} {A B C:Hp} (h:SameB l A B) (k:SameB l B C):SameB l A C:=fun b o hb e=>k b o hb (h b o hb e)
theorem SameB.of {l:Ud} {H H':Hp} (h:L2.Same H H'):SameB l H H':=fun b o _ e=>h b o e
theorem SameB.set {l:Ud} {H:Hp} {o:HO}:SameB l H (upd H l o):=fun b o hb e=>by rw [am hb];exact e
theorem SameB.kt {l:Ud} {H H':Hp} {xs:List V} (h:SameB l H H') (e:H l=some (.lst xs)):KT H H':=fun b ys eb=>h b _ (f9 eb e (by intro z;cases z)) eb
def RowAt (H:Hp) (row:List Th) (a:Ud):Prop:=∃ as:List Ud,H a=some (.tup (as.map V.ref))/\Ats H row as
theorem RowAt.mono {H H':Hp} (k:KT H H') {row:List Th} {a:Ud} (h:RowAt H row a):RowAt H' row a:=by
 obtain ⟨as,h1,h2⟩:=h;exact ⟨as,k _ _ h1,h2.mono k⟩
structure BookAt (H:Hp) (ins outs:List (UP×Int)) (head:Th) (rows:List (List Th)) (r ia oa ha ra:Ud) (yI yX zi:List Ud):Prop where
 bk:H r=some (.tup [.ref ia,.ref oa,.ref ha,.ref ra])
 inE:H ia=some (.tup (yI.map V.ref))
 inK:KsAt H ins yI
 outE:H oa=some (.tup (yX.map V.ref))
 outK:KsAt H outs yX
 hd:At H head ha
 rl:H ra=some (.tup (zi.map V.ref))
 rw:UR (RowAt H) rows zi
theorem BookAt.mono {H H':Hp} (k:KT H H') {ins outs:List (UP×Int)} {head:Th} {rows:List (List Th)} {r ia oa ha ra:Ud} {yI yX zi:List Ud} (b:BookAt H ins outs head rows r ia oa ha ra yI yX zi):BookAt H' ins outs head rows r ia oa ha ra yI yX zi :=
 ⟨k _ _ b.bk,k _ _ b.inE,b.inK.mono k,k _ _ b.outE,b.outK.mono k,b.hd.mono k,k _ _ b.rl,P2.mp (fun _ _ e=>e.mono k) b.rw⟩
theorem fy {z:UP} {n:Nat} (h:n<=z.length):(eE z none (some (n:Int))).cps.toList=z.cps.toList.take n/\(eE z none (some (n:Int))).length=n:=by
 have hz:z.cps.toList.length=z.length:=UY
 have e:(eE z none (some (n:Int))).cps.toList=z.cps.toList.take n:=by
  show (ko z.cps.toList none (some (n:Int))).toArray.toList=_;rw [List.toList_toArray];unfold ko;rw [HT.sIx_nat,HT.sIx_none,hz,Yo h];simp
 refine ⟨e,?_⟩;show (eE z none (some (n:Int))).cps.size=n;rw [<- UY,e,U1,hz];omega
end BB
namespace BB
open PySem L2
theorem fc {ks:List (UP×Int)} {S C:Int}:∀ {ts:List Th},FitSs ks S C ts->∀ t∈ts,t.FitS ks S C
 | [],_,t,ht=>by cases ht
 | a::ts,h,t,ht=>by
   rw [FitSs] at h;rcases UB.mp ht with rfl | ht
   · exact h.1
   · exact fc h.2 t ht
def Bk (H:Hp) (ins outs:List (UP×Int)) (head:Th) (rows:List (List Th)) (r:Ud):Prop:=∃ ia oa ha ra yI yX zi,BookAt H ins outs head rows r ia oa ha ra yI yX zi
theorem Bk.mono {H H':Hp} (k:KT H H') {ins outs:List (UP×Int)} {head:Th} {rows:List (List Th)} {r:Ud} (b:Bk H ins outs head rows r):Bk H' ins outs head rows r:=by
 obtain ⟨ia,oa,ha,ra,yI,yX,zi,b⟩:=b;exact ⟨ia,oa,ha,ra,yI,yX,zi,b.mono k⟩
end BB
namespace L2
open PySem PySem.Spec PySem.Calls PyProof.Rows PySem.SeqAt
end L2
namespace BB
open PySem L2
end BB
namespace L2
open PySem PySem.Spec PyProof.Rows
section
variable {X:Cx} {e:Vs} {te:TE} {p p2 pos y4:Yd}
end
end L2
namespace BB
open PySem L2
theorem jd {α:Type} {F:Hp->α->Ud->Prop} {js:List (Option Nat)} {g:TG} {tt:TT} {te:TE} {σ:St} {J:It} {H:Hp} {xs:List V} {fin:Ud->Hp->Prop} (zs:List α) (hF:∀ H1 H2 z p,KT H1 H2->F H1 z p->F H2 z p) (hz:zs.length=xs.length) (hn:xs.length<=1000000)
 (Ct:∀ i H2,L2.Same H H2->i<xs.length->J.go i H2) (zH:∀ H2,L2.Same H H2->J.stop xs.length H2) (AK:∀ (i:Nat) H2 x H3,L2.Same H H2->i<xs.length->J.yld i H2 x H3->H3=H2/\xs[i]?=some x)
 (hb:∀ (i:Nat) x z H2 (R:VK) (W':Hp->Prop),xs[i]?=some x->zs[i]?=some z->L2.Same H H2->(∀ H3 p,L2.Same H2 H3->F H3 z p->R (.ref p) H3)->g x (cσ js σ) H2 fun yT H3=>tt yT H3 fun b H4=>if b=true then te yT H4 R else W' H4)
 (zW:∀ D H' as,H D=none->L2.Same H H'->H' D=some (.lst (as.map V.ref))->UR (F H') zs as->fin D H') :
 ∀ D,H D=none->∃ (n:Nat) (W:Nat->Hp->Prop),W 0 (upd H D (.lst []))/\f8 js g tt te σ J D n W fun H'=>fin D H':=by
 intro D hD;refine ⟨xs.length,fun i H'=>i<=xs.length/\L2.Same H H'/\∃ as:List Ud,H' D=some (.lst (as.map V.ref))/\UR (F H') (zs.take i) as,⟨UL _,ad hD _,[],by rw [ab];rfl,.nil⟩,?_⟩;rintro i H' ⟨hi,s1,as,e1,hp⟩;by_cases yK:i<xs.length
 · refine .inr ⟨yK,Ct i H' s1 yK,fun v H1 hy=>?_⟩;obtain ⟨e,hx⟩:=AK i H' v H1 s1 yK hy;subst e;obtain ⟨z,Au⟩:∃ z,zs[i]?=some z:=⟨_,Ua (by omega)⟩;have hl:(zs.take i).length=as.length:=Up hp;rw [U1] at hl;refine hb i v z _ _ _ hx Au s1 fun H3 p s3 Lp=>⟨_,s3 _ _ e1,?_,yK,ay (s1.trans s3) hD,as++[p],?_,?_⟩
   · rw [T8];have:Uz=16777216:=Yb;omega
   · rw [ab,Ut];rfl
   · have kt:KT H3 (upd H3 D (.lst (as.map V.ref++[.ref p]))):=aU (s3 _ _ e1);rw [take_snoc Au];exact P2.append (P2.mp (fun x y e=>hF _ _ _ _ ((Same.kt s3).trans kt) e) hp) (.cons (hF _ _ _ _ kt Lp) .nil)
 · have y9:i=xs.length:=by omega
   subst y9;refine .inl ⟨zH _ s1,zW D H' as hD s1 e1 ?_⟩;rw [VG (by omega)] at hp;exact hp
end BB
namespace L2
open PySem PySem.Spec PyProof.Rows
end L2
namespace L2
open PySem
theorem us1 {α:Type}:∀ {us:List α},us.length=1->∃ a,us=[a]
 | [a],_=>⟨a,rfl⟩
theorem us2 {α:Type}:∀ {us:List α},us.length=2->∃ a b,us=[a,b]
 | [a,b],_=>⟨a,b,rfl⟩
theorem us3 {α:Type}:∀ {us:List α},us.length=3->∃ a b c,us=[a,b,c]
 | [a,b,c],_=>⟨a,b,c,rfl⟩
theorem us4 {α:Type}:∀ {us:List α},us.length=4->∃ a b c d,us=[a,b,c,d]
 | [a,b,c,d],_=>⟨a,b,c,d,rfl⟩
end L2
namespace PySem
open Sem (wp)
section
variable {prog:Uv} {w:UK} {K:Type} [DecidableEq K] {knd:HeapKind prog w K} {A:U5} {E:Ug->Um->Prop} {s:Um}
end
end PySem
namespace L2
open PySem PySem.Spec PyProof.Rows BB
end L2
namespace BB
open PySem L2
theorem wA:(Ui "*")≠q:=by decide +kernel
end BB
namespace PySem
open Sem (wp)
section
variable {prog:Uv} {w:UK} {A:U5} {E:Ug->Um->Prop} {s:Um} {I:Ud} {fp wr:List Ud} {G:Array GenState->Array GenState->Prop} {n:Nat} {P:Nat->Ug->Prop} {St:Nat->Um->Prop}
end
end PySem
namespace L2
open PySem PySem.Spec PyProof.Rows
section
variable {X:Cx} {o e:Vs} {to te:TE} {p2 y4 apos yP:Yd}
end
end L2
namespace PySem
open Sem (wp)
namespace F
theorem bb_list_nokeys:XO (.type "list") "keys"=pure none:=by rw [Wh,VD];kernel_rfl
end F
section
variable {prog:Uv} {w:UK} {A:U5} {E:Ug->Um->Prop} {s:Um} {a:Ud} {xs:Array Ug} {k:Nat}
theorem bb_nokeysL {Q:Option Ug->Um->Prop} (hA:A.handled=none) (hx:s.heap.get? a=some { cls:=.type "list",data:=.seq xs k })
 (q:∀ h' tk,(∀ b o,s.heap.get? b=some o->h'.get? b=some o)->Q none { s with heap:=h',toks:=tk }):Uy (UU prog w) A (getAttr? (.ref a) "keys") Q E s:=by
 obtain ⟨hp,g,d,tk,os⟩:=s;have gT:∀ z,(⟨hp,g,d,z,os⟩:Um).TypeIs (.ref a) "list":=fun _=>⟨_,hx,rfl⟩;have g1:=sub_AttributeError;have g3:=Y8.lookup;have g4:=Y8.bind (.ref a);have g5:=am_list_getattr_none;unfold getAttr? getAttrBy? getAttrBy
 repeat (any_goals (first | assumption | exact gT _ | ((with_reducible show Uy _ _ (call (Value.builtin "list.__getattribute__") _ _) _ _ _);refine YN Y8 (gT _) am_entry_list_getattribute (F.args_list_getattribute_2 _ _) (meets_getattribute_miss_list a xs k #[] "keys" _ F.bb_list_nokeys (by decide +kernel) (by decide)) ⟨hx,hA,fun h' Qz e Cs=>?_⟩) | wp_step))
 obtain ⟨t',u',he⟩:=Cs.there;show Uy _ _ (getattributeRaised _ _ _ _ _ _ _) _ _ _;unfold getattributeRaised
 repeat (any_goals (first | assumption | wp_step))
 exact q h' Qz Cs.keeps
end
end PySem
namespace L2
open PySem PySem.Spec PyProof.Rows
def cp:List (List Key×V)->List (List Key×V)->List (List Key×V)
 | f',[]=>f'
 | f',p::ps=>cp (putK f' p.1 p.2) ps
def PrA (H:Hp) (pr:List Key×V) (pa:Ud):Prop:=∃ ka,H pa=some (.tup [.ref ka,pr.2])/\H ka=some (.tup (pr.1.map kV))
section
variable {X:Cx} {pins:List (Ud×Wu)} {σ:St}
theorem sB {H:Hp} {s:Um} {a b:Ud} {v:V} {r:Ug} {k:List Key} {f':List (List Key×V)} {A:U5} {E:Ug->Um->Prop} {Q:Unit->Um->Prop} (hu:(Y9 (aE X.prog X.w)).room A) (I:Inv X pins σ H s) (e:H a=some (.dT f')) (eb:H b=some (.tup (k.map kV))) (l:f'.length<Uz) (rv:RelV v r) (h:∀ h' tk,V9 a s.heap h'->Inv X pins σ (upd H a (.dT (putK f' k v))) { s with heap:=h',toks:=tk }->Q () { s with heap:=h',toks:=tk }) :
 Uy (UU X.prog X.w) A (dictSet a (.ref b) r) Q E s:=by
 obtain ⟨z,hd,xs,rel,dd⟩:=vR I.hok e;have hz:xs.length<=Uz:=by rw [<- Up rel];exact z
 have hl:(putK f' k v).length<=Uz:=by have:=ce f' k v;omega
 refine wpAny_dictSet_heap (hsz:=hz) hu (iR I.hok eb) dd fun h' B8 hs=>h _ _ hs ?_;obtain ⟨q,es,ep,hq,h2,h3,h4,_,h5⟩:=B8;refine gU I (by rw [e];exact Wr) hs ⟨q,hq⟩ ⟨hl,hd,_,(rel.put k eb rv).keeps fun c ys ec=>?_,q,es,ep,hq,h2,h3,h4,h5⟩;rw [am (f9 ec e (fun z=>nomatch z))];exact ec
theorem qo {A:U5} {d it l:Ud} {prs:List (List Key×V)} {ps:List Ud} {R:Result->Um->Prop} (hh:A.handled=none) (hu:A.units+8<V1) (hn:prs.length<=10000) :
 ∀ (m i:Nat) (s:Um) (tk:Tok) (H:Hp) (f':List (List Key×V)),prs.length - i=m->i<=prs.length->Inv X pins σ H s->H d=some (.dT f')->f'.length<=i->kh X pins H it->s.heap.IsListIter it l i->H l=some (.lst (ps.map V.ref))->UR (PrA H) prs ps →
   (∀ s',Inv X pins σ (upd H d (.dT (cp f' (prs.drop i)))) s'->R (.ok (.ret .none)) s') →
   Yk (UU X.prog X.w) A (.builtin "dict.update.loop" ⟨[.ref d,.ref it,.int i tk,.none],[]⟩) R s:=by
 intro m;induction m with
 | zero =>
   intro i s tk H f' hk hi I ed zE hf hit el zm hR;have BW:i=prs.length:=by omega
   subst BW;obtain ⟨its,rv,p,hz⟩:=I.list (SqL.of (K:=X.K) el);have zD:prs.length=ps.length:=Up zm;have hl:=rv.length;rw [T8] at hl;obtain ⟨f0,f1,f2,f3,f4,f5⟩:=hf;refine X7 PySem.F.bb_entry_upd ?_;rw [Xd PySem.F.bb_plain_upd _];show Uy _ A.in1 (Xf (.ref it) >>= _) _ _ s;refine T9 (wpAny_pyNext_list_end hh hit p.isList (by simp;omega) fun h' eb=>?_);refine T9 (Uk (Uk ?_));refine hR _ ?_;rw [List.drop_length]
   have e0:upd H d (.dT (cp f' []))=H:=by
    funext b;by_cases hb:b=d
    · rw [hb,ab,ed];rfl
    · rw [am hb]
   rw [e0];exact I.turned (t':=s.toks) (fun b o hb e=>eb b o hb e) f0 f1 f3 f4 f5
 | succ m ih =>
   intro i s tk H f' hk hi I ed zE hf hit el zm hR;have yK:i<prs.length:=by omega
   have zD:prs.length=ps.length:=Up zm;obtain ⟨its,rv,p,hz⟩:=I.list (SqL.of (K:=X.K) el);have hl:=rv.length;rw [T8] at hl;obtain ⟨pa,DA,ka,AQ,Gy⟩:=BB.P2.get zm (Ua yK);have hx:(ps.map V.ref)[i]?=some (.ref pa):=by rw [Ul,DA];rfl
   obtain ⟨u,QA,ru⟩:=rv.get hx;cases ru;obtain ⟨f0,f1,f2,f3,f4,f5⟩:=id hf;refine X7 PySem.F.bb_entry_upd ?_;rw [Xd PySem.F.bb_plain_upd _];show Uy _ A.in1 (Xf (.ref it) >>= _) _ _ s;refine T9 (wpAny_pyNext_list_item hit p.isList (x:=.ref pa) (by simpa using QA) fun h1 Lq QB=>?_);have I1:Inv X pins σ H { s with heap:=h1 }:=I.turned (t':=s.toks) (fun b o hb e=>(QB.2 b hb).trans e) f0 f1 f3 f4 f5;obtain ⟨_,yF,n2,QC,e2⟩:=(show ObjOk X.prog X.w H h1 pa (.tup [.ref ka,(prs[i]).2]) from I1.hok pa _ AQ)
   obtain ⟨vv,rfl,QD⟩:∃ vv,yF=[.ref ka,vv]/\RelV (prs[i]).2 vv:=by
    cases QC with
    | cons a b =>
      cases b with
      | cons c d =>
        cases d;cases a;exact ⟨_,rfl,c⟩
   have QE:(⟨h1,s.gens,s.drawn,s.toks,s.os⟩:Um).TypeIs (.ref pa) "tuple":=⟨_,e2,rfl⟩;refine T9 (VJ ?_);refine T9 (wpAny_tryCatch ?_);unfold Builtin.Dict.pairItems;refine T9 (WV QE ?_);rw [if_pos (by decide)];refine T9 (VI e2 rfl (Uk ?_));show Uy _ _ (holding [.ref ka,vv] (dictSet d (.ref ka) vv)) _ _ _;refine VJ (sB (k:=(prs[i]).1) ?_ I1 ed Gy (by have:=fD;rw [Yb];omega) QD fun h2 SW CQ I2=>?_)
   · exact X8 (by omega)
   refine Uk ⟨Xg PySem.F.bb_plain_upd _,?_⟩
   have HR:WD ((i:Int)+1)=.int ((i+1:Nat):Int) 0:=by
    show Value.int ((i:Int)+1) 0=_;rw [show ((i+1:Nat):Int)=(i:Int)+1 by omega]
   rw [HR];have J3:it≠d:=fun z=>by rw [z,ed] at f0;cases f0
   refine ih (i+1) _ 0 _ (putK f' (prs[i]).1 (prs[i]).2) (by omega) yK I2 ab (by have:=ce f' (prs[i]).1 (prs[i]).2;omega) ⟨by rw [am J3];exact f0,f1,f2,f3,f4,f5⟩ ?_ ?_ ?_ fun s' I'=>hR s' ?_
   · obtain ⟨o,g1,r⟩:=Lq;exact ⟨o,(CQ.2 it J3).trans g1,r⟩
   · rw [am (f9 el ed (fun z=>nomatch z))];exact el
   · refine BB.P2.mp (fun x y e=>?_) zm;obtain ⟨C2,g1,g2⟩:=e;exact ⟨C2,by rw [am (f9 g1 ed (fun z=>nomatch z))];exact g1,by rw [am (f9 g2 ed (fun z=>nomatch z))];exact g2⟩
   · rw [ky] at I';rw [XG yK];exact I'
def ww:List V->Hp->VK->Prop:=fun xs H Q=>∃ (l:Ud) (ps:List Ud) (prs:List (List Key×V)),xs=[.ref l]/\H l=some (.lst (ps.map V.ref))/\UR (PrA H) prs ps/\prs.length<=10000/\∀ d,H d=none->Q (.ref d) (upd H d (.dT (cp [] prs)))
theorem lK (hu:X.A.units+12<V1) (hc:X.calm=true):im X (.type "dict") ww:=by
 intro pins s σ H xs us Q I r h;obtain ⟨l,ps,prs,rfl,el,zm,hn,q⟩:=h;obtain ⟨u,rfl,rx⟩:=vals1 r;cases rx;obtain ⟨z,its,n,rv,e⟩:=(show ObjOk X.prog X.w H s.heap l (.lst (ps.map V.ref)) from I.hok l _ el);refine Zz (Q₁:=fun obj yB=>obj=.ref s.heap.objs.size/\yB={ s with heap:=s.heap.push { cls:=.type "dict",data:=.dict #[] } }) PySem.F.kt_called_dict (PySem.F.kt_typeCall_dict_1 _) PySem.F.entry_dict_init (kt_code_dict_new _ ⟨rfl,rfl⟩) ?_;rintro obj yB ⟨rfl,rfl⟩;have gn:(s.heap.push { cls:=.type "dict",data:=.dict #[] }).DictOf (aE X.prog X.w) s.heap.objs.size []:=Heap.DictOf.new s.heap;have gt:(s.heap.push { cls:=.type "dict",data:=.dict #[] }).get? l=some { cls:=.type "list",data:=.seq its.toArray n }:=Uj _ e;refine ⟨gn.typeIs,PySem.F.args_dict_init_2 _ _,?_⟩;have Cv:=I.hok.fresh (Ue s.heap.objs.size);have I1:Inv X pins σ (upd H s.heap.objs.size (.dT [])) { s with heap:=s.heap.push { cls:=.type "dict",data:=.dict #[] } }:=I.laid (a:=s.heap.objs.size) (o:=.dT []) (t':=s.toks) (fun _ _ q=>Uj _ q) (Ue _) (o5 s.heap I.big);unfold WY.«dict.__init__»;refine T9 ?_;unfold Builtin.Dict.selfAndRest;refine T9 (Zt gn.typeIs ?_);show Uy _ _ (pure (s.heap.objs.size,[US l])) _ _ _;refine Uk ?_;show Uy _ _ (Builtin.Dict.updateFrom "dict.__init__" s.heap.objs.size (.ref l) [] .none) _ _ _;unfold Builtin.Dict.updateFrom;refine T9 (WV (T:="list") ⟨_,gt,rfl⟩ ?_);rw [if_pos (by decide)];refine T9 (bb_nokeysL (A:=X.A.in1.in1) (I.ok.hd hc) gt fun h1 Gz k1=>?_);have I2:Inv X pins σ (upd H s.heap.objs.size (.dT [])) { s with heap:=h1,toks:=Gz }:=I1.kept (t':=Gz) fun b o e=>k1 b o e;simp only [Option.isNone_none,if_true];refine T9 (W5 ?_);obtain ⟨od,es,ep,QF,SX⟩:=id gn;have yK:s.heap.objs.size<h1.objs.size:=Uw (k1 _ _ QF);refine T9 (wpAny_pyIter_list (l:=l) (items:=its.toArray) ⟨_,k1 _ _ gt,rfl,n,rfl⟩ ?_);refine Uk ⟨Xg PySem.F.bb_plain_upd _,?_⟩;have Ft:l≠s.heap.objs.size:=aL el Cv
 have Lr:UR (PrA (upd H s.heap.objs.size (.dT []))) prs ps:=BB.P2.mp (fun x y e=>by
  obtain ⟨ka,g1,g2⟩:=e;exact ⟨ka,by rw [am (aL g1 Cv)];exact g1,by rw [am (aL g2 Cv)];exact g2⟩) zm
 have QG:(upd H s.heap.objs.size (.dT [])) h1.objs.size=none:=I2.hok.fresh (Ue _);refine qo (A:=X.A.in1) (d:=s.heap.objs.size) (it:=h1.objs.size) (l:=l) (prs:=prs) (ps:=ps) (I.ok.hd hc) (by show X.A.units+1+8<V1;omega) hn prs.length 0 _ 0 (upd H s.heap.objs.size (.dT [])) [] (ZE _) (UL _) (I2.kept (t':=Gz) fun b o e=>Uj _ e) ab (Ue _) (I2.fpOk (Ue _) QG) ⟨_,Uu _ rfl,rfl,rfl⟩ (by rw [am Ft];exact el) Lr fun s' I'=>?_;rw [ky,Wy] at I';exact ⟨rfl,.ref s.heap.objs.size,_,I',rfl,q _ Cv⟩
end
end L2
namespace BB
open PySem L2
theorem vt {k:Nat} {A:U5} (hr:L2.Room k A):A.units+12<V1:=by
 have:=hr.units;omega
theorem j7 {R:List Key->V->Prop}:∀ (prs f':List (List Key×V)),(∀ k v,aW f' k=some v->R k v)->(∀ p∈prs,R p.1 p.2) →
 (∀ k v,aW (cp f' prs) k=some v->R k v)/\(∀ k,((∃ v,aW f' k=some v)∨∃ p∈prs,p.1=k)->∃ v,aW (cp f' prs) k=some v)
 | [],f',h1,_=>⟨h1,fun k h=>by
   rcases h with h | ⟨p,hp,_⟩
   · exact h
   · cases hp⟩
 | p::prs,f',h1,h2=>by
   have ih:=j7 (R:=R) prs (putK f' p.1 p.2) (fun k v hv=>by
    rw [jh] at hv;by_cases e:k=p.1
    · rw [if_pos e] at hv;cases hv;rw [e];exact h2 p (UM ..)
    · rw [if_neg e] at hv;exact h1 k v hv) (fun x hx=>h2 x (UG _ hx))
   refine ⟨ih.1,fun k h=>ih.2 k ?_⟩;by_cases e:k=p.1
   · left;exact ⟨p.2,by rw [jh,if_pos e]⟩
   · rcases h with ⟨v,hv⟩ | ⟨x,hx,Oh⟩
     · left;exact ⟨v,by rw [jh,if_neg e];exact hv⟩
     · rcases UB.mp hx with rfl | hx
       · exact absurd Oh.symm e
       · exact .inr ⟨x,hx,Oh⟩
end BB
namespace PySem
section
variable {prog:Uv} {w:UK} {A:U5} {E:Ug->Um->Prop} {s:Um}
theorem bb_zip_next0 {z TI TO i1 i2 l1 l2:Ud} {k:Nat} {xs ys:Array Ug} {x y a b:Ug} {Q:Option Ug->Um->Prop} (D:ZA z TI TO i1 i2 l1 l2)
 (hz:Zg s.heap z TI TO .none) (hTI:Ww s.heap TI (.ref i1) (.ref i2)) (hTO:Ww s.heap TO a b)
 (h1:s.heap.IsTupleIter i1 l1 k) (h2:s.heap.IsTupleIter i2 l2 k) (zT:s.heap.IsTuple l1 xs) (zw:s.heap.IsTuple l2 ys) (hx:xs[k]?=some x) (hy:ys[k]?=some y)
 (hQ:∀ h',Zg h' z TI TO (WD s.heap.objs.size)->Ww h' TO x y->h'.IsTupleIter i1 l1 (k+1)->h'.IsTupleIter i2 l2 (k+1)->Ww h' s.heap.objs.size x y->h'.objs.size=s.heap.objs.size+1 →
  (∀ c o,c≠z->c≠TO->c≠i1->c≠i2->s.heap.get? c=some o->h'.get? c=some o)->Q (some (.ref s.heap.objs.size)) { s with heap:=h' }) :
 Uy (UU prog w) A (Xf (.ref z)) Q E s:=by
 have hT:s.TypeIs (.ref z) "zip":=⟨_,hz,rfl⟩;unfold Xf;refine T9 (Xe (Vm (name:=Ui "__next__") hT Xy (Vq Xy hT F.entry_zip_next ?_ (F.args_zip_next_1 _))));exact bb_zip_itemA D hz hTI hTO h1 h2 zT zw hx hy fun h' a1 a2 a3 a4 a5 a6 a7=>Uk (hQ h' a1 a2 a3 a4 a5 a6 a7)
end
end PySem
namespace L2
open PySem PySem.Spec PyProof.Rows
def Itz (K:Ub) (a b:Ud):It:=⟨fun i H=>∃ xs ys x y,SqT K H a xs/\SqT K H b ys/\xs[i]?=some x/\ys[i]?=some y,fun i H v H'=>∃ p x y,H p=none/\v=.ref p/\H'=upd H p (.tup [x,y])/\(∀ xs,SqT K H a xs->xs[i]?=some x)/\(∀ ys,SqT K H b ys->ys[i]?=some y),fun i H=>∃ xs ys,SqT K H a xs/\SqT K H b ys/\(xs.length<=i∨ys.length<=i)⟩
structure ZTn (z TI TO i1 i2 a b:Ud) (i:Nat) (h:Vy):Prop where
 ap:ZA z TI TO i1 i2 a b
 zip:Zg h z TI TO .none
 hTI:Ww h TI (.ref i1) (.ref i2)
 hTO:∃ u v,Ww h TO u v
 h1:h.IsTupleIter i1 a i
 h2:h.IsTupleIter i2 b i
theorem uj {P:Uv} {w:UK} {K:Ub} {elts:List Vs} {k1} {pos:Yd} (a b z TI TO i1 i2:Ud):Turn P w K (.Tuple elts k1 pos) (Itz K a b) [z,TI,TO,i1,i2] z (ZTn z TI TO i1 i2 a b) where
 mem:=by simp
 obj:=fun i h st c hc=>by
  obtain ⟨D,hz,hTI,⟨u,v,hTO⟩,⟨o1,a1,a2,a3⟩,⟨o2,b1,b2,b3⟩⟩:=st;simp only [UB,WJ,or_false] at hc;rcases hc with rfl | rfl | rfl | rfl | rfl
  · exact ⟨_,hz,fun v z=>by cases z⟩
  · exact ⟨_,hTI,fun v z=>by cases z⟩
  · exact ⟨_,hTO,fun v z=>by cases z⟩
  · exact ⟨o1,a1,fun v z=>by rw [a3] at z;cases z⟩
  · exact ⟨o2,b1,fun v z=>by rw [b3] at z;cases z⟩
 keep:=fun i h h' st k=>by
  obtain ⟨D,hz,hTI,⟨u,v,hTO⟩,⟨o1,a1,a2⟩,⟨o2,b1,b2⟩⟩:=st;exact ⟨D,k _ (by simp) _ hz,k _ (by simp) _ hTI,⟨u,v,k _ (by simp) _ hTO⟩,⟨o1,k _ (by simp) _ a1,a2⟩,⟨o2,k _ (by simp) _ b1,b2⟩⟩
 item:=by
  intro X hP hw hK hc i pins s σ H E I hf st hg;subst hP hw hK;obtain ⟨xs,ys,x,y,EC,ED,hx,hy⟩:=hg;obtain ⟨ia,Fp,pa,Gw⟩:=I.tuple EC;obtain ⟨ib,Fq,pb,Lm⟩:=I.tuple ED;obtain ⟨u,hu,ru⟩:=Fp.get hx;obtain ⟨v,hv,rv⟩:=Fq.get hy;obtain ⟨D,hz,hTI,⟨ta,tb,hTO⟩,h1,h2⟩:=st
  have lt:∀ c∈[z,TI,TO,i1,i2],c<s.heap.objs.size:=fun c hc=>by
   simp only [UB,WJ,or_false] at hc;rcases hc with rfl | rfl | rfl | rfl | rfl
   · exact Uw hz
   · exact Uw hTI
   · exact Uw hTO
   · obtain ⟨o,e,_⟩:=h1;exact Uw e
   · obtain ⟨o,e,_⟩:=h2;exact Uw e
  refine bb_zip_next0 D hz hTI hTO h1 h2 (show s.heap.IsTuple a ia.toArray from pa) (show s.heap.IsTuple b ib.toArray from pb) (by simpa using hu) (by simpa using hv) fun B9 a1 a2 a3 a4 a5 a6 a7=>?_;refine ⟨_,rfl,wpAny_letOwnedTupleGo_zip a1 fun BE g1 sb=>?_⟩;replace sb:V9 z B9 BE:=sb;have HE:H s.heap.objs.size=none:=I.hok.fresh (Ue _)
  have IA:Inv X pins σ (upd H s.heap.objs.size (.tup [x,y])) { s with heap:=s.heap.push { cls:=.type "tuple",data:=.seq #[u,v] },toks:=s.toks } :=
   I.laid (o:=.tup [x,y]) (fun b ob q=>Uj _ q) (Ue _) ⟨by show 2<=Uz;decide,[u,v],0,.cons ru (.cons rv .nil),Uu _ rfl⟩
  have SY:s.heap.objs.size≠z:=XC (lt z (by simp));refine ⟨.ref s.heap.objs.size,upd H s.heap.objs.size (.tup [x,y]),?_,rfl,⟨_,x,y,HE,rfl,rfl,fun zs HS=>by rw [I.tuple_inj HS EC];exact hx,fun zs HS=>by rw [I.tuple_inj HS ED];exact hy⟩,?_,fun c hc=>?_⟩
  · have IB:Inv X pins σ (upd H s.heap.objs.size (.tup [x,y])) { s with heap:=BE,toks:=s.toks }:=by
     refine Inv.turnedL (s:={ s with heap:=s.heap.push { cls:=.type "tuple",data:=.seq #[u,v] },toks:=s.toks }) (h':=BE) (fp:=[z,TI,TO,i1,i2]) (t':=s.toks) IA (fun c o hc q=>?_) fun c hc=>?_
     · have n1:c≠z:=fun e=>hc (by simp [e]);have n2:c≠TO:=fun e=>hc (by simp [e]);have n3:c≠i1:=fun e=>hc (by simp [e]);have n4:c≠i2:=fun e=>hc (by simp [e]);rw [sb.2 c n1];by_cases yW:c=s.heap.objs.size
       · subst yW;have q':(s.heap.push { cls:=.type "tuple",data:=.seq #[u,v] }).get? s.heap.objs.size=some o:=q;rw [Uu _ rfl] at q';rw [<- q'];exact a5
       · have q':(s.heap.push { cls:=.type "tuple",data:=.seq #[u,v] }).get? c=some o:=q;rw [Heap.get?_push_ne _ _ _ yW] at q';exact a7 c o n1 n2 n3 n4 q'
     · obtain ⟨f0,f1⟩:=hf c hc;exact ⟨by rw [am (UX (lt c hc))];exact f0,f1⟩
    exact IB
  · have sT:∀ c o,c≠z->B9.get? c=some o->BE.get? c=some o:=fun c o hc e=>(sb.2 c hc).trans e;refine ⟨D,g1,sT _ _ D.TIz (a7 _ _ D.TIz D.TITO D.TIi1 D.TIi2 hTI),⟨_,_,sT _ _ D.TOz a2⟩,?_,?_⟩
    · obtain ⟨o,e,r⟩:=a3;exact ⟨o,sT _ _ D.i1z e,r⟩
    · obtain ⟨o,e,r⟩:=a4;exact ⟨o,sT _ _ D.i2z e,r⟩
  · rw [am (UX (lt c hc))];exact (hf c hc).1
 done:=by
  intro X hP hw hK hc i pins s σ H E I hf st hg;subst hP hw hK;obtain ⟨xs,ys,EC,ED,Av⟩:=hg;obtain ⟨ia,Fp,pa,Gw⟩:=I.tuple EC;obtain ⟨ib,Fq,pb,Lm⟩:=I.tuple ED;have AX:=Fp.length;have Qu:=Fq.length;obtain ⟨D,hz,hTI,hTO,h1,h2⟩:=st;refine bb_zip_done (show X.A.handled=none from I.ok.hd hc) ⟨D,.inl hz,hTI,hTO,h1,h2,pa,pb⟩ ?_ fun h' kp=>⟨rfl,?_⟩
  · rcases Av with h | h
    · exact .inl (by simp;omega)
    · exact .inr (by simp;omega)
  exact I.turnedL (fp:=[z,TI,TO,i1,i2]) (t':=s.toks) (fun c o hc q=>kp c o (fun hm=>hc (by simp only [UB,WJ,or_false] at hm ⊢;rcases hm with h | h | h | h <;> simp [h])) q) hf
 self:=fun _ _ _ _ _ st h=>wpAny_pyIter_zip st.zip h
section
variable {X:Cx} {e1 e2:Vs} {t:TA} {p2 y4:Yd}
def yc (K:Ub) (t:TA):TI:=fun σ H R=>t σ H fun vs H1=>∃ a b,vs=[.ref a,.ref b]/\(∃ xs,SqT K H1 a xs)/\(∃ ys,SqT K H1 b ys)/\R (Itz K a b) H1
theorem ud {elts:List Vs} {k1} {pos:Yd} (g2:Gl X "zip") (m2:X.mg "zip"=none) (ha:PA X [e1,e2] t)
 (h2:Vi [e1,e2] X.env=(false,WE e1 X.env)::Vi [e2] X.env:=by rfl) (h3:(Yl y4 (Vi [e2] X.env)).any (·.1)=false:=by rfl):PI X (.Tuple elts k1 pos) (.Call (.Name "zip" p2) [e1,e2] [] y4) (yc X.K t):=by
 intro pins s σ H R I h;refine VU (dg I g2 m2 boot_zip ?_);refine Vg (thn (ha y4 pins s σ H _ I h) fun us s2 ⟨vs,H2,I2,r,a,b,ev,⟨xs,EC⟩,⟨ys,ED⟩,q⟩=>?_) h2 h3;subst ev;obtain ⟨u1,u2,rfl,r1,r2⟩:=vals2 r;cases r1;cases r2;obtain ⟨ia,Fp,pa,Gw⟩:=I2.tuple EC;obtain ⟨ib,Fq,pb,Lm⟩:=I2.tuple ED;have Aw:a<s2.heap.objs.size:=by obtain ⟨o,e,_⟩:=pa;exact Uw e
 have Ao:b<s2.heap.objs.size:=by obtain ⟨o,e,_⟩:=pb;exact Uw e
 refine bb_call_zip (show s2.heap.IsTuple a ia.toArray from pa) (show s2.heap.IsTuple b ib.toArray from pb) fun h' z1 z2 z3 z4 z5 z6 z7=>?_;have D:ZA (s2.heap.objs.size+4) (s2.heap.objs.size+2) (s2.heap.objs.size+3) s2.heap.objs.size (s2.heap.objs.size+1) a b:=zipApart_new Aw Ao;refine wpAny_pyIter_zip (s:={ s2 with heap:=h' }) z1 ?_;refine ⟨s2.heap.objs.size+4,[s2.heap.objs.size+4,s2.heap.objs.size+2,s2.heap.objs.size+3,s2.heap.objs.size,s2.heap.objs.size+1],_,_,H2,rfl,I2.kept (t':=s2.toks) z7,uj a b _ _ _ _ _,⟨D,z1,z2,⟨_,_,z3⟩,z4,z5⟩,fun c hc=>?_,q⟩
 have zR:s2.heap.objs.size<=c:=by
  simp only [UB,WJ,or_false] at hc;rcases hc with h | h | h | h | h <;> rw [h]
  · exact WI _ _
  · exact WI _ _
  · exact WI _ _
  · exact Ue _
  · exact WI _ _
 exact I2.fpOk zR (I2.hok.fresh zR)
end
end L2
namespace BB
open PySem L2
end BB
namespace BB
open PySem L2
noncomputable section
local instance:DecidableEq Th:=fun _ _=>Classical.propDecidable _
end
end BB
namespace PySem
open Sem (wp)
section
variable {prog:Uv} {w:UK} {K:Type} [DecidableEq K] {knd:HeapKind prog w K} {A:U5} {E:Ug->Um->Prop} {s:Um}
theorem bb_setDefault_heap {d a:Ud} {xs:List (K×Ud×Ug)} {k:K} {v:Ug} {Q:Ug->Um->Prop} (hu:knd.room A) (Ar:knd.is s.heap k a) (hm:s.heap.DictOfH knd d xs)
 (Fu:∀ p,XQ xs k=some p->Q p.2 { s with toks:=s.toks+knd.draws k })
 (Lu:XQ xs k=none->∀ h',h'.DictOfH knd d (Y0 xs k a v)->V9 d s.heap h'->Q v { s with heap:=h',toks:=s.toks+knd.draws k })
 (hsz:xs.length<=Uz):Uy (UU prog w) A (dictSetDefault d (.ref a) v) Q E s:=by
 obtain ⟨o,es,ep,ho,hc,hd,he,J4,hn⟩:=hm;unfold dictSetDefault
 try with_reducible refine VJ ?_
 refine T9 (knd.pyHash hu Ar ?_);refine T9 (wpAny_dictFind_heap (s:={ s with toks:=s.toks+knd.draws k }) hu Ar ho hd he J4 hn ?_ ?_)
 · intro Bv;have Lw:k∉xs.map (·.1):=not_mem_keys_of_get Bv
   refine T9 (W5 (T9 (wpAny_updateDictKeys (hz:=by have e:=size_of_entries he;omega) (s:={ s with toks:=s.toks+knd.draws k }) ho hd (Uk (Lu (Y1 Bv) _ ⟨_,_,ep+1,U2 _ ho (Obj.isFreed_of_dict (Obj.data_mapDictKeys hd _)),
    hc.mapDictKeys _,Obj.data_mapDictKeys hd _,?_,?_,?_⟩ (Wq ..))))))
   · rw [storedH_new (Y1 Bv)];simp [he,entryOfKey]
   · rw [storedH_new (Y1 Bv)];intro x hx;rcases U8.mp hx with hx | hx
     · exact knd.keeps (J4 x hx) ho hd (Wq ..)
     · simp only [UH] at hx;subst hx;exact knd.keeps Ar ho hd (Wq ..)
   · rw [storedH_new (Y1 Bv)];rw [Ut,YD];refine ⟨hn,by simp,?_⟩;intro x hx y hy;simp only [Vd,Wv,UH] at hy;subst hy;exact fun e=>Lw (e ▸ hx)
 · intro j p hj;have h1:=Fu _ (atKey_of_get hn hj);refine T9 (YZ (s:={ s with toks:=s.toks+knd.draws k }) ho hd ?_);rw [entry_at he j,hj];exact T9 (W5 (Uk h1))
theorem bb_meets_setdefault (knd:HeapKind prog w K) (d a:Ud) (dflt:Ug) (hd:(d == Wb)=false) :
 MeetsIn prog w (WY.«dict.setdefault» ⟨[.ref d,.ref a,dflt],[]⟩) (fun A R s=>knd.room A.in1/\∃ k xs,knd.is s.heap k a/\s.heap.DictOfH knd d xs/\xs.length<=Uz ∧
  (∀ p,XQ xs k=some p->R (.ok (.ret p.2)) { s with toks:=s.toks+knd.draws k }) ∧
  (XQ xs k=none->∀ h',h'.DictOfH knd d (Y0 xs k a dflt)->V9 d s.heap h'->R (.ok (.ret dflt)) { s with heap:=h',toks:=s.toks+knd.draws k })) :=
 .of_wp fun A R s ⟨hu,k,xs,Ar,hm,hz,h1,h2⟩=>by
  unfold WY.«dict.setdefault»;refine T9 ?_;unfold Builtin.Dict.keyAndDefault;have hT:s.TypeIs (.ref d) "dict":=hm.typeIs;refine T9 (Zt hT ?_);show Uy _ _ (pure (d,US a,some dflt)) _ _ s;refine Uk ?_;show Uy _ _ (if (d == Wb)=true then _ else (dictSetDefault d (.ref a) dflt >>= _)) _ _ s;rw [if_neg (by rw [hd];exact UD)];exact T9 (bb_setDefault_heap hu Ar hm (fun p hp=>Uk ⟨_,rfl,h1 p hp⟩) (fun hn h' EF zq=>Uk ⟨_,rfl,h2 hn h' EF zq⟩) hz)
end
end PySem
namespace L2
open PySem PySem.Spec PyProof.Rows
end L2
namespace PySem
open Sem (wp)
section
variable {prog:Uv} {w:UK} {A:U5} {R:Result->Um->Prop}
theorem bb_key_loop {S it d:Ud} {es:Array DictEntry} {ep:Nat} {od:Wu} (hh:A.in1.handled=none) (hz:es.size<=Uz) (Fv:S≠it) (HU:S≠d) (J3:d≠it) (g2:od.data=.dict es ep) (res:Ug) :
 ∀ (k i:Nat) (s:Um) (acc:Array Ug) (c:Nat),es.size - i=k->i<=es.size->s.heap.IsKeyIter it d i es.size ep->s.heap.get? d=some od->s.heap.get? S=some { cls:=.type "list",dict:=none,data:=.seq acc c,slots:=#[] }->acc.toList=(es.toList.take i).map (·.key) →
 (∀ h' zA c',(∀ b o,b≠S->b≠it->s.heap.get? b=some o->h'.get? b=some o)->h'.get? S=some { cls:=.type "list",dict:=none,data:=.seq zA c',slots:=#[] }->zA.toList=es.toList.map (·.key)->R (.ok (.ret res)) { s with heap:=h' }) →
 Yk (UU prog w) A (.builtin "list.extend.loop" ⟨[.ref S,.ref it,res],[]⟩) R s:=by
 intro k;induction k with
 | zero =>
   intro i s acc c hk hi hit hd hS yN hR;have BW:i=es.size:=by omega
   subst BW;refine X7 YF ?_;rw [Xd VQ _];show Uy _ A.in1 (Xf (.ref it) >>= _) _ _ s;refine T9 (bb_keyEnd hh hit hd g2 (Ue _) fun h' zV=>Uk ?_);refine hR h' acc c (fun b o _ hb e=>zV b o hb e) (zV _ _ Fv hS) ?_;rw [yN,VG (by rw [UY];omega)]
 | succ k ih =>
   intro i s acc c hk hi hit hd hS yN hR;have yK:i<es.size:=by omega
   refine X7 YF ?_;rw [Xd VQ _];show Uy _ A.in1 (Xf (.ref it) >>= _) _ _ s;have hx:es[i]?=some es[i]:=Wm yK
   have Aw:acc.size=i:=by
    have:=congrArg W7 yN;rw [UY,T8,U1,UY] at this;omega
   refine T9 (bb_keyNext hit hd g2 hx fun h' DQ zV=>?_);have Cr:=(zV.2 S Fv).trans hS;have Am:=(zV.2 d J3).trans hd;show Uy _ A.in1 (YM S (·.push es[i].key) >>= _) _ _ _;refine T9 ?_;have Be:∀ b o,b≠S->h'.get? b=some o->(h'.update S (Vr (·.push es[i].key))).get? b=some o:=fun b o hb e=>(U7 _ _ (V7 hb)).trans e
   refine V6 Cr rfl (Uk ⟨Xg VQ _,ih (i+1) _ (acc.push es[i].key) _ (by omega) yK (DQ.at fun o e=>Be _ _ (V7 Fv) e) (Be _ _ (V7 HU) Am) (U2 _ Cr rfl) ?_ fun Ll zA c' Fm Fn CZ=>?_⟩)
    (by rw [Aw];omega) (by show (acc.push _).size<=Uz+1;rw [Array.size_push,Aw];omega)
   · rw [Array.toList_push,yN,Vz,Ua (by rw [UY];exact yK),Ut];simp
   · exact hR Ll zA c' (fun b o hb yW e=>Fm b o hb yW (Be b o hb ((zV.2 b yW).trans e))) Fn CZ
end
section
variable {prog:Uv} {w:UK} {A:U5} {E:Ug->Um->Prop} {s:Um}
theorem bb_list_keys {d:Ud} {es:Array DictEntry} {ep:Nat} {od:Wu} {Q:Ug->Um->Prop} (hh:A.in1.in1.handled=none) (ns:(d == Wb)=false) (hd:s.heap.get? d=some od) (gc:od.cls=.type "dict") (g2:od.data=.dict es ep) (hz:es.size<=Uz)
 (hQ:∀ h' acc c,(∀ b o,s.heap.get? b=some o->h'.get? b=some o)->h'.get? s.heap.objs.size=some { cls:=.type "list",dict:=none,data:=.seq acc c,slots:=#[] }->acc.toList=es.toList.map (·.key)->Q (.ref s.heap.objs.size) { s with heap:=h' }) :
 Uy (UU prog w) A (call (.type "list") [.ref d]) Q E s:=by
 have Cw:=Uw hd;have HU:s.heap.objs.size≠d:=XC Cw
 refine Zz (Q₁:=fun obj yB=>obj=.ref s.heap.objs.size/\yB={ s with heap:=s.heap.push { cls:=.type "list",data:=.seq #[] } }) F.called_list (F.typeCall_list_1 _) F.entry_list_init
  (code_list_new _ ⟨rfl,rfl⟩) fun obj yB yQ=>?_
 obtain ⟨rfl,rfl⟩:=yQ;have hS:(s.heap.push { cls:=.type "list",data:=.seq #[] }).get? s.heap.objs.size=some { cls:=.type "list",data:=.seq #[] }:=Uu _ rfl;refine ⟨⟨_,hS,rfl⟩,F.args_list_init_2 _ _,?_⟩;show Uy _ A.in1.in1 (do let old ← WX (.ref s.heap.objs.size);Zh (.ref s.heap.objs.size) (fun _=>#[]);letGo old.toList.reverse;Wj (.ref s.heap.objs.size) (.ref d) .none) _ _ _;refine T9 ?_;unfold WX;refine T9 (VI hS rfl (Uk ?_));refine T9 (V6 hS rfl ?_);have zM:=U2 (Vr (fun _=>(#[]:Array Ug))) hS rfl;refine T9 (YY ?_);have B7:((s.heap.push { cls:=.type "list",data:=.seq #[] }).update s.heap.objs.size (Vr (fun _=>(#[]:Array Ug)))).objs.size=s.heap.objs.size+1:=by rw [Yr,Vw]
 generalize hH:(s.heap.push { cls:=.type "list",data:=.seq #[] }).update s.heap.objs.size (Vr (fun _=>(#[]:Array Ug)))=H2 at zM B7 ⊢
 have old:∀ b o,s.heap.get? b=some o->H2.get? b=some o:=fun b o e=>by
  rw [<- hH,U7 _ _ (V7 (UX (Uw e)))];exact Uj _ e
 obtain ⟨c2,DR⟩:∃ c,H2.get? s.heap.objs.size=some { cls:=.type "list",data:=.seq #[] c }:=⟨_,zM⟩;have hd2:=old _ _ hd;have HM:({ s with heap:=H2 }:Um).TypeIs (.ref d) "dict":=⟨_,hd2,gc⟩;unfold Wj;refine T9 (WV HM ?_);have h1:WB (.ref s.heap.objs.size) (.ref d)=false:=by simp [WB,HU]
 have h2:(WH "dict" == WH "list")=false:=by decide
 have h3:(WH "dict" == WH "tuple")=false:=by decide
 simp only [h1,h2,h3,Zs,Vv,if_false];refine T9 (bb_keyIter (s:={ s with heap:=H2 }) ns hd2 gc g2 ?_);refine T9 (VJ ?_);have Fw:(H2.push { cls:=.type "dict_keyiterator",data:=.fields #[.ref d,.int 0 0,.int es.size 0,.int ep 0] }).IsKeyIter H2.objs.size d 0 es.size ep:=⟨_,Uu _ rfl,rfl,rfl⟩;have J5:∀ b o,H2.get? b=some o->(H2.push { cls:=.type "dict_keyiterator",data:=.fields #[.ref d,.int 0 0,.int es.size 0,.int ep 0] }).get? b=some o:=fun b o e=>Uj _ e;have HV:s.heap.objs.size≠H2.objs.size:=by rw [B7];omega
 have Lx:d≠H2.objs.size:=by rw [B7];exact UX (X5 Cw)
 show Uy _ _ _ _ _ ({ s with heap:=H2.push { cls:=.type "dict_keyiterator",data:=.fields #[.ref d,.int 0 0,.int es.size 0,.int ep 0] } }:Um);generalize H2.push { cls:=.type "dict_keyiterator",data:=.fields #[.ref d,.int 0 0,.int es.size 0,.int ep 0] }=H3 at Fw J5 ⊢;have Oi:=J5 _ _ hd2;have Ly:=J5 _ _ DR;have Lz:({ s with heap:=H3 }:Um).TypeIs (.ref d) "dict":=⟨_,Oi,gc⟩
 have key:∀ (h:Vy) (c₁:Nat),h.IsKeyIter H2.objs.size d 0 es.size ep->(∀ b o,b≠s.heap.objs.size->H3.get? b=some o->h.get? b=some o)->h.get? s.heap.objs.size=some { cls:=.type "list",data:=.seq #[] c₁ } →
  Yk (UU prog w) A.in1 (.builtin "list.extend.loop" ⟨[.ref s.heap.objs.size,.ref H2.objs.size,.none],[]⟩) (wants (fun r ze=>r=.none/\Q (.ref s.heap.objs.size) ze) E) { s with heap:=h }:=by
  intro h c₁ hit hk Bc;refine bb_key_loop hh hz HV HU Lx g2 .none es.size 0 _ #[] c₁ rfl (UL _) hit (hk _ _ (V7 HU) Oi) Bc rfl fun h' zA c' hm Cr yN=>?_;refine ⟨rfl,hQ h' zA c' (fun b o e=>?_) Cr yN⟩;have hb:=UX (Uw e);exact hm b o hb (by rw [B7];exact UX (X5 (Uw e))) (hk b o hb (J5 b o (old b o e)))
 unfold WW;refine T9 (VR Lz F.slot_dict_len.lookup ?_);generalize hid:("dict.__len__":String)=Fh
 wp_delta
 rw [show splitId Fh=some ("dict","__len__") from by subst hid;decide +kernel];subst hid;refine T9 (WZ (T:="dict") (b:=true) Lz (by rw [Xk];kernel_rfl) ?_);refine Zm (fun Ax=>absurd Ax (by decide)) (fun _=>?_);refine Zm (fun _=>?_) (fun Ax=>absurd (by decide +kernel) Ax);refine T9 (WV Lz ?_);refine Uk ?_;refine Zm (fun _=>?_) (fun _=>Uk ⟨Xg VQ _,key _ c2 Fw (fun b o _ e=>e) Ly⟩);refine T9 (W5 ?_);refine T9 ?_;show Uy _ _ (YM s.heap.objs.size (·.push .none) >>= fun _=>YM s.heap.objs.size (·.pop)) _ _ _;refine T9 (V6 Ly rfl ?_);have zN:=U2 (Vr (·.push VL)) Ly rfl;refine V6 (hz:=by seq_fits) zN rfl ?_;have Bd:=U2 (Vr (·.pop)) zN rfl
 have Be:∀ b o,b≠s.heap.objs.size->H3.get? b=some o->((H3.update s.heap.objs.size (Vr (·.push VL))).update s.heap.objs.size (Vr (·.pop))).get? b=some o :=
  fun b o hb e=>(U7 _ _ (V7 hb)).trans ((U7 _ _ (V7 hb)).trans e)
 exact Uk ⟨Xg VQ _,key _ _ (Fw.at fun o e=>Be _ _ (V7 HV) e) Be Bd⟩
end
end PySem
namespace L2
open PySem PySem.Spec PyProof.Rows
end L2
namespace L2
open PySem PySem.Spec PyProof.Rows BB
theorem xV {H:Hp} {es:List Dv} {ws:List V} {its:List Ug} (r1:Vals ws its) (zt:DAts H es ws) (j:Nat) (z:Ug) (hz:its[j]?=some z):∃ e y',es[j]?=some e/\DAt H e y'/\RelV y' z:=by
 have hj:j<its.length:=(Uh.mp hz).1;have l1:=r1.length;have l2:=zt.length;have Gx:j<es.length:=by omega
 obtain ⟨y',Bx,dy⟩:=zt.at (Ua Gx);obtain ⟨v',zu,BF⟩:=r1.get Bx;rw [hz] at zu;cases zu;exact ⟨_,y',Ua Gx,dy,BF⟩
theorem xK {H:Hp} {z:Ug} {e e':Dv} {y' C1:V} (h1:DAt H e y') (h2:RelV y' z) (h3:DAt H e' C1) (h4:RelV C1 z):e=e':=by
 have:=h2.inj h4;subst this;exact h1.inj h3
def vd (K:Ub) (B:Nat):V->List V->Hp->VK->Prop:=fun x vs H Q=>∃ (l:Ud) (y:V) (ws:List V) (d:Dv) (es:List Dv) (j:Nat),x=.ref l/\vs=[y]/\SqL K H l ws/\DAt H d y/\DAts H es ws/\cX es<=B/\es[j]?=some d/\(∀ i,i<j->es[i]?≠some d)/\es.length<=100000/\Q (.int (j:Nat)) H
open Classical in
theorem sS {X:Cx} {B:Nat} (hu:X.A.units+B+4<V1):MtM X "list.index" (vd X.K B):=by
 intro pins s σ H x vs v us Q I rx rv h;obtain ⟨l,y,ws,d,es,j,rfl,rfl,hS,hd,zt,hB,hj,Bv,hz,q⟩:=h;cases rx;obtain ⟨u,rfl,ru⟩:=rv.one;obtain ⟨its,r,pl,_⟩:=I.list hS;have hlen:=r.length;have zw:=zt.length;obtain ⟨⟨cls,dd,data,sl⟩,ho,hc,n,J6⟩:=pl.isList;simp only at hc J6;subst hc J6;have BG:j<es.length:=(Uh.mp hj).1
 have LA:∀ (m:Nat) (z:Ug),its[m]?=some z->∃ e y',es[m]?=some e/\DAt H e y'/\RelV y' z/\decide (∃ y',DAt H d y'/\RelV y' z)=decide (e=d):=fun m z hz=>by
  obtain ⟨e,y',he,dy,ry⟩:=xV r zt m z hz;refine ⟨e,y',he,dy,ry,?_⟩;by_cases h:e=d
  · rw [decide_eq_true h,decide_eq_true ⟨y',h ▸ dy,ry⟩]
  · rw [decide_eq_false h,decide_eq_false];rintro ⟨C1,h1,h2⟩;exact h (xK dy ry h1 h2)
 refine YN Xb ⟨_,ho,rfl⟩ PySem.F.entry_list_index (PySem.F.args_list_index_2 _ _)
  (SeqAt.list_indexAt l its.toArray n dd sl u (fun z=>decide (∃ y',DAt H d y'/\RelV y' z)) j (by rw [Uq];omega) (by omega) ?_ ?_) ⟨ho,fun y hy=>?_,⟨.int (j:Nat),H,I.tok _,⟨_,rfl⟩,q⟩⟩
 · obtain ⟨e,y',he,dy,ry,e3⟩:=LA j (its.toArray[j]'(by rw [Uq];omega)) (by simp);rw [hj] at he;cases he;rw [e3];exact decide_eq_true rfl
 · intro m hm yK;obtain ⟨e,y',he,dy,ry,e3⟩:=LA m (its.toArray[m]'hm) (by simp);rw [e3];exact decide_eq_false fun z=>Bv m yK (by rw [he,z])
 · have Bx:y∈its:=by simpa using hy
   obtain ⟨m,hm⟩:=UC.mp Bx;obtain ⟨e,y',he,dy,ry,e3⟩:=LA m y hm;rw [e3];have hq:=fB he;refine oA I _ e d (Ue _) y' _ y u _ dy hd ry ru ?_;show X.A.units+1+_<V1;omega
end L2
namespace PySem
open Sem (wp)
section
variable {prog:Uv} {w:UK} {K:Type} [DecidableEq K] (knd:HeapKind prog w K) (d:Ud)
end
section
variable {prog:Uv} {w:UK} {K:Type} [DecidableEq K] {knd:HeapKind prog w K} {A:U5} {E:Ug->Um->Prop} {s:Um}
end
end PySem
namespace L2
open PySem PySem.Spec PyProof.Rows
end L2
namespace BB
open PySem L2
end BB
namespace BB
open PySem L2
end BB
namespace BB
open PySem L2
theorem size_pos (t:Th):0<t.size:=by cases t <;> (rw [Th.size];omega)
mutual
theorem cL:∀ t:Th,t.tall<=t.size
 | .knot n ts=>by rw [Th.tall,Th.size];have:=jV ts;omega
 | .call _ _=>by rw [Th.tall,Th.size];omega
theorem jV:∀ ts:List Th,bG ts<=aq ts
 | []=>by rw [bG,aq];omega
 | t::ts=>by rw [bG,aq];have:=cL t;have:=jV ts;omega
end
structure v9 (ins outs:List (UP×Int)) (S:Int) (m:Nat) (head:Th) (rows:List (List Th)):Prop where
 len:(rows.length:Int)=S
 row:∀ row∈rows,row.length=ins.length
 fit:∀ row∈rows,∀ (j:Nat) (t:Th) (k:UP×Int),row[j]?=some t->ins[j]?=some k->t.FitS outs S k.2/\t.size<=m
 hdf:head.FitS outs S 1
 hdz:head.size<=m
mutual
theorem FitS.up {ks:List (UP×Int)} {S C:Int}:∀ {t:Th},t.FitS ks 0 0->t.FitS ks S C
 | .call s c,h=>by rw [Th.FitS] at h;omega
 | .knot n ts,h=>by
   rw [Th.FitS] at h ⊢;exact ⟨h.1,FitSs.up h.2⟩
theorem FitSs.up {ks:List (UP×Int)} {S C:Int}:∀ {ts:List Th},FitSs ks 0 0 ts->FitSs ks S C ts
 | [],_=>by rw [FitSs];trivial
 | t::ts,h=>by
   rw [FitSs] at h ⊢;exact ⟨FitS.up h.1,FitSs.up h.2⟩
end
theorem p8 {ks:List (UP×Int)} {S C:Int}:∀ (p:List Int) (t u o:Th),t.sub p=some u->t.FitS ks S C->o.FitS ks S C->(t.put p o).FitS ks S C
 | [],t,u,o,_,_,ho=>by rw [nY];exact ho
 | i::p,t,u,o,h,ht,ho=>by
   obtain ⟨h0,w,hw,hs⟩:=nI h;rw [kX hw];cases t with
   | call a b=>rw [Th.kids] at hw;simp at hw
   | knot n ts =>
     rw [Th.kids] at hw;rw [Th.FitS] at ht;show (Th.knot n (ts.set i.toNat (w.put p o))).FitS ks S C;rw [Th.FitS,Y3];refine ⟨ht.1,FitSs.of fun v hv=>?_⟩;rcases List.mem_or_eq_of_mem_set hv with hv | rfl
     · exact fc ht.2 v hv
     · exact p8 p w u o hs (fc ht.2 w (Uc hw)) ho
end BB
namespace BB
open PySem L2
theorem i5 {α β:Type} {F:α->β->Prop}:∀ {xs:List α} {ys:List β} {i:Nat} {x:α} {y:β},UR F xs ys->xs[i]?=some x->ys[i]?=some y->F x y
 | _,_,_,_,_,.nil,h,_=>by simp at h
 | _,_,0,_,_,.cons r _,h,g=>by simp at h g;subst h;subst g;exact r
 | _,_,i+1,_,_,.cons _ t,h,g=>i5 (i:=i) t (by simpa using h) (by simpa using g)
theorem kY {u:Th}:∀ {ts:List Th},u∈ts->u.size<=aq ts
 | [],h=>by cases h
 | t::ts,h=>by
   rw [aq];rcases UB.mp h with rfl | h
   · omega
   · have:=kY h;omega
structure rL (ws:List UP):Prop where
 len:ws.length=4
 low:∀ x∈ws,Low x/\x.length<=8
 inj:∀ (i j:Nat) (x:UP),ws[i]?=some x->ws[j]?=some x->i=j
def ik (a st:Int) (j:Nat):Nat:=97+((a+5 * st * (j:Int))%26).toNat
theorem uw (a st:Int) (j:Nat):97<=ik a st j/\ik a st j<=122:=by
 unfold ik;have h1:=VA (a+5 * st * (j:Int)) (by decide:(26:Int)≠0);have h2:=Vu (a+5 * st * (j:Int)) (by decide:(0:Int)<26);omega
theorem l8 {a st:Int} (h1:1<=st) (h4:st<=4) {i j:Nat} (hi:i<4) (hj:j<4) (h:ik a st i=ik a st j):i=j:=by
 unfold ik at h;have e1:=VA (a+5 * st * (i:Int)) (by decide:(26:Int)≠0);have e2:=VA (a+5 * st * (j:Int)) (by decide:(26:Int)≠0);have h':(a+5 * st * (i:Int))%26=(a+5 * st * (j:Int))%26:=by omega
 clear h e1 e2;rcases (by omega:st=1∨st=2∨st=3∨st=4) with rfl | rfl | rfl | rfl <;> omega
def jK (c a st:Int) (word:UP) (j:Nat):UP :=
 if c=0 then ⟨#[ik a st j]⟩ else if c=1 then ⟨#[ik a st j]⟩++eE word (some 1) (some 4) else if c=2 then eE word none (some 5)++⟨#[ik a st j]⟩ else eE word none (some (2 * (j:Int)+2))
theorem oP {z:UP} (h:z.length=8):(eE z (some 1) (some 4)).length=3:=by
 have hz:z.cps.toList.length=8:=by rw [UY];exact h
 show (ko z.cps.toList (some 1) (some 4)).toArray.size=3;rw [Uq];unfold ko;rw [show (some (1:Int))=some ((1:Nat):Int) from rfl,show (some (4:Int))=some ((4:Nat):Int) from rfl,HT.sIx_nat,HT.sIx_nat,hz,U1,Vx,hz];rfl
theorem uo {c a st:Int} {word:UP} (hw:Low word) (hl:word.length=8) {j:Nat} (hj:j<4):Low (jK c a st word j)/\(jK c a st word j).length<=8:=by
 have ht:=uw a st j;unfold jK;split
 · exact ⟨kx ht.1 ht.2,by show 1<=8;omega⟩
 · split
   · refine ⟨oj (kx ht.1 ht.2) (nW hw _ _),?_⟩;rw [strLen_append,oP hl];show 1+3<=8;omega
   · split
     · refine ⟨oj (nW hw _ _) (kx ht.1 ht.2),?_⟩;have:=(fy (z:=word) (n:=5) (by omega)).2;rw [strLen_append];show (eE word none (some ((5:Nat):Int))).length+1<=8;omega
     · refine ⟨nW hw _ _,?_⟩;have:=(fy (z:=word) (n:=2 * j+2) (by omega)).2;have e:(2 * (j:Int)+2)=((2 * j+2:Nat):Int):=by omega
       rw [e];omega
theorem uF {c a st:Int} {word:UP} (h1:1<=st) (h4:st<=4) (hl:word.length=8) {i j:Nat} (hi:i<4) (hj:j<4) (h:jK c a st word i=jK c a st word j):i=j:=by
 unfold jK at h;split at h
 · refine l8 h1 h4 hi hj (a:=a) ?_;have h2:=congrArg (fun z:UP=>z.cps.toList) h;simpa using h2
 · split at h
   · refine l8 h1 h4 hi hj (a:=a) ?_;have h2:((#[ik a st i]:Array Nat)++(eE word (some 1) (some 4)).cps).toList=((#[ik a st j]:Array Nat)++(eE word (some 1) (some 4)).cps).toList:=congrArg (fun z:UP=>z.cps.toList) h;rw [XM,XM] at h2;have h3:=List.append_cancel_right h2;simpa using h3
   · split at h
     · refine l8 h1 h4 hi hj (a:=a) ?_;have h2:((eE word none (some 5)).cps++(#[ik a st i]:Array Nat)).toList=((eE word none (some 5)).cps++(#[ik a st j]:Array Nat)).toList:=congrArg (fun z:UP=>z.cps.toList) h;rw [XM,XM] at h2;have h3:=List.append_cancel_left h2;simpa using h3
     · have e1:(2 * (i:Int)+2)=((2 * i+2:Nat):Int):=by omega
       have e2:(2 * (j:Int)+2)=((2 * j+2:Nat):Int):=by omega
       rw [e1,e2] at h;have l1:=(fy (z:=word) (n:=2 * i+2) (by omega)).2;have l2:=(fy (z:=word) (n:=2 * j+2) (by omega)).2;rw [h] at l1;omega
theorem lr {H:Hp}:∀ {ks:List (UP×Int)} {as:List Ud},KsAt H ks as->∀ z∈ks.zip as,z.1∈ks/\KAt H z.1 z.2
 | _,_,.nil,z,hz=>by simp at hz
 | _,_,.cons (a:=k) (b:=a) r t,z,hz=>by
   rw [Xj] at hz;rcases UB.mp hz with rfl | hz
   · exact ⟨UM ..,r⟩
   · obtain ⟨h1,h2⟩:=lr t z hz;exact ⟨UG _ h1,h2⟩
theorem qb {K:Ub} {js:List (Option Nat)} {tt:TT} {te:TE} {σ:St} {H:Hp} {kr:Ud} {yV:List Ud} {ks:List (UP×Int)} {fin:Ud->Hp->Prop} (p:UP×Int->Bool) (e:H kr=some (.tup (yV.map V.ref))) (Ay:KsAt H ks yV) (hl:ks.length<=1000) (hp:∃ k∈ks,p k=true)
 (HB:∀ (z:UP×Int) (ka:Ud) (H2:Hp) (R:Bool->Hp->Prop),L2.Same H H2->KAt H2 z ka->R (p z) H2->tt ((cσ js σ).set 0 (some (.ref ka))) H2 R)
 (HC:∀ (ka:Ud) (H2:Hp) (R:VK),R (.ref ka) H2->te ((cσ js σ).set 0 (some (.ref ka))) H2 R)
 (q:∀ (D:Ud) (bs:List ((UP×Int)×Ud)) (H':Hp),H D=none->H'=upd H D (.lst (bs.map fun z=>V.ref z.2))->1<=bs.length->bs.length<=ks.length->(∀ z∈bs,z.1∈ks/\p z.1=true/\KAt H z.1 z.2)->fin D H') :
 ∀ D,H D=none->∃ (n:Nat) (W:Nat->Hp->Prop),W 0 (upd H D (.lst []))/\f8 js (aG 0) tt te σ (Itt K kr) D n W fun H'=>fin D H':=by
 have zE:ks.length=yV.length:=Up Ay;have Oj:(ks.zip yV).length=ks.length:=by rw [Xm];omega
 have Gw:∀ (i:Nat) (x:V) (z:(UP×Int)×Ud),(yV.map V.ref)[i]?=some x->(ks.zip yV)[i]?=some z->x=.ref z.2:=fun i x z hx hz=>by
  obtain ⟨ka,rfl,zr⟩:=aT hx;obtain ⟨h1,h2⟩:=Wk.mp hz;rw [zr] at h2;cases h2;rfl
 refine pf (ks.zip yV) (fun z=>p z.1) (fun z=>.ref z.2) (SqT.of e) (by rw [Oj,T8];exact zE) (by rw [T8];omega) (fun i x z H2 R hx hz sm r=>?_) (fun i x z H2 R hx hz _ sm r=>?_) (fun D hD=>?_)
 · rw [Gw i x z hx hz];have:=(lr Ay z (Uc hz)).2;exact HB z.1 z.2 H2 R sm (sm _ _ this) r
 · rw [Gw i x z hx hz];exact HC z.2 H2 R r
 · refine q D _ _ hD rfl ?_ ?_ ?_
   · obtain ⟨k,hk,QH⟩:=hp;obtain ⟨i,hi,rfl⟩:=List.getElem_of_mem hk;have hz:(ks.zip yV)[i]'(by omega)∈(ks.zip yV).filter fun z=>p z.1:=V0.mpr ⟨Ye _,by rw [List.getElem_zip];exact QH⟩;exact List.length_pos_of_mem hz
   · exact V3 (WU _ _) (by omega)
   · intro z hz;obtain ⟨h1,h2⟩:=V0.mp hz;obtain ⟨h3,h4⟩:=lr Ay z h1;exact ⟨h3,h2,h4⟩
end BB
namespace BB
open PySem L2 PySem.Builtin PySem.Builtin.Str
end BB
namespace L2
open PySem PySem.Spec PySem.Calls PyProof.Rows BB
section
variable {X:Cx} {pins:List (Ud×Wu)} {σ:List (Option V)} {H:Hp} {s:Um}
end
end L2
namespace L2
open PySem PySem.Spec PySem.Calls PyProof.Rows PySem.Builtin PySem.Builtin.Str BB
variable {X:Cx}
end L2
namespace BB
open PySem L2
end BB
namespace BB
open PySem L2
section
variable {H H':Hp} {t:Th} {a:Ud} {ts:List Th} {es:List Ud}
end
end BB
namespace L2
open PySem PySem.Spec PyProof.Rows BB
variable {X:Cx}
end L2
namespace L2
open PySem PySem.Spec PyProof.Rows PySem.W
end L2
namespace L2
open PySem PySem.Spec PyProof.Rows BB
variable {X:Cx}
end L2
namespace L2
open PySem PySem.Spec PySem.Calls PyProof.Rows PySem.W
end L2
namespace BB
open PySem L2 PySem.Builtin PySem.Builtin.Str
end BB
namespace L2
open PySem PySem.Spec PySem.Calls PyProof.Rows PySem.Builtin PySem.Builtin.Str BB
variable {X:Cx}
end L2
namespace L2
open PySem PySem.Spec PyProof.Rows
end L2
namespace BB
open PySem L2
end BB
namespace L2
open PySem PySem.Spec PyProof.Rows
end L2
namespace L2
open PySem PySem.Spec PySem.Calls PyProof.Rows
section
variable {X:Cx} {CX:CXT} {k i:Nat} {E:XK} {x:UP} {p pos:Yd} {e:Vs} {es:List Vs} {t:TA}
end
section
variable {X:Cx} {k:Nat} {f:Ud} {fd:Xw} {ps:List UP} {sp:Sp} {x:UP} {p pos:Yd} {e:Vs} {es:List Vs} {t:TA}
end
end L2
namespace L2
open PySem PySem.Spec PyProof.Rows
end L2
namespace L2
open PySem PySem.Spec PyProof.Rows
end L2
namespace BB
open PySem L2
theorem gY (f:Int->Int->Th):∀ ts:List Th,fills f ts=ts.map (·.fill f)
 | []=>rfl
 | t::ts=>by rw [fills,gY f ts];rfl
def rowOf (rows:List (List Th)) (s:Int):List Th:=rows.getD s.toNat []
section
variable {head:Th} {rows:List (List Th)}
end
end BB
namespace L2
open PySem PySem.Spec PySem.SeqAt PyProof.Rows
theorem lN {α:Type} [DecidableEq α] {s:Um} {A:U5} {a b:Ud} {its yF:List Ug} {ds es:List α} (p1:s.heap.IsTuple a its.toArray) (p2:s.heap.IsTuple b yF.toArray) (l1:its.length=ds.length) (l2:yF.length=es.length) (hu:A.units<V1)
 (ih:∀ (j:Nat) (d e:α) (u v:Ug),ds[j]?=some d->es[j]?=some e->its[j]?=some u->yF[j]?=some v->EqAt A.in1 s u v (decide (d=e))):RcAt A s (.ref a) (.ref b) (decide (ds=es)):=by
 have C0:RcAt A s (.ref a) (.ref b) ((UT (min its.toArray.size yF.toArray.size)).all (fun j=>decide (ds[j]?=es[j]?)) && its.toArray.size == yF.toArray.size):=by
  refine RcAt.tuples p1 p2 hu fun j h1 h2=>?_;have B9:j<ds.length:=by rw [<- l1];simpa using h1
  have BE:j<es.length:=by rw [<- l2];simpa using h2
  have e1:ds[j]?=some ds[j]:=Ua B9;have e2:es[j]?=some es[j]:=Ua BE;have e3:decide (ds[j]?=es[j]?)=decide (ds[j]=es[j]):=by rw [e1,e2];simp
  have g1:its[j]?=some its[j]:=Ua (by rw [l1];exact B9);have g2:yF[j]?=some yF[j]:=Ua (by rw [l2];exact BE);rw [e3];exact ih j ds[j] es[j] its[j] yF[j] e1 e2 g1 g2
 have e:decide (ds=es)=((UT (min its.toArray.size yF.toArray.size)).all (fun j=>decide (ds[j]?=es[j]?)) && its.toArray.size == yF.toArray.size):=by
  rw [Uq,Uq,l1,l2];by_cases h:ds=es
  · subst h;rw [decide_eq_true rfl];symm;simp
  · rw [decide_eq_false h];symm;by_cases hl:ds.length=es.length
    · rw [hl,YW]
      have:¬ ((UT es.length).all (fun j=>decide (ds[j]?=es[j]?)))=true:=by
       intro z;apply h;apply YE;intro j;by_cases hj:j<es.length
       · exact of_decide_eq_true (WL.mp z j (WO.mpr hj))
       · rw [Wa (by omega),Wa (by omega)]
      rw [VP.mpr this];rfl
    · have:(ds.length == es.length)=false:=by simpa using hl
      rw [this,YA]
 rw [e];exact C0
theorem pU {A:U5} {s:Um} {k l:Key} {u v:Ug} (hu:iw k u=true) (hv:iw l v=true):EqAt A s u v (decide (k=l)):=by
 rcases bj hu with ⟨i,t,rfl,rfl⟩ | ⟨x,t,rfl,rfl⟩
 · rcases bj hv with ⟨j,t',rfl,rfl⟩ | ⟨y,t',rfl,rfl⟩
   · have:decide ((UZ i:Key)=UZ j)=(i == j):=by
      by_cases h:i=j
      · subst h;simp
      · rw [decide_eq_false (fun z=>h (Xh z)),beq_eq_false_iff_ne.mpr h]
     rw [this];exact EqAt.int_int i t j t'
   · rw [decide_eq_false (fun z=>nomatch z)];exact EqAt.int_str i t y t'
 · rcases bj hv with ⟨j,t',rfl,rfl⟩ | ⟨y,t',rfl,rfl⟩
   · rw [decide_eq_false (fun z=>nomatch z)];exact EqAt.str_int x t j t'
   · have:decide ((XA x:Key)=XA y)=(x == y):=by
      by_cases h:x=y
      · subst h;simp
      · rw [decide_eq_false (fun z=>h (Sum.inr.inj z)),beq_eq_false_iff_ne.mpr h]
     rw [this];exact EqAt.str_str x t y t'
theorem jC {P:Uv} {w:UK}:∀ {ks:List Key} {vs:List Ug} {j:Nat} {k:Key} {v:Ug},ItemsAre (aE P w) ks vs->ks[j]?=some k->vs[j]?=some v->iw k v=true
 | _,_,0,k,v,.cons h _,e1,e2=>by cases e1;cases e2;exact h
 | _,_,j+1,k,v,.cons _ h,e1,e2=>jC (j:=j) h e1 e2
theorem sI {P:Uv} {w:UK} {A:U5} {s:Um} {x y:List Key} {a b:Ud} (hx:IsTupleKey (aE P w) s.heap x a) (hy:IsTupleKey (aE P w) s.heap y b) (hu:A.units<V1):EqAt A s (.ref a) (.ref b) (decide (x=y)):=by
 by_cases Ax:a=b
 · subst Ax;obtain rfl:=hx.inj hy;rw [decide_eq_true rfl];exact EqAt.same _
 · obtain ⟨o,its,n,ho,hc,hd,hi⟩:=hx;obtain ⟨o',its',n',AH,zR,Am,y9⟩:=hy;have p1:s.heap.IsTuple a its.toList.toArray:=⟨o,ho,hc,n,by rw [hd]⟩;have p2:s.heap.IsTuple b its'.toList.toArray:=⟨o',AH,zR,n',by rw [Am]⟩;have:=lN (ds:=x) (es:=y) p1 p2 hi.length.symm y9.length.symm hu fun j d e u v e1 e2 e3 e4=>pU (A:=A.in1) (s:=s) (jC hi e1 e3) (jC y9 e2 e4);exact EqAt.of_refs Ax this
abbrev aD:=List Key×Key
theorem qz {P:Uv} {w:UK} {A:U5} {E:Ug->Um->Prop} {s:Um} {m:Nat} {ks:List Key} {a:Ud} {Q:Bool->Um->Prop} (hk:IsTupleKey (aE P w) s.heap ks a) (h:Q true s):Uy (UU P w) A (eqIsQuiet (m+1) (.ref a)) Q E s:=by
 have hT:=hk.typeIs;obtain ⟨o,items,n,ho,_,hd,hi⟩:=hk;unfold eqIsQuiet;refine T9 (VR hT F.slot_tuple_eq.lookup ?_);show Uy _ _ (isInstance (.ref a) (.type "tuple") >>= _) _ _ s;refine T9 (WZ hT isSubtype_tuple_tuple ?_);simp only [Yg,Vv,if_false];refine T9 (VI ho hd ?_);refine T9 ?_;show Uy _ _ (forIn items _ _) _ _ s;rw [<- X1];refine wpAny_forIn_list _ (fun rest r s'=>r.1=none/\s'=s/\∀ v∈rest,carriedByValue v=true) _ ?_ ?_ _ _ ⟨rfl,rfl,hi.byValue⟩
 · rintro v rest r s' ⟨hr,rfl,yG⟩;rw [eqIsQuiet_byValue _ (yG v UM)];refine T9 (Uk ?_);simp only [Yg,Vv,if_false];exact Uk ⟨rfl,rfl,fun u zZ=>yG u (UG _ zZ)⟩
 · rintro ⟨r1,r2⟩ s' ⟨hr,rfl,_⟩;simp only at hr;subst hr;exact Uk h
section
variable {X:Cx} {pins:List (Ud×Wu)} {σ:St} {H:Hp} {s:Um} {o i value:Vs} {pos pos':Yd} {td ty tv:TE}
end
end L2
namespace BB
open PySem L2
end BB
namespace BB
open PySem L2
theorem FitSs.mem' {ks:List (UP×Int)} {S C:Int}:∀ {ts:List Th},FitSs ks S C ts->∀ t∈ts,t.FitS ks S C
 | [],_,t,ht=>by cases ht
 | u::us,h,t,ht=>by
   rw [FitSs] at h;rcases UB.mp ht with e | e
   · rw [e];exact h.1
   · exact FitSs.mem' h.2 t e
structure xH (ins outs:List (UP×Int)) (S:Int) (rows:List (List Th)):Prop where
 len:(rows.length:Int)=S
 row:∀ row∈rows,row.length=ins.length/\∀ (j:Nat) (p:Th) (k:UP×Int),row[j]?=some p->ins[j]?=some k->p.FitS outs S k.2
end BB
namespace BB
open PySem L2
end BB
namespace BB
open PySem L2
theorem sG {ins outs:List (UP×Int)} {S:Int} {rows:List (List Th)} (ok:xH ins outs S rows) {l:Int} (h0:0<=l) (h1:l<S):∃ row,rows[l.toNat]?=some row/\rowOf rows l=row/\row.length=ins.length/\∀ t∈row,∃ C,t.FitS outs S C:=by
 have hl:=ok.len;have hs:l.toNat<rows.length:=by omega
 refine ⟨rows[l.toNat],Ua hs,?_,(ok.row _ (Ye hs)).1,fun t ht=>?_⟩
 · unfold rowOf;rw [List.getD,Ua hs];rfl
 · obtain ⟨hlen,BH⟩:=ok.row _ (Ye hs);obtain ⟨j,hj⟩:=UC.mp ht;have BG:=(Uh.mp hj).1;exact ⟨_,BH j t _ hj (Ua (by omega))⟩
section
variable {ins mid outs:List (UP×Int)} {S1 S2:Int} {C3 C4:Th} {C5 C6:List (List Th)}
end
end BB
namespace L2
open PySem PySem.Spec PySem.Calls PyProof.Rows
end L2
namespace BB
open PySem L2
end BB
namespace BB
open PySem L2
section
variable {ins mid outs:List (UP×Int)} {S1 S2:Int} {C3 C4:Th} {C5 C6:List (List Th)} {QI QJ QK QL QM QN QO:Nat}
end
end BB
namespace BB
open PySem L2
theorem lv {H:Hp}:∀ {ts:List Th} {as:List Ud},UR (At H) ts as->Ats H ts as
 | _,_,.nil=>.nil
 | _,_,.cons h g=>.cons h (lv g)
end BB
namespace BB
open PySem L2
end BB
namespace L2
open PySem PySem.Spec PySem.Calls PyProof.Rows
end L2
namespace L2
open PySem PySem.Spec PySem.Calls PyProof.Rows
end L2
namespace BB
open PySem L2
end BB
namespace BB
open PySem L2
section
variable {k0 k1 k2 k3:List (UP×Int)} {SA SB SC:Int} {a0 b0 c0:Th} {Ol Om Oo:List (List Th)}
end
end BB
namespace BB
open PySem L2
section
variable {ins mid outs:List (UP×Int)} {S1 S2:Int} {C3 C4:Th} {C5 C6:List (List Th)} {QI QJ QK QL QM QN QO:Nat}
end
end BB
namespace BB
theorem wa {p:Prop} [Decidable p] {A B:Prop} (hp:p) (h:A):if decide p=true then A else B:=by rw [if_pos (decide_eq_true hp)];exact h
theorem hid {G:Prop} (k:∀ F:Prop,(G->F)->F):G:=k G id
inductive Ex1 {A0:Type} (p:A0->Prop):Prop
 | mk (x0:A0) (h:p x0):Ex1 p
inductive Ex2 {A0 A1:Type} (p:A0->A1->Prop):Prop
 | mk (x0:A0) (x1:A1) (h:p x0 x1):Ex2 p
inductive Ex3 {A0 A1 A2:Type} (p:A0->A1->A2->Prop):Prop
 | mk (x0:A0) (x1:A1) (x2:A2) (h:p x0 x1 x2):Ex3 p
inductive Ex4 {A0 A1 A2 A3:Type} (p:A0->A1->A2->A3->Prop):Prop
 | mk (x0:A0) (x1:A1) (x2:A2) (x3:A3) (h:p x0 x1 x2 x3):Ex4 p
inductive Ex5 {A0 A1 A2 A3 A4:Type} (p:A0->A1->A2->A3->A4->Prop):Prop
 | mk (x0:A0) (x1:A1) (x2:A2) (x3:A3) (x4:A4) (h:p x0 x1 x2 x3 x4):Ex5 p
inductive Ex6 {A0 A1 A2 A3 A4 A5:Type} (p:A0->A1->A2->A3->A4->A5->Prop):Prop
 | mk (x0:A0) (x1:A1) (x2:A2) (x3:A3) (x4:A4) (x5:A5) (h:p x0 x1 x2 x3 x4 x5):Ex6 p
inductive Ex7 {A0 A1 A2 A3 A4 A5 A6:Type} (p:A0->A1->A2->A3->A4->A5->A6->Prop):Prop
 | mk (x0:A0) (x1:A1) (x2:A2) (x3:A3) (x4:A4) (x5:A5) (x6:A6) (h:p x0 x1 x2 x3 x4 x5 x6):Ex7 p
inductive xC {A0 A1 A2 A3 A4 A5 A6 A7 A8 A9 Oq:Type} (p:A0->A1->A2->A3->A4->A5->A6->A7->A8->A9->Oq->Prop):Prop
 | mk (x0:A0) (x1:A1) (x2:A2) (x3:A3) (x4:A4) (x5:A5) (x6:A6) (x7:A7) (x8:A8) (x9:A9) (QP:Oq) (h:p x0 x1 x2 x3 x4 x5 x6 x7 x8 x9 QP):xC p
inductive An2 (a0 a1:Prop):Prop
 | mk (h0:a0) (h1:a1):An2 a0 a1
inductive An3 (a0 a1 a2:Prop):Prop
 | mk (h0:a0) (h1:a1) (h2:a2):An3 a0 a1 a2
inductive An4 (a0 a1 a2 a3:Prop):Prop
 | mk (h0:a0) (h1:a1) (h2:a2) (h3:a3):An4 a0 a1 a2 a3
inductive An5 (a0 a1 a2 a3 a4:Prop):Prop
 | mk (h0:a0) (h1:a1) (h2:a2) (h3:a3) (h4:a4):An5 a0 a1 a2 a3 a4
inductive An6 (a0 a1 a2 a3 a4 a5:Prop):Prop
 | mk (h0:a0) (h1:a1) (h2:a2) (h3:a3) (h4:a4) (h5:a5):An6 a0 a1 a2 a3 a4 a5
inductive An8 (a0 a1 a2 a3 a4 a5 a6 a7:Prop):Prop
 | mk (h0:a0) (h1:a1) (h2:a2) (h3:a3) (h4:a4) (h5:a5) (h6:a6) (h7:a7):An8 a0 a1 a2 a3 a4 a5 a6 a7
inductive An9 (a0 a1 a2 a3 a4 a5 a6 a7 a8:Prop):Prop
 | mk (h0:a0) (h1:a1) (h2:a2) (h3:a3) (h4:a4) (h5:a5) (h6:a6) (h7:a7) (h8:a8):An9 a0 a1 a2 a3 a4 a5 a6 a7 a8
inductive wD (a0 a1 a2 a3 a4 a5 a6 a7 a8 a9:Prop):Prop
 | mk (h0:a0) (h1:a1) (h2:a2) (h3:a3) (h4:a4) (h5:a5) (h6:a6) (h7:a7) (h8:a8) (h9:a9):wD a0 a1 a2 a3 a4 a5 a6 a7 a8 a9
end BB
namespace L2
open PySem PySem.Spec PyProof.Rows
end L2
namespace BB
open PySem L2
section
variable {ins outs:List (UP×Int)} {S:Int} {d:Nat} {head:Th} {rows:List (List Th)}
end
end BB
namespace L2
open PySem PySem.Spec PyProof.Rows
end L2
namespace L2
open PySem PySem.Spec PyProof.Rows
end L2
namespace L2
open PySem PySem.Spec PyProof.Rows
section
variable {X:Cx} {e:Vs} {te:TE} {apos yP:Yd}
end
section
variable {X:Cx} {e:Vs} {te:TE} {apos yP:Yd}
end
end L2
namespace PySem
open Sem (wp)
section
variable {prog:Uv} {w:UK} {A:U5} {E:Ug->Um->Prop} {s:Um} {it d:Ud} {i ep:Nat} {od:Wu} {es:Array DictEntry} {ok ov:Ug}
end
end PySem
namespace L2
open PySem PySem.Spec PyProof.Rows
section
variable {X:Cx} {e:Vs} {te:TE} {apos yP:Yd}
end
end L2
namespace L2
open PySem PySem.Spec PyProof.Rows
section
variable {X:Cx} {e1 e2:Vs} {t:TA} {p2 y4:Yd}
end
end L2
namespace L2
open PySem PySem.Spec PyProof.Rows
section
variable {X:Cx} {pins:List (Ud×Wu)} {σ:St}
end
end L2
namespace BB
open PySem L2
theorem nF (pre:List Int) (n:UP) (ts:List Th):callsOf (Th.pl pre (.knot n ts))=callsOf (pls pre 0 ts):=by
 rw [Th.pl];rfl
theorem nT (pre:List Int) (s k:Int):callsOf (Th.pl pre (.call s k))=[(pre,s,k)]:=by
 rw [Th.pl];rfl
theorem nZ (pre:List Int) (i:Int) (t:Th) (ts:List Th):callsOf (pls pre i (t::ts))=callsOf (t.pl (pre++[i]))++callsOf (pls pre (i+1) ts):=by
 rw [pls,dW]
end BB
namespace BB
open PySem L2
end BB
namespace BB
open PySem L2
theorem mS {α:Type}:∀ {l m:List α},l.Nodup->(∀ a∈l,a∈m)->l.length<=m.length
 | [],m,_,_=>UL _
 | a::l,m,h,hs=>by
   rw [Yp] at h;obtain ⟨m1,m2,rfl⟩:=List.append_of_mem (hs a (UM ..))
   have:l.length<=(m1++m2).length:=mS h.2 fun b hb=>by
    rcases U8.mp (hs b (UG _ hb)) with z | z
    · exact Vf _ z
    · rcases UB.mp z with z | z
      · exact absurd (z ▸ hb) h.1
      · exact U6 _ z
   rw [UA,Uo] at *;rw [Uo];omega
end BB
namespace L2
open PySem
theorem t6 {K:Ub} {a:Ud} {xs:List V} {g:TG} {tb:TS} {D:Ends} {σ:St} {H:Hp} (Pv:Nat->St->Hp->Prop) (h0:Pv 0 σ H) (hl:∀ i σ H,i<=xs.length->Pv i σ H->SqT K H a xs)
 (hs:∀ i x p σ H,xs[i]?=some x->H p=none->Pv i σ H->g (.ref p) σ (upd H p (.tup [.int (i:Nat),x])) fun yT H2=>tb { D with nx:=Pv (i+1),ct:=Pv (i+1),bk:=D.nx } yT H2) (hd:∀ σ H,Pv xs.length σ H->D.nx σ H) :
 ∃ W:Nat->Nat->St->Hp->Prop,(∃ m,W 0 m σ H)/\∀ i m σ H,W i m σ H →
   ((Ite K a).stop i H/\D.nx σ H)∨((Ite K a).go i H/\∃ N:St->Hp->Prop,(∀ yA H',N yA H'->∃ m',m'<m/\W (i+1) m' yA H')/\∀ x H',(Ite K a).yld i H x H'->g x σ H' fun yT H2=>tb { D with nx:=N,ct:=N,bk:=D.nx } yT H2):=by
 refine ⟨fun i m σ H=>m=xs.length - i/\i<=xs.length/\Pv i σ H,⟨xs.length,by simp,UL _,h0⟩,?_⟩;rintro i m σ H ⟨rfl,hi,p⟩;have q:=hl i σ H hi p;by_cases yK:i<xs.length
 · refine .inr ⟨⟨xs,xs[i],q,by simp [yK]⟩,Pv (i+1),fun yA H' p'=>⟨xs.length - (i+1),by omega,rfl,yK,p'⟩,fun x H' y=>?_⟩;obtain ⟨pa,y,hp,rfl,rfl,hy⟩:=y;exact hs i y pa σ H (hy xs q) hp p
 · have e:i=xs.length:=by omega
   subst e;exact .inl ⟨⟨xs,q,rfl⟩,hd σ H p⟩
theorem rS {K:Ub} {a b:Ud} {xs ys:List V} {g:TG} {tb:TS} {D:Ends} {σ:St} {H:Hp} (S3:xs.length=ys.length) (Pv:Nat->St->Hp->Prop) (h0:Pv 0 σ H) (hl:∀ i σ H,i<=xs.length->Pv i σ H->SqT K H a xs/\SqT K H b ys)
 (hs:∀ i x y p σ H,xs[i]?=some x->ys[i]?=some y->H p=none->Pv i σ H->g (.ref p) σ (upd H p (.tup [x,y])) fun yT H2=>tb { D with nx:=Pv (i+1),ct:=Pv (i+1),bk:=D.nx } yT H2) (hd:∀ σ H,Pv xs.length σ H->D.nx σ H) :
 ∃ W:Nat->Nat->St->Hp->Prop,(∃ m,W 0 m σ H)/\∀ i m σ H,W i m σ H →
   ((Itz K a b).stop i H/\D.nx σ H)∨((Itz K a b).go i H/\∃ N:St->Hp->Prop,(∀ yA H',N yA H'->∃ m',m'<m/\W (i+1) m' yA H')/\∀ x H',(Itz K a b).yld i H x H'->g x σ H' fun yT H2=>tb { D with nx:=N,ct:=N,bk:=D.nx } yT H2):=by
 refine ⟨fun i m σ H=>m=xs.length - i/\i<=xs.length/\Pv i σ H,⟨xs.length,by simp,UL _,h0⟩,?_⟩;rintro i m σ H ⟨rfl,hi,p⟩;obtain ⟨q1,q2⟩:=hl i σ H hi p;by_cases yK:i<xs.length
 · have LB:i<ys.length:=by omega
   refine .inr ⟨⟨xs,ys,xs[i],ys[i],q1,q2,by simp [yK],by simp [LB]⟩,Pv (i+1),fun yA H' p'=>⟨xs.length - (i+1),by omega,rfl,yK,p'⟩,fun x H' y=>?_⟩;obtain ⟨pa,x,y,hp,rfl,rfl,hx,hy⟩:=y;exact hs i x y pa σ H (hx xs q1) (hy ys q2) hp p
 · have e:i=xs.length:=by omega
   subst e;exact .inl ⟨⟨xs,ys,q1,q2,.inl (Ue _)⟩,hd σ H p⟩
end L2
namespace BB
open PySem L2
end BB
namespace BB
open PySem L2
end BB
namespace BB
open PySem L2
section
variable {C:Ud} {Dp:DP} {ins:List (UP×Int)} {rows:List (List Th)} {head:Th} {ok:Th->Prop} {H:Hp} {L:Lv} {i:Nat} {n:Nd} {B:Lv} {Hg:Hp} {B':Lv} {sp:List (Key×V)}
end
end BB
namespace BB
open PySem L2
end BB
namespace BB
open PySem L2
end BB
namespace BB
open PySem L2
section
variable {C:Ud} {Dp:DP} {ins:List (UP×Int)} {rows:List (List Th)} {head:Th} {ok:Th->Prop} {H0:Hp} {L B:Lv} {i:Nat} {H:Hp} {L' B':Lv}
end
end BB
namespace BB
open PySem L2
end BB
namespace BB
open PySem L2
end BB
namespace BB
open PySem L2
mutual
theorem gW {ks:List (UP×Int)} {S C:Int}:∀ (t:Th) (pre:List Int),t.FitS ks S C->∀ c∈callsOf (t.pl pre),0<=c.2.1/\c.2.1<S/\0<=c.2.2/\c.2.2<C
 | .call s k,pre,h,c,hc=>by
   rw [nT] at hc;rw [UH.mp hc];rw [Th.FitS] at h;exact h
 | .knot n ts,pre,h,c,hc=>by
   rw [nF] at hc;rw [Th.FitS] at h;exact lI ts pre 0 h.2 c hc
theorem lI {ks:List (UP×Int)} {S C:Int}:∀ (ts:List Th) (pre:List Int) (i:Int),FitSs ks S C ts->∀ c∈callsOf (pls pre i ts),0<=c.2.1/\c.2.1<S/\0<=c.2.2/\c.2.2<C
 | [],pre,i,_,c,hc=>by rw [pls] at hc;cases hc
 | t::ts,pre,i,h,c,hc=>by
   rw [nZ] at hc;rw [FitSs] at h;rcases U8.mp hc with hc | hc
   · exact gW t _ h.1 c hc
   · exact lI ts _ _ h.2 c hc
end
end BB
namespace BB
open PySem L2
end BB
namespace BB
open PySem L2
section
variable {ins mid outs:List (UP×Int)} {S1 S2:Int} {C3 C4:Th} {C5 C6:List (List Th)}
end
end BB
namespace BB
open PySem L2
end BB
namespace L2
open PySem PySem.Spec PySem.SeqAt PyProof.Rows
def IsNesm (P:Uv) (w:UK) (h:Vy) (k:aD) (a:Ud):Prop:=∃ (o:Wu) (n:Nat) (b:Ud) (u:Ug),h.get? a=some o/\o.cls=.type "tuple"/\o.data=.seq #[u,.ref b] n/\IsTupleKey (aE P w) h k.1 b/\iw k.2 u=true
theorem IsNesm.typeIs {P:Uv} {w:UK} {s:Um} {k:aD} {a:Ud} (x:IsNesm P w s.heap k a):s.TypeIs (.ref a) "tuple":=let ⟨o,_,_,_,ho,hc,_⟩:=x;⟨o,ho,hc⟩
theorem IsNesm.inj {P:Uv} {w:UK} {h:Vy} {a:Ud} {x y:aD} (hx:IsNesm P w h x a) (hy:IsNesm P w h y a):x=y:=by
 obtain ⟨o,n,b,u,ho,_,hd,hb,hu⟩:=hx;obtain ⟨o',n',b',u',AH,_,Am,Ap,zZ⟩:=hy;obtain rfl:o=o':=UQ (ho.symm.trans AH);rw [hd] at Am;injection Am with h1 _;have h2:=congrArg ZL h1;cases h2;exact Prod.ext (hb.inj Ap) ((aE P w).inj _ _ _ hu zZ)
theorem IsNesm.keeps {P:Uv} {w:UK} {h h':Vy} {k:aD} {a d:Ud} {o:Wu} {es ep} (x:IsNesm P w h k a) (ho:h.get? d=some o) (hd:o.data=.dict es ep) (hs:V9 d h h'):IsNesm P w h' k a:=by
 obtain ⟨o',n,b,u,AH,hc,Am,hb,hu⟩:=x
 have yU:a≠d:=by
  rintro rfl;obtain rfl:o'=o:=UQ (AH.symm.trans ho);rw [hd] at Am;exact nomatch Am
 exact ⟨o',n,b,u,(hs.2 a yU).trans AH,hc,Am,hb.keeps ho hd hs,hu⟩
theorem tq {P:Uv} {w:UK} {A:U5} {s:Um} {x y:aD} {a b:Ud} (hx:IsNesm P w s.heap x a) (hy:IsNesm P w s.heap y b) (hu:A.units+1<V1):EqAt A s (.ref a) (.ref b) (decide (x=y)):=by
 by_cases Ax:a=b
 · subst Ax;obtain rfl:=hx.inj hy;rw [decide_eq_true rfl];exact EqAt.same _
 · obtain ⟨o,n,c,u,ho,hc,hd,hb,hk⟩:=hx;obtain ⟨o',n',c',u',AH,zR,Am,Ap,zV⟩:=hy;have p1:s.heap.IsTuple a [u,US c].toArray:=⟨o,ho,hc,n,by rw [hd]⟩;have p2:s.heap.IsTuple b [u',US c'].toArray:=⟨o',AH,zR,n',by rw [Am]⟩
   have:=lN (A:=A) (ds:=[(XA x.2:Sum (List Key) Key),UZ x.1]) (es:=[XA y.2,UZ y.1]) p1 p2 rfl rfl (by omega) fun j d e v v' e1 e2 e3 e4=>by
    match j with
    | 0 =>
      cases e1;cases e2;cases e3;cases e4;rw [show decide ((XA x.2:Sum (List Key) Key)=XA y.2)=decide (x.2=y.2) from decide_eq_decide.mpr ⟨fun z=>Sum.inr.inj z,fun z=>congrArg _ z⟩];exact pU (A:=A.in1) (s:=s) hk zV
    | 1 =>
      cases e1;cases e2;cases e3;cases e4;rw [show decide ((UZ x.1:Sum (List Key) Key)=UZ y.1)=decide (x.1=y.1) from decide_eq_decide.mpr ⟨fun z=>Xh z,fun z=>congrArg _ z⟩];exact sI (A:=A.in1) hb Ap (show A.units+1<V1 from hu)
    | j+2=>cases e1
   refine EqAt.of_refs Ax ?_
   rw [show decide (x=y)=decide ([(XA x.2:Sum (List Key) Key),UZ x.1]=[XA y.2,UZ y.1]) from decide_eq_decide.mpr ⟨fun z=>by rw [z],fun z=>by
    injection z with z1 z2;injection z2 with z2 _;exact Prod.ext (Xh z2) (Sum.inr.inj z1)⟩]
   exact this
def lS (P:Uv) (w:UK) (k:aD):Int:=reduceHash (Wx [(aE P w).hash k.2,Yh (aE P w) k.1])
theorem pK {P:Uv} {w:UK} {A:U5} {E:Ug->Um->Prop} {s:Um} {k:aD} {a:Ud} {Q:Int->Um->Prop} (hu:A.units+1<V1) (hk:IsNesm P w s.heap k a) (h:Q (lS P w k) { s with toks:=s.toks+(k.1.length+3) }) :
 Uy (UU P w) A (pyHash (.ref a)) Q E s:=by
 have hT:=hk.typeIs;obtain ⟨o,n,c,u,ho,hc,hd,hb,hk⟩:=hk;unfold pyHash
 first | unfold pyHashByItsType | skip
 first | refine T9 (wpAny_cRoomFor_or (.inr (by omega)) ?_) | skip
 refine T9 (VR hT Y5.lookup ?_);show Uy _ _ (if (some (Value.builtin "tuple.__hash__") == some VL)=true then _ else _) Q E s;rw [if_neg (by rw [beq_builtin_none];exact UD)];refine T9 (VR hT Y5.lookup ?_);show Uy _ _ (callSpecialIfBoundUnlessNone? (.ref a) "__hash__" _ >>= _) Q E s;refine T9 (wpAny_callSpecialIfBoundUnlessNone?_slot hT Y5 (Vq Y5 hT F.entry_tuple_hash ?_ (F.args_tuple_hash_1 _)));show Uy _ _ (XT (.ref a) >>= _) _ _ s;refine T9 (wpAny_tupleItemsOf ho hd ?_);refine T9 ?_;rw [<- X1]
 refine wpAny_forIn_list _
  (fun rest (b:Array Int) s'=>(rest=[u,.ref c]/\b=#[]/\s'=s)∨(rest=[.ref c]/\b=#[(aE P w).hash k.2]/\s'={ s with toks:=s.toks+1 })∨(rest=[]/\b=#[(aE P w).hash k.2,Yh (aE P w) k.1]/\s'={ s with toks:=s.toks+1+(k.1.length+1) }))
  _ ?_ ?_ _ _ (.inl ⟨rfl,rfl,rfl⟩)
 · rintro x rest b s' (⟨e1,rfl,rfl⟩ | ⟨e1,rfl,rfl⟩ | ⟨e1,_⟩)
   · cases e1;refine T9 ((aE P w).pyHash hk ?_)
     first
      | exact Uk (.inr (.inl ⟨rfl,rfl,rfl⟩))
      | exact T9 (Uk (Uk (.inr (.inl ⟨rfl,rfl,rfl⟩))))
   · cases e1;refine T9 (wpAny_pyHash_tuple (by show _<V1;first | exact hu | omega) hb ?_)
     first
      | exact Uk (.inr (.inr ⟨rfl,rfl,rfl⟩))
      | exact T9 (Uk (Uk (.inr (.inr ⟨rfl,rfl,rfl⟩))))
   · cases e1
 · rintro b s' (⟨e1,_⟩ | ⟨e1,_⟩ | ⟨_,rfl,rfl⟩)
   · cases e1
   · cases e1
   show Uy _ _ (retInt (Wx [(aE P w).hash k.2,Yh (aE P w) k.1])) _ _ _;refine wpAny_ret_mkInt ?_;show Uy _ _ (if (decide (-(2:Int) ^ 63<=Wx [(aE P w).hash k.2,Yh (aE P w) k.1]) && decide (Wx [(aE P w).hash k.2,Yh (aE P w) k.1]<2 ^ 63))=true then _ else _) Q E _;unfold lS reduceHash at h;by_cases hr:(decide (-(2:Int) ^ 63<=Wx [(aE P w).hash k.2,Yh (aE P w) k.1]) && decide (Wx [(aE P w).hash k.2,Yh (aE P w) k.1]<2 ^ 63))=true
   · rw [if_pos hr];rw [if_pos hr] at h;exact Uk (by rw [show k.1.length+3=1+(k.1.length+2) by omega] at h;simpa [YK] using h)
   · rw [if_neg hr];rw [if_neg hr] at h;exact T9 (W5 (Uk (by rw [show k.1.length+3=1+(k.1.length+2) by omega] at h;simpa [YK] using h)))
theorem qF {P:Uv} {w:UK} {A:U5} {E:Ug->Um->Prop} {s:Um} {k:aD} {a:Ud} {Q:Bool->Um->Prop} (hk:IsNesm P w s.heap k a) (h:Q true s):Uy (UU P w) A (eqIsQuiet 8 (.ref a)) Q E s:=by
 have hT:=hk.typeIs;obtain ⟨o,n,c,u,ho,hc,hd,hb,hk⟩:=hk;unfold eqIsQuiet;refine T9 (VR hT F.slot_tuple_eq.lookup ?_);show Uy _ _ (isInstance (.ref a) (.type "tuple") >>= _) _ _ s;refine T9 (WZ hT isSubtype_tuple_tuple ?_);simp only [Yg,Vv,if_false];refine T9 (VI ho hd ?_);refine T9 ?_;show Uy _ _ (forIn #[u,US c] _ _) _ _ s;rw [<- X1];refine wpAny_forIn_list _ (fun rest r s'=>r.1=none/\s'=s/\∀ v∈rest,v=.ref c∨v=u) _ ?_ ?_ _ _ ⟨rfl,rfl,fun v hv=>by simpa [or_comm] using hv⟩
 · rintro v rest r s' ⟨hr,rfl,yG⟩;have EG:∀ z∈rest,z=.ref c∨z=u:=fun z hz=>yG z (UG _ hz);rcases yG v UM with rfl | rfl
   · refine T9 (qz hb ?_);simp only [Yg,Vv,if_false];exact Uk ⟨rfl,rfl,EG⟩
   · rw [eqIsQuiet_byValue _ ((aE P w).byValue _ _ hk)];refine T9 (Uk ?_);simp only [Yg,Vv,if_false];exact Uk ⟨rfl,rfl,EG⟩
 · rintro ⟨r1,r2⟩ s' ⟨hr,rfl,_⟩;simp only at hr;subst hr;exact Uk h
def cz (P:Uv) (w:UK):HeapKind P w aD where
 is:=IsNesm P w
 hash:=lS P w
 draws:=fun k=>k.1.length+3
 room:=fun A=>A.units+1<V1
 inj:=fun hx hy=>hx.inj hy
 keeps:=fun x ho hd hs=>x.keeps ho hd hs
 pyHash:=fun hu hk h=>pK hu hk h
 eqBool:=fun hu hx hy h=>tq hx hy hu _ _ _ _ h
 quiet:=fun hk h=>qF hk h
def pX (P:Uv) (w:UK) (xs:List (aD×Ud×Ug)) (a:Ud) (h:Vy):Prop:=∃ o es ep,h.get? a=some o/\o.ExactDict/\o.data=.dict es ep/\es.toList=xs.map (entryOfKey (cz P w))/\(xs.map (·.1)).Nodup
def MKAt (H:Hp) (k:aD) (b:Ud):Prop:=∃ c,H b=some (.tup [kV k.2,.ref c])/\H c=some (.tup (k.1.map kV))
abbrev KTm (H:Hp):List (aD×V)->List (aD×Ud×Ug)->Prop:=UR fun p q=>p.1=q.1/\MKAt H q.1 q.2.1/\RelV p.2 q.2.2
def DM (P:Uv) (w:UK) (H:Hp) (a:Ud) (f':List (aD×V)):Prop:=f'.length<=Uz/\(a == Wb)=false/\∃ xs φ,H a=some (.ext φ)/\(∀ h,φ h->pX P w xs a h)/\KTm H f' xs
theorem MKAt.mono {H H':Hp} (k:BB.KT H H') {n:aD} {b:Ud} (h:MKAt H n b):MKAt H' n b:=by
 obtain ⟨c,h1,h2⟩:=h;exact ⟨c,k _ _ h1,k _ _ h2⟩
theorem KTm.mono {H H':Hp} (k:BB.KT H H') {f':List (aD×V)} {xs:List (aD×Ud×Ug)} (r:KTm H f' xs):KTm H' f' xs:=UR.mapP r fun _ _ z=>⟨z.1,z.2.1.mono k,z.2.2⟩
theorem DM.mono {P:Uv} {w:UK} {H H':Hp} (s:Same H H') {a:Ud} {f':List (aD×V)} (h:DM P w H a f'):DM P w H' a f':=by
 obtain ⟨z,hd,xs,φ,e,f,r⟩:=h;exact ⟨z,hd,xs,φ,s _ _ e,f,KTm.mono (BB.Same.kt s) r⟩
theorem fE {P:Uv} {w:UK} {H:Hp} {h:Vy} {k:aD} {b:Ud} (ok:HOk P w H h) (e:MKAt H k b):IsNesm P w h k b:=by
 obtain ⟨c,h1,h2⟩:=e;obtain ⟨_,its,n,r,e1⟩:=(show ObjOk P w H h b (.tup [kV k.2,.ref c]) from ok b _ h1);cases r with
 | cons r1 r =>
 cases r with
 | cons r2 r =>
 cases r;cases r2;exact ⟨_,n,c,_,e1,rfl,rfl,iR ok h2,li (P:=P) (w:=w) r1⟩
theorem j0 {P:Uv} {w:UK} {H:Hp} {h:Vy} {a:Ud} {f':List (aD×V)} (ok:HOk P w H h) (e:DM P w H a f'):f'.length<=Uz/\(a == Wb)=false/\∃ xs φ,H a=some (.ext φ)/\KTm H f' xs/\h.DictOfH (cz P w) a xs:=by
 obtain ⟨z,y,xs,φ,ea,f,r⟩:=e;obtain ⟨o,es,ep,h1,h2,h3,h4,h5⟩:=f h (ok a _ ea).1;refine ⟨z,y,xs,φ,ea,r,o,es,ep,h1,h2,h3,h4,fun x hx=>?_,h5⟩
 have all:∀ {l:List (aD×V)} {m:List (aD×Ud×Ug)},KTm H l m->∀ x∈m,(cz P w).is h x.1 x.2.1:=by
  intro l m q;induction q with
  | nil=>intro x hx;exact nomatch hx
  | @cons p q ps qs hq t ih =>
    intro x hx;rcases UB.mp hx with e | hx
    · subst e;exact fE ok hq.2.1
    · exact ih x hx
 exact all r x hx
theorem KTm.val {H:Hp} {f':List (aD×V)} {xs:List (aD×Ud×Ug)} (r:KTm H f' xs) (k:aD):RelO (aW f' k) ((XQ xs k).map (·.2)):=by
 induction r with
 | nil=>exact Wr
 | @cons p q ps qs hq t ih =>
   by_cases e:p.1=k
   · rw [bO e];have:XQ (q::qs) k=some q.2:=by simp [XQ,W2,<- hq.1,e]
     rw [this];exact hq.2.2
   · rw [bU e];have:XQ (q::qs) k=XQ qs k:=by simp [XQ,W2,<- hq.1,e]
     rw [this];exact ih
theorem KTm.put {H:Hp} {f':List (aD×V)} {xs:List (aD×Ud×Ug)} (r:KTm H f' xs) (k:aD) {b:Ud} {y:V} {u:Ug} (hb:MKAt H k b) (ry:RelV y u):KTm H (putK f' k y) (Y0 xs k b u):=by
 have hv:=KTm.val r k;cases e:aW f' k with
 | none =>
   rw [e] at hv
   have hn:XQ xs k=none:=by
    cases q:XQ xs k with
    | none=>rfl
    | some p=>rw [q] at hv;exact hv.elim
   rw [kS y e,storedH_new hn];exact BB.P2.append r (.cons ⟨rfl,hb,ry⟩ .nil)
 | some v0 =>
   rw [e] at hv
   obtain ⟨p,hp⟩:∃ p,XQ xs k=some p:=by
    cases q:XQ xs k with
    | none=>rw [q] at hv;exact hv.elim
    | some p=>exact ⟨p,rfl⟩
   rw [storedH_old hp];unfold putK;rw [if_pos (by rw [eA,e];rfl)]
   have all:∀ {l:List (aD×V)} {m:List (aD×Ud×Ug)},KTm H l m->KTm H (l.map fun kv=>if kv.1=k then (kv.1,y) else kv) (m.map (putAt k u)):=by
    intro l m q;induction q with
    | nil=>exact .nil
    | @cons p q ps qs hq t ih =>
      refine .cons ?_ ih;unfold putAt;dsimp only;by_cases z:p.1=k
      · rw [if_pos z,if_pos (by rw [<- hq.1];exact z)];exact ⟨hq.1,hq.2.1,ry⟩
      · rw [if_neg z,if_neg (by rw [<- hq.1];exact z)];exact hq
   exact all r
section
variable {X:Cx} {pins:List (Ud×Wu)} {σ:St} {H:Hp} {s:Um} {o i value:Vs} {pos pos':Yd} {td ty tv:TE}
inductive um (P:Uv) (w:UK) (x y:V) (H:Hp) (Q:VK):Prop
 | mk (a b:Ud) (k:aD) (f':List (aD×V)) (v:V) (z0:x=.ref a) (z1:y=.ref b) (z2:DM P w H a f') (z3:MKAt H k b) (z4:aW f' k=some v) (z5:Q v H):um P w x y H Q
def t9 (P:Uv) (w:UK) (td ty:TE):TE:=fun σ H Q=>td σ H fun x H1=>ty σ H1 fun y H2=>um P w x y H2 Q
theorem pz (hu:X.A.units+2<V1) (ho:PE X o td) (hi:PE X i ty) (hs:wM i):PE X (.Subscript o i pos) (t9 X.prog X.w td ty):=by
 intro pins s σ H Q I h;refine rH PySem.F.slot_dict_getitem.lookup hs (thn (ho pins s σ H _ I h) fun u s1 ⟨x,H1,I1,rx,q1⟩=>thn (hi pins s1 σ H1 _ I1 q1) fun iv s2 ⟨y,H2,I2,ry,q2⟩=>?_);obtain ⟨a,b,k,f',v,rfl,rfl,hd,hk,hv,q⟩:=q2;obtain rfl:u=US a:=rx;obtain rfl:iv=US b:=ry;obtain ⟨_,_,xs,φ,ea,rel,dd⟩:=j0 I2.hok hd;obtain ⟨w',hw,B5⟩:=RelO.some_of (v:=v) (o:=(XQ xs k).map (·.2)) (by rw [<- hv];exact KTm.val rel k);obtain ⟨p,hp,AO⟩:=UN.mp hw;refine ⟨dd.typeIs,wpAny_getItem_heap (knd:=cz X.prog X.w) (show X.A.units+1+1<V1 from hu) (fE I2.hok hk) dd hp ?_⟩;rw [AO];exact ⟨v,H2,I2.tok _,B5,q⟩
inductive uS (P:Uv) (w:UK) (x y v:V) (H:Hp) (R:Hp->Prop):Prop
 | mk (a b:Ud) (k:aD) (f':List (aD×V)) (z0:x=.ref a) (z1:y=.ref b) (z2:DM P w H a f') (z3:MKAt H k b) (z4:f'.length<Uz) (z5:∀ H',(∀ c o,c≠a->H c=some o->H' c=some o)->DM P w H' a (putK f' k v)->R H'):uS P w x y v H R
def wt (P:Uv) (w:UK) (td ty tv:TE):TS:=fun D σ H=>tv σ H fun v H1=>td σ H1 fun x H2=>ty σ H2 fun y H3=>uS P w x y v H3 fun H4=>D.nx σ H4
theorem uh (hu:X.A.units+2<V1) (ho:PE X o td) (hi:PE X i ty) (hv:PE X value tv) (hs:swapsWith value (some (.Subscript o i pos')) pos.line X.env=pure false) :
 PS X (.Assign [.Subscript o i pos'] value pos) (wt X.prog X.w td ty tv):=by
 intro pins s σ H D I h;refine wpAny_Assign_Subscript (thn (hv pins s σ H _ I h) fun r s1 ⟨v,H1,I1,rv,q1⟩=>thn (ho pins s1 σ H1 _ I1 q1) fun u s2 ⟨x,H2,I2,rx,q2⟩=>thn (hi pins s2 σ H2 _ I2 q2) fun iv s3 ⟨y,H3,I3,ry,q3⟩=>?_) hs;obtain ⟨a,b,k,f',rfl,rfl,hd,hk,hl,q⟩:=q3;obtain rfl:u=US a:=rx;obtain rfl:iv=US b:=ry;obtain ⟨z,Am,xs,φ,ea,rel,dd⟩:=j0 I3.hok hd;have hz:xs.length<=Uz:=by rw [<- Up rel];exact z
 have KN:(putK f' k v).length<=Uz:=by have:=ce f' k v;omega
 refine wpAny_setItem_heap (knd:=cz X.prog X.w) (hsz:=hz) (show X.A.units+1+1<V1 from hu) (fE I3.hok hk) dd fun h' B8 hs=>?_;obtain ⟨ob,es,ep,hq,h2,h3,h4,_,h5⟩:=B8;have ne:pX X.prog X.w (Y0 xs k b r) a h':=⟨ob,es,ep,hq,h2,h3,h4,h5⟩
 have I4:=gU (ob:=.ext (pX X.prog X.w (Y0 xs k b r) a)) (t':=s3.toks+(cz X.prog X.w).draws k) I3 (by rw [ea];exact Wr) hs ⟨ob,hq⟩ ⟨ne,⟨ob,hq⟩,fun h1 h2 p kk=>by
  obtain ⟨o1,HW,HX,g1,g2⟩:=p;exact ⟨o1,HW,HX,kk _ g1,g2⟩⟩
 have kt:BB.KT H3 (upd H3 a (.ext (pX X.prog X.w (Y0 xs k b r) a))):=fun c ys ec=>by
  rw [am (f9 ec ea (fun z=>nomatch z))];exact ec
 exact ⟨σ,_,I4,q _ (fun c o hc e=>by rw [am hc];exact e) ⟨KN,Am,_,_,ab,fun _ p=>p,KTm.mono kt (KTm.put rel k hk rv)⟩⟩
def wv (P:Uv) (w:UK):TE:=fun _ H Q=>∀ p H',H p=none->Same H H'->DM P w H' p []->Q (.ref p) H'
theorem pk:PE X (.Dict [] [] pos) (wv X.prog X.w):=fun pins s σ H Q I h=>by
 have hn:H s.heap.objs.size=none:=I.hok.fresh (Ue _);have ne:pX X.prog X.w [] s.heap.objs.size (s.heap.push { cls:=.type "dict",data:=.dict #[] }):=⟨_,#[],0,Uu _ rfl,⟨rfl,rfl,rfl⟩,rfl,rfl,Yx⟩;refine wpAny_Dict_empty ⟨.ref s.heap.objs.size,_,I.laid (a:=s.heap.objs.size) (o:=.ext (pX X.prog X.w [] s.heap.objs.size)) (t':=s.toks) (fun _ _ q=>Uj _ q) (Ue _) ⟨ne,⟨_,Uu _ rfl⟩,fun h1 h2 p kk=>?_⟩,rfl,h _ _ hn (ad hn _) ⟨UL _,beq_eq_false_iff_ne.mpr (V7 (UX I.big)),[],_,ab,fun _ p=>p,.nil⟩⟩;obtain ⟨o1,HW,HX,g1,g2⟩:=p;exact ⟨o1,HW,HX,kk _ g1,g2⟩
end
end L2
namespace L2
open PySem PySem.Spec PyProof.Rows
section
variable {X:Cx} {pins:List (Ud×Wu)} {σ:St} {H:Hp} {s:Um} {o i e f:Vs} {pos apos yP:Yd} {td ty tx:TE}
theorem rQ {f':List (aD×V)} {xs:List (aD×Ud×Ug)} (rel:KTm H f' xs) (k:aD):(aW f' k).isSome=(XQ xs k).isSome:=by
 have q:=(KTm.val rel k).isSome_eq;rw [ZD] at q;exact q
inductive vJ (f:Bool->Bool) (P:Uv) (w:UK) (y x:V) (H:Hp) (Q:VK):Prop
 | mk (a b:Ud) (k:aD) (f':List (aD×V)) (z0:x=.ref a) (z1:y=.ref b) (z2:DM P w H a f') (z3:MKAt H k b) (z4:Q (.bl (f (aW f' k).isSome)) H):vJ f P w y x H Q
def vM (f:Bool->Bool) (P:Uv) (w:UK) (ty td:TE):TE:=fun σ H Q=>ty σ H fun y H1=>td σ H1 fun x H2=>vJ f P w y x H2 Q
theorem uW (hu:X.A.units+2<V1) (hi:PE X i ty) (ho:PE X o td):PC X .In i o (vM (fun b=>b) X.prog X.w ty td):=by
 intro pins s σ H Q I h;refine thn (hi pins s σ H _ I h) fun iv s1 ⟨y,H1,I1,ry,q1⟩=>thn (ho pins s1 σ H1 _ I1 q1) fun u s2 ⟨x,H2,I2,rx,q2⟩=>?_;obtain ⟨a,b,k,f',rfl,rfl,hd,hk,q⟩:=q2;obtain rfl:u=US a:=rx;obtain rfl:iv=US b:=ry;obtain ⟨_,Am,xs,φ,ea,rel,dd⟩:=j0 I2.hok hd;refine wpAny_in_heap (knd:=cz X.prog X.w) (show X.A.units+1+1<V1 from hu) (fE I2.hok hk) Am dd ?_;rw [<- rQ rel k];exact ⟨.bl _,H2,I2.tok _,rfl,q⟩
theorem qL (hu:X.A.units+2<V1) (hi:PE X i ty) (ho:PE X o td):PC X .NotIn i o (vM (fun b=>!b) X.prog X.w ty td):=by
 intro pins s σ H Q I h;refine thn (hi pins s σ H _ I h) fun iv s1 ⟨y,H1,I1,ry,q1⟩=>thn (ho pins s1 σ H1 _ I1 q1) fun u s2 ⟨x,H2,I2,rx,q2⟩=>?_;obtain ⟨a,b,k,f',rfl,rfl,hd,hk,q⟩:=q2;obtain rfl:u=US a:=rx;obtain rfl:iv=US b:=ry;obtain ⟨_,Am,xs,φ,ea,rel,dd⟩:=j0 I2.hok hd;refine wpAny_notIn_heap (knd:=cz X.prog X.w) (show X.A.units+1+1<V1 from hu) (fE I2.hok hk) Am dd ?_;rw [<- rQ rel k];exact ⟨.bl _,H2,I2.tok _,rfl,q⟩
inductive rq (P:Uv) (w:UK) (x y z:V) (H:Hp) (Q:VK):Prop
 | mk (a b:Ud) (k:aD) (f':List (aD×V)) (z0:x=.ref a) (z1:y=.ref b) (z2:DM P w H a f') (z3:MKAt H k b) (z4:Q ((aW f' k).getD z) H):rq P w x y z H Q
def vA (P:Uv) (w:UK) (td ty tx:TE):TE:=fun σ H Q=>td σ H fun x H1=>∃ a f',x=.ref a/\DM P w H1 a f'/\ty σ H1 fun y H2=>tx σ H2 fun z H3=>rq P w x y z H3 Q
theorem t8 {a:Ud} {f':List (aD×V)} (I:Inv X pins σ H s) (d:DM X.prog X.w H a f'):s.TypeIs (.ref a) "dict"/\(∀ b,US a=.ref b->∃ ob,s.heap.get? b=some ob/\ob.dict=none):=by
 obtain ⟨_,hd,xs,φ,_,_,dd⟩:=j0 I.hok d;refine ⟨dd.typeIs,fun b q=>?_⟩;cases q;obtain ⟨ob,_,_,h1,h2,_⟩:=dd;exact ⟨ob,h1,h2.2.1⟩
theorem ss (hu:X.A.units+2<V1) (ho:PE X o td) (he:PE X e ty) (hf:PE X f tx) (m:M2 X o "get" apos e f yP):PE X (.Call (.Attribute o "get" apos) [e,f] [] yP) (vA X.prog X.w td ty tx):=by
 intro pins s σ H Q I h;refine wpAny_Call_method m.base m.few m.line YQ Xn PySem.F.type_dict_get (thn (ho pins s σ H _ I h) fun u s1 ⟨x,H1,I1,rx,a,QQ,ex,d,q1⟩=>?_);subst ex;obtain rfl:u=US a:=rx;obtain ⟨t1,t2⟩:=t8 I1 d;refine ⟨t1,t2,?_⟩;rw [m.trees]
 refine Xs rfl (Yz (VW (thn (he pins s1 σ H1 _ I1 q1) fun iv s2 ⟨y,H2,I2,ry,q2⟩ =>
  VW (thn (hf pins s2 σ H2 _ I2 q2) fun fv s3 ⟨z,H3,I3,rz,q3⟩=>Wo ?_))))
 obtain ⟨a',b,k,f',QR,rfl,hd,hk,q⟩:=q3;cases QR;obtain rfl:iv=US b:=ry;obtain ⟨_,Am,xs,φ,ea,rel,dd⟩:=j0 I3.hok hd;refine call_meetsIn Xn dd.typeIs YV (YS _ _ _) (meetsH_dict_get_default (cz X.prog X.w) a b Am fv) ⟨(show X.A.units+1+1<V1 from hu),k,xs,fE I3.hok hk,dd,?_⟩;exact ⟨_,H3,I3.tok _,(KTm.val rel k).getD rz,q⟩
inductive oG (P:Uv) (w:UK) (x:V) (vs:List V) (H:Hp) (Q:VK):Prop
 | mk (a b:Ud) (v:V) (k:aD) (f':List (aD×V)) (z0:x=.ref a) (z1:vs=[.ref b,v]) (z2:DM P w H a f') (z3:MKAt H k b) (z4:f'.length<Uz)
  (z5:∀ u,aW f' k=some u->Q u H) (z6:aW f' k=none->∀ H',(∀ c o,c≠a->H c=some o->H' c=some o)->DM P w H' a (putK f' k v)->Q v H'):oG P w x vs H Q
theorem gO (hu:X.A.units+2<V1):MtM X "dict.setdefault" (oG X.prog X.w):=by
 intro pins s σ H x vs v us Q I rx rv h;obtain ⟨a,b,y,k,f',rfl,rfl,e,eb,l,q1,q2⟩:=h;cases rx;cases rv with
 | cons r1 rv =>
 cases rv with
 | cons r2 rv =>
 cases rv;cases r1;obtain ⟨z,hd,xs,φ,ea,rel,dd⟩:=j0 I.hok e;have hz:xs.length<=Uz:=by rw [<- Up rel];exact z
 have hl:(putK f' k y).length<=Uz:=by have:=ce f' k y;omega
 have hT:s.TypeIs (.ref a) "dict":=dd.typeIs;refine call_meetsIn Ym hT PySem.F.entry_dict_setdefault (PySem.F.args_dict_setdefault_3 _ _ _) (bb_meets_setdefault (cz X.prog X.w) a b _ hd) ⟨(show X.A.units+1+1<V1 from hu),k,xs,fE I.hok eb,dd,hz,fun p hp=>?_,fun hn h' B8 hs=>?_⟩
 · have hr:=KTm.val rel k;rw [hp] at hr;cases hv:aW f' k with
   | none=>rw [hv] at hr;exact hr.elim
   | some u =>
     rw [hv] at hr;exact ⟨u,H,I.tok _,hr,q1 u hv⟩
 · have hr:=KTm.val rel k;rw [hn] at hr;cases hv:aW f' k with
   | some u=>rw [hv] at hr;exact hr.elim
   | none =>
     obtain ⟨ob,es,ep,hq,h2,h3,h4,_,h5⟩:=B8;have ne:pX X.prog X.w (Y0 xs k b _) a h':=⟨ob,es,ep,hq,h2,h3,h4,h5⟩
     have I4:=gU (t':=s.toks+(cz X.prog X.w).draws k) I (by rw [ea];exact Wr) hs ⟨ob,hq⟩ (ob:=.ext (pX X.prog X.w (Y0 xs k b _) a)) ⟨ne,⟨ob,hq⟩,fun h1 h2 p kk=>by
      obtain ⟨o1,HW,HX,g1,g2⟩:=p;exact ⟨o1,HW,HX,kk _ g1,g2⟩⟩
     have kt:∀ ψ:Vy->Prop,BB.KT H (upd H a (.ext ψ)):=fun ψ c ys ec=>by
      rw [am (f9 ec ea (fun z=>nomatch z))];exact ec
     exact ⟨y,_,I4,r2,q2 hv _ (fun c o hc e=>by rw [am hc];exact e) ⟨hl,hd,_,_,ab,fun _ p=>p,KTm.mono (kt _) (KTm.put rel k eb r2)⟩⟩
inductive uq (P:Uv) (w:UK) (xs:List V) (H:Hp) (Q:VK):Prop
 | mk (a:Ud) (f':List (aD×V)) (z0:xs=[.ref a]) (z1:DM P w H a f') (z2:∀ (l:Ud) (bs:List Ud),H l=none->UR (fun kv b=>MKAt H kv.1 b) f' bs->Q (.ref l) (upd H l (.lst (bs.map V.ref)))):uq P w xs H Q
theorem uA {f':List (aD×V)} {ys:List (aD×Ud×Ug)} (rel:KTm H f' ys):UR (fun kv b=>MKAt H kv.1 b) f' (ys.map fun y=>y.2.1):=by
 induction rel with
 | nil=>exact .nil
 | cons h t ih=>exact .cons (by rw [h.1];exact h.2.1) ih
theorem qf (hc:X.calm=true):im X (.type "list") (uq X.prog X.w):=by
 intro pins s σ H xs us Q I r h;obtain ⟨a,f',rfl,e,q⟩:=h;obtain ⟨u,rfl,rx⟩:=vals1 r;cases rx;obtain ⟨z,hd,ys,φ,ea,rel,dd⟩:=j0 I.hok e;have hT:=dd.typeIs;obtain ⟨o,es,ep,ho,S4,J6,he,J4,hn⟩:=dd;obtain ⟨o',AH,Bn⟩:=hT;have eo:o'=o:=UQ (AH.symm.trans ho);subst eo;have hl:f'.length=ys.length:=Up rel
 have LC:es.toList.map (·.key)=ys.map fun y=>US y.2.1:=by
  rw [he,Wi];rfl
 have hsz:es.size<=Uz:=by
  have:=congrArg W7 LC;rw [T8,T8,UY] at this;omega
 have hh:X.A.in1.in1.handled=none:=I.ok.hd hc;refine bb_list_keys hh hd AH Bn J6 hsz fun h' acc c hk hS yN=>?_;have hp:UR (fun kv b=>MKAt H kv.1 b) f' (ys.map fun y=>y.2.1):=uA rel;refine ⟨.ref s.heap.objs.size,upd H s.heap.objs.size (.lst ((ys.map fun y=>y.2.1).map V.ref)),?_,rfl,q _ _ I.fresh hp⟩;refine I.laid (t':=s.toks) hk (Ue _) ⟨by rw [T8,T8];omega,acc.toList,c,?_,hS⟩;rw [yN,LC];clear hn J4 he LC yN hS hl z rel hp q;induction ys with
 | nil=>exact .nil
 | cons y ys ih=>exact .cons rfl ih
def xT (P:Uv) (w:UK) (r:V->List V->Hp->VK->Prop) (to:TE) (t:TA):TE:=fun σ H Q=>to σ H fun x H1=>(∃ a f',x=.ref a/\DM P w H1 a f')/\t σ H1 fun xs H2=>r x xs H2 Q
theorem tW {es:List Vs} {to:TE} {t:TA} {name:UP} {id:String} {r:V->List V->Hp->VK->Prop} (slot:Slot "dict" name id) (Hm:typeOf (.builtin id)=pure (.type "method_descriptor")) (hm:MtR X id r) (ho:PE X o to) (ha:PA X (e::es) t)
 (A':attributeBase o name X.env (WE o X.env)=WE o X.env:=by rfl)
 (Ff:((Yl yP (Vi (e::es) X.env)).all (fun x=>!x.1) && (backToKw yP (keywordEach [] X.env)).all (fun x=>x.1.isSome)
  && decide ((e::es).length+([]:List Keyword).length+(if ([]:List Keyword).isEmpty then 0 else 1)<30))=true:=by rfl)
 (Ba:(apos.endLine == yP.line)=true:=by rfl) (hs:Vi (e::es) X.env=(false,WE e X.env)::Vi es X.env:=by rfl) (Bw:(Yl yP (Vi es X.env)).any (·.1)=false:=by rfl) :
 PE X (.Call (.Attribute o name apos) (e::es) [] yP) (xT X.prog X.w r to t):=by
 intro pins s σ H Q I h;refine wpAny_Call_method_late A' Ff Ba rfl (thn (ho pins s σ H _ I h) fun v s1 ⟨x,H1,I1,r1,⟨a,f',ex,hd⟩,q1⟩=>?_);subst ex;obtain rfl:v=US a:=r1;obtain ⟨h1,h2⟩:=t8 I1 hd;refine ⟨"dict",id,YQ,slot,Hm,h1,h2,?_⟩;have hA:=ha yP pins s1 σ H1 _ I1 q1;rw [hs] at hA ⊢;refine Xs (by show (false || (Yl yP (Vi es X.env)).any (·.1))=false;rw [Bw] <;> rfl) (Yz ?_);exact thn hA fun vs s2 ⟨xs,H2,I2,rv,q2⟩=>hm pins s2 σ H2 (.ref a) xs (.ref a) vs Q I2 rfl rv q2
end
end L2
namespace BB
open PySem L2
theorem m3 {K:Ub} {H:Hp}:∀ {ps:List (List Int×Th)} {as:List Ud},PsAtK K H ps as->∃ bs,UR (fun (p:List Int×Th) b=>H b=some (.tup (p.1.map V.int))) ps bs/\bs.length=as.length/\∀ (i:Nat) x b,(as.map V.ref)[i]?=some x->bs[i]?=some b->∃ a ta,x=.ref a/\H a=some (.tup [.ref b,.ref ta])
 | _,_,.nil=>⟨[],.nil,rfl,fun i x b h=>by simp at h⟩
 | _,_,.cons r h=>by
   obtain ⟨pa,ta,h1,h2,_⟩:=r;obtain ⟨bs,g1,g2,g3⟩:=m3 h;refine ⟨pa::bs,.cons h2 g1,by rw [Uo,Uo,g2],fun i x b hx hb=>?_⟩;cases i with
   | zero =>
     simp at hx hb;subst hx;subst hb;exact ⟨_,ta,rfl,h1⟩
   | succ i=>exact g3 i x b (by simpa using hx) (by simpa using hb)
theorem ue {α:Type} {F:Hp->α->Ud->Prop} {js:List (Option Nat)} {g:TG} {tt:TT} {te:TE} {σ:St} {J:It} {H:Hp} {xs:List V} {fin:Ud->Hp->Prop} (zs:List α) (p:α->Bool) (hF:∀ H1 H2 z p,KT H1 H2->F H1 z p->F H2 z p) (hz:zs.length=xs.length) (hn:xs.length<=1000000)
 (Ct:∀ i H2,L2.Same H H2->i<xs.length->J.go i H2) (zH:∀ H2,L2.Same H H2->J.stop xs.length H2) (AK:∀ (i:Nat) H2 x H3,L2.Same H H2->i<xs.length->J.yld i H2 x H3->H3=H2/\xs[i]?=some x)
 (hb:∀ (i:Nat) x z H2 (R:VK) (W':Hp->Prop),xs[i]?=some x->zs[i]?=some z->L2.Same H H2->(p z=true->∀ H3 q,L2.Same H2 H3->F H3 z q->R (.ref q) H3)->(p z=false->∀ H3,L2.Same H2 H3->W' H3)->g x (cσ js σ) H2 fun yT H3=>tt yT H3 fun b H4=>if b=true then te yT H4 R else W' H4)
 (zW:∀ D H' as,H D=none->L2.Same H H'->H' D=some (.lst (as.map V.ref))->UR (F H') (zs.filter p) as->fin D H') :
 ∀ D,H D=none->∃ (n:Nat) (W:Nat->Hp->Prop),W 0 (upd H D (.lst []))/\f8 js g tt te σ J D n W fun H'=>fin D H':=by
 intro D hD;refine ⟨xs.length,fun i H'=>i<=xs.length/\L2.Same H H'/\∃ as:List Ud,H' D=some (.lst (as.map V.ref))/\UR (F H') ((zs.take i).filter p) as,⟨UL _,ad hD _,[],by rw [ab];rfl,.nil⟩,?_⟩;rintro i H' ⟨hi,s1,as,e1,hp⟩;by_cases yK:i<xs.length
 · refine .inr ⟨yK,Ct i H' s1 yK,fun v H1 hy=>?_⟩;obtain ⟨e,hx⟩:=AK i H' v H1 s1 yK hy;subst e;obtain ⟨z,Au⟩:∃ z,zs[i]?=some z:=⟨_,Ua (by omega)⟩;have hl:((zs.take i).filter p).length=as.length:=Up hp;have zw:=WU p (zs.take i);rw [U1] at zw;refine hb i v z _ _ _ hx Au s1 (fun EH H3 q s3 Lp=>⟨_,s3 _ _ e1,?_,yK,ay (s1.trans s3) hD,as++[q],?_,?_⟩) (fun EH H3 s3=>⟨yK,s1.trans s3,as,s3 _ _ e1,?_⟩)
   · rw [T8];have:Uz=16777216:=Yb;omega
   · rw [ab,Ut];rfl
   · have kt:KT H3 (upd H3 D (.lst (as.map V.ref++[.ref q]))):=aU (s3 _ _ e1);rw [take_snoc Au,X0,V4,if_pos EH,Y4];exact P2.append (P2.mp (fun x y e=>hF _ _ _ _ ((Same.kt s3).trans kt) e) hp) (.cons (hF _ _ _ _ kt Lp) .nil)
   · rw [take_snoc Au,X0,V4,if_neg (by rw [EH];exact UD),Y4,U0];exact P2.mp (fun x y e=>hF _ _ _ _ (Same.kt s3) e) hp
 · have y9:i=xs.length:=by omega
   subst y9;refine .inl ⟨zH _ s1,zW D H' as hD s1 e1 ?_⟩;rw [VG (by omega)] at hp;exact hp
def aR (ins:List (UP×Int)):Th:=.knot (((ins.filter fun k=>decide (k.2=0))[0]?.map (·.1)).getD (Ui "")) []
theorem fA {ins:List (UP×Int)} {k:UP×Int} (h:(ins.filter fun k=>decide (k.2=0))[0]?=some k):aR ins=.knot k.1 []:=by
 unfold aR;rw [h];rfl
theorem lJ {ins:List (UP×Int)} (g:bZ ins):∃ k,(ins.filter fun k=>decide (k.2=0))[0]?=some k/\k.2=0:=by
 obtain ⟨k,hk,hz⟩:=g.zero;have hm:k∈ins.filter fun k=>decide (k.2=0):=V0.mpr ⟨hk,decide_eq_true hz⟩;have hl:0<(ins.filter fun k=>decide (k.2=0)).length:=List.length_pos_of_mem hm;refine ⟨_,Ua hl,?_⟩;exact of_decide_eq_true (V0.mp (Ye hl)).2
def cV (ins:List (UP×Int)):Nat:=ins.findIdx fun k=>decide (k.2=0)
theorem fh:∀ {ins:List (UP×Int)} {k:UP×Int},(ins.filter fun k=>decide (k.2=0))[0]?=some k->ins[cV ins]?=some k
 | [],k,h=>by simp at h
 | x::xs,k,h=>by
   unfold cV;by_cases hx:x.2=0
   · rw [V4,if_pos (decide_eq_true hx)] at h;rw [List.findIdx_cons,decide_eq_true hx];simpa using h
   · rw [V4,if_neg (by simpa using hx)] at h;rw [List.findIdx_cons,decide_eq_false hx];simpa [cV] using fh h
def MkAt (H:Hp) (ins:List (UP×Int)) (rows:List (List Th)) (f':List (List Key×V)):Prop :=
 ∀ (s k:Nat) (row:List Th) (p:Th),k<3->rows[s]?=some row->row[cV ins]?=some p->∃ a,aW f' [UZ (s:Int),UZ (k:Int)]=some (.ref a)/\At H p a
theorem MkAt.mono {H H':Hp} (kt:KT H H') {ins:List (UP×Int)} {rows:List (List Th)} {f':List (List Key×V)} (h:MkAt H ins rows f'):MkAt H' ins rows f':=fun s k row p hk hr hp=>by
 obtain ⟨a,h1,h2⟩:=h s k row p hk hr hp;exact ⟨a,h1,h2.mono kt⟩
theorem qi:∀ {ts:List Th} {i:Nat},(dvs ts)[i]?=(ts[i]?).map Th.dv
 | [],i=>by rw [dvs];simp
 | t::ts,0=>by rw [dvs];rfl
 | t::ts,i+1=>by rw [dvs,U9,U9];exact qi
theorem rP:∀ ts:List Th,(dvs ts).length=ts.length
 | []=>by rw [dvs];rfl
 | t::ts=>by rw [dvs,Uo,Uo,rP ts]
theorem pG {α:Type} {f:α->Th} {H:Hp}:∀ {zs:List α} {as:List Ud},UR (fun z a=>At H (f z) a) zs as->Ats H (zs.map f) as
 | _,_,.nil=>.nil
 | _,_,.cons r h=>.cons r (pG h)
end BB
namespace BB
open PySem L2
theorem cT {x:List Int×Th} {pre:List Int}:∀ {ts:List Th} {i:Int},x∈pls pre i ts↔∃ (j:Nat) (t:Th),ts[j]?=some t/\x∈t.pl (pre++[i+(j:Int)])
 | [],i=>by rw [pls];simp
 | t::ts,i=>by
   rw [pls,U8,cT (ts:=ts) (i:=i+1)];constructor
   · rintro (h | ⟨j,u,hu,h⟩)
     · exact ⟨0,t,rfl,by simpa using h⟩
     · refine ⟨j+1,u,by simpa using hu,?_⟩;rw [show i+((j+1:Nat):Int)=i+1+(j:Int) by omega];exact h
   · rintro ⟨j,u,hu,h⟩;cases j with
     | zero =>
       simp at hu;subst hu;exact .inl (by simpa using h)
     | succ j =>
       refine .inr ⟨j,u,by simpa using hu,?_⟩;rw [show i+1+(j:Int)=i+((j+1:Nat):Int) by omega];exact h
theorem gQ {n:UP} {ks:List Th} {pre:List Int} {j:Nat} {t:Th} (h:ks[j]?=some t) {x:List Int×Th} (hx:x∈t.pl (pre++[(j:Int)])):x∈(Th.knot n ks).pl pre:=by
 rw [Th.pl];refine UG _ (cT.mpr ⟨j,t,h,?_⟩);rw [VH];exact hx
theorem du (t:Th) (pre:List Int):(pre,t)∈t.pl pre:=by rw [Th.pl_eq];exact UM ..
theorem ut:∀ (n:Nat) (l r:Th) (pre:List Int),l.size<=n->∀ x∈(l.com r).pl pre,∃ u,(x.1,u)∈l.pl pre
 | 0,l,r,pre,hn=>by have:=l.size_pos;omega
 | n+1,.call a b,r,pre,hn=>fun x hx=>by
   rw [iK,aJ] at hx
   · rw [if_neg UD,hole,Th.pl,pls] at hx;rw [UH.mp hx];exact ⟨_,du _ _⟩
   · intro _ _ _ _ h;cases h
 | n+1,.knot m ks,r,pre,hn=>fun x hx=>by
   rw [iK] at hx;by_cases hs:aJ (.knot m ks) r=true
   · rw [if_pos hs,Th.pl] at hx;rcases UB.mp hx with rfl | hx
     · exact ⟨_,du _ _⟩
     · obtain ⟨j,t,ht,hx⟩:=cT.mp hx;rw [VH] at hx;rw [Ul,UN] at ht;obtain ⟨p,hp,rfl⟩:=ht;obtain ⟨h1,h2⟩:=Wk.mp hp;rw [Th.size] at hn;have hz:p.1.size<=aq ks:=aI (Uc h1);obtain ⟨u,hu⟩:=ut n p.1 p.2 _ (by omega) x hx;exact ⟨u,gQ h1 hu⟩
   · rw [if_neg hs,hole,Th.pl,pls] at hx;rw [UH.mp hx];exact ⟨_,du _ _⟩
mutual
/-- a front with holes at some places -/
def Th.cut (D:List Int->Bool) (pre:List Int):Th->Th
 | .knot n ks=>if (Th.knot n ks).isHole=true∨D pre=true then hole else .knot n (cF D pre 0 ks)
 | .call _ _=>hole
def cF (D:List Int->Bool) (pre:List Int) (i:Int):List Th->List Th
 | []=>[]
 | t::ts=>t.cut D (pre++[i])::cF D pre (i+1) ts
end
theorem fe {D:List Int->Bool} {pre:List Int}:∀ {ts:List Th} {i:Int} {j:Nat},(cF D pre i ts)[j]?=(ts[j]?).map fun t=>t.cut D (pre++[i+(j:Int)])
 | [],i,j=>by rw [cF];simp
 | t::ts,i,0=>by rw [cF];simp
 | t::ts,i,j+1=>by
   rw [cF,U9,U9,fe,show i+1+(j:Int)=i+((j+1:Nat):Int) by omega]
theorem cO {D:List Int->Bool} {pre:List Int}:∀ {ts:List Th} {i:Int},(cF D pre i ts).length=ts.length
 | [],i=>by rw [cF]
 | t::ts,i=>by rw [cF,Uo,Uo,cO]
theorem fC:∀ {as bs:List Th},(∀ (i:Nat) (a b:Th),as[i]?=some a->bs[i]?=some b->a.lies b=true)->bP as bs=true
 | [],bs,_=>by rw [bP]
 | a::as,[],_=>by rw [bP]
 | a::as,b::bs,h=>by
   rw [bP,h 0 a b rfl rfl,fC fun i x y hx hy=>h (i+1) x y (by simpa using hx) (by simpa using hy)];rfl
theorem dI:∀ {as bs:List Th},bP as bs=true->∀ (i:Nat) (a b:Th),as[i]?=some a->bs[i]?=some b->a.lies b=true
 | [],bs,_,i,a,b,ha,_=>by simp at ha
 | x::as,[],_,i,a,b,_,hb=>by simp at hb
 | x::as,y::bs,h,i,a,b,ha,hb=>by
   rw [bP,Wg] at h;cases i with
   | zero =>
     simp at ha hb;subst ha;subst hb;exact h.1
   | succ i=>exact dI h.2 i a b (by simpa using ha) (by simpa using hb)
theorem j5 {n:UP} {ks:List Th} {r:Th} (h:aJ (.knot n ks) r=true):∃ us,r=.knot n us/\ks.length=us.length/\(Th.knot n ks).isHole=false:=by
 cases r with
 | call a b=>rw [aJ] at h;exact absurd h UD;intro _ _ _ _ _ h;cases h
 | knot m us =>
   rw [aJ,Wg,Wg] at h;obtain ⟨⟨h1,h2⟩,h3⟩:=h;obtain rfl:=of_decide_eq_true h2;exact ⟨us,rfl,of_decide_eq_true h3,by simpa using h1⟩
theorem fK {n:UP} {ks us:List Th} (h1:(Th.knot n ks).isHole=false) (h2:ks.length=us.length):aJ (.knot n ks) (.knot n us)=true:=by
 rw [aJ,h1,decide_eq_true rfl,decide_eq_true h2];rfl
theorem lies_of {n:UP} {ks:List Th} {r:Th} (h:(Th.knot n ks).lies r=true) (hh:(Th.knot n ks).isHole=false):∃ us,r=.knot n us/\ks.length=us.length/\bP ks us=true:=by
 rw [Th.lies,hh,XW,Wg] at h;obtain ⟨us,rfl,hl,_⟩:=j5 h.1;exact ⟨us,rfl,hl,h.2⟩
theorem lf (r:Th):hole.lies r=true:=by
 rw [hole,Th.lies];have:(Th.knot star []).isHole=true:=gq;rw [this];rfl
theorem oZ {n:UP} {ks cs:List Th} (hl:cs.length=ks.length) (h:(Th.knot n ks).isHole=false):(Th.knot n cs).isHole=false:=by
 rw [Th.isHole,decide_eq_false_iff_not] at h ⊢;rintro ⟨h1,h2⟩;rw [h2] at hl;exact h ⟨h1,VB.mp hl.symm⟩
theorem cK {c:List Int×Int×Int} {ps:List (List Int×Th)}:c∈callsOf ps↔(c.1,Th.call c.2.1 c.2.2)∈ps:=by
 unfold callsOf;rw [Zv];constructor
 · rintro ⟨⟨pl,t⟩,hx,e⟩;cases t with
   | knot n ks=>rw [nM] at e;cases e
   | call a b=>rw [nM] at e;cases e;exact hx
 · intro h;exact ⟨_,h,by rw [nM]⟩
theorem oK {n:UP} {ks:List Th} {pre:List Int} {j:Nat} {t:Th} (h:ks[j]?=some t) {c:List Int×Int×Int} (hc:c∈callsOf (t.pl (pre++[(j:Int)]))):c∈callsOf ((Th.knot n ks).pl pre):=cK.mpr (gQ h (cK.mp hc))
section
variable {D:Int->List Int->Bool} {mk f0:Int->Th}
theorem nu {s l:Int} {q:List Int} (Hl:∀ (r:List Int) (u:Th),D l r=true->(q++r,u)∈(f0 s).pl []->D s (q++r)=true) (Hh:∀ (r:List Int) (u:Th),(r,u)∈(f0 l).pl []->u.isHole=true->D l r=true) :
 ∀ (n:Nat) (f g m:Th) (r:List Int),f.size<=n->(∀ x∈f.pl (q++r),x∈(f0 s).pl [])->(∀ x∈g.pl r,x∈(f0 l).pl [])->f.noCall->g.noCall->f.lies m=true->g.lies m=true->(f.cut (D s) (q++r)).lies (g.cut (D l) r)=true
 | 0,f,g,m,r,hn=>by have:=f.size_pos;omega
 | n+1,.call a b,g,m,r,_=>fun _ _ h=>by rw [Th.noCall] at h;exact h.elim
 | n+1,.knot nm ks,.call a b,m,r,_=>fun _ _ _ h=>by rw [Th.noCall] at h;exact h.elim
 | n+1,.knot nm ks,.knot gm vs,m,r,hn=>fun hF hG nf ng hf hg=>by
   rw [Th.cut];by_cases hc:(Th.knot nm ks).isHole=true∨D s (q++r)=true
   · rw [if_pos hc];exact lf _
   · rw [if_neg hc];have h1:(Th.knot nm ks).isHole=false:=VP.mpr fun z=>hc (.inl z);have h2:¬ D s (q++r)=true:=fun z=>hc (.inr z);have h3:¬ D l r=true:=fun z=>h2 (Hl r _ z (hF _ (du _ _)));have h4:(Th.knot gm vs).isHole=false:=VP.mpr fun z=>h3 (Hh r _ (hG _ (du _ _)) z);obtain ⟨us,rfl,l1,b1⟩:=lies_of hf h1;obtain ⟨S5,e,l2,b2⟩:=lies_of hg h4;cases e;rw [Th.cut,if_neg (by rintro (z | z);(rw [h4] at z;cases z);exact h3 z)];rw [Th.lies,fK (oZ cO h1) (by rw [cO,cO];omega)];rw [Th.size] at hn;rw [Th.noCall] at nf ng
     have:bP (cF (D s) (q++r) 0 ks) (cF (D l) r 0 vs)=true:=fC fun i a b ha hb=>by
      rw [fe,UN] at ha hb;obtain ⟨k,hk,rfl⟩:=ha;obtain ⟨v,hv,rfl⟩:=hb;have zE:=(Uh.mp hk).1;obtain ⟨u,hu⟩:∃ u,us[i]?=some u:=⟨_,Ua (by omega)⟩;have hz:=aI (Uc hk);rw [VH,Ve];refine nu Hl Hh n k v u (r++[(i:Int)]) (by omega) (fun x hx=>hF x (gQ hk (by rw [Ve];exact hx))) (fun x hx=>hG x (gQ hv hx)) (bz nf (Uc hk)) (bz ng (Uc hv)) (dI b1 i k u hk hu) (dI b2 i v u hv hu)
     show ((Th.knot nm (cF (D s) (q++r) 0 ks)).isHole || (true && bP (cF (D s) (q++r) 0 ks) (Th.knot nm (cF (D l) r 0 vs)).kids))=true;rw [show (Th.knot nm (cF (D l) r 0 vs)).kids=cF (D l) r 0 vs from rfl,this,Bool.or_comm];rfl
theorem lD {s:Int} {pat:Th} (Hc:∀ c∈callsOf (pat.pl []),(f0 c.2.1).lies (mk c.2.1)=true/\(f0 c.2.1).noCall/\(∀ (r:List Int) (u:Th),(r,u)∈(f0 c.2.1).pl []->u.isHole=true->D c.2.1 r=true)/\∀ (r:List Int) (u:Th),D c.2.1 r=true->(c.1++r,u)∈(f0 s).pl []->D s (c.1++r)=true) :
 ∀ (n:Nat) (f p:Th) (q:List Int),f.size<=n->(∀ x∈f.pl q,x∈(f0 s).pl [])->(∀ c∈callsOf (p.pl q),c∈callsOf (pat.pl []))->f.noCall->f.lies (p.fill fun l _=>mk l)=true->(f.cut (D s) q).lies (p.fill fun l _=>(f0 l).cut (D l) [])=true
 | 0,f,p,q,hn=>by have:=f.size_pos;omega
 | n+1,.call a b,p,q,_=>fun _ _ h=>by rw [Th.noCall] at h;exact h.elim
 | n+1,.knot nm ks,.call l k,q,hn=>fun hF hC nf hf=>by
   obtain ⟨g1,g2,g3,g4⟩:=Hc (q,l,k) (hC _ (cK.mpr (du _ _)));rw [Th.fill] at hf ⊢;have:=nu (q:=q) g4 g3 (n+1) (.knot nm ks) (f0 l) (mk l) [] hn (by rw [U0];exact hF) (fun x hx=>hx) nf g2 hf g1;rw [U0] at this;exact this
 | n+1,.knot nm ks,.knot pm ps,q,hn=>fun hF hC nf hf=>by
   rw [Th.cut];by_cases hc:(Th.knot nm ks).isHole=true∨D s q=true
   · rw [if_pos hc];exact lf _
   · rw [if_neg hc];have h1:(Th.knot nm ks).isHole=false:=VP.mpr fun z=>hc (.inl z);rw [Th.fill,gY] at hf ⊢;obtain ⟨us,e,l1,b1⟩:=lies_of hf h1;cases e;rw [T8] at l1;rw [Th.lies,fK (oZ cO h1) (by rw [cO,T8];omega)];rw [Th.size] at hn;rw [Th.noCall] at nf
     have:bP (cF (D s) q 0 ks) (ps.map fun t=>t.fill fun l _=>(f0 l).cut (D l) [])=true:=fC fun i a b ha hb=>by
      rw [fe,UN] at ha;rw [Ul,UN] at hb;obtain ⟨k,hk,rfl⟩:=ha;obtain ⟨v,hv,rfl⟩:=hb;have hz:=aI (Uc hk);rw [VH];refine lD Hc n k v (q++[(i:Int)]) (by omega) (fun x hx=>hF x (gQ hk hx)) (fun c Fc=>hC c (oK hv Fc)) (bz nf (Uc hk)) (dI b1 i k _ hk (by rw [Ul,hv];rfl))
     show ((Th.knot nm (cF (D s) q 0 ks)).isHole || (true && bP (cF (D s) q 0 ks) (Th.knot nm (ps.map fun t=>t.fill fun l _=>(f0 l).cut (D l) [])).kids))=true;rw [show (Th.knot nm (ps.map fun t=>t.fill fun l _=>(f0 l).cut (D l) [])).kids=ps.map fun t=>t.fill fun l _=>(f0 l).cut (D l) [] from rfl,this,Bool.or_comm];rfl
end
theorem ie:∀ (n:Nat) (t:Th),t.size<=n->t.noCall->t.lies t=true
 | 0,t,hn,_=>by have:=t.size_pos;omega
 | n+1,.call a b,_,h=>by rw [Th.noCall] at h;exact h.elim
 | n+1,.knot m ks,hn,h=>by
   by_cases hh:(Th.knot m ks).isHole=true
   · rw [Th.lies,hh];rfl
   · have J7:(Th.knot m ks).isHole=false:=VP.mpr hh;rw [Th.size] at hn;rw [Th.noCall] at h;rw [Th.lies,fK J7 rfl]
     have:bP ks ks=true:=fC fun i a b ha hb=>by
      rw [ha] at hb;cases hb;have:=aI (Uc ha);exact ie n a (by omega) (bz h (Uc ha))
     show ((Th.knot m ks).isHole || (true && bP ks (Th.knot m ks).kids))=true;rw [show (Th.knot m ks).kids=ks from rfl,this,Bool.or_comm];rfl
def mkF (ins:List (UP×Int)) (rows:List (List Th)) (l:Int):Th:=(rowOf rows l).getD (cV ins) hole
def frF (mk:Int->Th) (m:Th) (row:List Th):Th:=row.foldl (fun f p=>f.com (p.fill fun l _=>mk l)) m
theorem l9 (mk:Int->Th) (m:Th) (row:List Th) (p:Th):frF mk m (row++[p])=(frF mk m row).com (p.fill fun l _=>mk l):=by
 unfold frF;rw [List.foldl_append];rfl
theorem iN {mk:Int->Th} {m:Th} (h:m.noCall):∀ row:List Th,(frF mk m row).noCall:=fun row=>by
 cases hr:row.reverse with
 | nil =>
   have:row=[]:=by simpa using hr
   subst this;exact h
 | cons p ps =>
   have:row=ps.reverse++[p]:=by
    have:=congrArg List.reverse hr;simpa using this
   rw [this,l9];exact l3 _ _
theorem i6 (mk:Int->Th) (m:Th) (row:List Th):(frF mk m row).size<=m.size/\(frF mk m row).tall<=m.tall:=by
 unfold frF;induction row generalizing m with
 | nil=>exact ⟨Ue _,Ue _⟩
 | cons p row ih =>
   rw [List.foldl_cons];have h1:=ih (m.com (p.fill fun l _=>mk l));have h2:=oW m (p.fill fun l _=>mk l);omega
theorem uz (mk:Int->Th) (m:Th) (row:List Th):∀ x∈(frF mk m row).pl [],∃ u,(x.1,u)∈m.pl []:=by
 unfold frF;induction row generalizing m with
 | nil=>exact fun x hx=>⟨x.2,hx⟩
 | cons p row ih =>
   rw [List.foldl_cons];intro x hx;obtain ⟨u,hu⟩:=ih _ x hx;exact ut _ m _ [] (Ue _) (x.1,u) hu
theorem kM {mk:Int->Th} (f:Th):∀ (row:List Th) (m:Th),f.lies (frF mk m row)=true->f.lies m=true/\∀ p∈row,f.lies (p.fill fun l _=>mk l)=true
 | [],m,h=>⟨h,fun p hp=>by cases hp⟩
 | p::row,m,h=>by
   have h':f.lies (frF mk (m.com (p.fill fun l _=>mk l)) row)=true:=h;obtain ⟨h1,h2⟩:=kM f row _ h';rw [pe,Wg] at h1;refine ⟨h1.1,fun x hx=>?_⟩;rcases UB.mp hx with rfl | hx
   · exact h1.2
   · exact h2 x hx
def nk (s:Int) (pl:List Int):aD:=(pl.map UZ,UZ s)
theorem qK {s s':Int} {p p':List Int} (h:nk s p=nk s' p'):s=s'/\p=p':=by
 unfold nk at h;injection h with h1 h2;refine ⟨Xh h2,?_⟩;exact (Yy (fun _ _ e=>Xh e)).mp h1
theorem kB {H:Hp} {s:Int} {pl:List Int} {b c:Ud} (h1:H b=some (.tup [.int s,.ref c])) (h2:H c=some (.tup (pl.map V.int))):MKAt H (nk s pl) b:=by
 refine ⟨c,h1,?_⟩;rw [h2];unfold nk;rw [Wi];rfl
def But (p:Ud) (H H':Hp):Prop:=∀ c o,c≠p->H c=some o->H' c=some o
theorem But.refl (p:Ud) (H:Hp):But p H H:=fun _ _ _ e=>e
theorem But.trans {p:Ud} {H H' HY:Hp} (a:But p H H') (b:But p H' HY):But p H HY:=fun c o hc e=>b c o hc (a c o hc e)
theorem Same.but {p:Ud} {H H':Hp} (a:L2.Same H H'):But p H H':=fun c o _ e=>a c o e
theorem But.kt {p:Ud} {H H':Hp} {φ:Vy->Prop} (a:But p H H') (e:H p=some (.ext φ)):KT H H':=fun c ys ec=>a c _ (fun z=>by rw [z,e] at ec;cases ec) ec
abbrev VlT:=Nat->aD->Th->Th->Prop
def PtV (H:Hp) (R:Th->Th->Prop) (v:V):Prop:=∃ (pr ta tb:Ud) (t1 t2:Th),v=.ref pr/\H pr=some (.tup [.ref ta,.ref tb])/\At H t1 ta/\At H t2 tb/\R t1 t2
theorem PtV.mono {H H':Hp} (k:KT H H') {R:Th->Th->Prop} {v:V} (h:PtV H R v):PtV H' R v:=by
 obtain ⟨pr,ta,tb,t1,t2,e,h1,h2,h3,h4⟩:=h;exact ⟨pr,ta,tb,t1,t2,e,k _ _ h1,h2.mono k,h3.mono k,h4⟩
structure Pt (P:Uv) (w:UK) (Vl:VlT) (H:Hp) (pt:Ud) (f':List (aD×V)) (Al:List aD):Prop where
 dm:DM P w H pt f'
 nd:(f'.map (·.1)).Nodup
 al:∀ p∈f',p.1∈Al
 vl:∀ (j:Nat) (p:aD×V),f'[j]?=some p->PtV H (Vl j p.1) p.2
theorem cy {P:Uv} {w:UK} {H:Hp} {a:Ud} {f':List (aD×V)} (h:DM P w H a f'):∃ φ,H a=some (.ext φ):=by
 obtain ⟨_,_,xs,φ,e,_⟩:=h;exact ⟨φ,e⟩
theorem Pt.same {P:Uv} {w:UK} {Vl:VlT} {H H':Hp} {pt:Ud} {f':List (aD×V)} {Al:List aD} (h:Pt P w Vl H pt f' Al) (s:L2.Same H H'):Pt P w Vl H' pt f' Al:=⟨h.dm.mono s,h.nd,h.al,fun j p hp=>(h.vl j p hp).mono (Same.kt s)⟩
theorem Pt.len {P:Uv} {w:UK} {Vl:VlT} {H:Hp} {pt:Ud} {f':List (aD×V)} {Al:List aD} (h:Pt P w Vl H pt f' Al):f'.length<=Al.length:=by
 have:=mS (m:=Al) h.nd fun k hk=>by
  obtain ⟨p,hp,rfl⟩:=Vb.mp hk;exact h.al p hp
 rwa [T8] at this
theorem di {f':List (aD×V)} {k:aD} (h:aW f' k=none):k∉f'.map (·.1):=by
 intro hk;obtain ⟨p,hp,rfl⟩:=Vb.mp hk;have:=eA p.1 f';rw [h] at this;have h2:(f'.any fun kv=>decide (kv.1=p.1))=true:=List.any_eq_true.mpr ⟨p,hp,decide_eq_true rfl⟩;rw [h2] at this;cases this
theorem fo {f':List (aD×V)} {k:aD} {v:V} (h:aW f' k=some v):(k,v)∈f':=by
 induction f' with
 | nil=>cases h
 | cons p f' ih =>
   by_cases e:p.1=k
   · rw [bO e] at h;cases h;rw [<- e];exact UM ..
   · rw [bU e] at h;exact UG _ (ih h)
theorem Pt.put {P:Uv} {w:UK} {Vl:VlT} {H H':Hp} {pt:Ud} {f':List (aD×V)} {Al:List aD} (h:Pt P w Vl H pt f' Al) {k:aD} {v:V} (hn:aW f' k=none) (hb:But pt H H') (hd:DM P w H' pt (putK f' k v)) (hv:PtV H (Vl f'.length k) v) (hk:k∈Al):Pt P w Vl H' pt (putK f' k v) Al/\(putK f' k v).map (·.1)=f'.map (·.1)++[k]:=by
 obtain ⟨φ,e⟩:=cy h.dm;have kt:=hb.kt e;rw [kS v hn] at hd ⊢;refine ⟨⟨hd,?_,fun p hp=>?_,fun j p hp=>?_⟩,by rw [Ut];rfl⟩
 · rw [Ut];refine YD.mpr ⟨h.nd,by simp,fun a ha b Ap=>?_⟩;simp at Ap;subst Ap;exact fun z=>di hn (z ▸ ha)
 · rcases U8.mp hp with hp | hp
   · exact h.al p hp
   · rw [UH.mp hp];exact hk
 · by_cases hj:j<f'.length
   · rw [Wl hj] at hp;exact (h.vl j p hp).mono kt
   · rw [WQ (by omega)] at hp
     have QS:j - f'.length=0:=by
      have:=(Uh.mp hp).1;have h1:[(k,v)].length=1:=rfl;omega
     rw [QS] at hp;have BG:j=f'.length:=by omega
     cases hp;rw [BG];exact hv.mono kt
mutual
theorem rg {u:Th}:∀ (t:Th) (pre:List Int),u∈t.walk->∃ pl,(pl,u)∈t.pl pre
 | .call a b,pre,h=>by
   rw [Th.walk] at h;rw [UH.mp h];exact ⟨pre,du _ _⟩
 | .knot n ks,pre,h=>by
   rw [Th.walk] at h;rcases UB.mp h with rfl | h
   · exact ⟨pre,du _ _⟩
   · obtain ⟨pl,hp⟩:=pW ks pre 0 h;exact ⟨pl,by rw [Th.pl];exact UG _ hp⟩
theorem pW {u:Th}:∀ (ts:List Th) (pre:List Int) (i:Int),u∈walks ts->∃ pl,(pl,u)∈pls pre i ts
 | [],pre,i,h=>by rw [walks] at h;cases h
 | t::ts,pre,i,h=>by
   rw [walks] at h;rw [pls];rcases U8.mp h with h | h
   · obtain ⟨pl,hp⟩:=rg t (pre++[i]) h;exact ⟨pl,Vf _ hp⟩
   · obtain ⟨pl,hp⟩:=pW ts pre (i+1) h;exact ⟨pl,U6 _ hp⟩
end
theorem sf {ks:List (UP×Int)} {S C:Int} {t:Th} (h:t.FitS ks S C) {s k:Int} (hm:Th.call s k∈t.walk):0<=s/\s<S/\0<=k/\k<C:=by
 obtain ⟨pl,hp⟩:=rg t [] hm;exact gW t [] h (pl,s,k) (cK.mpr hp)
theorem gF {ks:List (UP×Int)} {S:Int}:∀ (n:Nat) (t:Th),t.size<=n->t.FitS ks S 0->t.noCall
 | 0,t,hn,_=>by have:=t.size_pos;omega
 | n+1,.call a b,_,h=>by rw [Th.FitS] at h;omega
 | n+1,.knot m us,hn,h=>by
   rw [Th.FitS] at h;rw [Th.size] at hn;rw [Th.noCall]
   have:∀ (l:List Th),(∀ t∈l,t.noCall)->bX l:=fun l=>by
    induction l with
    | nil=>intro _;rw [bX];trivial
    | cons x l ih=>intro hl;rw [bX];exact ⟨hl x (UM ..),ih fun t ht=>hl t (UG _ ht)⟩
   refine this us fun t ht=>?_;have hz:=aI ht;exact gF n t (by omega) (FitSs.mem' h.2 t ht)
mutual
theorem qy:∀ (t:Th) (a b:List Int),t.pl (a++b)=(t.pl b).map fun x=>(a++x.1,x.2)
 | .call s k,a,b=>by rw [Th.pl,Th.pl];rfl
 | .knot n ks,a,b=>by rw [Th.pl,Th.pl,Vd,rm ks a b 0]
theorem rm:∀ (ts:List Th) (a b:List Int) (i:Int),pls (a++b) i ts=(pls b i ts).map fun x=>(a++x.1,x.2)
 | [],a,b,i=>by rw [pls,pls];rfl
 | t::ts,a,b,i=>by rw [pls,pls,Ut,Ve,qy t a (b++[i]),rm ts a b (i+1)]
end
theorem dG {t:Th} {a:List Int} {x:List Int×Th}:x∈t.pl a↔∃ r,x.1=a++r/\(r,x.2)∈t.pl []:=by
 have:=qy t a [];rw [U0] at this;rw [this,Vb];constructor
 · rintro ⟨y,hy,rfl⟩;exact ⟨y.1,rfl,hy⟩
 · rintro ⟨r,h1,h2⟩;exact ⟨(r,x.2),h2,by rw [<- h1]⟩
theorem re:∀ (n:Nat) {t u v:Th} {a r:List Int},t.size<=n->(a,u)∈t.pl []->(r,v)∈u.pl []->(a++r,v)∈t.pl []
 | 0,t,_,_,_,_,hn=>by have:=t.size_pos;omega
 | n+1,.call s k,u,v,a,r,hn=>fun h1 h2=>by
   rw [Th.pl] at h1;cases UH.mp h1;exact h2
 | n+1,.knot m ks,u,v,a,r,hn=>fun h1 h2=>by
   rw [Th.pl] at h1;rcases UB.mp h1 with h1 | h1
   · cases h1;exact h2
   · obtain ⟨j,t,ht,hx⟩:=cT.mp h1;obtain ⟨r',e,AR⟩:=dG.mp hx;dsimp only at e AR;rw [VH,Wc] at e;rw [Th.size] at hn;have hz:=aI (Uc ht);have:=re n (by omega) AR h2;refine gQ ht (dG.mpr ⟨r'++r,?_,this⟩);show a++r=[]++[(j:Int)]++(r'++r);rw [e,Wc,Ve]
theorem oH:∀ (n:Nat) {t v:Th} {a r:List Int} {u:Th},t.size<=n->(a++r,v)∈t.pl []->(∃ w,(a,w)∈t.pl []/\(r,v)∈w.pl [])
 | 0,t,_,_,_,_,hn=>by have:=t.size_pos;omega
 | n+1,t,v,[],r,_,hn=>fun h=>⟨t,du _ _,h⟩
 | n+1,.call s k,v,x::a,r,_,hn=>fun h=>by
   rw [Th.pl] at h;have:=congrArg Prod.fst (UH.mp h);cases this
 | n+1,.knot m ks,v,x::a,r,u,hn=>fun h=>by
   rw [Th.pl] at h;rcases UB.mp h with h | h
   · have:=congrArg Prod.fst h;cases this
   · obtain ⟨j,t,ht,hx⟩:=cT.mp h;obtain ⟨r',e,AR⟩:=dG.mp hx;dsimp only at e AR;rw [VH,Wc] at e;injection e with e1 e2;have e2:a++r=r':=e2;rw [Th.size] at hn;have hz:=aI (Uc ht);rw [<- e2] at AR;obtain ⟨w,h1,h2⟩:=oH n (u:=u) (by omega) AR;refine ⟨w,gQ ht (dG.mpr ⟨a,?_,h1⟩),h2⟩;show x::a=[]++[(j:Int)]++a;rw [e1];rfl
end BB
namespace BB
open PySem L2
theorem qm:∀ (n:Nat) {t u v:Th} {a:List Int},t.size<=n->(a,u)∈t.pl []->(a,v)∈t.pl []->u=v
 | 0,t,_,_,_,hn=>by have:=t.size_pos;omega
 | n+1,.call s k,u,v,a,hn=>fun h1 h2=>by
   rw [Th.pl] at h1 h2;cases UH.mp h1;cases UH.mp h2;rfl
 | n+1,.knot m ks,u,v,a,hn=>fun h1 h2=>by
   rw [Th.pl] at h1 h2;rcases UB.mp h1 with h1 | h1
   · cases h1;rcases UB.mp h2 with h2 | h2
     · cases h2;rfl
     · obtain ⟨j,t,ht,hx⟩:=cT.mp h2;obtain ⟨r',e,_⟩:=dG.mp hx;cases e
   · obtain ⟨j,t,ht,hx⟩:=cT.mp h1;obtain ⟨r',e,AR⟩:=dG.mp hx;rcases UB.mp h2 with h2 | h2
     · cases h2;cases e
     · obtain ⟨j2,t2,Fx,BI⟩:=cT.mp h2;obtain ⟨r2,e2,Fy⟩:=dG.mp BI;dsimp only at e e2 AR Fy;rw [e] at e2;have e3:(0+(j:Int))::r'=(0+(j2:Int))::r2:=e2;injection e3 with e4 e5;have:j=j2:=by omega
       subst this;rw [ht] at Fx;cases Fx;subst e5;rw [Th.size] at hn;have hz:=aI (Uc ht);exact qm n (by omega) AR Fy
abbrev LkT:=aD->Int->List Int->UP×Int->Int->Prop
def LE (H:Hp) (ins:List (UP×Int)) (Al:List aD) (Lk:LkT) (k0:aD) (a:Ud):Prop:=∃ (s kid:Int) (pl:List Int) (pa ka:Ud) (kd:UP×Int),H a=some (.tup [.int s,.ref pa,.ref ka,.int kid])/\H pa=some (.tup (pl.map V.int))/\KAt H kd ka/\kd∈ins/\nk s pl∈Al/\Lk k0 s pl kd kid
theorem LE.mono {H H':Hp} (k:KT H H') {ins:List (UP×Int)} {Al:List aD} {Lk:LkT} {k0:aD} {a:Ud} (h:LE H ins Al Lk k0 a):LE H' ins Al Lk k0 a:=by
 obtain ⟨s,kid,pl,pa,ka,kd,h1,h2,h3,h4,h5⟩:=h;exact ⟨s,kid,pl,pa,ka,kd,k _ _ h1,k _ _ h2,k _ _ h3,h4,h5⟩
abbrev LG:=List (aD×Ud×List Ud)
def lkv (G:LG):List (aD×V):=G.map fun g=>(g.1,V.ref g.2.1)
structure LkI (P:Uv) (w:UK) (ins:List (UP×Int)) (Al:List aD) (Lk:LkT) (H0 H:Hp) (la:Ud) (G:LG) (N:Nat):Prop where
 sm:L2.Same H0 H
 la0:H0 la=none
 dm:DM P w H la (lkv G)
 kn:(G.map (·.1)).Nodup
 an:(G.map (·.2.1)).Nodup
 ls:∀ g∈G,H0 g.2.1=none/\H g.2.1=some (.lst (g.2.2.map V.ref))/\g.2.2.length<=N/\∀ a∈g.2.2,LE H ins Al Lk g.1 a
 le:G.length<=N
def ij (H:Hp) (G:LG) (k:aD) (s:Int) (pl:List Int):Prop:=∃ g∈G,g.1=k/\∃ a∈g.2.2,∃ (pa ka:Ud) (kid:Int),H a=some (.tup [.int s,.ref pa,.ref ka,.int kid])/\H pa=some (.tup (pl.map V.int))
def LSub (H H':Hp) (G G':LG):Prop:=∀ k s pl,ij H G k s pl->ij H' G' k s pl
theorem LSub.refl (H:Hp) (G:LG):LSub H H G G:=fun _ _ _ h=>h
theorem LSub.trans {H H' HY:Hp} {G G' Ot:LG} (a:LSub H H' G G') (b:LSub H' HY G' Ot):LSub H HY G Ot:=fun k s pl h=>b k s pl (a k s pl h)
theorem LSub.kt {H H':Hp} (k:KT H H') (G:LG):LSub H H' G G:=fun _ _ _ ⟨g,hg,e,a,ha,pa,ka,kid,h1,h2⟩=>⟨g,hg,e,a,ha,pa,ka,kid,k _ _ h1,k _ _ h2⟩
theorem rW {P:Uv} {w:UK} {H H':Hp} {a:Ud} {f':List (aD×V)} (h:DM P w H a f') (k:KT H H') (e:∀ o,H a=some o->H' a=some o):DM P w H' a f':=by
 obtain ⟨z,hd,xs,φ,e1,f,r⟩:=h;exact ⟨z,hd,xs,φ,e _ e1,f,KTm.mono k r⟩
section
variable {P:Uv} {w:UK} {ins:List (UP×Int)} {Al:List aD} {Lk:LkT} {H0 H:Hp} {la:Ud} {G:LG} {N:Nat}
theorem LkI.ne (h:LkI P w ins Al Lk H0 H la G N) {g:aD×Ud×List Ud} (hg:g∈G):g.2.1≠la:=fun z=>by
 obtain ⟨φ,e⟩:=cy h.dm;have:=(h.ls g hg).2.1;rw [z,e] at this;cases this
theorem LkI.same {H':Hp} (h:LkI P w ins Al Lk H0 H la G N) (s:L2.Same H H'):LkI P w ins Al Lk H0 H' la G N:=by
 refine ⟨h.sm.trans s,h.la0,h.dm.mono s,h.kn,h.an,fun g hg=>?_,h.le⟩;obtain ⟨a,b,c,d⟩:=h.ls g hg;exact ⟨a,s _ _ b,c,fun x hx=>(d x hx).mono (Same.kt s)⟩
theorem LkI.up (h:LkI P w ins Al Lk H0 H la G N) {M:Nat} (hm:N<=M):LkI P w ins Al Lk H0 H la G M:=by
 refine ⟨h.sm,h.la0,h.dm,h.kn,h.an,fun g hg=>?_,V3 h.le hm⟩;obtain ⟨a,b,c,d⟩:=h.ls g hg;exact ⟨a,b,V3 c hm,d⟩
theorem LkI.new {H':Hp} (h:LkI P w ins Al Lk H0 H la G N) {k:aD} {l:Ud} (hn:aW (lkv G) k=none) (hb:But la H H') (hd:DM P w H' la (putK (lkv G) k (.ref l))) (Cq:H0 l=none) (hl:H l=some (.lst [])) (hf:∀ g∈G,g.2.1≠l):LkI P w ins Al Lk H0 H' la (G++[(k,l,[])]) (N+1)/\LSub H H' G (G++[(k,l,[])]):=by
 obtain ⟨φ,e⟩:=cy h.dm;have kt:=hb.kt e;have LD:l≠la:=fun z=>by rw [z,e] at hl;cases hl
 refine ⟨⟨fun c o ec=>hb c o (fun z=>by rw [z,h.la0] at ec;cases ec) (h.sm _ _ ec),h.la0,?_,?_,?_,fun g hg=>?_,by rw [UA];have:=h.le;show G.length+1<=N+1;omega⟩,fun k' s pl h'=>?_⟩
 · rw [kS _ hn] at hd;unfold lkv at hd ⊢;rw [Ut];exact hd
 · rw [Ut];refine YD.mpr ⟨h.kn,by simp,fun a ha b Ap=>?_⟩;simp at Ap;subst Ap;intro z;subst z;refine di hn ?_;unfold lkv;rw [Wi];exact ha
 · rw [Ut];refine YD.mpr ⟨h.an,by simp,fun a ha b Ap=>?_⟩;simp at Ap;subst Ap;obtain ⟨g,hg,rfl⟩:=Vb.mp ha;exact hf g hg
 · rcases U8.mp hg with hg | hg
   · obtain ⟨a,b,c,d⟩:=h.ls g hg;exact ⟨a,hb _ _ (h.ne hg) b,by omega,fun x hx=>(d x hx).mono kt⟩
   · rw [UH.mp hg];exact ⟨Cq,hb _ _ LD hl,UL _,fun x hx=>by cases hx⟩
 · obtain ⟨g,hg,r⟩:=LSub.kt kt G k' s pl h';exact ⟨g,Vf _ hg,r⟩
def fN (l en:Ud) (g:aD×Ud×List Ud):aD×Ud×List Ud:=if g.2.1=l then (g.1,g.2.1,g.2.2++[en]) else g
theorem dL (l en:Ud) (g:aD×Ud×List Ud):(fN l en g).1=g.1/\(fN l en g).2.1=g.2.1:=by
 unfold fN;split <;> exact ⟨rfl,rfl⟩
theorem LkI.app (h:LkI P w ins Al Lk H0 H la G N) {g:aD×Ud×List Ud} (hg:g∈G) {en:Ud} (he:LE H ins Al Lk g.1 en):LkI P w ins Al Lk H0 (upd H g.2.1 (.lst (g.2.2.map V.ref++[.ref en]))) la (G.map (fN g.2.1 en)) (N+1)/\KT H (upd H g.2.1 (.lst (g.2.2.map V.ref++[.ref en])))/\LSub H (upd H g.2.1 (.lst (g.2.2.map V.ref++[.ref en]))) G (G.map (fN g.2.1 en))/\(∀ (s:Int) (pl:List Int) (pa ka:Ud) (kid:Int),H en=some (.tup [.int s,.ref pa,.ref ka,.int kid])->H pa=some (.tup (pl.map V.int))->ij (upd H g.2.1 (.lst (g.2.2.map V.ref++[.ref en]))) (G.map (fN g.2.1 en)) g.1 s pl):=by
 obtain ⟨gl,ge,gn,QT⟩:=h.ls g hg;have kt:KT H (upd H g.2.1 (.lst (g.2.2.map V.ref++[.ref en]))):=aU ge;have AX:=h.ne hg;have k1:(G.map (fN g.2.1 en)).map (·.1)=G.map (·.1):=by rw [Wi];exact XI fun x _=>(dL _ _ x).1
 have k2:(G.map (fN g.2.1 en)).map (·.2.1)=G.map (·.2.1):=by rw [Wi];exact XI fun x _=>(dL _ _ x).2
 have k3:lkv (G.map (fN g.2.1 en))=lkv G:=by
  unfold lkv;rw [Wi];refine XI fun x _=>?_;show ((fN g.2.1 en x).1,V.ref (fN g.2.1 en x).2.1)=_;rw [(dL _ _ x).1,(dL _ _ x).2]
 refine ⟨⟨ay h.sm gl,h.la0,?_,by rw [k1];exact h.kn,by rw [k2];exact h.an,fun x hx=>?_,by rw [T8];have:=h.le;omega⟩,kt,fun k s pl hh=>?_,fun s pl pa ka kid h1 h2=>?_⟩
 · rw [k3];exact rW h.dm kt fun o eo=>by rw [am AX.symm];exact eo
 · obtain ⟨y,hy,rfl⟩:=Vb.mp hx;obtain ⟨a,b,c,d⟩:=h.ls y hy;by_cases hc:y.2.1=g.2.1
   · have QU:y=g:=by
      obtain ⟨i,hi⟩:=UC.mp hy;obtain ⟨j,hj⟩:=UC.mp hg
      have EI:i=j:=by
       have h1:(G.map (·.2.1))[i]?=some y.2.1:=by rw [Ul,hi];rfl
       have h2:(G.map (·.2.1))[j]?=some y.2.1:=by rw [Ul,hj,hc];rfl
       exact (ZH (by have:=(Uh.mp h1).1;exact this) h.an).mp (h1.trans h2.symm)
      subst EI;rw [hi] at hj;exact UQ hj
     subst QU;unfold fN;rw [if_pos rfl];refine ⟨a,?_,?_,fun x hx=>?_⟩
     · show (upd H y.2.1 _) y.2.1=_;rw [ab];show some (HO.lst (y.2.2.map V.ref++[.ref en]))=some (.lst ((y.2.2++[en]).map V.ref));rw [Ut];rfl
     · show (y.2.2++[en]).length<=N+1;rw [UA];show y.2.2.length+1<=N+1;omega
     · rcases U8.mp hx with hx | hx
       · exact (d x hx).mono kt
       · rw [UH.mp hx];exact he.mono kt
   · unfold fN;rw [if_neg hc];exact ⟨a,by rw [am hc];exact b,by omega,fun x hx=>(d x hx).mono kt⟩
 · obtain ⟨x,hx,e,a,ha,pa,ka,kid,h1,h2⟩:=hh;refine ⟨fN g.2.1 en x,Vb.mpr ⟨x,hx,rfl⟩,by rw [(dL _ _ x).1];exact e,a,?_,pa,ka,kid,kt _ _ h1,kt _ _ h2⟩;unfold fN;split
   · exact Vf _ ha
   · exact ha
 · refine ⟨fN g.2.1 en g,Vb.mpr ⟨g,hg,rfl⟩,(dL _ _ g).1,en,?_,pa,ka,kid,kt _ _ h1,kt _ _ h2⟩;unfold fN;rw [if_pos rfl];exact U6 _ (UM ..)
end
theorem tI {K:Ub} {H:Hp}:∀ {ps:List (List Int×Th)} {as:List Ud},PsAtK K H ps as->∃ prs:List (List Key×V),UR (PrA H) prs as/\(∀ p∈prs,∃ x∈ps,p.1=x.1.map UZ/\∃ a,p.2=.ref a/\AtK K H x.2 a)/\∀ x∈ps,∃ p∈prs,p.1=x.1.map UZ
 | _,_,.nil=>⟨[],.nil,(fun p hp=>by cases hp),(fun p hp=>by cases hp)⟩
 | _,_,.cons (a:=x) r h=>by
   obtain ⟨pa,ta,h1,h2,h3⟩:=r;obtain ⟨prs,g1,g2,g3⟩:=tI h;refine ⟨(x.1.map UZ,.ref ta)::prs,.cons ⟨pa,h1,by rw [h2,Wi];rfl⟩ g1,fun p hp=>?_,fun y hy=>?_⟩
   · rcases UB.mp hp with rfl | hp
     · exact ⟨x,UM ..,rfl,ta,rfl,h3⟩
     · obtain ⟨y,hy,r⟩:=g2 p hp;exact ⟨y,UG _ hy,r⟩
   · rcases UB.mp hy with rfl | hy
     · exact ⟨_,UM ..,rfl⟩
     · obtain ⟨p,hp,e⟩:=g3 y hy;exact ⟨p,UG _ hp,e⟩
structure LQ (P:Uv) (w:UK) (ins:List (UP×Int)) (Al:List aD) (Lk:LkT) (H0:Hp) (la:Ud) (Hb:Hp) (Gb:LG) (Hc:Hp) (Gc:LG) (n:Nat):Prop where
 lk:LkI P w ins Al Lk H0 Hc la Gc n
 sub:LSub Hb Hc Gb Gc
 fr:∀ c o,Hb c=some o->c≠la->(∀ g∈Gb,g.2.1≠c)->Hc c=some o
 dom:∀ c o,Hb c=some o->∃ o',Hc c=some o'
 ext:∀ g∈Gc,(∃ g0∈Gb,g0.2.1=g.2.1)∨Hb g.2.1=none
section
variable {P:Uv} {w:UK} {ins:List (UP×Int)} {Al:List aD} {Lk:LkT} {H0 Hb Hc Hd:Hp} {la:Ud} {Gb Gc Gd:LG} {n m:Nat}
theorem LQ.refl (h:LkI P w ins Al Lk H0 Hb la Gb n):LQ P w ins Al Lk H0 la Hb Gb Hb Gb n:=⟨h,LSub.refl _ _,fun _ _ e _ _=>e,fun c o e=>⟨o,e⟩,fun g hg=>.inl ⟨g,hg,rfl⟩⟩
theorem LQ.same (h:LQ P w ins Al Lk H0 la Hb Gb Hc Gc n) (s:L2.Same Hc Hd):LQ P w ins Al Lk H0 la Hb Gb Hd Gc n :=
 ⟨h.lk.same s,h.sub.trans (LSub.kt (Same.kt s) _),fun c o e h1 h2=>s _ _ (h.fr c o e h1 h2),fun c o e=>by obtain ⟨o',e'⟩:=h.dom c o e;exact ⟨o',s _ _ e'⟩,h.ext⟩
theorem LQ.up (h:LQ P w ins Al Lk H0 la Hb Gb Hc Gc n) (hm:n<=m):LQ P w ins Al Lk H0 la Hb Gb Hc Gc m:=⟨h.lk.up hm,h.sub,h.fr,h.dom,h.ext⟩
theorem LQ.trans (a:LQ P w ins Al Lk H0 la Hb Gb Hc Gc n) (b:LQ P w ins Al Lk H0 la Hc Gc Hd Gd m):LQ P w ins Al Lk H0 la Hb Gb Hd Gd m:=by
 refine ⟨b.lk,a.sub.trans b.sub,fun c o e h1 h2=>b.fr c o (a.fr c o e h1 h2) h1 fun g hg=>?_,fun c o e=>?_,fun g hg=>?_⟩
 · rcases a.ext g hg with ⟨g0,h3,h4⟩ | h3
   · rw [<- h4];exact h2 g0 h3
   · intro z;rw [z,e] at h3;cases h3
 · obtain ⟨o',e'⟩:=a.dom c o e;exact b.dom c o' e'
 · rcases b.ext g hg with ⟨g0,h3,h4⟩ | h3
   · rw [<- h4];exact a.ext g0 h3
   · refine .inr ?_;cases hh:Hb g.2.1 with
     | none=>rfl
     | some o =>
       obtain ⟨o',e'⟩:=a.dom _ o hh;rw [h3] at e';cases e'
theorem LQ.kt (h:LQ P w ins Al Lk H0 la Hb Gb Hc Gc n) (L:LkI P w ins Al Lk H0 Hb la Gb m):KT Hb Hc:=fun c ys e=>by
 obtain ⟨φ,el⟩:=cy L.dm;refine h.fr c _ e (fun z=>by rw [z,el] at e;cases e) fun g hg z=>?_;have:=(L.ls g hg).2.1;rw [z,e] at this;cases this
theorem LQ.newG (a:LQ P w ins Al Lk H0 la Hb Gb Hc Gc n) {k:aD} {l:Ud} {He:Hp} (hl:Hc l=none) (hn:aW (lkv Gc) k=none) (hb:But la (upd Hc l (.lst [])) He) (hd:DM P w He la (putK (lkv Gc) k (.ref l))):LQ P w ins Al Lk H0 la Hb Gb He (Gc++[(k,l,[])]) (n+1):=by
 have s1:L2.Same Hc (upd Hc l (.lst [])):=ad hl _;have L1:=a.lk.same s1
 obtain ⟨h1,h2⟩:=L1.new hn hb hd (a.lk.sm.free hl) ab fun g hg z=>by
  have:=(a.lk.ls g hg).2.1;rw [z,hl] at this;cases this
 refine a.trans ⟨h1,(LSub.kt (Same.kt s1) _).trans h2,fun c o e hc _=>hb c o hc (s1 _ _ e),fun c o e=>?_,fun g hg=>?_⟩
 · by_cases hc:c=la
   · obtain ⟨φ,e'⟩:=cy hd;exact ⟨_,by rw [hc];exact e'⟩
   · exact ⟨o,hb c o hc (s1 _ _ e)⟩
 · rcases U8.mp hg with hg | hg
   · exact .inl ⟨g,hg,rfl⟩
   · rw [UH.mp hg];exact .inr hl
theorem LQ.appG (a:LQ P w ins Al Lk H0 la Hb Gb Hc Gc n) {g:aD×Ud×List Ud} (hg:g∈Gc) {en:Ud} (he:LE Hc ins Al Lk g.1 en):LQ P w ins Al Lk H0 la Hb Gb (upd Hc g.2.1 (.lst (g.2.2.map V.ref++[.ref en]))) (Gc.map (fN g.2.1 en)) (n+1)/\∀ (s:Int) (pl:List Int) (pa ka:Ud) (kid:Int),Hc en=some (.tup [.int s,.ref pa,.ref ka,.int kid])->Hc pa=some (.tup (pl.map V.int))->ij (upd Hc g.2.1 (.lst (g.2.2.map V.ref++[.ref en]))) (Gc.map (fN g.2.1 en)) g.1 s pl:=by
 obtain ⟨h1,h2,h3,h4⟩:=a.lk.app hg he;refine ⟨⟨h1,a.sub.trans h3,fun c o e hc hf=>?_,fun c o e=>?_,fun x hx=>?_⟩,h4⟩
 · rw [am]
   · exact a.fr c o e hc hf
   · intro z;rcases a.ext g hg with ⟨g0,h5,h6⟩ | h5
     · exact hf g0 h5 (h6.trans z.symm)
     · rw [<- z,e] at h5;cases h5
 · by_cases hc:c=g.2.1
   · exact ⟨_,by rw [hc];exact ab⟩
   · rw [am hc];exact a.dom c o e
 · obtain ⟨y,hy,rfl⟩:=Vb.mp hx;rw [(dL _ _ y).2];exact a.ext y hy
theorem rn {G:LG} {k:aD} {u:V} (h:aW (lkv G) k=some u):∃ g∈G,g.1=k/\u=.ref g.2.1:=by
 have:=fo h;unfold lkv at this;obtain ⟨g,hg,e⟩:=Vb.mp this;cases e;exact ⟨g,hg,rfl,rfl⟩
end
theorem vX:∀ (n:Nat) (t:Th) (pre:List Int),t.size<=n->∀ x∈t.pl pre,x.2.size<=t.size/\x.2.tall<=t.tall
 | 0,t,_,hn=>by have:=t.size_pos;omega
 | n+1,.call a b,pre,hn=>fun x hx=>by
   rw [Th.pl] at hx;rw [UH.mp hx];exact ⟨Ue _,Ue _⟩
 | n+1,.knot m ks,pre,hn=>fun x hx=>by
   rw [Th.pl] at hx;rcases UB.mp hx with rfl | hx
   · exact ⟨Ue _,Ue _⟩
   · obtain ⟨j,t,ht,hx⟩:=cT.mp hx;rw [Th.size] at hn;have hz:=aI (Uc ht);have Fx:=bR (Uc ht);obtain ⟨h1,h2⟩:=vX n t _ (by omega) x hx;rw [Th.size,Th.tall];omega
theorem fx {n:Nat} (h:n<=16000000):n<Uz:=by
 have:Uz=16777216:=Yb;omega
theorem pZ:∀ (n:Nat) (t:Th) (pre:List Int),t.size<=n->∀ x∈t.pl pre,x.1.length<=pre.length+t.tall
 | 0,t,_,hn=>by have:=t.size_pos;omega
 | n+1,.call a b,pre,hn=>fun x hx=>by
   rw [Th.pl] at hx;rw [UH.mp hx];exact WI _ _
 | n+1,.knot m ks,pre,hn=>fun x hx=>by
   rw [Th.pl] at hx;rcases UB.mp hx with rfl | hx
   · exact WI _ _
   · obtain ⟨j,t,ht,hx⟩:=cT.mp hx;rw [Th.size] at hn;have hz:=aI (Uc ht);have Fx:=bR (Uc ht);have h1:=pZ n t _ (by omega) x hx;rw [UA] at h1;rw [Th.tall];have h2:[(0:Int)+(j:Int)].length=1:=rfl;omega
structure LkR (P:Uv) (w:UK) (ins:List (UP×Int)) (Al:List aD) (Lk:LkT) (H:Hp) (la:Ud) (G:LG):Prop where
 dm:DM P w H la (lkv G)
 ls:∀ g∈G,H g.2.1=some (.lst (g.2.2.map V.ref))/\∀ a∈g.2.2,LE H ins Al Lk g.1 a
 kn:(G.map (·.1)).Nodup
theorem LkI.r {P:Uv} {w:UK} {ins:List (UP×Int)} {Al:List aD} {Lk:LkT} {H0 H:Hp} {la:Ud} {G:LG} {N:Nat} (h:LkI P w ins Al Lk H0 H la G N):LkR P w ins Al Lk H la G:=⟨h.dm,fun g hg=>⟨(h.ls g hg).2.1,(h.ls g hg).2.2.2⟩,h.kn⟩
theorem LkR.but {P:Uv} {w:UK} {ins:List (UP×Int)} {Al:List aD} {Lk:LkT} {H H':Hp} {la pt:Ud} {G:LG} {φ:Vy->Prop} (h:LkR P w ins Al Lk H la G) (hb:But pt H H') (e:H pt=some (.ext φ)) (hn:pt≠la):LkR P w ins Al Lk H' la G:=by
 have kt:=hb.kt e;refine ⟨rW h.dm kt fun o eo=>hb _ _ hn.symm eo,fun g hg=>?_,h.kn⟩;obtain ⟨h1,h2⟩:=h.ls g hg;exact ⟨hb _ _ (fun z=>by rw [z,e] at h1;cases h1) h1,fun a ha=>(h2 a ha).mono kt⟩
theorem LkR.at {P:Uv} {w:UK} {ins:List (UP×Int)} {Al:List aD} {Lk:LkT} {H:Hp} {la:Ud} {G:LG} (h:LkR P w ins Al Lk H la G) {g:aD×Ud×List Ud} (hg:g∈G) {s:Int} {pl:List Int} (hh:ij H G g.1 s pl):∃ a∈g.2.2,∃ (pa ka:Ud) (kid:Int),H a=some (.tup [.int s,.ref pa,.ref ka,.int kid])/\H pa=some (.tup (pl.map V.int)):=by
 obtain ⟨g',K7,e,r⟩:=hh
 have:g'=g:=by
  obtain ⟨i,hi⟩:=UC.mp K7;obtain ⟨j,hj⟩:=UC.mp hg;have h1:(G.map (·.1))[i]?=some g.1:=by rw [Ul,hi,<- e];rfl
  have h2:(G.map (·.1))[j]?=some g.1:=by rw [Ul,hj];rfl
  have EI:i=j:=(ZH (by have:=(Uh.mp h1).1;exact this) h.kn).mp (h1.trans h2.symm);subst EI;rw [hi] at hj;exact UQ hj
 subst this;exact r
theorem tL {G:LG} {k:aD} (h:aW (lkv G) k=none) {H:Hp} {s:Int} {pl:List Int}:¬ ij H G k s pl:=fun ⟨g,hg,e,_⟩=>by
 refine di h ?_;unfold lkv;rw [Wi];exact Vb.mpr ⟨g,hg,e⟩
theorem oQ {a b:List Int} (h:a.map V.int=b.map V.int):a=b:=(Yy (fun _ _ e=>V.int.inj e)).mp h
theorem LkR.back {P:Uv} {w:UK} {ins:List (UP×Int)} {Al:List aD} {Lk:LkT} {H H':Hp} {la:Ud} {G:LG} (R:LkR P w ins Al Lk H la G) (kt:KT H H') {k:aD} {s:Int} {pl:List Int} (hh:ij H' G k s pl):ij H G k s pl:=by
 obtain ⟨g,hg,e,a,ha,pa,ka,kid,h1,h2⟩:=hh;obtain ⟨s',AS,Aq,DB,C2,Ou,g1,g2,_⟩:=(R.ls g hg).2 a ha;have e1:=kt _ _ g1;rw [h1] at e1;cases e1;have e2:=kt _ _ g2;rw [h2] at e2;have:pl=Aq:=oQ (by injection e2 with e3;injection e3);subst this;exact ⟨g,hg,e,a,ha,pa,ka,kid,g1,g2⟩
def Dk (f':List (aD×V)) (s:Int) (pl:List Int):Bool:=(aW f' (nk s pl)).isSome
theorem jI {f':List (aD×V)} {s:Int} {pl:List Int}:Dk f' s pl=true↔nk s pl∈f'.map (·.1):=by
 unfold Dk;constructor
 · intro h;obtain ⟨v,hv⟩:=XR.mp h;exact Vb.mpr ⟨_,fo hv,rfl⟩
 · intro h;cases hv:aW f' (nk s pl) with
   | none=>exact absurd h (di hv)
   | some v=>rfl
def i0 (D:List Int->Bool) (As:List (List Int×Th)):List Th:=As.flatMap fun x=>(x.2.cut D x.1).walk
theorem pw (D:List Int->Bool) (a b:List (List Int×Th)):i0 D (a++b)=i0 D a++i0 D b:=by unfold i0;rw [List.flatMap_append]
theorem np (D:List Int->Bool) (pre:List Int):∀ (i:Int) (ks:List Th),i0 D (cW pre i ks)=walks (cF D pre i ks)
 | i,[]=>by rw [cW,cF,walks];rfl
 | i,k::ks=>by
   rw [cW,cF,walks,<- np D pre (i+1) ks];rfl
theorem kU (D:List Int->Bool):∀ (n:Nat) (t:Th) (pre:List Int),t.size<=n->(t.cut D pre).size<=t.size
 | 0,t,_,hn=>by have:=t.size_pos;omega
 | n+1,.call a b,pre,hn=>by rw [Th.cut,ff,Th.size];exact Ue _
 | n+1,.knot m ks,pre,hn=>by
   rw [Th.cut];split
   · rw [ff,Th.size];omega
   · rw [Th.size] at hn;rw [Th.size,Th.size]
     have:∀ (us:List Th) (i:Int),aq us<=n->aq (cF D pre i us)<=aq us:=fun us=>by
      induction us with
      | nil=>intro i _;rw [cF];exact Ue _
      | cons u us ih =>
        intro i h;rw [aq] at h;rw [cF,aq,aq];have h1:=ih (i+1) (by omega);have h2:=kU D n u (pre++[i]) (by omega);omega
     have:=this ks 0 (by omega);omega
end BB
namespace BB
open PySem L2
inductive In:Th->List Int->Th->Prop
 | here {t:Th}:In t [] t
 | kid {n:UP} {ks:List Th} {j:Nat} {u v:Th} {r:List Int} (h:ks[j]?=some u) (i:In u r v):In (.knot n ks) ((j:Int)::r) v
theorem In.of:∀ (n:Nat) {t v:Th} {pl:List Int},t.size<=n->(pl,v)∈t.pl []->In t pl v
 | 0,t,_,_,hn,_=>by have:=t.size_pos;omega
 | n+1,.call s k,v,pl,hn,h=>by
   rw [Th.pl] at h;cases UH.mp h;exact .here
 | n+1,.knot m ks,v,pl,hn,h=>by
   rw [Th.pl] at h;rcases UB.mp h with h | h
   · cases h;exact .here
   · obtain ⟨j,t,ht,hx⟩:=cT.mp h;obtain ⟨r,e,hr⟩:=dG.mp hx;dsimp only at e hr;rw [VH,Wc] at e;rw [Th.size] at hn;have hz:=aI (Uc ht);have e2:pl=(j:Int)::r:=e;rw [e2];exact .kid ht (In.of n (by omega) hr)
theorem In.to {t v:Th} {pl:List Int} (h:In t pl v):(pl,v)∈t.pl []:=by
 induction h with
 | here=>exact du _ _
 | kid h i ih =>
   refine gQ h (dG.mpr ⟨_,?_,ih⟩);rfl
theorem In.iff {t v:Th} {pl:List Int}:(pl,v)∈t.pl []↔In t pl v:=⟨In.of _ (Ue _),In.to⟩
theorem jP {f:Int->Int->Th}:∀ {ts:List Th} {j:Nat},(fills f ts)[j]?=(ts[j]?).map (Th.fill f)
 | [],j=>by rw [fills];simp
 | t::ts,0=>by rw [fills];rfl
 | t::ts,j+1=>by rw [fills,U9,U9];exact jP
theorem gL {ks:List (UP×Int)} {S C:Int} {n:UP} {us:List Th} (h:(Th.knot n us).FitS ks S C) {j:Nat} {u:Th} (hu:us[j]?=some u):u.FitS ks S C:=by
 rw [Th.FitS] at h;exact FitSs.mem' h.2 u (Uc hu)
theorem mT {ks:List (UP×Int)} {S C C':Int} {f:Int->Int->Th} (hf:∀ l k,0<=l->l<S->(f l k).FitS ks S C'):∀ (n:Nat) (p:Th),p.size<=n->p.FitS ks S C->(p.fill f).FitS ks S C'
 | 0,p,hn,_=>by have:=p.size_pos;omega
 | n+1,.call l k,_,h=>by
   rw [Th.FitS] at h;rw [Th.fill];exact hf l k h.1 h.2.1
 | n+1,.knot m us,hn,h=>by
   rw [Th.fill,Th.FitS,ii];have h0:=h;rw [Th.FitS] at h0;rw [Th.size] at hn;refine ⟨h0.1,FitSs.of fun t ht=>?_⟩;obtain ⟨j,hj⟩:=UC.mp ht;rw [jP,UN] at hj;obtain ⟨u,hu,rfl⟩:=hj;have hz:=aI (Uc hu);exact mT hf n u (by omega) (gL h hu)
theorem rc {outs:List (UP×Int)} (go:bZ outs) {S:Int}:∀ (n:Nat) (f g m h:Th) (pl:List Int),f.size<=n->In (f.com g) pl h->h.isHole=true->(∀ v,In f pl v->v.isHole=false)->f.lies m=true->f.noCall->m.FitS outs S 0->g.FitS outs S 0->∃ m1 m2 k1 k2,m1≠m2/\In m pl (.knot m1 k1)/\In g pl (.knot m2 k2)
 | 0,f,_,_,_,_,hn=>by have:=f.size_pos;omega
 | n+1,.call a b,_,_,_,_,_=>fun _ _ _ _ hc=>by rw [Th.noCall] at hc;exact hc.elim
 | n+1,.knot nm ks,g,m,h,pl,hn=>fun hi hh hv hl hc fm fg=>by
   rw [iK] at hi;by_cases hs:aJ (.knot nm ks) g=true
   · rw [if_pos hs] at hi;obtain ⟨vs,rfl,hlen,C7⟩:=j5 hs;obtain ⟨us,rfl,Ov,Bo⟩:=lies_of hl C7;have y9:In (.knot nm ((ks.zip vs).map fun p=>p.1.com p.2)) pl h:=hi;cases y9 with
     | here =>
       have:=hv _ .here;exfalso;rw [Th.isHole,decide_eq_true_iff] at hh;rw [Th.isHole,decide_eq_false_iff_not] at C7;refine C7 ⟨hh.1,?_⟩;have h2:=congrArg W7 hh.2;rw [T8,Xm,<- hlen,YW] at h2;exact VB.mp h2
     | kid hj hr =>
       rename_i j u r
       rw [Ul,UN] at hj;obtain ⟨p,hp,rfl⟩:=hj;obtain ⟨h1,h2⟩:=Wk.mp hp;obtain ⟨w,hw⟩:∃ w,us[j]?=some w:=⟨_,Ua (by have:=(Uh.mp h1).1;omega)⟩;rw [Th.size] at hn;have hz:=aI (Uc h1);rw [Th.noCall] at hc;obtain ⟨m1,m2,k1,k2,e,a1,a2⟩:=rc go n p.1 p.2 w h r (by omega) hr hh (fun v zu=>hv v (.kid h1 zu)) (dI Bo j _ _ h1 hw) (bz hc (Uc h1)) (gL fm hw) (gL fg h2);exact ⟨m1,m2,k1,k2,e,.kid hw a1,.kid h2 a2⟩
   · rw [if_neg hs] at hi;rw [hole] at hi;cases hi with
     | here =>
       have C7:=hv _ .here;obtain ⟨us,rfl,Ov,Bo⟩:=lies_of hl C7;cases g with
       | call a b=>rw [Th.FitS] at fg;omega
       | knot gm vs =>
         refine ⟨nm,gm,us,vs,fun e=>hs ?_,.here,.here⟩;subst e;rw [Th.FitS] at fm fg;obtain ⟨i1,g1⟩:=UC.mp fm.1;obtain ⟨i2,g2⟩:=UC.mp fg.1;have:=go.nd i1 i2 _ _ g1 g2 rfl;subst this;rw [g1] at g2;injection g2 with g2;injection g2 with _ g2;exact fK C7 (by omega)
     | kid hj _=>simp at hj
inductive NmAt (ins:List (UP×Int)) (rows:List (List Th)):Nat->Th->Th->List Int->UP->Prop
 | here {m:UP} {ks:List Th} {t:Th}:NmAt ins rows 0 (.knot m ks) t [] m
 | step {n:Nat} {nm m:UP} {ks:List Th} {j:Nat} {u t:Th} {r:List Int} (h:ks[j]?=some u) (i:NmAt ins rows n u t r m):NmAt ins rows (n+1) (.knot nm ks) t ((j:Int)::r) m
 | call {n:Nat} {s k:Int} {tm vm m:UP} {us vs:List Th} {row:List Th} {i:Nat} {kd:UP×Int} {p:Th} {r:List Int} (hk:0<=k) (hs:0<=s) (hu:us[k.toNat]?=some (.knot vm vs)) (hr:rows[s.toNat]?=some row) (hi:ins[i]?=some kd) (hn:kd.1=vm) (hp:row[i]?=some p) (h:NmAt ins rows n p (.knot vm vs) r m):NmAt ins rows (n+1) (.call s k) (.knot tm us) r m
theorem NmAt.of {ins:List (UP×Int)} {rows:List (List Th)} {t v:Th} {pl:List Int} (h:In t pl v):∀ {m:UP} {ks:List Th} (tree:Th),v=.knot m ks->∃ n,NmAt ins rows n t tree pl m:=by
 induction h with
 | here=>intro m ks tree e;subst e;exact ⟨0,.here⟩
 | kid h i ih =>
   intro m ks tree e;obtain ⟨n,hn⟩:=ih tree e;exact ⟨n+1,.step h hn⟩
def qj (ins:List (UP×Int)) (rows:List (List Th)) (s:Int) (t:Th) (pl:List Int) (m:UP):Prop:=∃ (vm:UP) (vs row:List Th) (i:Nat) (kd:UP×Int) (p:Th) (n:Nat),0<=s/\t=.knot vm vs/\rows[s.toNat]?=some row/\ins[i]?=some kd/\kd.1=vm/\row[i]?=some p/\NmAt ins rows n p t pl m
theorem NmAt.goes {ins:List (UP×Int)} {rows:List (List Th)} {p v:Th} {q r:List Int} (h:In p q v):∀ {l k:Int} {tm m:UP} {us:List Th} {t1:Th},v=.call l k->0<=k->us[k.toNat]?=some t1->qj ins rows l t1 r m->∃ n,NmAt ins rows n p (.knot tm us) (q++r) m:=by
 induction h with
 | here =>
   intro l k tm m us t1 e hk hu hs;subst e;obtain ⟨vm,vs,row,i,kd,p,n,h0,rfl,hr,hi,hn,hp,h⟩:=hs;exact ⟨n+1,.call hk h0 hu hr hi hn hp h⟩
 | kid h i ih =>
   intro l k tm m us t1 e hk hu hs;obtain ⟨n,hn⟩:=ih e hk hu hs;exact ⟨n+1,.step h hn⟩
theorem NmAt.fill {ins outs:List (UP×Int)} {rows:List (List Th)} {S C:Int} {f:Int->Int->Th} {us:List Th} {tm:UP} (hf:∀ l k,0<=l->l<S->0<=k->k<C->∃ t1,us[k.toNat]?=some t1/\∀ pl m ks,In (f l k) pl (.knot m ks)->qj ins rows l t1 pl m):∀ (n:Nat) (p:Th) (pl:List Int) (m:UP) (ks:List Th),p.size<=n->p.FitS outs S C->In (p.fill f) pl (.knot m ks)->∃ n,NmAt ins rows n p (.knot tm us) pl m
 | 0,p,_,_,_,hn,_,_=>by have:=p.size_pos;omega
 | n+1,.call l k,pl,m,ks,_,h,hi=>by
   rw [Th.FitS] at h;rw [Th.fill] at hi;obtain ⟨t1,h1,h2⟩:=hf l k h.1 h.2.1 h.2.2.1 h.2.2.2;have:=NmAt.goes (p:=.call l k) (q:=[]) (tm:=tm) .here rfl h.2.2.1 h1 (h2 pl m ks hi);exact this
 | n+1,.knot nm vs,pl,m,ks,hn,h,hi=>by
   rw [Th.fill] at hi;cases hi with
   | here=>exact ⟨0,.here⟩
   | kid hj hr =>
     rename_i j u r
     rw [jP,UN] at hj;obtain ⟨v,hv,rfl⟩:=hj;rw [Th.size] at hn;have hz:=aI (Uc hv);obtain ⟨k,hk⟩:=NmAt.fill hf n v r m ks (by omega) (gL h hv) hr;exact ⟨k+1,.step hv hk⟩
end BB
namespace BB
open PySem L2
structure FrK (ins outs:List (UP×Int)) (rows:List (List Th)):Prop where
 gi:bZ ins
 fit:xH ins outs (rows.length:Nat) rows
 le:rows.length<=20
 sz:∀ row∈rows,∀ p∈row,p.size<=200/\p.tall<=100
theorem FrK.mkd {ins outs:List (UP×Int)} {rows:List (List Th)} (F:FrK ins outs rows) {l:Int} (h0:0<=l) (h1:l<(rows.length:Nat)):∃ row p,rows[l.toNat]?=some row/\row[cV ins]?=some p/\mkF ins rows l=p/\p.size<=200/\p.tall<=100/\p.FitS outs (rows.length:Nat) 0:=by
 obtain ⟨k0,Aa,Dz⟩:=lJ F.gi;have hI:=fh Aa;obtain ⟨row,hr,er,hl,_⟩:=sG F.fit h0 h1;have QV:=(Uh.mp hI).1;obtain ⟨p,hp⟩:∃ p,row[cV ins]?=some p:=⟨_,Ua (by omega)⟩;have hm:=Uc hr;obtain ⟨z1,z2⟩:=F.sz row hm p (Uc hp);have hf:=(F.fit.row row hm).2 _ p k0 hp hI;rw [Dz] at hf;exact ⟨row,p,hr,hp,by unfold mkF;rw [er,List.getD,hp];rfl,z1,z2,hf⟩
def b9 (ins:List (UP×Int)) (n:Nat) (kid:Int) (t:Th):List Th:=(UT n).map fun (i:Nat)=>if (i:Int)=kid then t else aR ins
theorem iU (ins:List (UP×Int)) (n:Nat) (kid:Int) (t:Th):(b9 ins n kid t).length=n:=by unfold b9;rw [T8,UW]
theorem qN {ins:List (UP×Int)} {n:Nat} {kid:Int} {t:Th} (h0:0<=kid) (h1:kid<(n:Int)):(b9 ins n kid t)[kid.toNat]?=some t:=by
 unfold b9;rw [Ul,Va (by omega),Yn,if_pos (by omega)]
theorem qc {ins:List (UP×Int)} {n:Nat} {kid:Int} {t u:Th} (h:u∈b9 ins n kid t):u=t∨u=aR ins:=by
 unfold b9 at h;obtain ⟨i,_,rfl⟩:=Vb.mp h;by_cases hk:(i:Int)=kid
 · rw [if_pos hk];exact .inl rfl
 · rw [if_neg hk];exact .inr rfl
theorem iQ (ins:List (UP×Int)):(aR ins).size=1:=by unfold aR;rw [Th.size,aq]
theorem pV {ins:List (UP×Int)} {n:Nat} (hn:n<=3) {kid:Int} {t:Th}:aq (b9 ins n kid t)<=t.size+2:=by
 have h1:=iQ ins;have h2:=t.size_pos
 have hp:∀ i:Nat,(if (i:Int)=kid then t else aR ins).size<=t.size/\((i:Int)≠kid->(if (i:Int)=kid then t else aR ins).size=1):=fun i=>by
  by_cases hk:(i:Int)=kid
  · rw [if_pos hk];exact ⟨Ue _,fun z=>absurd hk z⟩
  · rw [if_neg hk];exact ⟨by omega,fun _=>h1⟩
 obtain ⟨a0,b0⟩:=hp 0;obtain ⟨a1,b1⟩:=hp 1;obtain ⟨a2,b2⟩:=hp 2;have e0:aq (b9 ins 0 kid t)=0:=by show aq []=0;rw [aq]
 have e1:aq (b9 ins 1 kid t)=(if ((0:Nat):Int)=kid then t else aR ins).size:=by show aq [if ((0:Nat):Int)=kid then t else aR ins]=_;rw [aq,aq];omega
 have e2:aq (b9 ins 2 kid t)=(if ((0:Nat):Int)=kid then t else aR ins).size+(if ((1:Nat):Int)=kid then t else aR ins).size:=by show aq [if ((0:Nat):Int)=kid then t else aR ins,if ((1:Nat):Int)=kid then t else aR ins]=_;rw [aq,aq,aq];omega
 have e3:aq (b9 ins 3 kid t)=(if ((0:Nat):Int)=kid then t else aR ins).size+(if ((1:Nat):Int)=kid then t else aR ins).size+(if ((2:Nat):Int)=kid then t else aR ins).size:=by show aq [if ((0:Nat):Int)=kid then t else aR ins,if ((1:Nat):Int)=kid then t else aR ins,if ((2:Nat):Int)=kid then t else aR ins]=_;rw [aq,aq,aq,aq];omega
 generalize Ow:(if ((0:Nat):Int)=kid then t else aR ins).size=x0 at *;generalize DU:(if ((1:Nat):Int)=kid then t else aR ins).size=x1 at *;generalize BI:(if ((2:Nat):Int)=kid then t else aR ins).size=x2 at *
 have hc:x0+x1+x2<=t.size+2:=by
  by_cases k0:((0:Nat):Int)=kid
  · have:=b1 (by omega);have:=b2 (by omega);omega
  · have:=b0 k0;by_cases k1:((1:Nat):Int)=kid
    · have:=b2 (by omega);omega
    · have:=b1 k1;omega
 match n,hn with
 | 0,_=>rw [e0];omega
 | 1,_=>rw [e1];omega
 | 2,_=>rw [e2];omega
 | 3,_=>rw [e3];omega
theorem jQ {ins:List (UP×Int)} (g:bZ ins):(aR ins).FitS ins 0 0:=by
 obtain ⟨k0,Aa,Dz⟩:=lJ g;have hI:=fh Aa;rw [fA Aa,Th.FitS,FitSs];refine ⟨?_,trivial⟩;have:(k0.1,(([]:List Th).length:Int))=k0:=by rw [show (([]:List Th).length:Int)=k0.2 by rw [Dz];rfl]
 rw [this];exact Uc hI
theorem oY {ins:List (UP×Int)} (g:bZ ins) {kd:UP×Int} (hk:kd∈ins) {us:List Th} (hl:us.length=kd.2.toNat) (h:∀ u∈us,u.FitS ins 0 0):(Th.knot kd.1 us).FitS ins 0 0:=by
 rw [Th.FitS];refine ⟨?_,FitSs.of h⟩;have hn:=g.num kd hk;have:(kd.1,(us.length:Int))=kd:=by rw [show (us.length:Int)=kd.2 by omega]
 rw [this];exact hk
theorem pD {ins outs:List (UP×Int)} {rows:List (List Th)} (F:FrK ins outs rows) {l:Int} (h0:0<=l) (h1:l<(rows.length:Nat)) {pl:List Int} {m:UP} {ks:List Th} (h:In (mkF ins rows l) pl (.knot m ks)):qj ins rows l (aR ins) pl m:=by
 obtain ⟨k0,Aa,Dz⟩:=lJ F.gi;have hI:=fh Aa;obtain ⟨row,p,hr,hp,e,_⟩:=F.mkd h0 h1;rw [e] at h;obtain ⟨n,hn⟩:=NmAt.of (ins:=ins) (rows:=rows) h (aR ins) rfl;exact ⟨k0.1,[],row,cV ins,k0,p,n,h0,fA Aa,hr,hI,rfl,hp,hn⟩
def frS (ins:List (UP×Int)) (rows:List (List Th)) (s:Nat):Th:=frF (mkF ins rows) (mkF ins rows (s:Nat)) ((rows[s]?).getD [])
inductive Met (ins:List (UP×Int)) (rows:List (List Th)):Nat->List Int->Prop
 | hol {s i:Nat} {row:List Th} {x:List Int×Th} (hr:rows[s]?=some row) (hi:i<=row.length) (hx:x∈(frF (mkF ins rows) (mkF ins rows (s:Nat)) (row.take i)).pl []) (hh:x.2.isHole=true):Met ins rows s x.1
 | lnk {s:Nat} {row:List Th} {p u:Th} {c:List Int×Int×Int} {x:List Int×Th} (hr:rows[s]?=some row) (hp:p∈row) (hc:c∈callsOf (p.pl [])) (hu:(c.1,u)∈(frS ins rows s).pl []) (hx:x∈u.pl []) (m:Met ins rows c.2.1.toNat x.1):Met ins rows s (c.1++x.1)
def Lk0 (ins:List (UP×Int)) (rows:List (List Th)):LkT:=fun k s pl kd kid=>∃ (sn:Nat) (row:List Th) (i:Nat) (p:Th) (q x:List Int) (l:Int),s=(sn:Nat)/\rows[sn]?=some row/\row[i]?=some p/\ins[i]?=some kd/\In p q (.call l kid)/\k=nk l x/\pl=q++x/\(∃ u y,(q,u)∈(frS ins rows sn).pl []/\(x,y)∈u.pl [])
def Vt (ins:List (UP×Int)) (rows:List (List Th)) (j:Nat) (s:Nat) (pl:List Int) (t:Th) (m:UP):Prop:=t.FitS ins 0 0/\t.size<=4+3 * j/\qj ins rows (s:Nat) t pl m
def Vl0 (ins:List (UP×Int)) (rows:List (List Th)):VlT:=fun j k t1 t2=>∃ (s:Nat) (pl:List Int) (m1 m2:UP),k=nk (s:Nat) pl/\Met ins rows s pl/\m1≠m2/\Vt ins rows j s pl t1 m1/\Vt ins rows j s pl t2 m2
theorem vF {ins outs:List (UP×Int)} {rows:List (List Th)} (F:FrK ins outs rows) (go:bZ outs) {s:Nat} {row:List Th} (yC:rows[s]?=some row) (i:Nat) (p:Th) (kd:UP×Int) (pl:List Int) (u:Th) (j:Nat) (hp:row[i]?=some p) (hk:ins[i]?=some kd) (hu:(pl,u)∈(frF (mkF ins rows) (mkF ins rows (s:Nat)) (row.take (i+1))).pl []) (hh:u.isHole=true) (hv:∀ v,(pl,v)∈(frF (mkF ins rows) (mkF ins rows (s:Nat)) (row.take i)).pl []->v.isHole=false) :
 Vl0 ins rows j (nk (s:Nat) pl) (aR ins) (.knot kd.1 (VN kd.2.toNat (aR ins))):=by
 have hs:=(Uh.mp yC).1;have g:=F.gi;have Ox:=Uc hk;have Ca:=g.num kd Ox;have AJ:row.take (i+1)=row.take i++[p]:=by rw [Vz,hp];rfl
 have Fz:Met ins rows s pl:=.hol (x:=(pl,u)) (i:=i+1) yC (by have:=(Uh.mp hp).1;omega) hu hh;rw [AJ,l9,In.iff] at hu;obtain ⟨QW,p0,LF,DC,DD,_,_,f0⟩:=F.mkd (l:=(s:Nat)) (by omega) (by omega);have KZ:(mkF ins rows (s:Nat)).noCall:=by rw [DD];exact gF _ _ (Ue _) f0
 have hl:=(kM (mk:=mkF ins rows) (frF (mkF ins rows) (mkF ins rows (s:Nat)) (row.take i)) (row.take i) (mkF ins rows (s:Nat)) (ie _ _ (Ue _) (iN KZ _))).1;have GA:=(F.fit.row row (Uc yC)).2 i p kd hp hk
 have HZ:(p.fill fun l _=>mkF ins rows l).FitS outs (rows.length:Nat) 0:=mT (fun l k h0 h1=>by
  obtain ⟨_,p1,_,_,e,_,_,f1⟩:=F.mkd h0 h1;rw [e];exact f1) _ p (Ue _) GA
 obtain ⟨m1,m2,k1,k2,yU,i1,i2⟩:=rc go _ _ _ (mkF ins rows (s:Nat)) u pl (Ue _) hu hh (fun v h=>hv v (In.iff.mpr h)) hl (iN KZ _) (by rw [DD];exact f0) HZ;refine ⟨s,pl,m1,m2,rfl,Fz,yU,⟨jQ g,by rw [iQ];omega,pD F (by omega) (by omega) i1⟩,⟨oY g Ox (WT ..) fun u hu=>by rw [List.eq_of_mem_replicate hu];exact jQ g,?_,?_⟩⟩
 · rw [Th.size]
   have:∀ n:Nat,aq (VN n (aR ins))=n:=fun n=>by
    induction n with
    | zero=>rw [List.replicate_zero,aq]
    | succ n ih=>rw [List.replicate_succ,aq,ih,iQ];omega
   rw [this];omega
 · obtain ⟨n,hn⟩:=NmAt.fill (ins:=ins) (rows:=rows) (tm:=kd.1) (us:=VN kd.2.toNat (aR ins)) (fun l k h0 h1 h2 h3=>⟨aR ins,by rw [List.getElem?_replicate,if_pos (by omega)],fun pl m ks hi=>pD F h0 h1 hi⟩) _ p pl m2 k2 (Ue _) GA i2;exact ⟨kd.1,_,row,i,kd,p,n,by omega,rfl,yC,hk,rfl,hp,hn⟩
theorem In.fit {ks:List (UP×Int)} {S C:Int} {p v:Th} {q:List Int} (h:In p q v):p.FitS ks S C->v.FitS ks S C:=by
 induction h with
 | here=>exact fun h=>h
 | kid h i ih=>exact fun hf=>ih (gL hf h)
theorem wW {ins outs:List (UP×Int)} {rows:List (List Th)} (F:FrK ins outs rows) (i j:Nat) (k:aD) (t1 t2:Th) (s:Int) (pl:List Int) (kd:UP×Int) (kid:Int) (EI:i<j) (hv:Vl0 ins rows i k t1 t2) (hk:kd∈ins) (hL:Lk0 ins rows k s pl kd kid) :
 Vl0 ins rows j (nk s pl) (.knot kd.1 (b9 ins kd.2.toNat kid t1)) (.knot kd.1 (b9 ins kd.2.toNat kid t2)):=by
 obtain ⟨s',Aq,m1,m2,e,Fz,yU,v1,v2⟩:=hv;obtain ⟨sn,row,i',p,q,x,l,rfl,hr,hp,hi,BW,e2,rfl,u0,y0,LH,QX⟩:=hL;have e3:=e.symm.trans e2;obtain ⟨rfl,rfl⟩:=qK e3;have g:=F.gi;have Ca:=g.num kd hk;have GA:=(F.fit.row row (Uc hr)).2 i' p kd hp hi;have hc:=BW.fit GA;rw [Th.FitS] at hc
 have one:∀ (t:Th) (m:UP),Vt ins rows i s' Aq t m->Vt ins rows j sn (q++Aq) (.knot kd.1 (b9 ins kd.2.toNat kid t)) m:=fun t m ⟨a1,a2,a3⟩=>by
  refine ⟨oY g hk (iU ..) fun u hu=>?_,?_,?_⟩
  · rcases qc hu with rfl | rfl
    · exact a1
    · exact jQ g
  · rw [Th.size];have:=pV (ins:=ins) (n:=kd.2.toNat) (by omega) (kid:=kid) (t:=t);omega
  · obtain ⟨n,hn⟩:=NmAt.goes (ins:=ins) (rows:=rows) (tm:=kd.1) BW rfl hc.2.2.1 (qN (ins:=ins) (n:=kd.2.toNat) (t:=t) hc.2.2.1 (by omega)) a3;exact ⟨kd.1,_,row,i',kd,p,n,by omega,rfl,hr,hi,rfl,hp,hn⟩
 exact ⟨sn,q++Aq,m1,m2,rfl,.lnk (c:=(q,((s':Nat):Int),kid)) (x:=(Aq,y0)) hr (Uc hp) (cK.mpr (In.to BW)) LH QX (by rw [Vk];exact Fz),yU,one t1 m1 v1,one t2 m2 v2⟩
theorem rD {f':List (aD×V)} (hn:(f'.map (·.1)).Nodup) {j:Nat} {p:aD×V} (h:f'[j]?=some p) {v:V} (hv:aW f' p.1=some v):v=p.2:=by
 obtain ⟨i,hi⟩:=UC.mp (fo hv);have h1:(f'.map (·.1))[i]?=some p.1:=by rw [Ul,hi];rfl
 have h2:(f'.map (·.1))[j]?=some p.1:=by rw [Ul,h];rfl
 have EI:i=j:=(ZH (by have:=(Uh.mp h1).1;exact this) hn).mp (h1.trans h2.symm);subst EI;rw [h] at hi;have e:=UQ hi;rw [e]
theorem tZ {ins:List (UP×Int)} {rows:List (List Th)} {s:Nat} {row:List Th} (h:rows[s]?=some row):frS ins rows s=frF (mkF ins rows) (mkF ins rows (s:Nat)) row:=by
 unfold frS;rw [h];rfl
structure FrD (ins:List (UP×Int)) (rows:List (List Th)) (ks:List aD):Prop where
 hl:∀ (s i:Nat) (row:List Th),rows[s]?=some row->i<=row.length->∀ x∈(frF (mkF ins rows) (mkF ins rows (s:Nat)) (row.take i)).pl [],x.2.isHole=true->nk (s:Nat) x.1∈ks
 cl:∀ (s:Nat) (row:List Th),rows[s]?=some row->∀ p∈row,∀ c∈callsOf (p.pl []),∀ u,(c.1,u)∈(frS ins rows s).pl []->∀ x∈u.pl [],nk c.2.1 x.1∈ks->nk (s:Nat) (c.1++x.1)∈ks
theorem FrD.hol {ins:List (UP×Int)} {rows:List (List Th)} {ks:List aD} (h:FrD ins rows ks) (s:Nat) (hs:s<rows.length):∀ x∈(frS ins rows s).pl [],x.2.isHole=true->nk (s:Nat) x.1∈ks:=fun x hx hh=>by
 obtain ⟨row,hr⟩:∃ row,rows[s]?=some row:=⟨_,Ua hs⟩;rw [tZ hr] at hx;exact h.hl s row.length row hr (Ue _) x (by rw [Wt];exact hx) hh
theorem FrD.met {ins outs:List (UP×Int)} {rows:List (List Th)} (F:FrK ins outs rows) {ks:List aD} (h:FrD ins rows ks) {s:Nat} {pl:List Int} (m:Met ins rows s pl):nk (s:Nat) pl∈ks:=by
 induction m with
 | hol hr hi hx hh=>exact h.hl _ _ _ hr hi _ hx hh
 | lnk hr hp hc hu hx m ih =>
   rename_i s row p u c x
   refine h.cl _ _ hr _ hp _ hc _ hu _ hx ?_;obtain ⟨j,hj⟩:=UC.mp hp;have DV:=(F.fit.row row (Uc hr)).1;obtain ⟨k0,Aa⟩:∃ k0,ins[j]?=some k0:=⟨_,Ua (by have:=(Uh.mp hj).1;omega)⟩;have:=gW p [] ((F.fit.row row (Uc hr)).2 j p k0 hj Aa) c hc;rw [WG this.1] at ih;exact ih
def KeyM (ins:List (UP×Int)) (rows:List (List Th)) (f':List (aD×V)):Prop:=∀ (s:Nat) (pl:List Int),Dk f' (s:Nat) pl=true↔Met ins rows s pl
theorem uY {ins outs:List (UP×Int)} {rows:List (List Th)} (F:FrK ins outs rows) {f':List (aD×V)} (h:FrD ins rows (f'.map (·.1))) (hv:∀ p∈f',∃ j t1 t2,Vl0 ins rows j p.1 t1 t2):KeyM ins rows f':=fun s pl=>by
 constructor
 · intro hd;obtain ⟨p,hp,e⟩:=Vb.mp (jI.mp hd);obtain ⟨j,t1,t2,s',Aq,m1,m2,e2,hm,_⟩:=hv p hp;have e3:=e2.symm.trans e;obtain ⟨e4,rfl⟩:=qK e3;have:s'=s:=by omega
   subst this;exact hm
 · exact fun m=>jI.mpr (h.met F m)
theorem KeyM.eq {ins:List (UP×Int)} {rows:List (List Th)} {k1 k2:List (aD×V)} (h1:KeyM ins rows k1) (h2:KeyM ins rows k2) (s:Nat):Dk k1 (s:Nat)=Dk k2 (s:Nat):=funext fun pl=>by
 rw [XZ,h1,h2]
end BB
namespace L2
open PySem PySem.Spec PyProof.Rows
def tR (K:Ub) (a:Ud):It:=⟨fun i H=>∃ xs x,SqL K H a xs/\xs[i]?=some x,fun i H x H'=>∃ p y,H p=none/\x=.ref p/\H'=upd H p (.tup [.int (i:Nat),y])/\∀ xs,SqL K H a xs->xs[i]?=some y,fun i H=>∃ xs,SqL K H a xs/\xs.length=i⟩
theorem qt {P:Uv} {w:UK} {K:Ub} {elts:List Vs} {k1} {pos:Yd} (a e it:Ud):Turn P w K (.Tuple elts k1 pos) (tR K a) [e,it] e (fun i h=>(∃ old,IsEnum h e it ((i:Nat):Int) old)/\h.IsListIter it a i) where
 mem:=by simp
 obj:=fun i h st b hb=>by
  obtain ⟨⟨old,he⟩,o,e1,e2,e3⟩:=st;rcases UB.mp hb with rfl | hb
  · exact ⟨_,he,fun v z=>by cases z⟩
  · have:b=it:=by simpa using hb
    subst this;exact ⟨o,e1,fun v z=>by rw [e3] at z;cases z⟩
 keep:=fun i h h' st k=>by
  obtain ⟨⟨old,he⟩,o,e1,e2⟩:=st;exact ⟨⟨old,k e (by simp) _ he⟩,o,k it (by simp) _ e1,e2⟩
 item:=by
  intro X hP hw hK hc i pins s σ H E I hf st hg;subst hP hw hK;obtain ⟨xs,x,hq,hx⟩:=hg;obtain ⟨its,rv,p,hz⟩:=I.list hq;obtain ⟨u,hu,ru⟩:=rv.get hx;obtain ⟨⟨old,he⟩,hi⟩:=st
  have Fi:e≠it:=by
   rintro rfl;obtain ⟨o,e1,e2,_⟩:=hi;rw [he] at e1;cases e1;exact absurd (V5 e2) (by decide)
  have Fj:a≠it:=by
   rintro rfl;obtain ⟨o,e1,e2,_⟩:=hi;obtain ⟨o',AD,AB,_⟩:=p.isList;rw [AD] at e1;cases e1;rw [AB] at e2;exact absurd (V5 e2) (by decide)
  have K':a≠e:=by
   rintro rfl;obtain ⟨o',AD,AB,_⟩:=p.isList;rw [he] at AD;cases AD;exact absurd (V5 AB) (by decide)
  have yK:i<its.toArray.size:=by
   have:=(Uh.mp hu).1;simpa using this
  have La:e<s.heap.objs.size:=Uw he;have An:it<s.heap.objs.size:=by obtain ⟨o,e1,_⟩:=hi;exact Uw e1
  refine wpAny_pyNext_enum_itemD (Draws.list (A:=X.A.in1) (show X.A.in1.handled=none from I.ok.hd hc) it a Fj its.toArray) he ⟨hi,p.isList⟩ yK Fi (by simp [Fi,K'.symm]) fun y h1 tk hy ho Gv hT hsz hk=>?_
  have Lb:y=u:=by
   have:its[i]?=some y:=by simpa using hy
   rw [hu] at this;exact (UQ this).symm
  subst Lb;refine ⟨_,rfl,wpAny_letOwnedTupleGo_enum ho fun h2 Lc CQ=>?_⟩;replace CQ:V9 e h1 h2:=CQ
  have yU:∀ b∈[e,it],b<s.heap.objs.size:=fun b hb=>by
   rcases UB.mp hb with rfl | hb
   · exact La
   · have:b=it:=by simpa using hb
     subst this;exact An
  have HE:H s.heap.objs.size=none:=I.hok.fresh (Ue _)
  have IA:Inv X pins σ (upd H s.heap.objs.size (.tup [.int (i:Nat),x])) { s with heap:=s.heap.push { cls:=.type "tuple",data:=.seq #[.int (i:Nat) tk,y] },toks:=tk } :=
   I.laid (o:=.tup [.int (i:Nat),x]) (fun b ob q=>Uj _ q) (Ue _) ⟨by show 2<=Uz;decide,[.int (i:Nat) tk,y],0,.cons ⟨tk,rfl⟩ (.cons ru .nil),Uu _ rfl⟩
  refine ⟨.ref s.heap.objs.size,upd H s.heap.objs.size (.tup [.int (i:Nat),x]),?_,rfl,⟨_,x,HE,rfl,rfl,fun ys Hz=>by rw [I.list_inj Hz hq];exact hx⟩,⟨⟨y,by simpa using Lc⟩,?_⟩,fun b hb=>?_⟩
  · have IB:Inv X pins σ (upd H s.heap.objs.size (.tup [.int (i:Nat),x])) { s with heap:=h2,toks:=tk+1 }:=by
     refine Inv.turnedL (s:={ s with heap:=s.heap.push { cls:=.type "tuple",data:=.seq #[.int (i:Nat) tk,y] },toks:=tk }) (h':=h2) (fp:=[e,it]) (t':=tk+1) IA (fun b o hb q=>?_) fun b hb=>?_
     · have B4:b≠e:=fun z=>hb (by simp [z]);have Ld:b≠it:=fun z=>hb (by simp [z]);rw [CQ.2 b B4];by_cases yW:b=s.heap.objs.size
       · subst yW;rw [hT];have q':(s.heap.push { cls:=.type "tuple",data:=.seq #[.int (i:Nat) tk,y] }).get? s.heap.objs.size=some o:=q;rw [Uu _ rfl] at q';exact q'
       · have Ao:b<(s.heap.push { cls:=.type "tuple",data:=.seq #[.int (i:Nat) tk,y] }).objs.size:=Uw q;rw [Vw] at Ao;refine hk b o B4 Ld ?_;have q':(s.heap.push { cls:=.type "tuple",data:=.seq #[.int (i:Nat) tk,y] }).get? b=some o:=q;rw [Heap.get?_push_ne _ _ _ yW] at q';exact q'
     · obtain ⟨f0,f1⟩:=hf b hb;exact ⟨by rw [am (UX (yU b hb))];exact f0,f1⟩
    exact IB
  · obtain ⟨o,e1,r⟩:=Gv.1;exact ⟨o,(CQ.2 it (V7 Fi)).trans e1,r⟩
  · rw [am (UX (yU b hb))];exact (hf b hb).1
 done:=by
  intro X hP hw hK hc i pins s σ H E I hf st hg;subst hP hw hK;obtain ⟨xs,hq,hx⟩:=hg;obtain ⟨its,rv,p,hz⟩:=I.list hq;obtain ⟨⟨old,he⟩,hi⟩:=st
  have Fj:a≠it:=by
   rintro rfl;obtain ⟨o,e1,e2,_⟩:=hi;obtain ⟨o',AD,AB,_⟩:=p.isList;rw [AD] at e1;cases e1;rw [AB] at e2;exact absurd (V5 e2) (by decide)
  have hn:its.toArray.size=i:=by
   have:=rv.length;rw [Uq];omega
  refine wpAny_pyNext_enum_endD (Draws.list (A:=X.A.in1) (show X.A.in1.handled=none from I.ok.hd hc) it a Fj its.toArray) he (by rw [hn];exact ⟨hi,p.isList⟩) fun h' eb=>⟨rfl,?_⟩;exact I.turnedL (fp:=[e,it]) (t':=s.toks) (fun b o hb q=>eb b o (fun z=>hb (by simp [z])) q) hf
 self:=fun _ _ _ _ _ st h=>by
  obtain ⟨⟨old,he⟩,_⟩:=st;exact YX he h
section
variable {X:Cx} {e:Vs} {te:TE} {p2 y4:Yd}
def wz (K:Ub) (tl:TE):TI:=fun σ H R=>tl σ H fun x H1=>∃ a,x=.ref a/\(∃ xs,SqL K H1 a xs)/\R (tR K a) H1
theorem lB {elts:List Vs} {k1} {pos:Yd} (g2:Gl X "enumerate") (m2:X.mg "enumerate"=none) (he:PE X e te) (h2:Vi [e] X.env=[(false,WE e X.env)]:=by rfl):PI X (.Tuple elts k1 pos) (.Call (.Name "enumerate" p2) [e] [] y4) (wz X.K te):=by
 intro pins s σ H R I h;refine VU (dg I g2 m2 boot_enumerate (Vg ?_ h2 rfl));rw [h2];show Uy _ _ (spliced ((false,WE e X.env)::[])) _ _ s;refine VW (thn (he pins s σ H _ I h) fun u s1 ⟨x,H1,I1,r1,a,ex,⟨xs,hq⟩,q⟩=>Wo ?_);subst ex;cases r1;obtain ⟨its,rv,p,hz⟩:=I1.list hq;refine call_enumerate_list (show s1.heap.IsList a its.toArray from p.isList) fun h' g1 g2 g3 g4=>?_;refine YX (s:={ s1 with heap:=h' }) g1 ?_;refine ⟨s1.heap.objs.size+1,[s1.heap.objs.size+1,s1.heap.objs.size],_,_,H1,rfl,I1.kept (t':=s1.toks) g4,qt a _ _,⟨⟨_,g1⟩,g2⟩,fun b hb=>?_,q⟩
 have Ap:s1.heap.objs.size<=b:=by
  rcases UB.mp hb with rfl | hb
  · omega
  · have:b=s1.heap.objs.size:=by simpa using hb
    exact ZG this.symm
 exact I1.fpOk Ap (I1.hok.fresh Ap)
end
theorem nj {K:Ub} {a:Ud} {xs:List V} {g:TG} {tb:TS} {D:Ends} {σ:St} {H:Hp} (Pv:Nat->St->Hp->Prop) (h0:Pv 0 σ H) (hl:∀ i σ H,i<=xs.length->Pv i σ H->SqL K H a xs)
 (hs:∀ i x p σ H,xs[i]?=some x->H p=none->Pv i σ H->g (.ref p) σ (upd H p (.tup [.int (i:Nat),x])) fun yT H2=>tb { D with nx:=Pv (i+1),ct:=Pv (i+1),bk:=D.nx } yT H2) (hd:∀ σ H,Pv xs.length σ H->D.nx σ H) :
 ∃ W:Nat->Nat->St->Hp->Prop,(∃ m,W 0 m σ H)/\∀ i m σ H,W i m σ H →
   ((tR K a).stop i H/\D.nx σ H)∨((tR K a).go i H/\∃ N:St->Hp->Prop,(∀ yA H',N yA H'->∃ m',m'<m/\W (i+1) m' yA H')/\∀ x H',(tR K a).yld i H x H'->g x σ H' fun yT H2=>tb { D with nx:=N,ct:=N,bk:=D.nx } yT H2):=by
 refine ⟨fun i m σ H=>m=xs.length - i/\i<=xs.length/\Pv i σ H,⟨xs.length,by simp,UL _,h0⟩,?_⟩;rintro i m σ H ⟨rfl,hi,p⟩;have q:=hl i σ H hi p;by_cases yK:i<xs.length
 · refine .inr ⟨⟨xs,xs[i],q,by simp [yK]⟩,Pv (i+1),fun yA H' p'=>⟨xs.length - (i+1),by omega,rfl,yK,p'⟩,fun x H' y=>?_⟩;obtain ⟨pa,y,hp,rfl,rfl,hy⟩:=y;exact hs i y pa σ H (hy xs q) hp p
 · have e:i=xs.length:=by omega
   subst e;exact .inl ⟨⟨xs,q,rfl⟩,hd σ H p⟩
end L2
namespace L2
open PySem PySem.Spec PySem.SeqAt PyProof.Rows BB
end L2
namespace LAW
open PySem L2 BB
def top (i:Nat):V8:=PySem.Challenge.pw_boughbook_k59_whole_fronts_are_greatest.main.body.getD i (.Pass ⟨0,0,0,0⟩)
theorem scm {N P:List UP} {sc:Yc} (a:sc.kind=.function:=by rfl) (b:sc.isCoroutine=false:=by rfl) (c:sc.isGenerator=false:=by rfl) (d:N.Nodup:=by decide +kernel) (e:N.take P.length=P:=by rfl) (f:∀ x∈P,sc.names.lookup x=some .local∨sc.names.lookup x=some .cell:=by decide +kernel) (g:∀ y∈sc.names,y.2≠.free:=by decide +kernel):aB N P sc:=⟨a,b,c,d,e,f,g⟩
abbrev jG:V8:=top 3
theorem qk:aB ["thing"] ["thing"] (ao jG):=scm
abbrev kK:V8:=top 4
theorem gX:aB ["thing","met","ahead","part"] ["thing"] (ao kK):=scm
abbrev kG:V8:=top 5
theorem dH:aB ["thing","met","ahead","place","part","kids"] ["thing"] (ao kG):=scm
abbrev om:V8:=top 6
theorem je:aB ["tops","done","top","many"] ["tops"] (ao om):=scm
abbrev lg:V8:=top 7
theorem sF:aB ["tree"] ["tree"] (ao lg):=scm
abbrev jR:V8:=top 10
theorem qH:aB ["thing"] ["thing"] (ao jR):=scm
abbrev jM:V8:=top 11
theorem qd:aB ["thing"] ["thing"] (ao jM):=scm
abbrev jz:V8:=top 12
theorem qQ:aB ["thing"] ["thing"] (ao jz):=scm
abbrev gy:V8:=top 13
theorem ox:aB ["call"] ["call"] (ao gy):=scm
abbrev iZ:V8:=top 14
theorem oU:aB ["pattern"] ["pattern"] (ao iZ):=scm
abbrev iP:V8:=top 15
theorem px:aB ["front"] ["front"] (ao iP):=scm
abbrev kQ:V8:=top 16
theorem mP:aB ["part","many"] ["part"] (ao kQ):=scm
abbrev me:V8:=top 17
theorem jy:aB ["pattern","table","tops","part"] ["pattern","table"] (ao me):=scm
abbrev iY:V8:=top 18
theorem ph:aB ["one","two"] ["one","two"] (ao iY):=scm
abbrev dM:V8:=top 19
theorem cj:aB ["one","two","met","ahead","left","right"] ["one","two"] (ao dM):=scm
abbrev lL:V8:=top 20
theorem g7:aB ["one","two","tops","left","right"] ["one","two"] (ao lL):=scm
abbrev l5:V8:=top 22
theorem sg:aB ["book"] ["book"] (ao l5):=scm
abbrev iX:V8:=top 23
theorem pE:aB ["book"] ["book"] (ao iX):=scm
abbrev gr:V8:=top 24
theorem nQ:aB ["book"] ["book"] (ao gr):=scm
abbrev fS:V8:=top 26
theorem mi:aB ["ins"] ["ins"] (ao fS):=scm
abbrev fR:V8:=top 27
theorem eL:aB ["ins","kind","kids","name","many"] ["ins","kind","kids"] (ao fR):=scm
abbrev dB:V8:=top 28
theorem bn:aB ["book","names","at","made","state","patterns","kid"] ["book"] (ao dB):=scm
abbrev eX:V8:=top 29
theorem bJ:aB ["book","state","made","partings","ins","front","kind","pattern","place"] ["book","state","made","partings"] (ao eX):=scm
abbrev gD:V8:=top 30
theorem bT:aB ["book","state","front","links","parts","kind","pattern","place","lower","kid","inner"] ["book","state","front","links"] (ao gD):=scm
abbrev lF:V8:=top 31
theorem ck:aB ["ins","links","partings","holes","at","one","two","state","place","kind","kid"] ["ins","links","partings"] (ao lF):=scm
abbrev gR:V8:=top 32
theorem cA:aB ["front","state","partings","tops","ahead","place","part","kids"] ["front","state","partings"] (ao gR):=scm
abbrev dX:V8:=top 33
theorem bE:aB ["book","made","partings","firsts","links","state","front"] ["book"] (ao dX):=scm
abbrev gv:V8:=top 34
theorem fJ:aB ["book","fronts","partings"] ["book"] (ao gv):=scm
abbrev eU:V8:=top 35
theorem b8:aB ["book","fronts","partings","told","state","front"] ["book"] (ao eU):=scm
abbrev gz:V8:=top 37
theorem n9:aB ["script","k"] ["script","k"] (ao gz):=scm
abbrev eM:V8:=top 38
theorem dS:aB ["cells","many","found","k"] ["cells","many"] (ao eM):=scm
abbrev fM:V8:=top 39
theorem bd:aB ["cell","every","step","at","word","k","names","turn"] ["cell"] (ao fM):=scm
abbrev fF:V8:=top 40
theorem bw:aB ["cell","names","many","leaf","rest","kinds","k","count"] ["cell","names"] (ao fF):=scm
abbrev fL:V8:=top 41
theorem bv:aB ["left","outs","states","kids","digit","state","kid","fit","kind","made","k"] ["left","outs","states","kids"] (ao fL):=scm
abbrev eR:V8:=top 42
theorem cS:aB ["thing","found","k"] ["thing"] (ao eR):=scm
abbrev iW:V8:=top 43
theorem kb:aB ["thing","place","other","k"] ["thing","place","other"] (ao iW):=scm
abbrev fP:V8:=top 44
theorem eZ:aB ["cell","k","number"] ["cell","k"] (ao fP):=scm
abbrev gw:V8:=top 45
theorem bh:aB ["cells","ins","outs","states","rows","state","own","base","spots","row","k","number","place","part"] ["cells","ins","outs","states"] (ao gw):=scm
abbrev gP:V8:=top 46
theorem jm:aB ["cells","ins","outs","states","head"] ["cells","ins","outs","states"] (ao gP):=scm
abbrev dY:V8:=top 47
theorem bi:aB ["book","state","tree","place","names","thing","at"] ["book","state","tree","place"] (ao dY):=scm
abbrev eB:V8:=top 48
theorem bN:aB ["ins","tree","most","waiting","many","knot","deep"] ["ins","tree","most"] (ao eB):=scm
abbrev dC:V8:=top 49
theorem jA:aB ["outs","front"] ["outs","front"] (ao dC):=scm
abbrev fT:V8:=top 50
theorem dw:aB ["front","found","k"] ["front"] (ao fT):=scm
abbrev gK:V8:=top 51
theorem oi:aB ["front","thing","fronts"] ["front","thing","fronts"] (ao gK):=scm
abbrev cw:V8:=top 52
theorem gf:aB ["book","fronts"] ["book","fronts"] (ao cw):=scm
abbrev cC:V8:=top 53
theorem cx:aB ["book","fronts","pairs","state","pair"] ["book","fronts","pairs"] (ao cC):=scm
abbrev cU:V8:=top 54
theorem bo:aB ["book","fronts","pairs","state","spots","k","one","two"] ["book","fronts","pairs"] (ao cU):=scm
abbrev eN:V8:=top 55
theorem dQ:aB ["book","fronts","state","pattern"] ["book","fronts"] (ao eN):=scm
abbrev df:V8:=top 56
theorem bQ:aB ["script","ins","outs","states","cells"] ["script"] (ao df):=scm
abbrev jg:V8:=top 57
theorem nB:aB ["script","book","fronts","pairs"] ["script"] (ao jg):=scm
structure FX (K:Ub) (mg:UP->Option Ug) (n:UP) (s:V8) (ps:List UP) where
 f:Ud
 d:Xw
 F:Fun K n n s f d
 b:Binds K d ps []
 m:mg n=some (.ref f)
section
open PySem.W
variable {K:Frag} {mg:UP->Option Ug} {h:Vy} {n:UP} {st:V8} {f:Ud} {oc kV dc pm cd ct:Ug} {od an:Option Ud} {sl:Array (Option Ug)} (X:K.In h) (G:h.Ns U3 mg)
noncomputable def fx1 {p0:UP} (a:nsIn K U3 n=some (some (.ref f)):=by k_is) (l:K.lookup f=some ⟨oc,od,.func (fnOf n n (cr st) (cg st) (ao st) .none kV dc pm an cd ct),sl⟩:=by k_is) (c:codeIn K cd n=true:=by k_is) (k:keepIn K (.ref f)=true:=by k_is) (hb:∀ (kV dc pm:Ug) (an:Option Ud) (cd ct u0:Ug),bindArgs (fnOf n n (cr st) (cg st) (ao st) .none kV dc pm an cd ct) ⟨[u0],[]⟩=pure [(p0,u0)]:=by intros;rfl):FX K mg n st [p0] :=
 ⟨f,_,fQ l c k,(fQ l c k).binds fun a b c d e f us hl=>by obtain ⟨u0,rfl⟩:=us1 hl;exact hb a b c d e f u0,mg_of X G a⟩
noncomputable def fx2 {p0 p1:UP} (a:nsIn K U3 n=some (some (.ref f)):=by k_is) (l:K.lookup f=some ⟨oc,od,.func (fnOf n n (cr st) (cg st) (ao st) .none kV dc pm an cd ct),sl⟩:=by k_is) (c:codeIn K cd n=true:=by k_is) (k:keepIn K (.ref f)=true:=by k_is) (hb:∀ (kV dc pm:Ug) (an:Option Ud) (cd ct u0 u1:Ug),bindArgs (fnOf n n (cr st) (cg st) (ao st) .none kV dc pm an cd ct) ⟨[u0,u1],[]⟩=pure [(p0,u0),(p1,u1)]:=by intros;rfl):FX K mg n st [p0,p1] :=
 ⟨f,_,fQ l c k,(fQ l c k).binds fun a b c d e f us hl=>by obtain ⟨u0,u1,rfl⟩:=us2 hl;exact hb a b c d e f u0 u1,mg_of X G a⟩
noncomputable def fx3 {p0 p1 p2:UP} (a:nsIn K U3 n=some (some (.ref f)):=by k_is) (l:K.lookup f=some ⟨oc,od,.func (fnOf n n (cr st) (cg st) (ao st) .none kV dc pm an cd ct),sl⟩:=by k_is) (c:codeIn K cd n=true:=by k_is) (k:keepIn K (.ref f)=true:=by k_is) (hb:∀ (kV dc pm:Ug) (an:Option Ud) (cd ct u0 u1 u2:Ug),bindArgs (fnOf n n (cr st) (cg st) (ao st) .none kV dc pm an cd ct) ⟨[u0,u1,u2],[]⟩=pure [(p0,u0),(p1,u1),(p2,u2)]:=by intros;rfl):FX K mg n st [p0,p1,p2] :=
 ⟨f,_,fQ l c k,(fQ l c k).binds fun a b c d e f us hl=>by obtain ⟨u0,u1,u2,rfl⟩:=us3 hl;exact hb a b c d e f u0 u1 u2,mg_of X G a⟩
noncomputable def fx4 {p0 p1 p2 p3:UP} (a:nsIn K U3 n=some (some (.ref f)):=by k_is) (l:K.lookup f=some ⟨oc,od,.func (fnOf n n (cr st) (cg st) (ao st) .none kV dc pm an cd ct),sl⟩:=by k_is) (c:codeIn K cd n=true:=by k_is) (k:keepIn K (.ref f)=true:=by k_is) (hb:∀ (kV dc pm:Ug) (an:Option Ud) (cd ct u0 u1 u2 u3:Ug),bindArgs (fnOf n n (cr st) (cg st) (ao st) .none kV dc pm an cd ct) ⟨[u0,u1,u2,u3],[]⟩=pure [(p0,u0),(p1,u1),(p2,u2),(p3,u3)]:=by intros;rfl):FX K mg n st [p0,p1,p2,p3] :=
 ⟨f,_,fQ l c k,(fQ l c k).binds fun a b c d e f us hl=>by obtain ⟨u0,u1,u2,u3,rfl⟩:=us4 hl;exact hb a b c d e f u0 u1 u2 u3,mg_of X G a⟩
end
theorem pcF {X:Cx} {kk k:Nat} {sp:Sp} {n:UP} {st:V8} {ps:List UP} {e:Vs} {es:List Vs} {t:TA} {p pos:Yd} (g:FX X.K X.mg n st ps) (F:bf X.prog X.w X.K X.mg X.base CX0 k g.f g.d ps sp) (hr:Room kk X.A) (ha:PA X (e::es) t) (hle:k<=kk:=by first | decide | omega) (hg:Gl X n:=by rfl) (Fe:(n == ("__debug__":UP))=false:=by decide) (he:Vi (e::es) X.env=(false,WE e X.env)::Vi es X.env:=by rfl) (zD:(Yl pos (Vi es X.env)).any (·.1)=false:=by rfl):PE X (.Call (.Name n p) (e::es) [] pos) (gx sp [] E0 t) :=
 eI F (hr.mono hle) hg g.m g.F.kp g.b .nil j6 ha Fe he zD
structure TX (K:Ub) (mg:UP->Option Ug) where
 c_CALL_SIGN:∃ tk,mg "CALL_SIGN"=some (.str (Ui "?") tk)
 c_MOST_KIDS:∃ tk,mg "MOST_KIDS"=some (.int (3) tk)
 a_HOLE:Ud
 c_HOLE:mg "HOLE"=some (.ref a_HOLE)
 q_HOLE:∀ H:Hp,SqT K H a_HOLE [.str (Ui "*")]
 g_kids_of:FX K mg "kids_of" jG ["thing"]
 g_walked:FX K mg "walked" kK ["thing"]
 g_placed:FX K mg "placed" kG ["thing"]
 g_built:FX K mg "built" om ["tops"]
 g_places:FX K mg "places" lg ["tree"]
 g_is_call:FX K mg "is_call" jR ["thing"]
 g_is_hole:FX K mg "is_hole" jM ["thing"]
 g_is_knot:FX K mg "is_knot" jz ["thing"]
 g_called_by:FX K mg "called_by" gy ["call"]
 g_calls_in:FX K mg "calls_in" iZ ["pattern"]
 g_holes_in:FX K mg "holes_in" iP ["front"]
 g_top_of:FX K mg "top_of" kQ ["part"]
 g_filled:FX K mg "filled" me ["pattern","table"]
 g_same_top:FX K mg "same_top" iY ["one","two"]
 g_side_by_side:FX K mg "side_by_side" dM ["one","two"]
 g_common:FX K mg "common" lL ["one","two"]
 g_ins_of:FX K mg "ins_of" l5 ["book"]
 g_rules_of:FX K mg "rules_of" iX ["book"]
 g_states_of:FX K mg "states_of" gr ["book"]
 g_small_tree:FX K mg "small_tree" fS ["ins"]
 g_knot_above:FX K mg "knot_above" fR ["ins","kind","kids"]
 g_first_makings:FX K mg "first_makings" dB ["book"]
 g_first_front:FX K mg "first_front" eX ["book","state","made","partings"]
 g_put_links:FX K mg "put_links" gD ["book","state","front","links"]
 g_spread:FX K mg "spread" lF ["ins","links","partings"]
 g_cut_front:FX K mg "cut_front" gR ["front","state","partings"]
 g_found_fronts:FX K mg "found_fronts" dX ["book"]
 g_fronts_of:FX K mg "fronts_of" gv ["book"]
 g_partings_of:FX K mg "partings_of" eU ["book"]
 g__law_cell:FX K mg "_law_cell" gz ["script","k"]
 g__law_folded:FX K mg "_law_folded" eM ["cells","many"]
 g__law_names:FX K mg "_law_names" fM ["cell"]
 g__law_kinds:FX K mg "_law_kinds" fF ["cell","names"]
 g__law_thing:FX K mg "_law_thing" fL ["left","outs","states","kids"]
 g__law_places:FX K mg "_law_places" eR ["thing"]
 g__law_put:FX K mg "_law_put" iW ["thing","place","other"]
 g__law_mixed:FX K mg "_law_mixed" fP ["cell","k"]
 g__law_rows:FX K mg "_law_rows" gw ["cells","ins","outs","states"]
 g__law_book:FX K mg "_law_book" gP ["cells","ins","outs","states"]
 g__law_name_at:FX K mg "_law_name_at" dY ["book","state","tree","place"]
 g__law_is_tree:FX K mg "_law_is_tree" eB ["ins","tree","most"]
 g__law_is_front:FX K mg "_law_is_front" dC ["outs","front"]
 g__law_holes:FX K mg "_law_holes" fT ["front"]
 g__law_lies:FX K mg "_law_lies" gK ["front","thing","fronts"]
 g__law_fronts_formed:FX K mg "_law_fronts_formed" cw ["book","fronts"]
 g__law_pairs_formed:FX K mg "_law_pairs_formed" cC ["book","fronts","pairs"]
 g__law_pairs_part:FX K mg "_law_pairs_part" cU ["book","fronts","pairs"]
 g__law_closed:FX K mg "_law_closed" eN ["book","fronts"]
 g__law_wide_book:FX K mg "_law_wide_book" df ["script"]
 g_law:FX K mg "law" jg ["script"]
 n_all:mg "all"=none
 n_dict:mg "dict"=none
 n_enumerate:mg "enumerate"=none
 n_isinstance:mg "isinstance"=none
 n_len:mg "len"=none
 n_list:mg "list"=none
 n_range:mg "range"=none
 n_reversed:mg "reversed"=none
 n_str:mg "str"=none
 n_tuple:mg "tuple"=none
 n_zip:mg "zip"=none
theorem uU:([Ui "number",Ui "kid",Ui "place"]:List UP).Nodup:=by decide +kernel
theorem ym:([Ui "number",Ui "done"]:List UP).Nodup:=by decide +kernel
theorem wZ:([Ui "place",Ui "knot"]:List UP).Nodup:=by decide +kernel
theorem vC:([Ui "place",Ui "part"]:List UP).Nodup:=by decide +kernel
theorem vh:([Ui "name",Ui "many"]:List UP).Nodup:=by decide +kernel
theorem yn:([Ui "kid",Ui "kids",Ui "ins"]:List UP).Nodup:=by decide +kernel
theorem yq:([Ui "state",Ui "book",Ui "made",Ui "partings"]:List UP).Nodup:=by decide +kernel
theorem xb:([Ui "state",Ui "front",Ui "partings"]:List UP).Nodup:=by decide +kernel
theorem xS:([Ui "k",Ui "cells"]:List UP).Nodup:=by decide +kernel
theorem xZ:([Ui "kind",Ui "left"]:List UP).Nodup:=by decide +kernel
theorem vK:([Ui "place",Ui "k"]:List UP).Nodup:=by decide +kernel
theorem xJ:([Ui "place",Ui "partings",Ui "state"]:List UP).Nodup:=by decide +kernel
theorem xG:([Ui "part",Ui "outs"]:List UP).Nodup:=by decide +kernel
theorem w9:([Ui "k",Ui "fronts",Ui "front",Ui "thing"]:List UP).Nodup:=by decide +kernel
theorem xB:([Ui "front",Ui "book"]:List UP).Nodup:=by decide +kernel
theorem xy:([Ui "kind"]:List UP).Nodup:=by decide +kernel
theorem xj:([Ui "kid",Ui "deep"]:List UP).Nodup:=by decide +kernel
section
variable {P:Uv} {w:UK} {K:Ub} {mg:UP->Option Ug} {base:Vy} (T:TX K mg)
inductive j1 (K:Ub) (vs:List V) (H:Hp) (Q:VK) (_E:XK):Prop
 | mk (a:Ud) (t:Th) (yL:vs=[.ref a]) (yM:AtK K H t a) (yR:∀ (r:Ud) (as:List Ud) (H':Hp),L2.Same H H'->H' r=some (.tup (as.map V.ref))->AtsK K H' t.kids as->Q (.ref r) H'):j1 K vs H Q _E
def qx (K:Ub):Sp:=j1 K
theorem iL:bf P w K mg base CX0 1 T.g_kids_of.f T.g_kids_of.d ["thing"] (qx K):=by
 refine T.g_kids_of.F.ok qk (fun vs H Q E h=>?_) (fun yJ A outer s H vs Q E hr h=>?_)
 · obtain ⟨a,t,rfl,_⟩:=h;rfl
 obtain ⟨a,t,rfl,hA,k⟩:=h
 refine ⟨_,(ae (bq (aH cD (ax aC (pv 0) af (fun _ _=>rfl)) (g8 (v:=.str (Ui "?")) rfl T.c_CALL_SIGN.choose_spec ⟨_,rfl⟩) (aO _)) (ag (aA (aK ac))) aZ)
  (ag (aA (bB eT (pv 0) (bF af) bY)))),?_⟩
 try dsimp only [yZ,yE]
 cases t with
 | knot n ks =>
   rw [AtK] at hA;refine hid fun ZZ kZ=>?_;obtain ⟨hn,as,h1,h2⟩:=hA;refine kZ ?_;refine ⟨_,rfl,a,_,0,.str n,rfl,rfl,h1.sq,at0,rfl,_,rfl,?_⟩;refine cB (fun c=>absurd (of_decide_eq_true c) (fun z=>hn (V.str.inj z))) (fun _=>?_);refine ⟨_,rfl,1,rfl,a,_,rfl,h1.sq,?_,fun r hr=>?_⟩
   · intro z;have:=z.1;simp [HT.sIx] at this
   · rw [dO];exact k r as _ (ad hr _) ab (h2.mono (dZ hr))
 | call sn kn =>
   rw [AtK] at hA;refine ⟨_,rfl,a,_,0,.str q,rfl,rfl,hA.sq,at0,rfl,_,rfl,?_⟩;refine cB (fun _=>?_) (fun c=>absurd (decide_eq_true rfl) c);refine ⟨by show 0<=Uz;decide,fun r hr=>?_⟩;exact k r [] _ (ad hr _) ab .nil
inductive kW (K:Ub) (vs:List V) (H:Hp) (Q:VK) (_E:XK):Prop
 | mk (a:Ud) (t:Th) (yL:vs=[.ref a]) (yM:AtK K H t a) (yR:t.size<=100000) (yY:∀ (r:Ud) (as:List Ud) (H':Hp),L2.Same H H'->H r=none->H' r=some (.lst (as.map V.ref))->AtsK K H' t.walk as->Q (.ref r) H'):kW K vs H Q _E
def sM (K:Ub):Sp:=kW K
theorem sZ:bf P w K mg base CX0 2 T.g_walked.f T.g_walked.d ["thing"] (sM K):=by
 refine T.g_walked.F.ok gX (fun vs H Q E h=>?_) (fun yJ A outer s H vs Q E hr h=>?_)
 · obtain ⟨a,t,rfl,_⟩:=h;rfl
 obtain ⟨a,t,rfl,hA,hsz,k⟩:=h
 refine ⟨_,(ae (av (i:=1) gX.nd rfl (Ux rfl) (bC ac))
  (ae (av (i:=2) gX.nd rfl (Ux rfl) (bC (aa (pv 0) ac)))
  (ae (dU UO (aV (pv 2) (fun _=>rfl)) (ae (av (i:=3) gX.nd rfl (Ux rfl) (jN Ur WS WR jF (pv 2)))
  (ae (aQ (bL Ur UJ UI aP (pv 1) (aa (pv 3) ac)))
  (ag (aQ (bL Ur W9 W8 qO (pv 2) (aa (r6 wT (pcF T.g_kids_of (iL T) hr (aa (pv 3) ac))) ac)))))))
  (ag (aA (pv 1)))))),?_⟩
 try dsimp only [yZ,yE]
 refine ⟨by show 0<=Uz;decide,fun mt AY=>?_⟩;refine ⟨_,rfl,by show 1<=Uz;decide,fun ah AU=>?_⟩;have AE:H ah=none:=(ad AY _).free AU;have yU:ah≠mt:=fun z=>by rw [z,ab] at AU;cases AU
 refine ⟨fun m σ H2=>Ex5 fun (ms as:List Ud) (Ms As:List Th) (p:Option V)=>An8 (σ=[some (.ref a),some (.ref mt),some (.ref ah),p]) (L2.Same H H2) (H2 mt=some (.lst (ms.map V.ref))) (H2 ah=some (.lst (as.map V.ref))) (AtsK K H2 Ms ms) (AtsK K H2 As as) (Ms++walks As.reverse=t.walk) (m=aq As),⟨_,[],[a],[],[t],none,rfl,?_,?_,?_,.nil,.cons (hA.mono ?_) .nil,?_,rfl⟩,?_⟩
 · exact ay (ad AY _) AE
 · rw [am yU.symm,ab];rfl
 · rw [ab];rfl
 · exact Same.kt (ay (ad AY _) AE)
 · simp [walks]
 rintro m σ H2 ⟨ms,as,Ms,As,p,rfl,sm,e1,e2,a1,a2,hw,rfl⟩
 have hlen:ms.length+aq As<=100000:=by
  have h1:=congrArg W7 hw;rw [UA,jH,Th.walk_len,<- a1.length] at h1;have h2:=nh As;omega
 refine ⟨_,rfl,_,.inl ⟨_,SqL.of e2,rfl⟩,?_⟩;refine cB (fun c=>?_) (fun c=>?_)
 · -- a part is taken off
   refine ⟨fun yA H'=>∃ m',m'<aq As/\Ex5 fun (ms as:List Ud) (Ms As:List Th) (p:Option V)=>An8 (yA=[some (.ref a),some (.ref mt),some (.ref ah),p]) (L2.Same H H') (H' mt=some (.lst (ms.map V.ref))) (H' ah=some (.lst (as.map V.ref))) (AtsK K H' Ms ms) (AtsK K H' As as) (Ms++walks As.reverse=t.walk) (m'=aq As),fun yA H' h=>h,?_⟩;have zI:as≠[]:=by intro z;subst z;simp at c
   obtain ⟨yO,b,rfl⟩:∃ yO b,as=yO++[b]:=⟨as.dropLast,as.getLast zI,(Wd zI).symm⟩;obtain ⟨Us,x,rfl,a3,a4⟩:=a2.snoc_inv;have hs:aq (Us++[x])=aq Us+x.size:=by rw [bg,aq,aq];omega
   have Ia:=x.size_eq;rw [hs] at hlen;refine ⟨_,rfl,.inl ⟨rfl,_,SqL.of e2⟩,ah,_,.ref b,rfl,rfl,e2,by simp,?_⟩;have d1:((yO++[b]).map V.ref).dropLast=yO.map V.ref:=by simp
   rw [d1];refine ⟨_,rfl,.inl ⟨rfl,_,SqL.of (by rw [am yU.symm];exact e1)⟩,_,rfl,mt,_,.ref b,rfl,rfl,by rw [am yU.symm];exact e1,aF (by rw [T8];omega),?_⟩;have k1:KT H2 (upd (upd H2 ah (.lst (yO.map V.ref))) mt (.lst (ms.map V.ref++[.ref b]))):=(aU e2).trans (aU (xs:=ms.map V.ref) (by rw [am yU.symm];exact e1));refine ⟨_,rfl,.inl ⟨rfl,_,SqL.of (by rw [am yU,ab])⟩,_,rfl,b,x,rfl,a4.mono k1,fun r ks H3 s3 e3 a5=>?_⟩;refine ⟨r,_,rfl,SqT.of e3,fun l hl=>?_⟩;have l1:l≠ah:=fun z=>by rw [z,s3 ah _ (by rw [am yU,ab])] at hl;cases hl
   have l2:l≠mt:=fun z=>by rw [z,s3 mt _ ab] at hl;cases hl
   refine ⟨ah,l,_,_,rfl,rfl,by rw [am l1.symm];exact s3 ah _ (by rw [am yU,ab]),SqT.of ab,XE (aF ?_),?_⟩
   · have q1:=a3.length;have q2:=a5.length;have q3:=bH Us;have q4:=bH x.kids;rw [T8,VC,T8];omega
   · have k2:KT H2 (upd (upd H3 l (.tup (ks.map V.ref).reverse)) ah (.lst (yO.map V.ref++(ks.map V.ref).reverse))) :=
      k1.trans ((Same.kt s3).trans ((dZ hl).trans (aU (xs:=yO.map V.ref) (by rw [am l1.symm];exact s3 ah _ (by rw [am yU,ab])))))
     have k3:KT H3 (upd (upd H3 l (.tup (ks.map V.ref).reverse)) ah (.lst (yO.map V.ref++(ks.map V.ref).reverse))) :=
      (dZ hl).trans (aU (xs:=yO.map V.ref) (by rw [am l1.symm];exact s3 ah _ (by rw [am yU,ab])))
     refine ⟨aq (Us++x.kids.reverse),?_,ms++[b],yO++ks.reverse,Ms++[x],Us++x.kids.reverse,some (.ref b),rfl,?_,?_,?_,?_,?_,?_,rfl⟩
     · rw [bg,nh,hs];omega
     · have s4:L2.Same H (upd (upd H2 ah (.lst (yO.map V.ref))) mt (.lst (ms.map V.ref++[.ref b]))):=ay (ay sm AE) AY;have nl:H l=none:=s4.free (s3.free hl);exact ay (ay (s4.trans s3) nl) AE
     · rw [am yU.symm,am l2.symm,s3 mt _ ab,Ut];rfl
     · rw [ab,Ut,YT]
     · exact (a1.mono k2).append (.cons (a4.mono k2) .nil)
     · exact (a3.mono k2).append (a5.mono k3).reverse
     · rw [<- hw,Ve,VM,VM,We,ju];show Ms++([x]++(walks x.kids++walks Us.reverse))=Ms++walks (x::Us.reverse);rw [walks,x.walk_eq];rfl
 · have hz:as=[]:=by
    cases as with
    | nil=>rfl
    | cons y ys=>simp at c
   subst hz;have DE:As=[]:=VB.mp a2.length.symm;subst DE;refine ⟨_,rfl,k mt ms H2 sm AY e1 ?_⟩;have FA:Ms=t.walk:=by simpa [walks] using hw
   rw [<- FA];exact a1
inductive lq (K:Ub) (vs:List V) (H:Hp) (Q:VK) (_E:XK):Prop
 | mk (a:Ud) (t:Th) (yL:vs=[.ref a]) (yM:AtK K H t a) (yR:t.size<=100000) (yY:t.tall<=100000) (zf:∀ (r:Ud) (as:List Ud) (H':Hp),L2.Same H H'->H r=none->H' r=some (.lst (as.map V.ref))->PsAtK K H' (t.pl []) as->Q (.ref r) H'):lq K vs H Q _E
def sw (K:Ub):Sp:=lq K
theorem hZ:bf P w K mg base CX0 2 T.g_placed.f T.g_placed.d ["thing"] (sw K):=by
 refine T.g_placed.F.ok dH (fun vs H Q E h=>?_) (fun yJ A outer s H vs Q E hr h=>?_)
 · obtain ⟨a,t,rfl,_⟩:=h;rfl
 obtain ⟨a,t,rfl,hA,hsz,zb,k⟩:=h
 refine ⟨_,(ae (av (i:=1) dH.nd rfl (Ux rfl) (bC ac))
  (ae (av (i:=2) dH.nd rfl (Ux rfl) (bC (aa (aK (aa (aK ac) (aa (pv 0) ac))) ac)))
  (ae (dU UO (aV (pv 2) (fun _=>rfl)) (ae (cP (jN Ur WS WR jF (pv 2)) (bA rfl (au (aj (i:=3) dH.nd rfl (Yt rfl)) (au (aj (i:=4) dH.nd rfl (Ux rfl)) aY))))
  (ae (aQ (bL Ur UJ UI aP (pv 1) (aa (aK (aa (pv 3) (aa (pv 4) ac))) ac)))
  (ae (fO (i:=5) (N:=[Ui "number",Ui "kid",Ui "place"]) (js:=[none,none,some 3]) (g:=(mr K 2 (db (aG 0) (db (aG 1) mC)))) (tt:=bK) (te:=(kj (bu (tOp (lO K) (bx 2) (kj (bu (bx 0) d4))) (bu (bx 1) d4)))) dH.nd rfl (Ux rfl) rfl (cG rfl (by decide +kernel) (by decide +kernel) rfl rfl rfl) (n5 rfl T.n_enumerate (pcF T.g_kids_of (iL T) hr (aa (pv 4) ac))) (fun _ _ _ _ _ _=>(bA rfl (au (aj (i:=0) uU rfl (Ux rfl)) (au (aj (i:=1) uU rfl (Ux rfl)) aY)))) (gM (bW aX (aS rfl) (bW aX (aS rfl) gC))) (fun _ _ _ _ _ _=>bS) (fun _ _ _ _ _ _=>(aK (aa (az dz (pv 2) (aK (aa (pv 0) ac))) (aa (pv 1) ac)))))
  (ag (aQ (bL Ur W9 W8 g9 (pv 2) (aa (r6 vG (pv 5)) ac))))))))
  (ag (aA (pv 1)))))),?_⟩
 try dsimp only [yZ,yE]
 refine ⟨ak (by show 0<=1000000;decide),fun mt AY=>?_⟩;have s1:L2.Same H (upd H mt (.lst [])):=ad AY _;have FC:(upd H mt (.lst [])) mt=some (.lst []):=ab;generalize upd H mt (.lst [])=H1 at s1 FC ⊢;refine ⟨ak (by show 0<=1000000;decide),fun p0 DC=>?_⟩;refine ⟨_,rfl,ak (by show 2<=1000000;decide),fun p1 AN=>?_⟩;refine ⟨ak (by show 1<=1000000;decide),fun ah AU=>?_⟩;have s2:L2.Same H1 (upd (upd H1 p0 (.tup [])) p1 (.tup [.ref p0,.ref a])):=(ad DC _).trans (ad AN _);have e1:(upd (upd H1 p0 (.tup [])) p1 (.tup [.ref p0,.ref a])) p1=some (.tup [.ref p0,.ref a]):=ab;have e0:(upd (upd H1 p0 (.tup [])) p1 (.tup [.ref p0,.ref a])) p0=some (.tup []):=ad AN _ _ _ ab;generalize (upd (upd H1 p0 (.tup [])) p1 (.tup [.ref p0,.ref a]))=H2 at s2 e1 e0 AU ⊢;have BJ:H1 ah=none:=s2.free AU;have AE:H ah=none:=s1.free BJ;have yU:ah≠mt:=fun z=>by rw [z,FC] at BJ;cases BJ
 refine ⟨fun m σ H3=>Ex7 fun (ms as:List Ud) (Ms As:List (List Int×Th)) (c3 c4 c5:Option V)=>An9 (σ=[some (.ref a),some (.ref mt),some (.ref ah),c3,c4,c5]) (L2.Same H H3) (H3 mt=some (.lst (ms.map V.ref))) (H3 ah=some (.lst (as.map V.ref))) (PsAtK K H3 Ms ms) (PsAtK K H3 As as) (Ms++plP As.reverse=t.pl []) ((∀ p∈As,p.1.length+p.2.tall<=100000)) (m=szP As),⟨_,[],[p1],[],[([],t)],none,none,none,rfl,?_,?_,?_,.nil,.cons ⟨p0,a,?_,?_,?_⟩ .nil,?_,?_,rfl⟩,?_⟩
 · exact ay (s1.trans s2) AE
 · rw [am yU.symm];exact s2 _ _ FC
 · rw [ab];rfl
 · exact ad AU _ _ _ e1
 · exact ad AU _ _ _ e0
 · exact hA.mono (Same.kt (ay (s1.trans s2) AE))
 · simp [plP]
 · intro p hp;rw [UH] at hp;subst hp;simpa using zb
 rintro m σ H3 ⟨ms,as,Ms,As,c3,c4,c5,rfl,sm,em,ea,a1,a2,hw,hb,rfl⟩
 have hlen:ms.length+szP As<=100000:=by
  have h1:=congrArg W7 hw;rw [UA,rZ,Th.pl_len,ku] at h1;have h2:=Up a1;omega
 refine ⟨_,rfl,_,.inl ⟨_,SqL.of ea,rfl⟩,?_⟩;refine cB (fun c=>?_) (fun c=>?_)
 · refine ⟨fun yA H'=>∃ m',m'<szP As/\Ex7 fun (ms as:List Ud) (Ms As:List (List Int×Th)) (c3 c4 c5:Option V)=>An9 (yA=[some (.ref a),some (.ref mt),some (.ref ah),c3,c4,c5]) (L2.Same H H') (H' mt=some (.lst (ms.map V.ref))) (H' ah=some (.lst (as.map V.ref))) (PsAtK K H' Ms ms) (PsAtK K H' As as) (Ms++plP As.reverse=t.pl []) ((∀ p∈As,p.1.length+p.2.tall<=100000)) (m'=szP As),fun yA H' h=>h,?_⟩;have zI:as≠[]:=by intro z;subst z;simp at c
   refine hid fun ZZ kZ=>?_;obtain ⟨yO,b,rfl⟩:∃ yO b,as=yO++[b]:=⟨as.dropLast,as.getLast zI,(Wd zI).symm⟩;obtain ⟨Us,⟨pre,x⟩,rfl,a3,pa,ta,eb,AQ,AF⟩:=P2.snoc_inv a2;refine kZ ?_;have DW:szP (Us++[(pre,x)])=szP Us+x.size:=by rw [cJ,szP,szP];rfl
   have Ia:=x.size_eq;rw [DW] at hlen;have J8:=hb (pre,x) (by simp);simp only at J8 AQ AF;refine ⟨_,rfl,.inl ⟨rfl,_,SqL.of ea⟩,ah,_,.ref b,rfl,rfl,ea,by simp,?_⟩;have d1:((yO++[b]).map V.ref).dropLast=yO.map V.ref:=by simp
   rw [d1];have k1:KT H3 (upd H3 ah (.lst (yO.map V.ref))):=aU ea;have Cy:L2.Same H (upd H3 ah (.lst (yO.map V.ref))):=ay sm AE;have BZ:(upd H3 ah (.lst (yO.map V.ref))) mt=some (.lst (ms.map V.ref)):=by rw [am yU.symm];exact em
   have FD:(upd H3 ah (.lst (yO.map V.ref))) ah=some (.lst (yO.map V.ref)):=ab;generalize (upd H3 ah (.lst (yO.map V.ref)))=H4 at k1 Cy BZ FD ⊢;refine ⟨b,_,rfl,SqT.of (k1 _ _ eb),rfl,_,_,rfl,_,_,rfl,rfl,?_⟩
   -- met.append((place,part))
   refine ⟨_,rfl,.inl ⟨rfl,_,SqL.of BZ⟩,_,rfl,_,rfl,ak (by show 2<=1000000;decide),fun pr Ab=>?_⟩;have LI:mt≠pr:=aL BZ Ab;refine ⟨mt,_,_,rfl,rfl,ad Ab _ _ _ BZ,aF (by rw [T8];omega),?_⟩;have LJ:(upd H4 pr (.tup [.ref pa,.ref ta])) mt=some (.lst (ms.map V.ref)):=ad Ab _ _ _ BZ;have k2:KT H4 (upd (upd H4 pr (.tup [.ref pa,.ref ta])) mt (.lst (ms.map V.ref++[.ref pr]))):=(dZ Ab).trans (aU LJ);have LK:L2.Same H (upd (upd H4 pr (.tup [.ref pa,.ref ta])) mt (.lst (ms.map V.ref++[.ref pr]))):=ay (ay Cy (Cy.free Ab)) AY;have Oy:(upd (upd H4 pr (.tup [.ref pa,.ref ta])) mt (.lst (ms.map V.ref++[.ref pr]))) mt=some (.lst ((ms++[pr]).map V.ref)):=by rw [ab,Ut];rfl
   have GB:(upd (upd H4 pr (.tup [.ref pa,.ref ta])) mt (.lst (ms.map V.ref++[.ref pr]))) ah=some (.lst (yO.map V.ref)):=by rw [am yU,am (aL FD Ab)];exact FD
   have Cz:(upd (upd H4 pr (.tup [.ref pa,.ref ta])) mt (.lst (ms.map V.ref++[.ref pr]))) pr=some (.tup [.ref pa,.ref ta]):=by rw [am LI.symm,ab]
   generalize (upd (upd H4 pr (.tup [.ref pa,.ref ta])) mt (.lst (ms.map V.ref++[.ref pr])))=H5 at k2 LK Oy GB Cz ⊢;have GC:KT H3 H5:=k1.trans k2;have LL:=GC _ _ AQ
   -- kids
   refine ⟨_,rfl,ta,x,rfl,AF.mono GC,fun r ks H6 s6 er Ay=>⟨r,rfl,⟨_,SqT.of er⟩,?_⟩⟩;have zE:ks.length=x.kids.length:=Ay.length;have GD:=bH x.kids;intro D hD;have LM:=s6 _ _ LL;refine ⟨ks.length,fun j H7=>An3 (j<=ks.length) (L2.Same H6 H7) (Ex1 fun (bs:List Ud)=>An2 (H7 D=some (.lst (bs.map V.ref))) (PsAtK K H7 ((cW pre 0 x.kids).take j) bs)),⟨UL _,ad hD _,[],ab,.nil⟩,?_⟩;rintro j H7 ⟨hj,s7,bs,eD,y8⟩;by_cases BK:j=ks.length
   · left;refine ⟨⟨_,SqT.of (s7 _ _ er),by rw [T8];exact BK.symm⟩,?_⟩;have yG:(cW pre 0 x.kids).take j=cW pre 0 x.kids:=by rw [BK,zE,<- gS pre 0 x.kids,Wt]
     rw [yG] at y8;have LN:=s7 _ _ (s6 _ _ GB);have Ib:=s7 _ _ (s6 _ _ Oy)
     have Ao:bs.length=x.kids.length:=by
      have:=Up y8;rw [gS] at this;exact this.symm
     refine ⟨_,rfl,.inl ⟨rfl,_,SqL.of LN⟩,_,rfl,D,_,rfl,SqL.of eD,fun l hl=>?_⟩;have AX:ah≠l:=aL LN hl;have C8:mt≠l:=aL Ib hl;have Ic:(upd H7 l (.lst (bs.map V.ref).reverse)) ah=some (.lst (yO.map V.ref)):=by rw [am AX];exact LN
     have q3:yO.length=Us.length:=(Up a3).symm;have q4:=nS Us;refine ⟨ah,l,_,_,rfl,rfl,Ic,ab,ak ?_,?_⟩
     · rw [T8,VC,T8];omega
     have k8:KT H7 (upd (upd H7 l (.lst (bs.map V.ref).reverse)) ah (.lst (yO.map V.ref++(bs.map V.ref).reverse))):=(dZ hl).trans (aU Ic);have EJ:KT H3 (upd (upd H7 l (.lst (bs.map V.ref).reverse)) ah (.lst (yO.map V.ref++(bs.map V.ref).reverse))):=GC.trans ((Same.kt (s6.trans s7)).trans k8);refine ⟨szP (Us++(cW pre 0 x.kids).reverse),?_,ms++[pr],yO++bs.reverse,Ms++[(pre,x)],Us++(cW pre 0 x.kids).reverse,_,_,_,rfl,?_,?_,?_,?_,?_,?_,?_,rfl⟩
     · rw [cJ,ku,jv,DW];omega
     · exact ay (ay ((LK.trans s6).trans s7) ((LK.trans s6).trans s7 |>.free hl)) AE
     · rw [am yU.symm,am C8];exact Ib
     · rw [ab,Ut,YT]
     · exact P2.append (a1.mono EJ) (.cons ⟨pa,ta,k8 _ _ (s7 _ _ (s6 _ _ Cz)),EJ _ _ AQ,AF.mono EJ⟩ .nil)
     · exact P2.append (PsAtK.mono EJ a3) (P2.reverse (PsAtK.mono k8 y8))
     · rw [<- hw,Ve,VM,VM,We,kH,o9];show Ms++([(pre,x)]++(pls pre 0 x.kids++plP Us.reverse))=Ms++plP ((pre,x)::Us.reverse);rw [plP,x.pl_eq pre];rfl
     · intro p hp;rcases U8.mp hp with hp | hp
       · exact hb p (Vf _ hp)
       · obtain ⟨g1,g2⟩:=lh pre 0 x.kids p (List.mem_reverse.mp hp);have:=oE g2;omega
   · right;have yS:j<ks.length:=by omega
     refine ⟨yS,⟨_,.ref ks[j],SqT.of (s7 _ _ er),by rw [Ul,Ua yS];rfl⟩,?_⟩;rintro y H8 ⟨p,v,hp,rfl,rfl,hv⟩;have zu:=hv _ (SqT.of (s7 _ _ er));obtain ⟨kd,rfl,C9⟩:=aT zu;obtain ⟨tk,AJ,LO⟩:=Ay.get C9;have s8:L2.Same H7 (upd H7 p (.tup [.int (j:Nat),.ref kd])):=ad hp _;refine ⟨p,_,rfl,SqT.of ab,rfl,_,_,rfl,_,_,rfl,rfl,?_⟩;generalize (upd H7 p (.tup [.int (j:Nat),.ref kd]))=H8 at s8 ⊢;refine ⟨_,rfl,_,rfl,ak (by show 1<=1000000;decide),fun n1 J9=>?_⟩;have s9:L2.Same H8 (upd H8 n1 (.tup [.int (j:Nat)])):=ad J9 _;have e9:(upd H8 n1 (.tup [.int (j:Nat)])) n1=some (.tup [.int (j:Nat)]):=ab;generalize (upd H8 n1 (.tup [.int (j:Nat)]))=H9 at s9 e9 ⊢;refine mj (s9 _ _ (s8 _ _ (s7 _ _ LM))) e9 (by rw [T8];show pre.length+1<=1000000;omega) fun n2 zx zk FE=>?_;refine ⟨_,rfl,ak (by show 2<=1000000;decide),fun n3 EK=>?_⟩;have Ae:L2.Same H7 (upd zx n3 (.tup [.ref n2,.ref kd])):=(s8.trans (s9.trans zk)).trans (ad EK _);have Ie:=Ae _ _ eD;refine ⟨_,Ie,aF ?_,yS,?_,bs++[n3],?_,?_⟩
     · have:=Up y8;rw [U1] at this;rw [T8];omega
     · exact ay (s7.trans Ae) hD
     · rw [ab,Ut];rfl
     · have J':KT (upd zx n3 (.tup [.ref n2,.ref kd])) (upd (upd zx n3 (.tup [.ref n2,.ref kd])) D (.lst (bs.map V.ref++[.ref n3]))):=aU Ie;rw [Vz,kO pre 0 x.kids j tk AJ];refine P2.append (PsAtK.mono ((Same.kt Ae).trans J') y8) (.cons ⟨n2,kd,J' _ _ ab,J' _ _ (ad EK _ _ _ ?_),?_⟩ .nil)
       · rw [FE,Ut,VH];rfl
       · exact LO.mono ((Same.kt (s7.trans Ae)).trans J')
 · have hz:as=[]:=by
    cases as with
    | nil=>rfl
    | cons y ys=>simp at c
   subst hz;have DE:As=[]:=VB.mp (Up a2);subst DE;refine ⟨_,rfl,k mt ms H3 sm AY em ?_⟩;have FA:Ms=t.pl []:=by simpa [plP] using hw
   rw [<- FA];exact a1
inductive nn (K:Ub) (vs:List V) (H:Hp) (Q:VK) (_E:XK):Prop
 | mk (l:Ud) (as:List Ud) (tops:List Top) (u:Th) (yL:vs=[.ref l]) (yM:H l=some (.lst (as.map V.ref))) (yR:UR (TopAtK K H) tops as) (yY:tops.length<=100000) (zf:TopsOk tops) (zY:(∀ t,Top.th t∈tops->t.size<=100000)) (BD:bl tops=[u]) (BX:∀ (r:Ud) (H':Hp),L2.Same H H'->AtK K H' u r->Q (.ref r) H'):nn K vs H Q _E
def tM (K:Ub):Sp:=nn K
theorem lC:bf P w K mg base CX0 1 T.g_built.f T.g_built.d ["tops"] (tM K):=by
 refine T.g_built.F.ok je (fun vs H Q E h=>?_) (fun yJ A outer s H vs Q E hr h=>?_)
 · obtain ⟨l,as,tops,u,rfl,_⟩:=h;rfl
 obtain ⟨l,as,tops,u,rfl,el,hT,hlen,hok,LP,hu,k⟩:=h
 refine ⟨_,(ae (av (i:=1) je.nd rfl (Yt rfl) (bC ac))
  (ae (bm UO rfl (wu rfl T.n_reversed (pv 0)) (bA rfl (au (aj (i:=2) je.nd rfl (Ux rfl)) (au (aj (i:=3) je.nd rfl (Ux rfl)) aY))) (ag (bq (aH mI (pv 3) af (aO _)) (ag (aQ (bL Ur UJ UI aP (pv 1) (aa (az dz (pv 2) (de cH rfl T.n_tuple VY (aa (cq (N:=[Ui "number",Ui "done"]) (js:=[none,some 1]) (g:=(aG 0)) (tt:=bK) (te:=(xO K "list" (xm) (bx 1))) rfl (cG rfl (by decide +kernel) (by decide +kernel) rfl rfl rfl) (bp rfl T.n_range (aa (pv 3) ac)) (fun _ _ _ _ _ _=>(aj (i:=0) ym rfl (Ux rfl))) (aS rfl) (fun _ _ _ _ _ _=>bS) (fun _ _ _ _ _ _=>(jN Ur WS WR jF (pv 1)))) ac))) ac)))) (ag (aQ (bL Ur UJ UI aP (pv 1) (aa (pv 2) ac)))))))
  (ag (aA (ax aN (pv 1) af (fun _ _=>rfl)))))),?_⟩
 try dsimp only [yZ,yE]
 have Aw:tops.length=as.length:=Up hT;refine ⟨ak (by show 0<=1000000;decide),fun dn Ka=>?_⟩;refine ⟨_,rfl,l,_,rfl,SqL.of (ad Ka _ _ _ el),?_⟩
 refine vH (K:=K) (a:=l) (xs:=as.map V.ref) (fun i σ H2=>Ex3 fun c2 c3 ds=>An4 (σ=[some (.ref l),some (.ref dn),c2,c3]) (L2.Same H H2) (H2 dn=some (.lst (ds.map V.ref))) (AtsK K H2 (bl (tops.drop (tops.length - i))).reverse ds))
  ⟨none,none,[],rfl,ad Ka _,ab,by rw [ZE,List.drop_length];exact .nil⟩ (fun i σ H2 _ ⟨_,_,_,_,s2,_,_⟩=>SqL.of (s2 _ _ el)) ?_ ?_
 · rintro i y σ H2 hi hy ⟨c2,c3,ds,rfl,s2,DX,AW⟩;rw [T8,<- Aw] at hi hy;obtain ⟨pr,rfl,Ab⟩:=aT hy;obtain ⟨x,hx,LR⟩:=P2.get' hT Ab;have Oz:=LR.mono (Same.kt s2);have hn:tops.length - 1 - i<tops.length:=by omega
   have EL:tops.drop (tops.length - 1 - i)=x::tops.drop (tops.length - i):=by
    rw [XG hn,show tops.length - 1 - i+1=tops.length - i by omega];congr 1;rw [Ua hn] at hx;exact UQ hx
   have DY:=hok.drop (tops.length - 1 - i);rw [EL] at DY;have EM:tops.length - (i+1)=tops.length - 1 - i:=by omega
   have Lj:(bl (tops.drop (tops.length - i))).length<=100000:=by
    have:=qw (tops.drop (tops.length - i));rw [Vx] at this;omega
   generalize tops.drop (tops.length - i)=S at EL AW DY Lj;refine hid fun ZZ kZ=>?_
   obtain ⟨ta,m,xs,Cz,eta,hm,S6,zW⟩:∃ (ta:Ud) (m:Nat) (xs:List V),H2 pr=some (.tup [.ref ta,.int (m:Nat)])/\TK K H2 ta xs/\m<=(bl S).length/\xs.length<=200000/\∀ (H':Hp) (p:Ud) (ks:List Ud),KT H2 H'->AtsK K H' ((bl S).take m) ks->TK K H' p (xs++ks.map V.ref)->∃ u',bl (x::S)=u'::(bl S).drop m/\AtK K H' u' p:=by
    cases x with
    | nm n m =>
      rw [TopsOk] at DY;obtain ⟨ta,h1,h2,h3⟩:=Oz;refine ⟨ta,m,_,h1,h3,DY.1,(by show 1<=200000;decide),fun H' p ks kt hk hp=>⟨_,by rw [bl],?_⟩⟩;rw [AtK];exact ⟨h2,ks,hp,hk⟩
    | th t =>
      obtain ⟨ta,h1,h2⟩:=Oz;obtain ⟨xs,h3,hw,h4⟩:=h2.whole;have Ap:=LP t (Uc hx);refine ⟨ta,0,_,h1,h3,UL _,by omega,fun H' p ks kt hk hp=>⟨t,by rw [bl,Wy],?_⟩⟩;rw [Xc,AtsK] at hk;subst hk;rw [Wv,U0] at hp;exact h4 _ _ kt hp
   refine kZ ?_;refine ⟨pr,_,rfl,SqT.of Cz,rfl,_,_,rfl,_,_,rfl,rfl,?_⟩;have LS:=AW.length;rw [VC] at LS;refine fk (fun b H'=>An2 (H'=H2) (b=decide ((0:Int)<(m:Int)))) (fun kk CA=>?_) (fun H' hb=>?_) (fun H' hb=>?_)
   · exact ⟨_,rfl,_,_,rfl,rfl,_,rfl,CA _ _ ⟨rfl,rfl⟩⟩
   rotate_left
   · obtain ⟨rfl,hb⟩:=hb
     have QY:m=0:=by
      have:=of_decide_eq_false hb.symm;omega
     subst QY;obtain ⟨u',zZ,zP⟩:=zW H' ta [] (Same.kt (.refl _)) (by rw [Xc];exact .nil) (by rw [Wv,U0];exact eta);refine ⟨_,rfl,.inl ⟨rfl,_,SqL.of DX⟩,_,rfl,dn,_,_,rfl,rfl,DX,aF (by rw [T8];omega),?_⟩;have k6:KT H' (upd H' dn (.lst (ds.map V.ref++[.ref ta]))):=aU DX;refine ⟨_,_,ds++[ta],rfl,?_,by rw [ab,Ut];rfl,?_⟩
     · intro b o e;rw [am (aL e Ka)];exact s2 b o e
     · rw [EM,EL,zZ,Vn];rw [Wy];exact (AW.mono k6).append (.cons (zP.mono k6) .nil)
   obtain ⟨rfl,hb⟩:=hb;refine ⟨_,rfl,.inl ⟨rfl,_,SqL.of DX⟩,_,rfl,?_⟩;refine ⟨_,rfl,(m:Int),rfl,by omega,by omega,fun D hD=>?_⟩;have LU:D≠dn:=fun z=>by rw [z,DX] at hD;cases hD
   have AY:((m:Nat):Int).toNat=m:=Vk m
   refine ⟨m,fun j H3=>An3 (j<=m) ((∀ b o,H' b=some o->b≠dn->H3 b=some o)) (Ex2 fun (DZ ks:List Ud)=>An4 (H3 dn=some (.lst (DZ.map V.ref))) (H3 D=some (.lst (ks.map V.ref))) (AtsK K H3 ((bl S).drop j).reverse DZ) (AtsK K H3 ((bl S).take j) ks)),
    ⟨UL _,fun b o e hb=>?_,ds,[],?_,?_,?_,?_⟩,?_⟩
   · rw [am (aL e hD)];exact e
   · rw [am LU.symm];exact DX
   · rw [ab];rfl
   · rw [Wy];exact AW.mono (dZ hD)
   · rw [Xc];exact .nil
   rintro j H3 ⟨hj,kp,DZ,ks,ed,eD,FF,hd2⟩;by_cases OA:j=m
   · left;refine ⟨(by show ((m:Nat):Int).toNat<=j;rw [AY,OA];exact Ue _),?_⟩;subst OA;have Ig:KT H' H3:=fun b S7 e=>kp b _ e (f9 e DX (by intro z;cases z));refine ⟨D,_,rfl,.inl ⟨SqL.of eD,fun tp FG=>?_⟩⟩;have s4:L2.Same H3 (upd H3 tp (.tup (ks.map V.ref))):=ad FG _;have e4:(upd H3 tp (.tup (ks.map V.ref))) tp=some (.tup (ks.map V.ref)):=ab;generalize (upd H3 tp (.tup (ks.map V.ref)))=H4 at s4 e4 ⊢;have zE:=hd2.length;refine yt ((eta.mono Ig).mono (Same.kt s4)) (.of e4) (by rw [T8,zE,U1];omega) fun p H5 s5 e5=>?_;have CB:=s4.trans s5;have OB:=CB _ _ ed;have D0:=Ig.trans (Same.kt CB);obtain ⟨u',zZ,zP⟩:=zW H5 p ks D0 (hd2.mono (Same.kt CB)) e5;have Cw:=FF.length;rw [VC,Vx] at Cw;refine ⟨dn,_,_,rfl,rfl,OB,aF (by rw [T8];omega),?_⟩;have k6:KT H5 (upd H5 dn (.lst (DZ.map V.ref++[.ref p]))):=aU OB;refine ⟨_,_,DZ++[p],rfl,?_,by rw [ab,Ut];rfl,?_⟩
     · intro b o e;have hb:b≠dn:=aL e Ka;rw [am hb];exact CB _ _ (kp b o (s2 b o e) hb)
     · rw [EM,EL,zZ,Vn];exact (FF.mono ((Same.kt CB).trans k6)).append (.cons (zP.mono k6) .nil)
   · right;have yS:j<m:=by omega
     refine ⟨yS,(by show j<((m:Nat):Int).toNat;rw [AY];exact yS),?_⟩;rintro x' H4 ⟨e1,e2⟩;have AB:H4=H3:=e1;subst AB;have OC:j<(bl S).length:=by omega
     have QZ:(bl S).drop j=(bl S)[j]::(bl S).drop (j+1):=XG OC;rw [QZ,Vn] at FF
     have yU:DZ≠[]:=by
      intro z;subst z;have:=FF.length;rw [UA] at this;simp at this
     refine hid fun ZZ kZ=>?_;obtain ⟨FH,b,rfl⟩:∃ FH b,DZ=FH++[b]:=⟨DZ.dropLast,DZ.getLast yU,(Wd yU).symm⟩;obtain ⟨Us,x2,e3,hU,yW⟩:=FF.snoc_inv;have e4:=List.append_inj' e3 rfl;obtain ⟨e5,e6⟩:=e4;refine kZ ?_;cases e6;subst e5;refine ⟨_,rfl,.inl ⟨rfl,_,SqL.of ed⟩,dn,_,.ref b,rfl,rfl,ed,by simp,?_⟩;have d1:((FH++[b]).map V.ref).dropLast=FH.map V.ref:=by simp
     rw [d1];have OD:(upd H4 dn (.lst (FH.map V.ref))) D=some (.lst (ks.map V.ref)):=by rw [am LU];exact eD
     have k5:KT H4 (upd (upd H4 dn (.lst (FH.map V.ref))) D (.lst (ks.map V.ref++[.ref b]))):=(aU ed).trans (aU OD);refine ⟨_,OD,aF (by rw [T8,hd2.length,U1];omega),yS,fun b' o e Ap=>?_,FH,ks++[b],?_,?_,hU.mono k5,?_⟩
     · rw [am (aL e hD),am Ap];exact kp b' o e Ap
     · rw [am LU.symm,ab]
     · rw [ab,Ut];rfl
     · rw [Vz,Ua OC];exact (hd2.mono k5).append (.cons (yW.mono k5) .nil)
 · rintro σ H2 ⟨c2,c3,ds,rfl,s2,DX,AW⟩;rw [T8,<- Aw,ZF,Wy,hu] at AW;have Ih:AtsK K H2 [u] ds:=AW;rw [AtsK] at Ih;obtain ⟨b,r,rfl,hb,Fy⟩:=Ih;exact ⟨_,rfl,dn,_,0,.ref b,rfl,rfl,SqL.of DX,at0,k b H2 s2 hb⟩
inductive lW (K:Ub) (vs:List V) (H:Hp) (Q:VK) (_E:XK):Prop
 | mk (a:Ud) (t:Th) (yL:vs=[.ref a]) (yM:AtK K H t a) (yR:t.size<=100000) (yY:t.tall<=100000) (zf:∀ (r:Ud) (ps:List Ud) (H':Hp),L2.Same H H'->H r=none->H' r=some (.lst (ps.map V.ref))->UR (fun (p:List Int×Th) b=>H' b=some (.tup (p.1.map V.int))) (t.pl []) ps->Q (.ref r) H'):lW K vs H Q _E
def sW (K:Ub):Sp:=lW K
theorem sN:bf P w K mg base CX0 3 T.g_places.f T.g_places.d ["tree"] (sW K):=by
 refine T.g_places.F.ok sF (fun vs H Q E h=>?_) (fun yJ A outer s H vs Q E hr h=>?_)
 · obtain ⟨a,t,rfl,_⟩:=h;rfl
 obtain ⟨a,t,rfl,hA,hsz,zb,k⟩:=h;refine ⟨_,(ag (aA (cq (N:=[Ui "place",Ui "knot"]) (js:=[none,none]) (g:=(mr K 2 (db (aG 0) (db (aG 1) mC)))) (tt:=bK) (te:=(bx 0)) rfl (cG rfl (by decide +kernel) (by decide +kernel) rfl rfl rfl) (cn (pcF T.g_placed (hZ T) hr (aa (pv 0) ac))) (fun _ _ _ _ _ _=>(bA rfl (au (aj (i:=0) wZ rfl (Ux rfl)) (au (aj (i:=1) wZ rfl (Ux rfl)) aY)))) (gM (bW aX (aS rfl) (bW aX (aS rfl) gC))) (fun _ _ _ _ _ _=>bS) (fun _ _ _ _ _ _=>(pv 0))))),?_⟩
 try dsimp only [yZ,yE]
 refine ⟨_,rfl,a,t,rfl,hA,hsz,zb,fun r as H1 s1 nr er zm=>⟨r,rfl,⟨_,SqL.of er⟩,?_⟩⟩;have Aw:(t.pl []).length=as.length:=Up zm;rw [Th.pl_len] at Aw;refine hid fun ZZ kZ=>?_;obtain ⟨bs,DF,yW,GF⟩:=m3 zm;refine kZ ?_;refine iy bs (fun _=>true) V.ref (SqL.of er) (by rw [T8];exact yW) (by rw [T8];omega) (fun i x z H2 R R0 hx hz sm g1 g2=>?_) (fun D hD=>?_)
 · obtain ⟨a',ta,rfl,ea⟩:=GF i x z hx hz;refine ⟨a',_,rfl,SqT.of (sm _ _ ea),rfl,_,_,rfl,_,_,rfl,rfl,?_⟩;refine pS (B:=R0 H2) ?_;exact ⟨_,rfl,g1 rfl⟩
 · rw [filter_tt];exact k D bs _ (s1.trans (ad hD _)) (s1.free hD) ab (P2.mp (fun _ _ e=>ad hD _ _ _ e) DF)
inductive j9 (K:Ub) (vs:List V) (H:Hp) (Q:VK) (_E:XK):Prop
 | mk (a:Ud) (t:Th) (yL:vs=[.ref a]) (yM:AtK K H t a) (yR:Q (.bl t.isCall) H):j9 K vs H Q _E
def ld (K:Ub):Sp:=j9 K
theorem iT:bf P w K mg base CX0 1 T.g_is_call.f T.g_is_call.d ["thing"] (ld K):=by
 refine T.g_is_call.F.ok qH (fun vs H Q E h=>?_) (fun yJ A outer s H vs Q E hr h=>?_)
 · obtain ⟨a,t,rfl,_⟩:=h;rfl
 obtain ⟨a,t,rfl,hA,k⟩:=h;refine ⟨_,(ag (aA (jo cD (ax aC (pv 0) af (fun _ _=>rfl)) (g8 (v:=.str (Ui "?")) rfl T.c_CALL_SIGN.choose_spec ⟨_,rfl⟩) (aO _)))),?_⟩
 try dsimp only [yZ,yE]
 cases t with
 | knot n ks =>
   rw [AtK] at hA;refine hid fun ZZ kZ=>?_;obtain ⟨hn,as,h1,h2⟩:=hA;refine kZ ?_;refine ⟨_,rfl,a,_,0,.str n,rfl,rfl,h1.sq,at0,rfl,?_⟩;have e:decide (V.str n=V.str (Ui "?"))=false:=decide_eq_false (fun z=>hn (V.str.inj z));rw [e];exact k
 | call sn kn =>
   rw [AtK] at hA;refine ⟨_,rfl,a,_,0,.str q,rfl,rfl,hA.sq,at0,rfl,?_⟩;have e:decide (V.str q=V.str (Ui "?"))=true:=decide_eq_true rfl;rw [e];exact k
inductive jZ (K:Ub) (vs:List V) (H:Hp) (Q:VK) (_E:XK):Prop
 | mk (a:Ud) (t:Th) (yL:vs=[.ref a]) (yM:AtK K H t a) (yR:t.tall<=150) (yY:Q (.bl t.isHole) H):jZ K vs H Q _E
def lb (K:Ub):Sp:=jZ K
theorem i3:bf P w K mg base CX0 1 T.g_is_hole.f T.g_is_hole.d ["thing"] (lb K):=by
 refine T.g_is_hole.F.ok qd (fun vs H Q E h=>?_) (fun yJ A outer s H vs Q E hr h=>?_)
 · obtain ⟨a,t,rfl,_⟩:=h;rfl
 obtain ⟨a,t,rfl,hA,zb,k⟩:=h;refine ⟨_,(ag (aA (jo (vf (B:=150) (pF hr)) (pv 0) (g8 (v:=.ref T.a_HOLE) rfl T.c_HOLE rfl) (aO _)))),?_⟩
 try dsimp only [yZ,yE]
 refine ⟨_,rfl,?_⟩;exact vi hA (TK.const T.q_HOLE) zb k
inductive jY (K:Ub) (vs:List V) (H:Hp) (Q:VK) (_E:XK):Prop
 | mk (a:Ud) (t:Th) (yL:vs=[.ref a]) (yM:AtK K H t a) (yR:t.tall<=150) (yY:Q (.bl t.isKnot) H):jY K vs H Q _E
def qg (K:Ub):Sp:=jY K
theorem qJ:bf P w K mg base CX0 2 T.g_is_knot.f T.g_is_knot.d ["thing"] (qg K):=by
 refine T.g_is_knot.F.ok qQ (fun vs H Q E h=>?_) (fun yJ A outer s H vs Q E hr h=>?_)
 · obtain ⟨a,t,rfl,_⟩:=h;rfl
 obtain ⟨a,t,rfl,hA,zb,k⟩:=h;refine ⟨_,(ag (aA (oF (uR (pcF T.g_is_call (iT T) hr (aa (pv 0) ac))) (qB (uR (pcF T.g_is_hole (i3 T) hr (aa (pv 0) ac))))))),?_⟩
 try dsimp only [yZ,yE]
 refine ⟨_,rfl,a,t,rfl,hA,_,rfl,_,rfl,?_⟩;refine cB (fun c=>?_) (fun c=>?_)
 · refine ⟨_,rfl,a,t,rfl,hA,zb,_,rfl,?_⟩;have e:t.isKnot=!t.isHole:=by unfold Th.isKnot;rw [c];rfl
   rw [e] at k;exact k
 · have e:t.isKnot=false:=by unfold Th.isKnot;rw [VP.mpr c];rfl
   rw [e] at k;exact k
inductive iA (K:Ub) (vs:List V) (H:Hp) (Q:VK) (_E:XK):Prop
 | mk (a:Ud) (sn kn:Int) (yL:vs=[.ref a]) (yM:AtK K H (.call sn kn) a) (yR:∀ p,H p=none->Q (.ref p) (upd H p (.tup [.int sn,.int kn]))):iA K vs H Q _E
def jq (K:Ub):Sp:=iA K
theorem i4:bf P w K mg base CX0 1 T.g_called_by.f T.g_called_by.d ["call"] (jq K):=by
 refine T.g_called_by.F.ok ox (fun vs H Q E h=>?_) (fun yJ A outer s H vs Q E hr h=>?_)
 · obtain ⟨a,sn,kn,rfl,_⟩:=h;rfl
 obtain ⟨a,sn,kn,rfl,hA,k⟩:=h;refine ⟨_,(ag (aA (aK (aa (ax aC (pv 0) af (fun _ _=>rfl)) (aa (ax aC (pv 0) af (fun _ _=>rfl)) ac))))),?_⟩
 try dsimp only [yZ,yE]
 rw [AtK] at hA;exact ⟨_,rfl,a,_,1,_,rfl,rfl,hA.sq,at1,_,rfl,a,_,2,_,rfl,rfl,hA.sq,at2,ak (by show 2<=1000000;decide),fun p hp=>k p hp⟩
inductive jc (K:Ub) (vs:List V) (H:Hp) (Q:VK) (_E:XK):Prop
 | mk (a:Ud) (t:Th) (yL:vs=[.ref a]) (yM:AtK K H t a) (yR:t.size<=100000) (yY:t.tall<=100000) (zf:∀ (r:Ud) (as:List Ud) (H':Hp),L2.Same H H'->H r=none->H' r=some (.lst (as.map V.ref))->CsAt H' (callsOf (t.pl [])) as->Q (.ref r) H'):jc K vs H Q _E
def pp (K:Ub):Sp:=jc K
theorem pq:bf P w K mg base CX0 3 T.g_calls_in.f T.g_calls_in.d ["pattern"] (pp K):=by
 refine T.g_calls_in.F.ok oU (fun vs H Q E h=>?_) (fun yJ A outer s H vs Q E hr h=>?_)
 · obtain ⟨a,t,rfl,_⟩:=h;rfl
 obtain ⟨a,t,rfl,hA,hsz,zb,k⟩:=h;refine ⟨_,(ag (aA (cq (N:=[Ui "place",Ui "part"]) (js:=[none,none]) (g:=(mr K 2 (db (aG 0) (db (aG 1) mC)))) (tt:=(fun σ H Q=>(gx (ld K) [] E0 (bu (bx 1) d4)) σ H fun x H1=>∃ k,uT K x H1 k/\Q k H1)) (te:=(kj (bu (bx 0) (bu (gx (jq K) [] E0 (bu (bx 1) d4)) d4)))) rfl (cG rfl (by decide +kernel) (by decide +kernel) rfl rfl rfl) (cn (pcF T.g_placed (hZ T) hr (aa (pv 0) ac))) (fun _ _ _ _ _ _=>(bA rfl (au (aj (i:=0) vC rfl (Ux rfl)) (au (aj (i:=1) vC rfl (Ux rfl)) aY)))) (gM (bW aX (aS rfl) (bW aX (aS rfl) gC))) (fun _ _ _ _ _ _=>kA (aV (pcF T.g_is_call (iT T) hr (aa (pv 1) ac)) (fun _=>rfl))) (fun _ _ _ _ _ _=>(aK (aa (pv 0) (aa (pcF T.g_called_by (i4 T) hr (aa (pv 1) ac)) ac))))))),?_⟩
 try dsimp only [yZ,yE]
 refine ⟨_,rfl,a,t,rfl,hA,hsz,zb,fun r as H1 s1 nr er zm=>⟨r,rfl,⟨_,SqL.of er⟩,?_⟩⟩;have Aw:(t.pl []).length=as.length:=Up zm;have zD:=Th.pl_len [] t;intro D hD;refine ⟨as.length,fun j H2=>An3 (j<=as.length) (L2.Same H1 H2) (Ex1 fun (bs:List Ud)=>An2 (H2 D=some (.lst (bs.map V.ref))) (CsAt H2 (callsOf ((t.pl []).take j)) bs)),⟨UL _,ad hD _,[],ab,.nil⟩,?_⟩;rintro j H2 ⟨hj,s2,bs,eD,y8⟩;by_cases BK:j=as.length
 · left;refine ⟨⟨_,SqL.of (s2 _ _ er),by rw [T8,BK];exact Ue _⟩,?_⟩;have yG:(t.pl []).take j=t.pl []:=by rw [BK,<- Aw,Wt]
   rw [yG] at y8;exact k D bs H2 (s1.trans s2) (s1.free hD) eD y8
 · right;have yS:j<as.length:=by omega
   refine ⟨yS,⟨_,.ref as[j],SqL.of (s2 _ _ er),by rw [Ul,Ua yS];rfl⟩,?_⟩;rintro y H3 ⟨rfl,hv⟩;have zu:=hv _ (SqL.of (s2 _ _ er));refine hid fun ZZ kZ=>?_;obtain ⟨pr,rfl,Ab⟩:=aT zu;obtain ⟨⟨p,u⟩,Q0,pa,ta,e1,e2,e3⟩:=P2.get' (zm.mono (Same.kt s2)) Ab;refine kZ ?_;simp only at e2 e3;have AJ:(t.pl []).take (j+1)=(t.pl []).take j++[(p,u)]:=by rw [Vz,Q0];rfl
   have Ao:bs.length<=j:=by
    have g1:=Up y8;have g2:=j3 ((t.pl []).take j);rw [U1] at g2;omega
   refine ⟨pr,_,rfl,SqT.of e1,rfl,_,_,rfl,_,_,rfl,rfl,?_⟩;refine ⟨_,rfl,ta,u,rfl,e3,_,rfl,?_⟩;cases u with
   | knot n ks =>
     refine cI ⟨yS,s2,bs,eD,?_⟩;rw [AJ,dW];show CsAt H3 (callsOf ((t.pl []).take j)++[]) bs;rw [U0];exact y8
   | call sn kn =>
     refine pS ?_;refine ⟨_,rfl,_,rfl,ta,sn,kn,rfl,e3,fun ca Ii=>⟨ak (by show 2<=1000000;decide),fun n3 EK=>?_⟩⟩;have s4:L2.Same H3 (upd (upd H3 ca (.tup [.int sn,.int kn])) n3 (.tup [.ref pa,.ref ca])):=(ad Ii _).trans (ad EK _);have Ij:=s4 _ _ eD;refine ⟨_,Ij,aF (by rw [T8];omega),yS,ay (s2.trans s4) hD,bs++[n3],?_,?_⟩
     · rw [ab,Ut];rfl
     · have k5:KT (upd (upd H3 ca (.tup [.int sn,.int kn])) n3 (.tup [.ref pa,.ref ca])) (upd (upd (upd H3 ca (.tup [.int sn,.int kn])) n3 (.tup [.ref pa,.ref ca])) D (.lst (bs.map V.ref++[.ref n3]))):=aU Ij;rw [AJ,dW];exact P2.append (CsAt.mono ((Same.kt s4).trans k5) y8) (.cons ⟨pa,ca,k5 _ _ ab,k5 _ _ (s4 _ _ e2),k5 _ _ (ad EK _ _ _ ab)⟩ .nil)
inductive jw (K:Ub) (vs:List V) (H:Hp) (Q:VK) (_E:XK):Prop
 | mk (a:Ud) (t:Th) (yL:vs=[.ref a]) (yM:AtK K H t a) (yR:t.size<=100000) (yY:t.tall<=150) (zf:∀ (r:Ud) (ps:List Ud) (H':Hp),L2.Same H H'->H' r=some (.lst (ps.map V.ref))->UR (fun (p:List Int) b=>H' b=some (.tup (p.map V.int))) (((t.pl []).filter fun p=>p.2.isHole).map (·.1)) ps->Q (.ref r) H'):jw K vs H Q _E
def oN (K:Ub):Sp:=jw K
theorem jU:bf P w K mg base CX0 3 T.g_holes_in.f T.g_holes_in.d ["front"] (oN K):=by
 refine T.g_holes_in.F.ok px (fun vs H Q E h=>?_) (fun yJ A outer s H vs Q E hr h=>?_)
 · obtain ⟨a,t,rfl,_⟩:=h;rfl
 obtain ⟨a,t,rfl,hA,hsz,zb,k⟩:=h;refine ⟨_,(ag (aA (cq (N:=[Ui "place",Ui "part"]) (js:=[none,none]) (g:=(mr K 2 (db (aG 0) (db (aG 1) mC)))) (tt:=(fun σ H Q=>(gx (lb K) [] E0 (bu (bx 1) d4)) σ H fun x H1=>∃ k,uT K x H1 k/\Q k H1)) (te:=(bx 0)) rfl (cG rfl (by decide +kernel) (by decide +kernel) rfl rfl rfl) (cn (pcF T.g_placed (hZ T) hr (aa (pv 0) ac))) (fun _ _ _ _ _ _=>(bA rfl (au (aj (i:=0) vC rfl (Ux rfl)) (au (aj (i:=1) vC rfl (Ux rfl)) aY)))) (gM (bW aX (aS rfl) (bW aX (aS rfl) gC))) (fun _ _ _ _ _ _=>kA (aV (pcF T.g_is_hole (i3 T) hr (aa (pv 1) ac)) (fun _=>rfl))) (fun _ _ _ _ _ _=>(pv 0))))),?_⟩
 try dsimp only [yZ,yE]
 refine ⟨_,rfl,a,t,rfl,hA,hsz,by omega,fun r as H1 s1 nr er zm=>⟨r,rfl,⟨_,SqL.of er⟩,?_⟩⟩;have Aw:(t.pl []).length=as.length:=Up zm;have zD:=Th.pl_len [] t;obtain ⟨bs,DF,yW⟩:=pick (G:=fun (p:List Int×Th) a b=>∃ ta,H1 a=some (.tup [.ref b,.ref ta])/\H1 b=some (.tup (p.1.map V.int))/\AtK K H1 p.2 ta) (fun p a ⟨pa,ta,h1,h2,h3⟩=>⟨pa,ta,h1,h2,h3⟩) zm;refine iy ((t.pl []).zip bs) (fun z=>z.1.2.isHole) (fun z=>V.ref z.2) (SqL.of er) (by rw [T8,Xm];omega) (by rw [T8];omega) (fun i x z H2 R R0 hx hz sm g1 g2=>?_) (fun D hD=>?_)
 · rw [Wk] at hz;refine hid fun ZZ kZ=>?_;obtain ⟨a',rfl,B6⟩:=aT hx;obtain ⟨ta,f1,f2,f3⟩:=yW i _ _ _ hz.1 B6 hz.2;obtain ⟨_,_,_,S8,_⟩:=uL t [] z.1.1 z.1.2 (Uc hz.1);refine kZ ?_;refine ⟨a',_,rfl,SqT.of (sm _ _ f1),rfl,_,_,rfl,_,_,rfl,rfl,?_⟩;refine ⟨_,rfl,ta,z.1.2,rfl,f3.mono (Same.kt sm),by omega,_,rfl,?_⟩;refine cB (fun c=>?_) (fun c=>?_)
   · exact ⟨_,rfl,g1 c⟩
   · exact g2 (VP.mpr c)
 · refine k D ((((t.pl []).zip bs).filter fun z=>z.1.2.isHole).map (·.2)) _ (s1.trans (ad hD _)) (by rw [ab,Wi];rfl) ?_;refine P2.mapl (·.1) (rp (xs:=t.pl []) (cs:=bs) (fun p:List Int×Th=>p.2.isHole) (by omega) fun i x c e1 e2=>?_);refine hid fun ZZ kZ=>?_;obtain ⟨a',B6⟩:∃ a',as[i]?=some a':=⟨_,Ua (by have:=(Uh.mp e2).1;omega)⟩;obtain ⟨ta,f1,f2,f3⟩:=yW i _ _ _ e1 B6 e2;refine kZ ?_;exact ad hD _ _ _ f2
inductive lc (K:Ub) (vs:List V) (H:Hp) (Q:VK) (_E:XK):Prop
 | mk (a:Ud) (n:UP) (ks:List Th) (yL:vs=[.ref a]) (yM:AtK K H (.knot n ks) a) (yR:∀ (r:Ud) (H':Hp),L2.Same H H'->TopAtK K H' (.nm n ks.length) r->Q (.ref r) H'):lc K vs H Q _E
def sX (K:Ub):Sp:=lc K
theorem mV:bf P w K mg base CX0 2 T.g_top_of.f T.g_top_of.d ["part"] (sX K):=by
 refine T.g_top_of.F.ok mP (fun vs H Q E h=>?_) (fun yJ A outer s H vs Q E hr h=>?_)
 · obtain ⟨a,n,ks,rfl,_⟩:=h;rfl
 obtain ⟨a,n,ks,rfl,hA,k⟩:=h
 refine ⟨_,(ae (av (i:=1) mP.nd rfl (Ux rfl) (aw ai rfl T.n_len UE (aa (pcF T.g_kids_of (iL T) hr (aa (pv 0) ac)) ac)))
  (ag (aA (aK (aa (bB qV (pv 0) bY (bF (az gh (aw ai rfl T.n_len UE (aa (pv 0) ac)) (pv 1)))) (aa (pv 1) ac)))))),?_⟩
 try dsimp only [yZ,yE]
 refine ⟨_,rfl,a,.knot n ks,rfl,hA,fun r as H1 s1 er Ay=>⟨r,_,rfl,.inr (SqT.of er),?_⟩⟩;rw [AtK] at hA;refine hid fun ZZ kZ=>?_;obtain ⟨hn,ka,ea,zr⟩:=hA;refine kZ ?_;have zE:ka.length=ks.length:=zr.length;have Aw:as.length=ks.length:=Ay.length;refine ⟨_,rfl,_,rfl,a,_,rfl,.inr ((ea.mono (Same.kt s1)).sq),_,rfl,_,_,rfl,rfl,_,rfl,a,_,rfl,ea.mono (Same.kt s1),fun p H2 s2 e2=>?_⟩
 have e1:((V.str n::ka.map V.ref).length:Int) - ((as.map V.ref).length:Int)=1:=by
  rw [Uo,T8,T8,zE,Aw];omega
 have e3:TK K H2 p [.str n]:=by
  have AB:TK K H2 p (ef (V.str n::ka.map V.ref) none (some (((V.str n::ka.map V.ref).length:Int) - ((as.map V.ref).length:Int)))):=e2;rw [e1,rN] at AB;exact AB
 refine ⟨_,rfl,ak (by show 2<=1000000;decide),fun l hl=>?_⟩;refine k l _ (s1.trans (s2.trans (ad hl _))) ⟨p,?_,hn,e3.mono (dZ hl)⟩;rw [ab,T8,Aw]
inductive kD (K:Ub) (vs:List V) (H:Hp) (Q:VK) (_E:XK):Prop
 | mk (a ta:Ud) (t:Th) (f:Int->Int->Th) (f':List (List Key×V)) (yL:vs=[.ref a,.ref ta]) (yM:AtK K H t a) (yR:t.size<=100000) (yY:Rd H ta (.dT f')) (zf:(∀ s k,Th.call s k∈t.walk->∃ v,aW f' [UZ s,UZ k]=some (.ref v)/\AtK K H (f s k) v/\(f s k).size<=100000)) (zY:∀ (r:Ud) (H':Hp),L2.Same H H'->AtK K H' (t.fill f) r->Q (.ref r) H'):kD K vs H Q _E
def sH (K:Ub):Sp:=kD K
theorem sK:bf P w K mg base CX0 3 T.g_filled.f T.g_filled.d ["pattern","table"] (sH K):=by
 refine T.g_filled.F.ok jy (fun vs H Q E h=>?_) (fun yJ A outer s H vs Q E hr h=>?_)
 · obtain ⟨a,ta,t,f,f',rfl,_⟩:=h;rfl
 obtain ⟨a,ta,t,f,f',rfl,hA,hsz,N4,Ik,k⟩:=h
 refine ⟨_,(ae (av (i:=2) jy.nd rfl (Ux rfl) (bC ac))
  (ae (bm UO rfl (cn (pcF T.g_walked (sZ T) hr (aa (pv 0) ac))) (aj (i:=3) jy.nd rfl (Ux rfl)) (ag (bq (aV (pcF T.g_is_call (iT T) hr (aa (pv 3) ac)) (fun _=>rfl)) (ag (aQ (bL Ur UJ UI aP (pv 2) (aa (aK (aa (nX (nw hr) (pv 1) (pcF T.g_called_by (i4 T) hr (aa (pv 3) ac)) (fun _ _=>rfl)) (aa af ac))) ac)))) (ag (aQ (bL Ur UJ UI aP (pv 2) (aa (pcF T.g_top_of (mV T) hr (aa (pv 3) ac)) ac)))))))
  (ag (aA (pcF T.g_built (lC T) hr (aa (pv 2) ac)))))),?_⟩
 try dsimp only [yZ,yE]
 refine ⟨ak (by show 0<=1000000;decide),fun tl zb=>?_⟩;refine ⟨_,rfl,a,t,rfl,hA.mono (dZ zb),hsz,fun wl as H1 s1 Il OE hw=>?_⟩;have By:as.length=t.walk.length:=hw.length;have S9:=Th.walk_len t;have LV:L2.Same H H1:=(ad zb _).trans s1;have Q1:wl≠tl:=fun z=>by rw [z,ab] at Il;cases Il
 refine ⟨wl,rfl,⟨_,SqL.of OE⟩,?_⟩
 refine eC (K:=K) (a:=wl) (xs:=as.map V.ref) (fun i σ H2=>Ex2 fun c bs=>An6 (σ=[some (.ref a),some (.ref ta),some (.ref tl),c]) (L2.Same H H2) (H2 wl=some (.lst (as.map V.ref))) (AtsK K H2 t.walk as) (H2 tl=some (.lst (bs.map V.ref))) (UR (TopAtK K H2) ((t.walk.take i).map (eJ f)) bs))
  ⟨none,[],rfl,LV,OE,hw,s1 _ _ ab,.nil⟩ (fun i σ H2 _ ⟨_,_,_,_,e,_,_,_⟩=>SqL.of e) ?_ ?_
 · rintro i x σ H2 hx ⟨c,bs,rfl,s2,Im,LW,BL,y8⟩;obtain ⟨xa,rfl,Kb⟩:=aT hx;obtain ⟨tx,OF,LX⟩:=LW.get Kb;have Q2:tx∈t.walk:=Uc OF;have AJ:t.walk.take (i+1)=t.walk.take i++[tx]:=by rw [Vz,OF];rfl
   have Ao:bs.length<=100000:=by
    have:=Up y8;rw [T8,U1] at this;omega
   refine ⟨_,rfl,xa,tx,rfl,LX,_,rfl,?_⟩
   have push:∀ (H3:Hp) (p:Ud),L2.Same H2 H3->TopAtK K H3 (eJ f tx) p->Ex2 fun c B0=>An6 (([some (.ref a),some (.ref ta),some (.ref tl),some (.ref xa)]:St)=[some (.ref a),some (.ref ta),some (.ref tl),c]) (L2.Same H (upd H3 tl (.lst (bs.map V.ref++[.ref p])))) ((upd H3 tl (.lst (bs.map V.ref++[.ref p]))) wl=some (.lst (as.map V.ref))) (AtsK K (upd H3 tl (.lst (bs.map V.ref++[.ref p]))) t.walk as) ((upd H3 tl (.lst (bs.map V.ref++[.ref p]))) tl=some (.lst (B0.map V.ref))) (UR (TopAtK K (upd H3 tl (.lst (bs.map V.ref++[.ref p])))) ((t.walk.take (i+1)).map (eJ f)) B0):=by
    intro H3 p s3 hp;have k3:KT H3 (upd H3 tl (.lst (bs.map V.ref++[.ref p]))):=aU (s3 _ _ BL);refine ⟨_,bs++[p],rfl,ay (s2.trans s3) zb,by rw [am Q1];exact s3 _ _ Im,LW.mono ((Same.kt s3).trans k3),by rw [ab,Ut];rfl,?_⟩;rw [AJ,Ut];exact P2.append (dN ((Same.kt s3).trans k3) y8) (.cons (hp.mono k3) .nil)
   cases tx with
   | call sn kn =>
     refine pS ?_;refine hid fun ZZ kZ=>?_;obtain ⟨v,hv,Q3,_⟩:=Ik sn kn Q2;refine kZ ?_;refine ⟨_,rfl,.inl ⟨rfl,_,SqL.of BL⟩,_,rfl,_,rfl,xa,sn,kn,rfl,LX,fun cb Q4=>?_⟩;have s3:L2.Same H2 (upd H2 cb (.tup [.int sn,.int kn])):=ad Q4 _
     have LY:Rd (upd H2 cb (.tup [.int sn,.int kn])) ta (.dT f'):=by
      rcases N4 with h | ⟨o,h⟩
      · exact .inl (s3 _ _ (s2 _ _ h))
      · exact .inr ⟨o,s3 _ _ (s2 _ _ h)⟩
     refine ⟨ta,.ref v,rfl,.inr ⟨f',[UZ sn,UZ kn],cb,LY,rfl,ab,hv.symm⟩,ak (by show 2<=1000000;decide),fun p hp=>?_⟩;have s4:=s3.trans (ad hp (.tup [.ref v,.int 0]));refine ⟨tl,_,_,rfl,rfl,s4 _ _ BL,aF (by rw [T8];omega),?_⟩;exact push _ p s4 ⟨v,ab,Q3.mono (Same.kt (s2.trans s4))⟩
   | knot nm us =>
     refine cI ?_;refine ⟨_,rfl,.inl ⟨rfl,_,SqL.of BL⟩,_,rfl,xa,nm,us,rfl,LX,fun p H3 s3 hp=>?_⟩;refine ⟨tl,_,_,rfl,rfl,s3 _ _ BL,aF (by rw [T8];omega),?_⟩;exact push _ p s3 hp
 · rintro σ H2 ⟨c,bs,rfl,s2,Im,LW,BL,y8⟩;rw [T8,By,Wt] at y8;obtain ⟨b1,b2⟩:=r8 f t;refine ⟨_,rfl,tl,bs,_,t.fill f,rfl,BL,y8,by rw [T8];omega,b2,?_,b1,fun r H3 s3 Io=>k r H3 (s2.trans s3) Io⟩;intro u hu;obtain ⟨x,hx,e⟩:=Vb.mp hu;cases x with
   | knot nm us=>cases e
   | call sn kn =>
     cases e;refine hid fun ZZ kZ=>?_;obtain ⟨v,_,_,hz⟩:=Ik sn kn hx;refine kZ ?_;exact hz
inductive jb (K:Ub) (vs:List V) (H:Hp) (Q:VK) (_E:XK):Prop
 | mk (x y:Ud) (l r:Th) (yL:vs=[.ref x,.ref y]) (yM:AtK K H l x) (yR:AtK K H r y) (yY:l.tall<=150) (zf:Q (.bl (aJ l r)) H):jb K vs H Q _E
def pJ (K:Ub):Sp:=jb K
theorem j8:bf P w K mg base CX0 3 T.g_same_top.f T.g_same_top.d ["one","two"] (pJ K):=by
 refine T.g_same_top.F.ok ph (fun vs H Q E h=>?_) (fun yJ A outer s H vs Q E hr h=>?_)
 · obtain ⟨x,y,l,r,rfl,_⟩:=h;rfl
 obtain ⟨x,y,l,r,rfl,hx,hy,zb,k⟩:=h;refine ⟨_,(ag (aA (oF (pcF T.g_is_knot (qJ T) hr (aa (pv 0) ac)) (oF (jo cD (ax aC (pv 0) af (fun _ _=>rfl)) (ax aC (pv 1) af (fun _ _=>rfl)) (aO _)) (qB (jo cD (aw ai rfl T.n_len UE (aa (pv 0) ac)) (aw ai rfl T.n_len UE (aa (pv 1) ac)) (aO _))))))),?_⟩
 try dsimp only [yZ,yE]
 rw [pA hx r] at k;refine hid fun ZZ kZ=>?_;obtain ⟨xr,ex,lx⟩:=hx.row;obtain ⟨yr,ey,ly⟩:=hy.row;refine kZ ?_;refine ⟨_,rfl,x,l,rfl,hx,zb,_,rfl,?_⟩;refine cB (fun c=>?_) (fun c=>?_)
 · rw [c] at k;refine ⟨_,rfl,x,_,0,.str l.name,rfl,rfl,ex.sq,at0,_,rfl,y,_,0,.str r.name,rfl,rfl,ey.sq,at0,rfl,_,rfl,?_⟩;refine cB (fun c2=>?_) (fun c2=>?_)
   · have e2:l.name=r.name:=V.str.inj (of_decide_eq_true c2);refine ⟨_,rfl,x,_,rfl,.inr (ex.sq),_,rfl,y,_,rfl,.inr (ey.sq),rfl,?_⟩
     have e3:decide (V.int ((V.str l.name::xr).length:Nat)=V.int ((V.str r.name::yr).length:Nat))=decide (l.wid=r.wid):=by
      rw [Uo,Uo,lx,ly];by_cases e:l.wid=r.wid
      · rw [e];simp
      · rw [decide_eq_false e,decide_eq_false];intro z;exact e (by have:=V.int.inj z;omega)
     rw [e3];rw [decide_eq_true e2] at k;exact k
   · have e2:l.name≠r.name:=fun e=>c2 (decide_eq_true (by rw [e]));rw [decide_eq_false e2] at k;exact k
 · rw [VP.mpr c] at k;exact k
inductive fq (K:Ub) (vs:List V) (H:Hp) (Q:VK) (_E:XK):Prop
 | mk (x y:Ud) (l r:Th) (yL:vs=[.ref x,.ref y]) (yM:AtK K H l x) (yR:AtK K H r y) (yY:l.tall<=150) (zf:l.size<=100000) (zY:∀ (m:Ud) (as:List Ud) (H':Hp),L2.Same H H'->H m=none->H' m=some (.lst (as.map V.ref))->UR (PPK K H') (l.sbs r) as->Q (.ref m) H'):fq K vs H Q _E
def ki (K:Ub):Sp:=fq K
theorem kq:bf P w K mg base CX0 4 T.g_side_by_side.f T.g_side_by_side.d ["one","two"] (ki K):=by
 refine T.g_side_by_side.F.ok cj (fun vs H Q E h=>?_) (fun yJ A outer s H vs Q E hr h=>?_)
 · obtain ⟨x,y,l,r,rfl,_⟩:=h;rfl
 obtain ⟨x,y,l,r,rfl,hx,hy,zb,hsz,k⟩:=h
 refine ⟨_,(ae (av (i:=2) cj.nd rfl (Ux rfl) (bC ac))
  (ae (av (i:=3) cj.nd rfl (Ux rfl) (bC (aa (aK (aa (pv 0) (aa (pv 1) ac))) ac)))
  (ae (dU UO (aV (pv 3) (fun _=>rfl)) (ae (cP (jN Ur WS WR jF (pv 3)) (bA rfl (au (aj (i:=4) cj.nd rfl (Ux rfl)) (au (aj (i:=5) cj.nd rfl (Ux rfl)) aY))))
  (ae (aQ (bL Ur UJ UI aP (pv 2) (aa (aK (aa (pv 4) (aa (pv 5) ac))) ac)))
  (ag (bq (aV (pcF T.g_same_top (j8 T) hr (aa (pv 4) (aa (pv 5) ac))) (fun _=>rfl)) (ag (aQ (bL Ur W9 W8 g9 (pv 3) (aa (lU rfl rfl T.n_list rfl T.n_reversed (qA rfl rfl T.n_list rfl T.n_zip (aa (bB eT (pv 4) (bF af) bY) (aa (bB eT (pv 5) (bF af) bY) ac)))) ac)))) aZ)))))
  (ag (aA (pv 2)))))),?_⟩
 try dsimp only [yZ,yE]
 refine ⟨by show 0<=Uz;decide,fun mt AY=>?_⟩;refine ⟨_,rfl,_,rfl,by show 2<=Uz;decide,fun t0 OG=>⟨by show 1<=Uz;decide,fun ah AU=>?_⟩⟩;have s0:L2.Same H (upd (upd H mt (.lst [])) t0 (.tup [.ref x,.ref y])):=(ad AY _).trans (ad OG _);have e0:(upd (upd H mt (.lst [])) t0 (.tup [.ref x,.ref y])) mt=some (.lst []):=ad OG _ _ _ ab;have e1:(upd (upd H mt (.lst [])) t0 (.tup [.ref x,.ref y])) t0=some (.tup [.ref x,.ref y]):=ab;generalize (upd (upd H mt (.lst [])) t0 (.tup [.ref x,.ref y]))=H1 at s0 e0 e1 AU ⊢;have AE:H ah=none:=s0.free AU;have yU:ah≠mt:=fun z=>by rw [z,e0] at AU;cases AU
 refine ⟨fun m σ H2=>Ex6 fun (ms as:List Ud) (Ms As:List (Th×Th)) (p p':Option V)=>wD (σ=[some (.ref x),some (.ref y),some (.ref mt),some (.ref ah),p,p']) (L2.Same H H2) (H2 mt=some (.lst (ms.map V.ref))) (H2 ah=some (.lst (as.map V.ref))) (UR (PPK K H2) Ms ms) (UR (PPK K H2) As as) (Ms++wks As.reverse=l.sbs r) ((∀ p∈As,p.1.tall<=150)) (Ms.length+szL As<=100000) (m=szL As),⟨_,[],[t0],[],[(l,r)],none,none,rfl,?_,?_,?_,.nil,.cons ⟨x,y,?_,hx.mono ?_,hy.mono ?_⟩ .nil,?_,?_,?_,rfl⟩,?_⟩
 · exact ay s0 AE
 · rw [am yU.symm];exact e0
 · rw [ab];rfl
 · rw [am (aL e1 AU)];exact e1
 · exact Same.kt (ay s0 AE)
 · exact Same.kt (ay s0 AE)
 · show wks [(l,r)]=_;rw [wks,wks,U0]
 · intro p hp;rw [UH] at hp;subst hp;exact zb
 · show 0+(l.size+0)<=100000;omega
 rintro m σ H2 ⟨ms,as,Ms,As,p,p',rfl,sm,e1,e2,a1,a2,hw,AF,hlen,rfl⟩;have Kc:Ms.length=ms.length:=Up a1;refine ⟨_,rfl,_,.inl ⟨_,SqL.of e2,rfl⟩,?_⟩;refine cB (fun c=>?_) (fun c=>?_)
 · refine ⟨fun yA H'=>∃ m',m'<szL As/\Ex6 fun (ms as:List Ud) (Ms As:List (Th×Th)) (p p':Option V)=>wD (yA=[some (.ref x),some (.ref y),some (.ref mt),some (.ref ah),p,p']) (L2.Same H H') (H' mt=some (.lst (ms.map V.ref))) (H' ah=some (.lst (as.map V.ref))) (UR (PPK K H') Ms ms) (UR (PPK K H') As as) (Ms++wks As.reverse=l.sbs r) ((∀ p∈As,p.1.tall<=150)) (Ms.length+szL As<=100000) (m'=szL As),fun yA H' h=>h,?_⟩;have zI:as≠[]:=by intro z;subst z;simp at c
   refine hid fun ZZ kZ=>?_;obtain ⟨yO,b,rfl⟩:∃ yO b,as=yO++[b]:=⟨as.dropLast,as.getLast zI,(Wd zI).symm⟩;obtain ⟨Us,u,rfl,a3,u1,u2,a4,a5,a6⟩:=P2.snoc_inv a2;obtain ⟨ul,ur⟩:=u;refine kZ ?_;simp only at a5 a6;have hs:szL (Us++[(ul,ur)])=szL Us+ul.size:=by rw [dP,szL,szL];rfl
   have Ia:=ul.size_eq;rw [hs] at hlen;have Kd:ul.tall<=150:=AF (ul,ur) (by simp);have OH:∀ p∈Us,p.1.tall<=150:=fun p hp=>AF p (by simp [hp]);refine ⟨_,rfl,.inl ⟨rfl,_,SqL.of e2⟩,ah,_,.ref b,rfl,rfl,e2,by simp,?_⟩;have d1:((yO++[b]).map V.ref).dropLast=yO.map V.ref:=by simp
   rw [d1];have k0:KT H2 (upd H2 ah (.lst (yO.map V.ref))):=aU e2;have f1:(upd H2 ah (.lst (yO.map V.ref))) mt=some (.lst (ms.map V.ref)):=by rw [am yU.symm];exact e1
   have f2:(upd H2 ah (.lst (yO.map V.ref))) ah=some (.lst (yO.map V.ref)):=ab;have s3:L2.Same H (upd H2 ah (.lst (yO.map V.ref))):=ay sm AE;generalize (upd H2 ah (.lst (yO.map V.ref)))=H3 at k0 f1 f2 s3 ⊢;refine ⟨b,_,rfl,SqT.of (k0 _ _ a4),rfl,_,_,rfl,_,_,rfl,rfl,?_⟩;refine ⟨_,rfl,.inl ⟨rfl,_,SqL.of f1⟩,_,rfl,_,rfl,by show 2<=Uz;decide,fun t1 Q5=>?_⟩;have s4:L2.Same H3 (upd H3 t1 (.tup [.ref u1,.ref u2])):=ad Q5 _;have e4:(upd H3 t1 (.tup [.ref u1,.ref u2])) t1=some (.tup [.ref u1,.ref u2]):=ab;generalize (upd H3 t1 (.tup [.ref u1,.ref u2]))=H4 at s4 e4 ⊢;refine ⟨mt,_,_,rfl,rfl,s4 _ _ f1,aF (by rw [T8];omega),?_⟩;have k5:KT H4 (upd H4 mt (.lst (ms.map V.ref++[.ref t1]))):=aU (s4 _ _ f1);have g1:(upd H4 mt (.lst (ms.map V.ref++[.ref t1]))) mt=some (.lst ((ms++[t1]).map V.ref)):=by rw [ab,Ut];rfl
   have g2:(upd H4 mt (.lst (ms.map V.ref++[.ref t1]))) ah=some (.lst (yO.map V.ref)):=by rw [am yU];exact s4 _ _ f2
   have s5:L2.Same H (upd H4 mt (.lst (ms.map V.ref++[.ref t1]))):=ay (s3.trans s4) AY;generalize (upd H4 mt (.lst (ms.map V.ref++[.ref t1])))=H5 at k5 g1 g2 s5 ⊢;have D1:KT H2 H5:=(k0.trans (Same.kt s4)).trans k5;have aM:UR (PPK K H5) (Ms++[(ul,ur)]) (ms++[t1]):=P2.append (dJ D1 a1) (.cons ⟨u1,u2,k5 _ _ e4,a5.mono D1,a6.mono D1⟩ .nil);refine ⟨_,rfl,_,rfl,u1,u2,ul,ur,rfl,a5.mono D1,a6.mono D1,Kd,_,rfl,?_⟩
   have FI:Ms++((ul,ur)::((if aJ ul ur=true then wks (ul.kids.zip ur.kids) else [])++wks Us.reverse))=l.sbs r:=by
    rw [<- hw,VM];show _=Ms++wks ((ul,ur)::Us.reverse);rw [uI]
   refine cB (fun ct=>?_) (fun ct=>?_)
   · refine hid fun ZZ kZ=>?_;obtain ⟨n,ks,us,rfl,rfl,S',C7⟩:=bV ct;have OI:=a5.mono D1;have OJ:=a6.mono D1;rw [AtK] at OI OJ;obtain ⟨J9,ka,ek,zr⟩:=OI;obtain ⟨N7,ua,eu,EN⟩:=OJ;refine kZ ?_;rw [if_pos ct] at FI;have hz:=i8 ks us;refine ⟨_,rfl,.inl ⟨rfl,_,SqL.of g2⟩,_,rfl,1,rfl,u1,_,rfl,ek.sq,?_,fun c1 Ke=>?_⟩
     · intro z;have:=z.1;simp [HT.sIx] at this
     rw [dO];have s6:L2.Same H5 (upd H5 c1 (.tup (ka.map V.ref))):=ad Ke _;have e6:(upd H5 c1 (.tup (ka.map V.ref))) c1=some (.tup (ka.map V.ref)):=ab;generalize (upd H5 c1 (.tup (ka.map V.ref)))=H6 at s6 e6 ⊢;refine ⟨_,rfl,1,rfl,u2,_,rfl,(eu.mono (Same.kt s6)).sq,?_,fun c2 Co=>?_⟩
     · intro z;have:=z.1;simp [HT.sIx] at this
     rw [dO];have s7:L2.Same H6 (upd H6 c2 (.tup (ua.map V.ref))):=ad Co _;have e7:(upd H6 c2 (.tup (ua.map V.ref))) c2=some (.tup (ua.map V.ref)):=ab;generalize (upd H6 c2 (.tup (ua.map V.ref)))=H7 at s7 e7 ⊢;refine ⟨c1,c2,_,_,rfl,SqT.of (s7 _ _ e6),SqT.of e7,fun zl zs H8 s8 Ta Q6 HS=>?_⟩;have D2:L2.Same H5 H8:=s6.trans (s7.trans s8);have OK:UR (PPK K H8) (ks.zip us) zs:=pY (zr.mono (Same.kt D2)) (EN.mono (Same.kt D2)) HS;have Oj:(ks.zip us).length=zs.length:=Up OK;have Tb:(ks.zip us).length<=szL (ks.zip us):=n8 _;refine ⟨true,zl,_,rfl,SqB.l (SqL.of Q6),fun rl DV=>?_⟩;have s9:L2.Same H8 (upd H8 rl (.lst (zs.map V.ref).reverse)):=ad DV _;have e9:(upd H8 rl (.lst (zs.map V.ref).reverse)) rl=some (.lst (zs.map V.ref).reverse):=ab;have Tc:H5 rl=none:=D2.free DV;generalize (upd H8 rl (.lst (zs.map V.ref).reverse))=H9 at s9 e9 ⊢;have Ip:=D2.trans s9;have OL:Us.length=yO.length:=Up a3;have Td:=n8 Us;refine ⟨ah,rl,_,_,rfl,rfl,Ip _ _ g2,e9,XE (aF ?_),?_⟩
     · rw [T8,VC,T8];simp only [Th.kids] at Ia;omega
     have OM:KT H9 (upd H9 ah (.lst (yO.map V.ref++(zs.map V.ref).reverse))):=aU (Ip _ _ g2);have ON:KT H5 (upd H9 ah (.lst (yO.map V.ref++(zs.map V.ref).reverse))):=(Same.kt Ip).trans OM;simp only [Th.kids] at Ia FI;refine ⟨szL (Us++(ks.zip us).reverse),?_,ms++[t1],yO++zs.reverse,Ms++[(.knot n ks,.knot n us)],Us++(ks.zip us).reverse,_,_,rfl,?_,?_,?_,dJ ON aM,?_,?_,?_,?_,rfl⟩
     · rw [dP,rR,hs];omega
     · exact ay (s5.trans Ip) AE
     · rw [am yU.symm];exact Ip _ _ g1
     · rw [ab,Ut,YT]
     · exact P2.append (dJ (D1.trans ON) a3) (P2.reverse (dJ ((Same.kt s9).trans OM) OK))
     · rw [VM,We,kP,<- FI,Ve];rfl
     · intro p hp;rcases U8.mp hp with hp | hp
       · exact OH p hp
       · have zG:=(Xl (List.mem_reverse.mp hp)).1;have:=bR zG;rw [Th.tall] at Kd;omega
     · rw [dP,rR,UA];show Ms.length+1+_<=_;omega
   · rw [if_neg ct] at FI;refine ⟨szL Us,?_,ms++[t1],yO,Ms++[(ul,ur)],Us,_,_,rfl,s5,g1,g2,aM,dJ D1 a3,?_,OH,?_,rfl⟩
     · rw [hs];omega
     · rw [<- FI,Ve];rfl
     · rw [UA];show Ms.length+1+_<=_;omega
 · have hz:as=[]:=by
    cases as with
    | nil=>rfl
    | cons y ys=>simp at c
   subst hz;have DE:As=[]:=VB.mp (Up a2);subst DE;refine ⟨_,rfl,k mt ms H2 sm AY e1 ?_⟩
   have FA:Ms=l.sbs r:=by
    rw [<- hw,List.reverse_nil,wks,U0]
   rw [<- FA];exact a1
inductive kE (K:Ub) (vs:List V) (H:Hp) (Q:VK) (_E:XK):Prop
 | mk (x y:Ud) (l r:Th) (yL:vs=[.ref x,.ref y]) (yM:AtK K H l x) (yR:AtK K H r y) (yY:l.tall<=150) (zf:l.size<=100000) (zY:∀ (m:Ud) (H':Hp),L2.Same H H'->AtK K H' (l.com r) m->Q (.ref m) H'):kE K vs H Q _E
def tj (K:Ub):Sp:=kE K
theorem tD:bf P w K mg base CX0 5 T.g_common.f T.g_common.d ["one","two"] (tj K):=by
 refine T.g_common.F.ok g7 (fun vs H Q E h=>?_) (fun yJ A outer s H vs Q E hr h=>?_)
 · obtain ⟨x,y,l,r,rfl,_⟩:=h;rfl
 obtain ⟨x,y,l,r,rfl,hx,hy,zb,hsz,k⟩:=h
 refine ⟨_,(ae (av (i:=2) g7.nd rfl (Ux rfl) (bC ac))
  (ae (bm UO rfl (cn (pcF T.g_side_by_side (kq T) hr (aa (pv 0) (aa (pv 1) ac)))) (bA rfl (au (aj (i:=3) g7.nd rfl (Ux rfl)) (au (aj (i:=4) g7.nd rfl (Ux rfl)) aY))) (ag (bq (aV (pcF T.g_same_top (j8 T) hr (aa (pv 3) (aa (pv 4) ac))) (fun _=>rfl)) (ag (aQ (bL Ur UJ UI aP (pv 2) (aa (pcF T.g_top_of (mV T) hr (aa (pv 3) ac)) ac)))) (ag (aQ (bL Ur UJ UI aP (pv 2) (aa (aK (aa (g8 (v:=.ref T.a_HOLE) rfl T.c_HOLE rfl) (aa af ac))) ac)))))))
  (ag (aA (pcF T.g_built (lC T) hr (aa (pv 2) ac)))))),?_⟩
 try dsimp only [yZ,yE]
 refine ⟨ak (by show 0<=1000000;decide),fun tl D3=>?_⟩;refine ⟨_,rfl,_,rfl,x,y,l,r,rfl,hx.mono (dZ D3),hy.mono (dZ D3),zb,hsz,fun m as H1 s1 nm em hp=>⟨m,rfl,⟨_,SqL.of em⟩,?_⟩⟩;have zD:(l.sbs r).length=as.length:=Up hp;have OO:=vo l r;have LV:L2.Same H H1:=(ad D3 _).trans s1;have AY:m≠tl:=fun z=>by rw [z,ab] at nm;cases nm
 refine eC (K:=K) (a:=m) (xs:=as.map V.ref) (fun i σ H2=>Ex3 fun c c' bs=>An6 (σ=[some (.ref x),some (.ref y),some (.ref tl),c,c']) (L2.Same H H2) (H2 m=some (.lst (as.map V.ref))) (UR (PPK K H2) (l.sbs r) as) (H2 tl=some (.lst (bs.map V.ref))) (UR (TopAtK K H2) (((l.sbs r).take i).map topC) bs)) ⟨none,none,[],rfl,LV,em,hp,s1 _ _ ab,.nil⟩ (fun i σ H2 _ ⟨_,_,_,_,_,e,_,_,_⟩=>SqL.of e) ?_ ?_
 · rintro i v σ H2 hv ⟨c,c',bs,rfl,s2,BZ,AO,BL,y8⟩;refine hid fun ZZ kZ=>?_;obtain ⟨b,rfl,hb⟩:=aT hv;obtain ⟨⟨ul,ur⟩,hu,u1,u2,e1,e2,e3⟩:=P2.get' AO hb;refine kZ ?_;simp only at e2 e3;have hm:=ve (Uc hu);simp only at hm;have AJ:((l.sbs r).take (i+1)).map topC=((l.sbs r).take i).map topC++[topC (ul,ur)]:=by rw [Vz,hu,Ut];rfl
   have Ao:bs.length<=100000:=by
    have:=Up y8;rw [T8,U1] at this;omega
   refine ⟨b,_,rfl,SqT.of e1,rfl,_,_,rfl,_,_,rfl,rfl,?_⟩
   have push:∀ (H3:Hp) (p:Ud),L2.Same H2 H3->TopAtK K H3 (topC (ul,ur)) p->Ex3 fun c c' B0=>An6 (([some (.ref x),some (.ref y),some (.ref tl),some (.ref u1),some (.ref u2)]:St)=[some (.ref x),some (.ref y),some (.ref tl),c,c']) (L2.Same H (upd H3 tl (.lst (bs.map V.ref++[.ref p])))) ((upd H3 tl (.lst (bs.map V.ref++[.ref p]))) m=some (.lst (as.map V.ref))) (UR (PPK K (upd H3 tl (.lst (bs.map V.ref++[.ref p])))) (l.sbs r) as) ((upd H3 tl (.lst (bs.map V.ref++[.ref p]))) tl=some (.lst (B0.map V.ref))) (UR (TopAtK K (upd H3 tl (.lst (bs.map V.ref++[.ref p])))) (((l.sbs r).take (i+1)).map topC) B0):=by
    intro H3 p s3 Iq;have k3:KT H3 (upd H3 tl (.lst (bs.map V.ref++[.ref p]))):=aU (s3 _ _ BL);refine ⟨_,_,bs++[p],rfl,ay (s2.trans s3) D3,by rw [am AY];exact s3 _ _ BZ,dJ ((Same.kt s3).trans k3) AO,by rw [ab,Ut];rfl,?_⟩;rw [AJ];exact P2.append (dN ((Same.kt s3).trans k3) y8) (.cons (Iq.mono k3) .nil)
   refine ⟨_,rfl,_,rfl,u1,u2,ul,ur,rfl,e2,e3,by omega,_,rfl,?_⟩;refine cB (fun ct=>?_) (fun ct=>?_)
   · have ht:topC (ul,ur)=.nm ul.name ul.kids.length:=by unfold topC;rw [if_pos ct]
     obtain ⟨n,ks,us,rfl,rfl,_,_⟩:=bV ct;refine ⟨_,rfl,.inl ⟨rfl,_,SqL.of BL⟩,_,rfl,u1,n,ks,rfl,e2,fun p H3 s3 Iq=>?_⟩;refine ⟨tl,_,_,rfl,rfl,s3 _ _ BL,aF (by rw [T8];omega),?_⟩;exact push _ p s3 (by rw [ht];exact Iq)
   · have ht:topC (ul,ur)=.th hole:=by unfold topC;rw [if_neg ct]
     refine ⟨_,rfl,.inl ⟨rfl,_,SqL.of BL⟩,ak (by show 2<=1000000;decide),fun p Q7=>?_⟩;have s3:L2.Same H2 (upd H2 p (.tup [.ref T.a_HOLE,.int 0])):=ad Q7 _;refine ⟨tl,_,_,rfl,rfl,s3 _ _ BL,aF (by rw [T8];omega),?_⟩;exact push _ p s3 (by rw [ht];exact ⟨T.a_HOLE,ab,uN (TK.const T.q_HOLE)⟩)
 · rintro σ H2 ⟨c,c',bs,rfl,s2,BZ,AO,BL,y8⟩;rw [T8,<- zD,Wt] at y8;obtain ⟨b1,b2⟩:=wf l r;refine ⟨_,rfl,tl,bs,_,l.com r,rfl,BL,y8,by rw [T8];omega,b2,?_,b1,fun rr H3 s3 Io=>k rr H3 (s2.trans s3) Io⟩;intro u hu;obtain ⟨p,zG,e⟩:=Vb.mp hu;unfold topC at e;split at e
   · cases e
   · cases e;rw [ff];omega
inductive lp (vs:List V) (H:Hp) (Q:VK) (_E:XK):Prop
 | mk (b:Ud) (v1 v2 v3 v4:V) (yL:vs=[.ref b]) (yM:H b=some (.tup [v1,v2,v3,v4])) (yR:Q v1 H):lp  vs H Q _E
def sA:Sp:=lp
inductive jn (vs:List V) (H:Hp) (Q:VK) (_E:XK):Prop
 | mk (b:Ud) (v1 v2 v3 v4:V) (yL:vs=[.ref b]) (yM:H b=some (.tup [v1,v2,v3,v4])) (yR:Q v4 H):jn  vs H Q _E
def pQ:Sp:=jn
theorem fb:bf P w K mg base CX0 1 T.g_ins_of.f T.g_ins_of.d ["book"] sA:=by
 refine T.g_ins_of.F.ok sg (fun vs H Q E h=>?_) (fun yJ A outer s H vs Q E hr h=>?_)
 · obtain ⟨b,v1,v2,v3,v4,rfl,_⟩:=h;rfl
 obtain ⟨b,v1,v2,v3,v4,rfl,e,q⟩:=h;refine ⟨_,(ag (aA (ax aC (pv 0) af (fun _ _=>rfl)))),?_⟩
 try dsimp only [yZ,yE]
 exact ⟨_,rfl,b,_,0,v1,rfl,rfl,SqT.of e,at0,q⟩
theorem eK:bf P w K mg base CX0 1 T.g_rules_of.f T.g_rules_of.d ["book"] pQ:=by
 refine T.g_rules_of.F.ok pE (fun vs H Q E h=>?_) (fun yJ A outer s H vs Q E hr h=>?_)
 · obtain ⟨b,v1,v2,v3,v4,rfl,_⟩:=h;rfl
 obtain ⟨b,v1,v2,v3,v4,rfl,e,q⟩:=h;refine ⟨_,(ag (aA (ax aC (pv 0) af (fun _ _=>rfl)))),?_⟩
 try dsimp only [yZ,yE]
 exact ⟨_,rfl,b,_,3,v4,rfl,rfl,SqT.of e,cu (j:=3) rfl,q⟩
inductive iz (vs:List V) (H:Hp) (Q:VK) (_E:XK):Prop
 | mk (b:Ud) (v1 v2 v3:V) (ra:Ud) (xs:List V) (yL:vs=[.ref b]) (yM:H b=some (.tup [v1,v2,v3,.ref ra])) (yR:H ra=some (.tup xs)) (yY:Q (.int xs.length) H):iz  vs H Q _E
def oy:Sp:=iz
theorem oz:bf P w K mg base CX0 2 T.g_states_of.f T.g_states_of.d ["book"] oy:=by
 refine T.g_states_of.F.ok nQ (fun vs H Q E h=>?_) (fun yJ A outer s H vs Q E hr h=>?_)
 · obtain ⟨b,v1,v2,v3,ra,xs,rfl,_⟩:=h;rfl
 obtain ⟨b,v1,v2,v3,ra,xs,rfl,e,e2,q⟩:=h;refine ⟨_,(ag (aA (aw ai rfl T.n_len UE (aa (pcF T.g_rules_of (eK T) hr (aa (pv 0) ac)) ac)))),?_⟩
 try dsimp only [yZ,yE]
 exact ⟨_,rfl,b,_,_,_,_,rfl,e,ra,_,rfl,.inr (SqT.of e2),q⟩
inductive gN (vs:List V) (H:Hp) (Q:VK) (_E:XK):Prop
 | mk (ia:Ud) (yI:List Ud) (ins:List (UP×Int)) (yL:vs=[.ref ia]) (yM:H ia=some (.tup (yI.map V.ref))) (yR:KsAt H ins yI) (yY:bZ ins) (zf:∀ (r:Ud) (H':Hp),L2.Same H H'->At H' (aR ins) r->Q (.ref r) H'):gN  vs H Q _E
def iB:Sp:=gN
theorem eP:bf P w K mg base CX0 1 T.g_small_tree.f T.g_small_tree.d ["ins"] iB:=by
 refine T.g_small_tree.F.ok mi (fun vs H Q E h=>?_) (fun yJ A outer s H vs Q E hr h=>?_)
 · obtain ⟨ia,yI,ins,rfl,_⟩:=h;rfl
 obtain ⟨ia,yI,ins,rfl,ei,AG,g,q⟩:=h;refine ⟨_,(ag (aA (ax aN (cq (N:=[Ui "name",Ui "many"]) (js:=[none,none]) (g:=(mr K 2 (db (aG 0) (db (aG 1) mC)))) (tt:=(sd (tOp (rEq) (bx 1) (tC (.int 0))))) (te:=(kj (bu (bx 0) d4))) rfl (cG rfl (by decide +kernel) (by decide +kernel) rfl rfl rfl) (iH (pv 0)) (fun _ _ _ _ _ _=>(bA rfl (au (aj (i:=0) vh rfl (Ux rfl)) (au (aj (i:=1) vh rfl (Ux rfl)) aY)))) (gM (bW aX (aS rfl) (bW aX (aS rfl) gC))) (fun _ _ _ _ _ _=>kA (aH cD (pv 1) af (aO _))) (fun _ _ _ _ _ _=>(aK (aa (pv 0) ac)))) af (fun _ _=>rfl)))),?_⟩
 try dsimp only [yZ,yE]
 have An:ins.length=yI.length:=Up AG;have DG:=g.le;refine ⟨_,rfl,ia,rfl,⟨_,SqT.of ei⟩,ue (F:=fun H (k:UP×Int) a=>At H (.knot k.1 []) a) (xs:=yI.map V.ref) ins (fun k=>decide (k.2=0)) (fun H1 H2 z p kt h=>h.mono kt) (by rw [T8];exact An) (by rw [T8];omega) (fun i Hx sx hi=>⟨_,_,SqT.of (sx _ _ ei),Ua hi⟩) (fun Hx sx=>⟨_,SqT.of (sx _ _ ei),Ue _⟩) (fun i Hx x Hy sx hi hy=>⟨hy.1,hy.2 _ (SqT.of (sx _ _ ei))⟩) (fun i x z Hx R W' hx Bh sx hR hW=>?_) (fun D H1 as hD s1 eD BM=>?_)⟩
 · obtain ⟨ka,rfl,zr⟩:=aT hx;obtain ⟨z',Au,ez⟩:=P2.get' AG zr;rw [Bh] at Au;cases Au;have LZ:Hx ka=some (.tup [.str z.1,.int z.2]):=sx _ _ ez;refine ⟨ka,_,rfl,SqT.of LZ,rfl,_,_,rfl,_,_,rfl,rfl,_,rfl,rfl,_,rfl,?_⟩;have hm:=Uc Bh;by_cases hc:z.2=0
   · rw [if_pos (decide_eq_true (by rw [hc]))];refine ⟨_,rfl,ak (by show 1<=1000000;decide),fun p hp=>hR (decide_eq_true hc) _ p (ad hp _) ?_⟩;rw [At];exact ⟨rV (g.low z hm).1,[],ab,.nil⟩
   · rw [if_neg (fun z2=>hc (V.int.inj (of_decide_eq_true z2)))];exact hW (decide_eq_false hc) _ (.refl _)
 · refine hid fun ZZ kZ=>?_;obtain ⟨k0,Aa,Dz⟩:=lJ g;obtain ⟨r,L3,hA⟩:=P2.get BM (i:=0) Aa;refine kZ ?_;exact ⟨D,_,0,.ref r,rfl,rfl,SqL.of eD,at_nonneg (Int.le_refl _) (by rw [Ul];show Option.map V.ref as[0]?=_;rw [L3];rfl),q r H1 s1 (by rw [fA Aa];exact hA)⟩
def vN (H:Hp) (ins:List (UP×Int)) (f':List (Key×V)) (us:List Th):Prop:=∀ (i:Nat) (u:Th),us[i]?=some u->(∃ a,aW f' (UZ (i:Int))=some (.ref a)/\At H u a)∨(aW f' (UZ (i:Int))=none/\u=aR ins)
inductive gB (vs:List V) (H:Hp) (Q:VK) (_E:XK):Prop
 | mk (ia ka da:Ud) (yI:List Ud) (ins:List (UP×Int)) (kd:UP×Int) (f':List (Key×V)) (us:List Th) (yL:vs=[.ref ia,.ref ka,.ref da]) (yM:H ia=some (.tup (yI.map V.ref))) (yR:KsAt H ins yI) (yY:bZ ins) (zf:KAt H kd ka) (zY:kd∈ins) (BD:H da=some (.dK f')) (BX:us.length=kd.2.toNat) (D4:vN H ins f' us) (GG:∀ (r:Ud) (H':Hp),L2.Same H H'->At H' (.knot kd.1 us) r->Q (.ref r) H'):gB  vs H Q _E
def mw:Sp:=gB
set_option maxHeartbeats 1000000 in
theorem eQ:bf P w K mg base CX0 2 T.g_knot_above.f T.g_knot_above.d ["ins","kind","kids"] mw:=by
 refine T.g_knot_above.F.ok eL (fun vs H Q E h=>?_) (fun yJ A outer s H vs Q E hr h=>?_)
 · obtain ⟨ia,ka,da,yI,ins,kd,f',us,rfl,_⟩:=h;rfl
 obtain ⟨ia,ka,da,yI,ins,kd,f',us,rfl,ei,AG,g,ek,hm,ed,L4,Hn,q⟩:=h
 refine ⟨_,(ae (cP (pv 1) (bA rfl (au (aj (i:=3) eL.nd rfl (Ux rfl)) (au (aj (i:=4) eL.nd rfl (Ux rfl)) aY))))
  (ag (aA (az dz (aK (aa (pv 3) ac)) (de cH rfl T.n_tuple VY (aa (cq (N:=[Ui "kid",Ui "kids",Ui "ins"]) (js:=[none,some 2,some 0]) (g:=(aG 0)) (tt:=bK) (te:=(uH (bx 1) (bx 0) (gx iB [] E0 (bu (bx 2) d4)))) rfl (cG rfl (by decide +kernel) (by decide +kernel) rfl rfl rfl) (bp rfl T.n_range (aa (pv 4) ac)) (fun _ _ _ _ _ _=>(aj (i:=0) yn rfl (Ux rfl))) (aS rfl) (fun _ _ _ _ _ _=>bS) (fun _ _ _ _ _ _=>(uy (nw hr) (pv 1) (pv 0) (pcF T.g_small_tree (eP T) hr (aa (pv 2) ac)) ⟨rfl,rfl,rfl,rfl⟩))) ac)))))),?_⟩
 try dsimp only [yZ,yE]
 have Ca:=g.num kd hm;have Q8:H ka=some (.tup [.str kd.1,.int kd.2]):=ek;refine ⟨_,rfl,ka,_,rfl,SqT.of Q8,rfl,_,_,rfl,_,_,rfl,rfl,?_⟩;refine ⟨_,rfl,ak (by show 1<=1000000;decide),fun p1 AN=>?_⟩;dsimp only;have s1:L2.Same H (upd H p1 (.tup [.str kd.1])):=ad AN _;have e1:(upd H p1 (.tup [.str kd.1])) p1=some (.tup [.str kd.1]):=ab;generalize (upd H p1 (.tup [.str kd.1]))=H1 at s1 e1 ⊢;have hlen:us.length=((UT kd.2.toNat).map fun i=>V.int (i:Nat)).length:=by rw [L4,T8,UW]
 refine ⟨_,rfl,kd.2,rfl,by omega,by omega,jd (F:=At) (xs:=(UT kd.2.toNat).map fun i=>V.int (i:Nat)) us (fun H1 H2 z p kt h=>h.mono kt) hlen (by rw [T8,UW];omega) (fun i Hx sx hi=>by rw [T8,UW] at hi;exact hi) (fun Hx sx=>by rw [T8,UW];exact Ue _) (fun i Hx x Hy sx hi hy=>⟨hy.1,?_⟩) (fun i y z Hx R W' hy Bh sx hR=>?_) (fun D H2 as hD s2 eD BM=>?_)⟩
 · rw [T8,UW] at hi;rw [Ul,Va hi,hy.2];show some (V.int ((i:Nat):Int))=some (V.int (0+((i:Nat):Int)));rw [VH]
 · have hi:i<kd.2.toNat:=by have:=(Uh.mp Bh).1;rwa [L4] at this
   rw [Ul,Va hi] at hy;cases hy;have Kf:=s1.trans sx;have OP:Hx da=some (.dK f'):=Kf _ _ ed;refine ⟨_,rfl,da,rfl,.inl ⟨f',.inl OP⟩,_,rfl,_,rfl,ia,yI,ins,rfl,Kf _ _ ei,AG.mono (Same.kt Kf),g,fun r H3 s3 Io=>?_⟩;refine ⟨_,DGet.k (k:=UZ ((i:Nat):Int)) (s3 _ _ OP),?_⟩;rcases Hn i z Bh with ⟨a,hv,ha⟩ | ⟨hv,rfl⟩
   · rw [hv];exact hR H3 a s3 (ha.mono (Same.kt (Kf.trans s3)))
   · rw [hv];exact hR H3 r s3 Io
 have Aw:=Up BM;refine ⟨D,_,rfl,.inl ⟨SqL.of eD,fun tp FG=>?_⟩⟩;have s3:L2.Same H2 (upd H2 tp (.tup (as.map V.ref))):=ad FG _;have e3:(upd H2 tp (.tup (as.map V.ref))) tp=some (.tup (as.map V.ref)):=ab;generalize (upd H2 tp (.tup (as.map V.ref)))=H3 at s3 e3 ⊢;refine mj ((s2.trans s3) _ _ e1) e3 (by rw [T8];show 1+as.length<=1000000;omega) fun p H4 s4 e4=>?_;refine q p H4 (s1.trans (s2.trans (s3.trans s4))) ?_;rw [At];exact ⟨rV (g.low kd hm).1,as,e4,(lv BM).mono (Same.kt (s3.trans s4))⟩
theorem ub {k:Nat} {A:U5} (hr:L2.Room k A):A.units+148+4<V1:=by
 have:=pF hr;omega
inductive eF (vs:List V) (H:Hp) (Q:VK) (_E:XK):Prop
 | mk (b:Ud) (ins outs:List (UP×Int)) (head:Th) (rows:List (List Th)) (yL:vs=[.ref b]) (yM:Bk H ins outs head rows b) (yR:bZ ins) (yY:rows.length<=100) (zf:(∀ row∈rows,row.length=ins.length)) (zY:∀ (r:Ud) (f':List (List Key×V)) (H':Hp),L2.Same H H'->H r=none->H' r=some (.dT f')->MkAt H' ins rows f'->Q (.ref r) H'):eF  vs H Q _E
def jx:Sp:=eF
def xx (H:Hp) (ins:List (UP×Int)) (rows:List (List Th)) (f':List (List Key×V)) (i j:Nat):Prop :=
 ∀ (s k:Nat) (row:List Th) (p:Th),k<3->(s<i∨(s=i/\k<j))->rows[s]?=some row->row[cV ins]?=some p->∃ a,aW f' [UZ (s:Int),UZ (k:Int)]=some (.ref a)/\At H p a
set_option maxHeartbeats 2000000 in
theorem jS:bf P w K mg base CX0 2 T.g_first_makings.f T.g_first_makings.d ["book"] jx:=by
 refine T.g_first_makings.F.ok bn (fun vs H Q E h=>?_) (fun yJ A outer s H vs Q E hr h=>?_)
 · obtain ⟨b,ins,outs,head,rows,rfl,_⟩:=h;rfl
 obtain ⟨b,ins,outs,head,rows,rfl,hB,g,DV,Ir,q⟩:=h;refine hid fun ZZ kZ=>?_;obtain ⟨ia,oa,ha,ra,yI,yX,zi,hB⟩:=hB;refine kZ ?_
 refine ⟨_,(ae (fO (i:=1) (N:=[Ui "name",Ui "many"]) (js:=[none,none]) (g:=(mr K 2 (db (aG 0) (db (aG 1) mC)))) (tt:=bK) (te:=(kj (bu (bx 0) d4))) bn.nd rfl (Ux rfl) rfl (cG rfl (by decide +kernel) (by decide +kernel) rfl rfl rfl) (iH (pcF T.g_ins_of (fb T) hr (aa (pv 0) ac))) (fun _ _ _ _ _ _=>(bA rfl (au (aj (i:=0) vh rfl (Ux rfl)) (au (aj (i:=1) vh rfl (Ux rfl)) aY)))) (gM (bW aX (aS rfl) (bW aX (aS rfl) gC))) (fun _ _ _ _ _ _=>bS) (fun _ _ _ _ _ _=>(aK (aa (pv 0) ac))))
  (ae (av (i:=2) bn.nd rfl (Ux rfl) (bL Ur Xb YO (sS (B:=148) (ub hr)) (pv 1) (aa (pcF T.g_small_tree (eP T) hr (aa (pcF T.g_ins_of (fb T) hr (aa (pv 0) ac)) ac)) ac)))
  (ae (av (i:=3) bn.nd rfl (Ux rfl) ui)
  (ae (bm UO rfl (n5 rfl T.n_enumerate (pcF T.g_rules_of (eK T) hr (aa (pv 0) ac))) (bA rfl (au (aj (i:=4) bn.nd rfl (Ux rfl)) (au (aj (i:=5) bn.nd rfl (Ux rfl)) aY))) (ag (bm UO rfl (bp rfl T.n_range (aa (g8 (v:=.int (3)) rfl T.c_MOST_KIDS.choose_spec ⟨_,rfl⟩) ac)) (aj (i:=6) bn.nd rfl (Ux rfl)) (ag (uX (nw hr) (pv 3) (aK (aa (pv 4) (aa (pv 6) ac))) (ax aC (pv 5) (pv 2) (fun _ _=>rfl)) rfl)))))
  (ag (aA (pv 3))))))),?_⟩
 try dsimp only [yZ,yE]
 have An:ins.length=yI.length:=Up hB.inK;have Dc:rows.length=zi.length:=Up hB.rw;have DG:=g.le;refine ⟨_,rfl,b,_,_,_,_,rfl,hB.bk,ia,rfl,⟨_,SqT.of hB.inE⟩,jd (F:=fun H (k:UP×Int) a=>At H (.knot k.1 []) a) (xs:=yI.map V.ref) ins (fun H1 H2 z p kt h=>h.mono kt) (by rw [T8];exact An) (by rw [T8];omega) (fun i Hx sx hi=>⟨_,_,SqT.of (sx _ _ hB.inE),Ua hi⟩) (fun Hx sx=>⟨_,SqT.of (sx _ _ hB.inE),Ue _⟩) (fun i Hx x Hy sx hi hy=>⟨hy.1,hy.2 _ (SqT.of (sx _ _ hB.inE))⟩) (fun i x z Hx R W' hx Bh sx hR=>?_) (fun D H1 as hD s1 eD BM=>?_)⟩
 · obtain ⟨ka,rfl,zr⟩:=aT hx;obtain ⟨z',Au,ez⟩:=P2.get' hB.inK zr;rw [Bh] at Au;cases Au;have LZ:Hx ka=some (.tup [.str z.1,.int z.2]):=sx _ _ ez;refine ⟨ka,_,rfl,SqT.of LZ,rfl,_,_,rfl,_,_,rfl,rfl,?_⟩;refine ⟨_,rfl,ak (by show 1<=1000000;decide),fun p hp=>hR _ p (ad hp _) ?_⟩;rw [At];exact ⟨rV (g.low z (Uc Bh)).1,[],ab,.nil⟩
 -- at
 obtain ⟨k0,Aa,Dz⟩:=lJ g;have hI:=fh Aa;refine ⟨_,rfl,.inl ⟨rfl,_,SqL.of eD⟩,_,rfl,b,_,_,_,_,rfl,s1 _ _ hB.bk,ia,yI,ins,rfl,s1 _ _ hB.inE,hB.inK.mono (Same.kt s1),g,fun st H2 s2 zy=>?_⟩;have Bp:=s1.trans s2;have L6:Ats H2 (ins.map fun k=>Th.knot k.1 []) as:=(pG BM).mono (Same.kt s2);refine ⟨D,.ref st,_,(aR ins).dv,dvs (ins.map fun k=>Th.knot k.1 []),cV ins,rfl,rfl,SqL.of (s2 _ _ eD),zy.dv,L6.dvs,?_,?_,fun i hi hz=>?_,?_,?_⟩
 · have h1:=jj (ins.map fun k=>Th.knot k.1 [])
   have h2:bG (ins.map fun k=>Th.knot k.1 [])<=1:=mZ fun u hu=>by
    obtain ⟨k,_,rfl⟩:=Vb.mp hu;rw [Th.tall,bG];exact Ue _
   omega
 · rw [qi,Ul,hI,fA Aa];rfl
 · rw [qi,Ul] at hz;cases Iu:ins[i]? with
   | none=>rw [Iu] at hz;cases hz
   | some k =>
     rw [Iu,fA Aa] at hz;have OQ:(Th.knot k.1 []).dv=(Th.knot k0.1 []).dv:=UQ hz;rw [Th.dv,Th.dv] at OQ;have Q9:=Dv.tup.inj OQ;injection Q9 with Ra _;injection Ra with Rb;have:=g.nd i (cV ins) k k0 Iu hI Rb;omega
 · rw [rP,T8];omega
 -- made
 intro td OR;dsimp only [aG];have s3:L2.Same H2 (upd H2 td (.dT [])):=ad OR _;have e3:(upd H2 td (.dT [])) td=some (.dT []):=ab;have Iv:H td=none:=Bp.free OR;generalize (upd H2 td (.dT []))=H3 at s3 e3 ⊢;have FJ:=Bp.trans s3;refine ⟨_,rfl,b,_,_,_,_,rfl,FJ _ _ hB.bk,ra,rfl,⟨_,SqT.of (FJ _ _ hB.rl)⟩,?_⟩
 refine t6 (K:=K) (a:=ra) (xs:=zi.map V.ref) (fun i σ H4=>Ex4 fun (c4 c5 c6:Option V) (tk:List (List Key×V))=>An5 (σ=[some (.ref b),some (.ref D),some (.int (cV ins:Nat)),some (.ref td),c4,c5,c6]) (L2.Same H H4) (H4 td=some (.dT tk)) (tk.length<=3 * i) (xx H4 ins rows tk i 0))
  ⟨none,none,none,[],rfl,FJ,e3,UL _,fun s k row p _ h=>by rcases h with h | ⟨_,h⟩ <;> cases h⟩ (fun i σ H4 _ ⟨_,_,_,_,_,s4,_,_,_⟩=>SqT.of (s4 _ _ hB.rl)) ?_ ?_
 · rintro i x pr σ H4 hx Ab ⟨c4,c5,c6,tk,rfl,s4,L9,hlen,yG⟩;refine hid fun ZZ kZ=>?_;obtain ⟨rwa,rfl,Ma⟩:=aT hx;obtain ⟨row,yC,FK,DH,EO⟩:=P2.get' hB.rw Ma;refine kZ ?_;have Rc:i<100:=by have:=(Uh.mp yC).1;omega
   have Rf:=Ir row (Uc yC);have D5:=EO.length;have QV:=(Uh.mp hI).1;have s5:L2.Same H4 (upd H4 pr (.tup [.int ((i:Nat):Int),.ref rwa])):=ad Ab _;have e5:(upd H4 pr (.tup [.int ((i:Nat):Int),.ref rwa])) pr=some (.tup [.int ((i:Nat):Int),.ref rwa]):=ab;generalize (upd H4 pr (.tup [.int ((i:Nat):Int),.ref rwa]))=H5 at s5 e5 ⊢;have Bq:=s4.trans s5;refine ⟨pr,_,rfl,SqT.of e5,rfl,_,_,rfl,_,_,rfl,rfl,?_⟩;dsimp only [aG];refine ⟨3,rfl,by decide,by decide,?_⟩
   refine bD (n:=3) (fun j σ H6=>Ex2 fun (c6:Option V) (tk:List (List Key×V))=>An5 (σ=[some (.ref b),some (.ref D),some (.int (cV ins:Nat)),some (.ref td),some (.int ((i:Nat):Int)),some (.ref rwa),c6]) (L2.Same H H6) (H6 td=some (.dT tk)) (tk.length<=3 * i+j) (xx H6 ins rows tk i j))
    ⟨_,tk,rfl,Bq,s5 _ _ L9,hlen,fun s k row p hk h h1 h2=>by
     obtain ⟨a,a1,a2⟩:=yG s k row p hk h h1 h2;exact ⟨a,a1,a2.mono (Same.kt s5)⟩⟩ ?_ ?_
   · rintro j σ H6 hj ⟨c6,tk,rfl,s6,Mb,hlen,yG⟩;refine hid fun ZZ kZ=>?_;obtain ⟨pa,DA⟩:∃ a,FK[cV ins]?=some a:=⟨_,Ua (by omega)⟩;obtain ⟨p0,DC,Dd⟩:=EO.get DA;refine kZ ?_;refine ⟨_,rfl,_,rfl,rwa,_,_,.ref pa,rfl,rfl,SqT.of (s6 _ _ DH),cu (by rw [Ul,DA];rfl),_,rfl,_,rfl,_,rfl,ak (by show 2<=1000000;decide),fun kp Cb=>?_⟩;have s7:L2.Same H6 (upd H6 kp (.tup [.int ((i:Nat):Int),.int (0+((j:Nat):Int))])):=ad Cb _;have e7:(upd H6 kp (.tup [.int ((i:Nat):Int),.int (0+((j:Nat):Int))])) kp=some (.tup ([UZ ((i:Nat):Int),UZ (0+((j:Nat):Int))].map kV)):=ab;generalize (upd H6 kp (.tup [.int ((i:Nat):Int),.int (0+((j:Nat):Int))]))=H7 at s7 e7 ⊢;have OS:=s7 _ _ Mb;refine ⟨td,_,rfl,DPut.t OS e7 (aF (by omega)),?_⟩
     have Cc:KT H7 (upd H7 td (.dT (putK tk [UZ ((i:Nat):Int),UZ (0+((j:Nat):Int))] (.ref pa)))):=fun c ys ec=>by
      rw [am (f9 ec OS (fun z=>nomatch z))];exact ec
     refine ⟨_,_,rfl,ay (s6.trans s7) Iv,ab,?_,fun s k Ai p' hk h h1 h2=>?_⟩
     · have:=ce tk [UZ ((i:Nat):Int),UZ (0+((j:Nat):Int))] (V.ref pa);omega
     · rw [jh];by_cases CA:([UZ ((s:Nat):Int),UZ ((k:Nat):Int)]:List Key)=[UZ ((i:Nat):Int),UZ (0+((j:Nat):Int))]
       · rw [if_pos CA];injection CA with e1 e2;have AD:((s:Nat):Int)=(i:Nat):=Xh e1;have:s=i:=by omega
         subst this;rw [yC] at h1;cases h1;rw [DC] at h2;cases h2;exact ⟨pa,rfl,Dd.mono ((Same.kt (s6.trans s7)).trans Cc)⟩
       · rw [if_neg CA]
         have Rg:s<i∨(s=i/\k<j):=by
          rcases h with h | ⟨rfl,h⟩
          · exact .inl h
          · refine .inr ⟨rfl,?_⟩;by_cases Rh:k=j
            · exact absurd (by rw [Rh,VH]) CA
            · omega
         obtain ⟨a,a1,a2⟩:=yG s k Ai p' hk Rg h1 h2;exact ⟨a,a1,a2.mono ((Same.kt s7).trans Cc)⟩
   · rintro σ H6 ⟨c6,tk,rfl,s6,Mb,hlen,yG⟩;exact ⟨_,_,_,tk,rfl,s6,Mb,by omega,fun s k row p hk h h1 h2=>yG s k row p hk (by rcases h with h | ⟨_,h⟩;(· by_cases hs:s=i;exact .inr ⟨hs,hk⟩;exact .inl (by omega));exact absurd h (XX _)) h1 h2⟩
 · rintro σ H4 ⟨c4,c5,c6,tk,rfl,s4,L9,hlen,yG⟩;refine ⟨_,rfl,q td tk H4 s4 Iv L9 fun s k row p hk h1 h2=>yG s k row p hk (.inl ?_) h1 h2⟩;rw [T8,<- Dc];exact (Uh.mp h1).1
inductive f6 (P:Uv) (w:UK) (K:Ub) (vs:List V) (H:Hp) (Q:VK) (_E:XK):Prop
 | mk (b md pt:Ud) (s:Nat) (ins outs:List (UP×Int)) (head:Th) (rows:List (List Th)) (row:List Th) (AV:List (List Key×V)) (f':List (aD×V)) (Al:List aD) (Vl:VlT) (yL:vs=[.ref b,.int (s:Nat),.ref md,.ref pt]) (yM:Bk H ins outs head rows b) (yR:FrK ins outs rows) (yY:rows[s]?=some row) (zf:H md=some (.dT AV)) (zY:MkAt H ins rows AV) (BD:Pt P w Vl H pt f' Al) (BX:Al.length<=1000000) (D4:(∀ x∈(mkF ins rows (s:Nat)).pl [],nk (s:Nat) x.1∈Al)) (GG:(∀ x∈(mkF ins rows (s:Nat)).pl [],x.2.isHole=false)) (FL:(∀ (i:Nat) (p:Th) (kd:UP×Int) (pl:List Int) (u:Th) (j:Nat),row[i]?=some p->ins[i]?=some kd->(pl,u)∈(frF (mkF ins rows) (mkF ins rows (s:Nat)) (row.take (i+1))).pl []->u.isHole=true->(∀ v,(pl,v)∈(frF (mkF ins rows) (mkF ins rows (s:Nat)) (row.take i)).pl []->v.isHole=false)->Vl j (nk (s:Nat) pl) (aR ins) (.knot kd.1 (VN kd.2.toNat (aR ins))))) (FN:∀ (r:Ud) (zB:List (aD×V)) (H':Hp),But pt H H'->AtK K H' (frF (mkF ins rows) (mkF ins rows (s:Nat)) row) r->Pt P w Vl H' pt zB Al->(∀ k∈f'.map (·.1),k∈zB.map (·.1))->(∀ i,i<=row.length->∀ x∈(frF (mkF ins rows) (mkF ins rows (s:Nat)) (row.take i)).pl [],x.2.isHole=true->nk (s:Nat) x.1∈zB.map (·.1))->Q (.ref r) H'):f6 P w K vs H Q _E
def gJ (P:Uv) (w:UK) (K:Ub):Sp:=f6 P w K
set_option maxHeartbeats 4000000 in
theorem l4:bf P w K mg base CX0 6 T.g_first_front.f T.g_first_front.d ["book","state","made","partings"] (gJ P w K):=by
 refine T.g_first_front.F.ok bJ (fun vs H Q E h=>?_) (fun yJ A outer s0 H vs Q E hr h=>?_)
 · obtain ⟨b,md,pt,s,ins,outs,head,rows,row,AV,f',Al,Vl,rfl,_⟩:=h;rfl
 obtain ⟨b,md,pt,s,ins,outs,head,rows,row,AV,f',Al,Vl,rfl,hB,F,yC,GH,FO,ER,Kg,BW,Bv,hV,q⟩:=h;refine hid fun ZZ kZ=>?_;obtain ⟨ia,oa,ha,ra,yI,yX,zi,hB⟩:=hB;refine kZ ?_
 refine ⟨_,(ae (av (i:=4) bJ.nd rfl (Ux rfl) (pcF T.g_ins_of (fb T) hr (aa (pv 0) ac)))
  (ae (av (i:=5) bJ.nd rfl (Ux rfl) (nX (nw hr) (pv 2) (aK (aa (pv 1) (aa af ac))) (fun _ _=>rfl)))
  (ae (bm UO rfl (ud rfl T.n_zip (aa (pv 4) (aa (ax aC (pcF T.g_rules_of (eK T) hr (aa (pv 0) ac)) (pv 1) (fun _ _=>rfl)) ac))) (bA rfl (au (aj (i:=6) bJ.nd rfl (Ux rfl)) (au (aj (i:=7) bJ.nd rfl (Ux rfl)) aY))) (ae (av (i:=5) bJ.nd rfl (Ux rfl) (pcF T.g_common (tD T) hr (aa (pv 5) (aa (pcF T.g_filled (sK T) hr (aa (pv 7) (aa (pv 2) ac))) ac))))
  (ag (bm UO rfl (cn (pcF T.g_holes_in (jU T) hr (aa (pv 5) ac))) (aj (i:=8) bJ.nd rfl (Ux rfl)) (ag (aQ (tW Ym PySem.F.type_dict_setdefault (gO (gj hr)) (pv 3) (aa (aK (aa (pv 1) (aa (pv 8) ac))) (aa (aK (aa (pcF T.g_small_tree (eP T) hr (aa (pv 4) ac)) (aa (pcF T.g_knot_above (eQ T) hr (aa (pv 4) (aa (pv 6) (aa uB ac)))) ac))) ac)))))))))
  (ag (aA (pv 5)))))),?_⟩
 try dsimp only [yZ,yE]
 have g:=F.gi;have An:ins.length=yI.length:=Up hB.inK;have Dc:rows.length=zi.length:=Up hB.rw;have DG:=g.le;have OO:=(Uh.mp yC).1;obtain ⟨φ,D6⟩:=cy ER.dm;have Iw:md≠pt:=fun z=>by rw [z,D6] at GH;cases GH
 -- ins,front
 refine ⟨_,rfl,b,_,_,_,_,rfl,hB.bk,?_⟩;refine hid fun ZZ kZ=>?_;obtain ⟨Ai,p0,LF,DC,DD,z1,z2,f0⟩:=F.mkd (l:=(s:Nat)) (by omega) (by omega);rw [Vk,yC] at LF;cases LF;obtain ⟨fa,Ri,DE⟩:=FO s 0 row p0 (by decide) yC DC;refine kZ ?_;refine ⟨_,rfl,_,rfl,ak (by show 2<=1000000;decide),fun kp Cb=>?_⟩;have s1:L2.Same H (upd H kp (.tup [.int ((s:Nat):Int),.int 0])):=ad Cb _;have e1:(upd H kp (.tup [.int ((s:Nat):Int),.int 0])) kp=some (.tup (([UZ ((s:Nat):Int),UZ 0]:List Key).map kV)):=ab;generalize (upd H kp (.tup [.int ((s:Nat):Int),.int 0]))=H1 at s1 e1 ⊢;refine ⟨md,.ref fa,rfl,.inr ⟨AV,_,kp,.inl (s1 _ _ GH),rfl,e1,Ri.symm⟩,?_⟩
 -- Bm loop
 refine hid fun ZZ kZ=>?_;obtain ⟨zJ,Aj,FK,DH,Bi⟩:=P2.get hB.rw yC;refine kZ ?_;have zD:=Bi.length;have De:=(F.fit.row row (Uc yC)).1;refine ⟨_,rfl,_,rfl,b,_,_,_,_,rfl,s1 _ _ hB.bk,_,rfl,ra,_,_,.ref zJ,rfl,rfl,SqT.of (s1 _ _ hB.rl),cu (by rw [Ul,Aj];rfl),ia,zJ,rfl,⟨_,SqT.of (s1 _ _ hB.inE)⟩,⟨_,SqT.of (s1 _ _ DH)⟩,?_⟩
 have Iy:∀ (i:Nat) (p:Th),row[i]?=some p->∀ l k,Th.call l k∈p.walk->∃ v,aW AV [UZ l,UZ k]=some (.ref v)/\At H (mkF ins rows l) v/\(mkF ins rows l).size<=200:=fun i p hp l k hc=>by
  have yK:=(Uh.mp hp).1;obtain ⟨kd,C9⟩:∃ kd,ins[i]?=some kd:=⟨_,Ua (by omega)⟩;have hf:=(F.fit.row row (Uc yC)).2 i p kd hp C9;have Ca:=g.num kd (Uc C9);obtain ⟨a1,a2,a3,a4⟩:=sf hf hc;obtain ⟨Rj,p1,b1,b2,b3,b4,_⟩:=F.mkd a1 a2;obtain ⟨v,v1,v2⟩:=FO l.toNat k.toNat Rj p1 (by omega) b1 b2;rw [WG a1,WG a3] at v1;exact ⟨v,v1,by rw [b3];exact v2,by rw [b3];exact b4⟩
 have Rk:∀ i',i'<=0->∀ x∈(frF (mkF ins rows) (mkF ins rows (s:Nat)) (row.take i')).pl [],x.2.isHole=true->nk (s:Nat) x.1∈f'.map (·.1):=fun i' y9 x hx hh=>by
  rw [Nat.le_zero.mp y9,Xc] at hx;have:=Bv x hx;rw [hh] at this;cases this
 refine rS (K:=K) (a:=ia) (b:=zJ) (xs:=yI.map V.ref) (ys:=FK.map V.ref) (by rw [T8,T8];omega) (fun i σ H2=>Ex5 fun (fa:Ud) (c6 c7 c8:Option V) (zK:List (aD×V))=>An6 (σ=[some (.ref b),some (.int ((s:Nat):Int)),some (.ref md),some (.ref pt),some (.ref ia),some (.ref fa),c6,c7,c8]) (But pt H H2) (AtK K H2 (frF (mkF ins rows) (mkF ins rows (s:Nat)) (row.take i)) fa) (Pt P w Vl H2 pt zK Al) ((∀ k∈f'.map (·.1),k∈zK.map (·.1))) ((∀ i',i'<=i->∀ x∈(frF (mkF ins rows) (mkF ins rows (s:Nat)) (row.take i')).pl [],x.2.isHole=true->nk (s:Nat) x.1∈zK.map (·.1))))
  ⟨fa,none,none,none,f',rfl,Same.but s1,by rw [Xc,DD];exact (DE.mono (Same.kt s1)).k,ER.same s1,fun _ h=>h,Rk⟩ (fun i σ H2 _ ⟨_,_,_,_,_,_,b2,_,_,_,_⟩=>?_) ?_ ?_
 · have kt:=b2.kt D6;exact ⟨SqT.of (kt _ _ hB.inE),SqT.of (kt _ _ DH)⟩
 · rintro i x y p2 σ H2 hx hy AO ⟨fa,c6,c7,c8,zK,rfl,b2,zd,Ak,zU,OT⟩;refine hid fun ZZ kZ=>?_;obtain ⟨ka,rfl,zr⟩:=aT hx;obtain ⟨pa,rfl,DA⟩:=aT hy;obtain ⟨kd,hk,ek⟩:=P2.get' hB.inK zr;obtain ⟨p,hp,Dd⟩:=Bi.get DA;refine kZ ?_;have Mc:=b2.kt D6;have s3:L2.Same H2 (upd H2 p2 (.tup [.ref ka,.ref pa])):=ad AO _;have e3:(upd H2 p2 (.tup [.ref ka,.ref pa])) p2=some (.tup [.ref ka,.ref pa]):=ab;generalize (upd H2 p2 (.tup [.ref ka,.ref pa]))=H3 at s3 e3 ⊢;have Iz:=Mc.trans (Same.kt s3);have b3:=b2.trans (Same.but s3);refine ⟨p2,_,rfl,SqT.of e3,rfl,_,_,rfl,_,_,rfl,rfl,?_⟩;dsimp only [aG]
   -- filled,common
   have EH:=F.sz row (Uc yC) p (Uc hp);refine ⟨_,rfl,_,rfl,_,rfl,pa,md,p,(fun l _=>mkF ins rows l),AV,rfl,(Dd.mono Iz).k,by omega,.inl (b3 _ _ Iw GH),fun l k hc=>?_,fun fl H4 s4 Az=>?_⟩
   · refine hid fun ZZ kZ=>?_;obtain ⟨v,v1,v2,v3⟩:=Iy i p hp l k hc;refine kZ ?_;exact ⟨v,v1,(v2.mono Iz).k,by omega⟩
   have hsz:=i6 (mkF ins rows) (mkF ins rows (s:Nat)) (row.take i);rw [DD] at hsz;have IC:=zd.mono (Same.kt (s3.trans s4));rw [DD] at IC;refine ⟨fa,fl,_,_,rfl,IC,Az,by omega,by omega,fun cm H5 s5 ID=>?_⟩;have AJ:row.take (i+1)=row.take i++[p]:=by rw [Vz,hp];rfl
   have IE:AtK K H5 (frF (mkF ins rows) (mkF ins rows (s:Nat)) (row.take (i+1))) cm:=by
    rw [AJ,l9,DD];exact ID
   have b5:=b3.trans (Same.but (s4.trans s5));have Md:=Ak.same (s3.trans (s4.trans s5));have Te:=b5.kt D6;have Me:=i6 (mkF ins rows) (mkF ins rows (s:Nat)) (row.take (i+1));rw [DD] at Me;have IF:=IE;rw [DD] at IF
   -- holes
   refine ⟨_,rfl,cm,_,rfl,IF,by omega,by omega,fun hl bs H6 s6 FP y8=>?_⟩;rw [<- DD] at y8;have b6:=b5.trans (Same.but s6);have IG:=Md.same s6;have DI:=b6.kt D6;obtain ⟨Rl,Cd⟩:=cy IG.dm;have Mf:=IE.mono (Same.kt s6);have ES:hl≠pt:=fun z=>by rw [z,Cd] at FP;cases FP
   have zE:=Up y8;have Rm:=WU (fun p:List Int×Th=>p.2.isHole) ((frF (mkF ins rows) (mkF ins rows (s:Nat)) (row.take (i+1))).pl []);rw [Th.pl_len] at Rm;have Ca:=g.num kd (Uc hk);refine ⟨hl,rfl,⟨_,SqL.of FP⟩,?_⟩
   refine eC (K:=K) (a:=hl) (xs:=bs.map V.ref) (fun j σ H7=>Ex2 fun (c8:Option V) (D7:List (aD×V))=>An5 (σ=[some (.ref b),some (.int ((s:Nat):Int)),some (.ref md),some (.ref pt),some (.ref ia),some (.ref cm),some (.ref ka),some (.ref pa),c8]) (But pt H6 H7) (Pt P w Vl H7 pt D7 Al) ((∀ k∈zK.map (·.1),k∈D7.map (·.1))) (∀ (j':Nat) (pl:List Int),j'<j->((((frF (mkF ins rows) (mkF ins rows (s:Nat)) (row.take (i+1))).pl []).filter fun p=>p.2.isHole).map (·.1))[j']?=some pl->nk (s:Nat) pl∈D7.map (·.1)))
    ⟨_,zK,rfl,But.refl _ _,IG,fun _ h=>h,fun _ _ h=>absurd h (XX _)⟩ (fun j σ H7 _ ⟨_,_,_,b7,_,_,_⟩=>SqL.of (b7 _ _ ES FP)) ?_ ?_
   · rintro j x σ H7 hx ⟨c8,D7,rfl,b7,Df,zQ,yG⟩;refine hid fun ZZ kZ=>?_;obtain ⟨pb,rfl,B1⟩:=aT hx;obtain ⟨pl,D8,Mg⟩:=P2.get' y8 B1;have Cc:=b7.kt Cd;have Mh:=DI.trans Cc;have GI:=Cc _ _ Mg
     obtain ⟨LH,Ow,Rn⟩:∃ u,(pl,u)∈(frF (mkF ins rows) (mkF ins rows (s:Nat)) (row.take (i+1))).pl []/\u.isHole=true:=by
      obtain ⟨x,DU,rfl⟩:=Vb.mp (Uc D8);exact ⟨x.2,(V0.mp DU).1,(V0.mp DU).2⟩
     refine kZ ?_
     have Mi:nk (s:Nat) pl∈Al:=by
      obtain ⟨x,DU,rfl⟩:=Vb.mp (Uc D8);obtain ⟨u,hu⟩:=uz (mkF ins rows) (mkF ins rows (s:Nat)) (row.take (i+1)) x (V0.mp DU).1;exact BW (x.1,u) hu
     have Tf:=Df.len;refine ⟨_,rfl,⟨pt,D7,rfl,Df.dm⟩,_,rfl,_,rfl,ak (by show 2<=1000000;decide),fun Fs Mj=>?_⟩;have s8:L2.Same H7 (upd H7 Fs (.tup [.int ((s:Nat):Int),.ref pb])):=ad Mj _;have e8:(upd H7 Fs (.tup [.int ((s:Nat):Int),.ref pb])) Fs=some (.tup [.int ((s:Nat):Int),.ref pb]):=ab;generalize (upd H7 Fs (.tup [.int ((s:Nat):Int),.ref pb]))=H8 at s8 e8 ⊢;have Ce:=Mh.trans (Same.kt s8);refine ⟨_,rfl,ia,yI,ins,rfl,Ce _ _ hB.inE,hB.inK.mono Ce,g,fun st H9 s9 zy=>?_⟩;have Mk:=Ce.trans (Same.kt s9);refine ⟨_,rfl,_,rfl,fun dd Kh=>?_⟩;have zk:L2.Same H9 (upd H9 dd (.dK [])):=ad Kh _;have FE:(upd H9 dd (.dK [])) dd=some (.dK []):=ab;generalize (upd H9 dd (.dK []))=zx at zk FE ⊢;have FQ:=Mk.trans (Same.kt zk);refine ⟨ia,ka,dd,yI,ins,kd,[],VN kd.2.toNat (aR ins),rfl,FQ _ _ hB.inE,hB.inK.mono FQ,g,FQ _ _ ek,Uc hk,FE,by rw [WT],fun i' u hu=>.inr ⟨rfl,List.eq_of_mem_replicate (Uc hu)⟩,fun r2 zS Ae Fy=>?_⟩;refine ⟨ak (by show 2<=1000000;decide),fun pr Ab=>?_⟩;have zo:L2.Same zS (upd zS pr (.tup [.ref st,.ref r2])):=ad Ab _;have Cf:(upd zS pr (.tup [.ref st,.ref r2])) pr=some (.tup [.ref st,.ref r2]):=ab;generalize (upd zS pr (.tup [.ref st,.ref r2]))=Dg at zo Cf ⊢;have FR:=zk.trans (Ae.trans zo);have D9:=s8.trans (s9.trans FR);have Dh:=Df.same D9;refine ⟨pt,Fs,.ref pr,nk (s:Nat) pl,D7,rfl,rfl,Dh.dm,kB ((s9.trans FR) _ _ e8) (D9 _ _ GI),aF (by omega),fun u hu=>?_,fun hn D' OU Ml=>?_⟩
     · refine ⟨_,D7,rfl,b7.trans (Same.but D9),Dh,zQ,fun j' Aq yS zG=>?_⟩;by_cases Di:j'=j
       · subst Di;rw [D8] at zG;cases zG;exact Vb.mpr ⟨_,fo hu,rfl⟩
       · exact yG j' Aq (by omega) zG
     · have Ro:∀ v,(pl,v)∈(frF (mkF ins rows) (mkF ins rows (s:Nat)) (row.take i)).pl []->v.isHole=false:=fun v hv=>by
        cases Rq:v.isHole with
        | false=>rfl
        | true =>
          exfalso;exact di hn (zQ _ (OT i (Ue _) (pl,v) hv Rq))
       obtain ⟨GJ,IH⟩:=Dh.put hn OU Ml ⟨pr,st,r2,_,_,rfl,Cf,zy.mono (Same.kt FR),Fy.mono (Same.kt zo),hV i p kd pl LH _ hp hk Ow Rn Ro⟩ Mi;refine ⟨_,_,rfl,(b7.trans (Same.but D9)).trans OU,GJ,fun k CA=>by rw [IH];exact Vf _ (zQ k CA),fun j' Aq yS zG=>?_⟩;rw [IH];by_cases Di:j'=j
       · subst Di;rw [D8] at zG;cases zG;exact U6 _ (UM ..)
       · exact Vf _ (yG j' Aq (by omega) zG)
   · rintro σ H7 ⟨c8,D7,rfl,b7,Df,zQ,yG⟩;refine ⟨cm,_,_,_,D7,rfl,b6.trans b7,Mf.mono (b7.kt Cd),Df,fun k CA=>zQ k (zU k CA),fun i' y9 x hx hh=>?_⟩;by_cases Rr:i'<=i
     · exact zQ _ (OT i' Rr x hx hh)
     obtain rfl:i'=i+1:=by omega
     have hm:x.1∈(((frF (mkF ins rows) (mkF ins rows (s:Nat)) (row.take (i+1))).pl []).filter fun p=>p.2.isHole).map (·.1):=Vb.mpr ⟨x,V0.mpr ⟨hx,hh⟩,rfl⟩;obtain ⟨j',yS⟩:=UC.mp hm;exact yG j' x.1 (by have:=(Uh.mp yS).1;rw [T8];omega) yS
 · rintro σ H2 ⟨fa,c6,c7,c8,zK,rfl,b2,zd,Ak,zU,hh⟩;rw [T8] at zd hh;rw [VG (by omega)] at zd;exact ⟨_,rfl,q fa zK H2 b2 zd Ak zU fun i hi=>hh i (by omega)⟩
def LDone (H:Hp) (G:LG) (s:Nat) (ps:List Th) (f0:Th):Prop:=∀ p∈ps,∀ c∈callsOf (p.pl []),∀ u,(c.1,u)∈f0.pl []->∀ x∈u.pl [],ij H G (nk c.2.1 x.1) (s:Nat) (c.1++x.1)
theorem LDone.sub {H H':Hp} {G G':LG} {s:Nat} {ps:List Th} {f0:Th} (h:LDone H G s ps f0) (k:LSub H H' G G'):LDone H' G' s ps f0:=fun p hp c hc u hu x hx=>k _ _ _ (h p hp c hc u hu x hx)
inductive iq (P:Uv) (w:UK) (K:Ub) (vs:List V) (H:Hp) (Q:VK) (_E:XK):Prop
 | mk (b fa la:Ud) (s:Nat) (ins outs:List (UP×Int)) (head:Th) (rows:List (List Th)) (row:List Th) (f0:Th) (H0:Hp) (G:LG) (N:Nat) (Al:List aD) (Lk:LkT) (yL:vs=[.ref b,.int (s:Nat),.ref fa,.ref la]) (yM:Bk H ins outs head rows b) (yR:FrK ins outs rows) (yY:rows[s]?=some row) (zf:AtK K H f0 fa) (zY:f0.size<=200) (BD:f0.tall<=100) (BX:LkI P w ins Al Lk H0 H la G N) (D4:N<=15000000) (GG:(∀ x∈f0.pl [],nk (s:Nat) x.1∈Al)) (FL:(∀ (i:Nat) (p:Th) (kd:UP×Int) (c:List Int×Int×Int) (u:Th) (x:List Int×Th),row[i]?=some p->ins[i]?=some kd->c∈callsOf (p.pl [])->(c.1,u)∈f0.pl []->x∈u.pl []->Lk (nk c.2.1 x.1) (s:Nat) (c.1++x.1) kd c.2.2)) (FN:∀ (G':LG) (H':Hp),KT H H'->LkI P w ins Al Lk H0 H' la G' (N+640000)->LSub H H' G G'->LDone H' G' s row f0->Q .non H'):iq P w K vs H Q _E
def oB (P:Uv) (w:UK) (K:Ub):Sp:=iq P w K
set_option maxHeartbeats 4000000 in
theorem n6:bf P w K mg base CX0 6 T.g_put_links.f T.g_put_links.d ["book","state","front","links"] (oB P w K):=by
 refine T.g_put_links.F.ok bT (fun vs H Q E h=>?_) (fun yJ A outer s0 H vs Q E hr h=>?_)
 · obtain ⟨b,fa,la,s,ins,outs,head,rows,row,f0,H0,G,N,Al,Lk,rfl,_⟩:=h;rfl
 obtain ⟨b,fa,la,s,ins,outs,head,rows,row,f0,H0,G,N,Al,Lk,rfl,hB,F,yC,zd,Tg,Ti,L,hN,BW,hL,q⟩:=h;refine hid fun ZZ kZ=>?_;obtain ⟨ia,oa,ha,ra,yI,yX,zi,hB⟩:=hB;refine kZ ?_
 refine ⟨_,(ae (av (i:=4) bT.nd rfl (Ux rfl) (de (lK (vt hr) rfl) rfl T.n_dict PyProof.Rows.boot_dict (aa (pcF T.g_placed (hZ T) hr (aa (pv 2) ac)) ac)))
  (ag (bm UO rfl (ud rfl T.n_zip (aa (pcF T.g_ins_of (fb T) hr (aa (pv 0) ac)) (aa (ax aC (pcF T.g_rules_of (eK T) hr (aa (pv 0) ac)) (pv 1) (fun _ _=>rfl)) ac))) (bA rfl (au (aj (i:=5) bT.nd rfl (Ux rfl)) (au (aj (i:=6) bT.nd rfl (Ux rfl)) aY))) (ag (bm UO rfl (cn (pcF T.g_calls_in (pq T) hr (aa (pv 6) ac))) (bA rfl (au (aj (i:=7) bT.nd rfl (Ux rfl)) (au (bA rfl (au (aj (i:=8) bT.nd rfl (Ux rfl)) (au (aj (i:=9) bT.nd rfl (Ux rfl)) aY))) aY))) (ag (bq (qM (wq (nw hr) (pv 7) (pv 4))) (ag (bm UO rfl (cn (pcF T.g_places (sN T) hr (aa (nX (nw hr) (pv 4) (pv 7) (fun _ _=>rfl)) ac))) (aj (i:=10) bT.nd rfl (Ux rfl)) (ag (aQ (bL Ur UJ UI aP (tW Ym PySem.F.type_dict_setdefault (gO (gj hr)) (pv 3) (aa (aK (aa (pv 8) (aa (pv 10) ac))) (aa (bC ac) ac))) (aa (aK (aa (pv 1) (aa (az dz (pv 7) (pv 10)) (aa (pv 5) (aa (pv 9) ac))))) ac)))))) aZ))))))),?_⟩
 try dsimp only [yZ,yE]
 have g:=F.gi;have An:ins.length=yI.length:=Up hB.inK;have DG:=g.le;have OO:=(Uh.mp yC).1
 -- parts
 refine ⟨_,rfl,fa,f0,rfl,zd,by omega,by omega,fun Rt Ki H1 s1 Tj CC zm=>?_⟩;have Mm:(f0.pl []).length=Ki.length:=Up zm;rw [Th.pl_len] at Mm;refine hid fun ZZ kZ=>?_;obtain ⟨prs,Bj,Mn,Mo⟩:∃ prs:List (List Key×V),UR (PrA H1) prs Ki/\(∀ p∈prs,∃ x∈f0.pl [],p.1=x.1.map UZ/\∃ a,p.2=.ref a/\AtK K H1 x.2 a)/\∀ x∈f0.pl [],∃ p∈prs,p.1=x.1.map UZ:=tI zm;refine kZ ?_;have OV:prs.length=Ki.length:=Up Bj;refine ⟨Rt,Ki,prs,rfl,CC,Bj,by omega,fun pd Ru=>?_⟩;have s2:L2.Same H1 (upd H1 pd (.dT (cp [] prs))):=ad Ru _;have e2:(upd H1 pd (.dT (cp [] prs))) pd=some (.dT (cp [] prs)):=ab;generalize (upd H1 pd (.dT (cp [] prs)))=H2 at s2 e2 ⊢;refine hid fun ZZ kZ=>?_;obtain ⟨f1,f2⟩:=j7 (R:=fun k v=>∃ x∈f0.pl [],k=x.1.map UZ/\∃ a,v=.ref a/\AtK K H1 x.2 a) prs [] (fun k v hv=>by cases hv) Mn;have Bp:=s1.trans s2;have FT:=L.same Bp;obtain ⟨zJ,Aj,FK,DH,Bi⟩:=P2.get hB.rw yC;refine kZ ?_;have zD:=Bi.length;have De:=(F.fit.row row (Uc yC)).1
 have Mp:∀ (q:List Int) (u:Th),(q,u)∈f0.pl []->∃ a,aW (cp [] prs) (q.map UZ)=some (.ref a)/\AtK K H1 u a:=fun q u hu=>by
  obtain ⟨p,hp,e⟩:=Mo (q,u) hu;obtain ⟨v,hv⟩:=f2 (q.map UZ) (.inr ⟨p,hp,e⟩);obtain ⟨x,hx,ex,a,rfl,ha⟩:=f1 _ v hv;have hq:q=x.1:=(Yy (fun _ _ e=>Xh e)).mp ex;have:u=x.2:=qm _ (Ue _) hu (by rw [hq];exact hx);rw [this];exact ⟨a,hv,ha⟩
 have Mq:∀ (q:List Int) (v:V),aW (cp [] prs) (q.map UZ)=some v->∃ u a,(q,u)∈f0.pl []/\v=.ref a/\AtK K H1 u a:=fun q v hv=>by
  obtain ⟨x,hx,ex,a,rfl,ha⟩:=f1 _ v hv;have hq:q=x.1:=(Yy (fun _ _ e=>Xh e)).mp ex;exact ⟨x.2,a,by rw [hq];exact hx,rfl,ha⟩
 have ET:pd≠la:=fun z=>by
  obtain ⟨φ,e⟩:=cy FT.dm;rw [z,e] at e2;cases e2
 have Mr:∀ g∈G,g.2.1≠pd:=fun g hg z=>by
  have:=(FT.ls g hg).2.1;rw [z,e2] at this;cases this
 refine ⟨_,rfl,b,_,_,_,_,rfl,Bp _ _ hB.bk,_,rfl,b,_,_,_,_,rfl,Bp _ _ hB.bk,_,rfl,ra,_,_,.ref zJ,rfl,rfl,SqT.of (Bp _ _ hB.rl),cu (by rw [Ul,Aj];rfl),ia,zJ,rfl,⟨_,SqT.of (Bp _ _ hB.inE)⟩,⟨_,SqT.of (Bp _ _ DH)⟩,?_⟩
 refine rS (K:=K) (a:=ia) (b:=zJ) (xs:=yI.map V.ref) (ys:=FK.map V.ref) (by rw [T8,T8];omega) (fun i σ H3=>Ex7 fun (c5 c6 c7 c8 c9 Ac:Option V) (G3:LG)=>An3 (σ=[some (.ref b),some (.int ((s:Nat):Int)),some (.ref fa),some (.ref la),some (.ref pd),c5,c6,c7,c8,c9,Ac]) (LQ P w ins Al Lk H0 la H2 G H3 G3 (N+i * 80000)) (LDone H3 G3 s (row.take i) f0))
  ⟨none,none,none,none,none,none,G,rfl,(LQ.refl FT).up (by omega),fun p hp=>by rw [Xc] at hp;cases hp⟩ (fun i σ H3 _ ⟨_,_,_,_,_,_,_,_,q3,_⟩=>?_) ?_ ?_
 · have kt:=(Same.kt Bp).trans (q3.kt FT);exact ⟨SqT.of (kt _ _ hB.inE),SqT.of (kt _ _ DH)⟩
 · rintro i x y p2 σ H3 hx hy AO ⟨c5,c6,c7,c8,c9,Ac,G3,rfl,q3,d3⟩;refine hid fun ZZ kZ=>?_;obtain ⟨ka,rfl,zr⟩:=aT hx;obtain ⟨pa,rfl,DA⟩:=aT hy;obtain ⟨kd,hk,ek⟩:=P2.get' hB.inK zr;obtain ⟨p,hp,Dd⟩:=Bi.get DA;refine kZ ?_;have Rv:i<8:=by have:=(Uh.mp hk).1;omega
   have s4:L2.Same H3 (upd H3 p2 (.tup [.ref ka,.ref pa])):=ad AO _;have e4:(upd H3 p2 (.tup [.ref ka,.ref pa])) p2=some (.tup [.ref ka,.ref pa]):=ab;generalize (upd H3 p2 (.tup [.ref ka,.ref pa]))=H4 at s4 e4 ⊢;have q4:=q3.same s4;have FU:=(Same.kt Bp).trans (q4.kt FT);refine ⟨p2,_,rfl,SqT.of e4,rfl,_,_,rfl,_,_,rfl,rfl,?_⟩;dsimp only [aG];have EH:=F.sz row (Uc yC) p (Uc hp);refine ⟨_,rfl,pa,p,rfl,(Dd.mono FU).k,by omega,by omega,fun cl cs H5 s5 Rw Kj Cp=>?_⟩;have q5:=q4.same s5;have d5:=d3.sub (LSub.kt (Same.kt (s4.trans s5)) G3);have L5:=q5.lk;have Mt:(callsOf (p.pl [])).length=cs.length:=Up Cp;have Mu:=j3 (p.pl []);rw [Th.pl_len] at Mu
   have Mv:∀ g∈G3,g.2.1≠cl:=fun g hg z=>by
    have:=(q4.lk.ls g hg).2.1;rw [z,Rw] at this;cases this
   have II:cl≠la:=fun z=>by
    obtain ⟨φ,e⟩:=cy L5.dm;rw [z,e] at Kj;cases Kj
   refine ⟨cl,rfl,⟨_,SqL.of Kj⟩,?_⟩
   refine eC (K:=K) (a:=cl) (xs:=cs.map V.ref) (fun j σ H6=>Ex5 fun (c7 c8 c9 Ac:Option V) (G6:LG)=>An3 (σ=[some (.ref b),some (.int ((s:Nat):Int)),some (.ref fa),some (.ref la),some (.ref pd),some (.ref ka),some (.ref pa),c7,c8,c9,Ac]) (LQ P w ins Al Lk H0 la H5 G3 H6 G6 (N+i * 80000+j * 400)) (∀ (j':Nat) (c:List Int×Int×Int),j'<j->(callsOf (p.pl []))[j']?=some c->∀ u,(c.1,u)∈f0.pl []->∀ x∈u.pl [],ij H6 G6 (nk c.2.1 x.1) (s:Nat) (c.1++x.1)))
    ⟨_,_,_,_,G3,rfl,(LQ.refl L5).up (by omega),fun _ _ h=>absurd h (XX _)⟩ (fun j σ H6 _ ⟨_,_,_,_,_,_,q6,_⟩=>SqL.of (q6.fr _ _ Kj II Mv)) ?_ ?_
   · rintro j x σ H6 hx ⟨c7,c8,c9,Ac,G6,rfl,q6,d6⟩;refine hid fun ZZ kZ=>?_;obtain ⟨ca,rfl,Ii⟩:=aT hx;obtain ⟨c,hc,OW,Rx,Ry,OX,Mw⟩:=P2.get' Cp Ii;refine kZ ?_;have DI:=q6.kt L5;have Gx:j<200:=by have:=(Uh.mp hc).1;omega
     have IJ:H5 pd=some (.dT (cp [] prs)):=q5.fr _ _ e2 ET Mr
     have IK:∀ g∈G3,g.2.1≠pd:=fun g hg z=>by
      have:=(L5.ls g hg).2.1;rw [z,IJ] at this;cases this
     have IL:=q6.fr _ _ IJ ET IK
     have OY:H6 OW=some (.tup ((c.1.map UZ).map kV)):=by
      rw [DI _ _ OX,Wi];rfl
     have Ea:=(Same.kt s2).trans ((q5.kt FT).trans DI);refine ⟨ca,_,rfl,SqT.of (DI _ _ Ry),rfl,_,_,rfl,_,_,rfl,Rx,_,rfl,SqT.of (DI _ _ Mw),rfl,_,_,rfl,_,_,rfl,rfl,rfl,?_⟩;refine fk (fun bb H'=>An2 (H6=H') (bb=(aW (cp [] prs) (c.1.map UZ)).isSome)) (fun k2 Br=>?_) (fun H' yW=>?_) (fun H' yW=>?_)
     · exact ⟨_,rfl,_,rfl,pd,_,rfl,DGet.t IL OY,_,rfl,Br _ _ ⟨rfl,rfl⟩⟩
     · refine hid fun ZZ kZ=>?_;obtain ⟨rfl,yW⟩:=yW;obtain ⟨v,hv⟩:=XR.mp yW.symm;obtain ⟨u,ua,hu,rfl,EN⟩:=Mq c.1 v hv;obtain ⟨Hn,Rz⟩:=vX _ f0 [] (Ue _) _ hu;refine kZ ?_;dsimp only at Hn Rz;refine ⟨_,rfl,_,rfl,pd,.ref ua,rfl,by rw [<- hv];exact DGet.t IL OY,ua,u,rfl,EN.mono Ea,by omega,by omega,fun il OZ H7 s7 nil Kk IM=>⟨il,rfl,⟨_,SqL.of Kk⟩,?_⟩⟩;have q7:=q6.same s7;have L7:=q7.lk;have d7:∀ (j':Nat) (c:List Int×Int×Int),j'<j->(callsOf (p.pl []))[j']?=some c->∀ u,(c.1,u)∈f0.pl []->∀ x∈u.pl [],ij H7 G6 (nk c.2.1 x.1) (s:Nat) (c.1++x.1):=fun j' c h1 h2 u h3 x h4=>LSub.kt (Same.kt s7) G6 _ _ _ (d6 j' c h1 h2 u h3 x h4);have Mx:(u.pl []).length=OZ.length:=Up IM;rw [Th.pl_len] at Mx
       have My:∀ g∈G6,g.2.1≠il:=fun g hg z=>by
        have:=(q6.lk.ls g hg).2.1;rw [z,nil] at this;cases this
       have IP:il≠la:=fun z=>by
        obtain ⟨φ,e⟩:=cy L7.dm;rw [z,e] at Kk;cases Kk
       have Cc:=DI.trans (Same.kt s7);have Mz:=(FU.trans (Same.kt s5)).trans Cc
       refine eC (K:=K) (a:=il) (xs:=OZ.map V.ref) (fun m σ H8=>Ex2 fun (Ac:Option V) (G8:LG)=>An3 (σ=[some (.ref b),some (.int ((s:Nat):Int)),some (.ref fa),some (.ref la),some (.ref pd),some (.ref ka),some (.ref pa),some (.ref OW),some (.int c.2.1),some (.int c.2.2),Ac]) (LQ P w ins Al Lk H0 la H7 G6 H8 G8 (N+i * 80000+j * 400+2 * m)) (∀ (m':Nat) (x:List Int×Th),m'<m->(u.pl [])[m']?=some x->ij H8 G8 (nk c.2.1 x.1) (s:Nat) (c.1++x.1)))
        ⟨_,G6,rfl,LQ.refl L7,fun _ _ h=>absurd h (XX _)⟩ (fun m σ H8 _ ⟨_,_,_,q8,_⟩=>SqL.of (q8.fr _ _ Kk IP My)) ?_ ?_
       · rintro m x σ H8 hx ⟨Ac,G8,rfl,q8,d8⟩;refine hid fun ZZ kZ=>?_;obtain ⟨ib,rfl,RA⟩:=aT hx;obtain ⟨y,hy,MA⟩:=P2.get' IM RA;have Tn:m<200:=by have:=(Uh.mp hy).1;rw [Th.pl_len] at this;omega
         have MB:=q8.kt L7;have L8:=q8.lk;have CD:=L8.le;have MC:=MB _ _ MA;have O0:=MB _ _ (Cc _ _ OX);have O1:KAt H8 kd ka:=MB _ _ (Mz _ _ ek);obtain ⟨To,RB⟩:=cy L8.dm;refine kZ ?_;have Ke:c.1.length<=100:=by have:=pZ _ f0 [] (Ue _) _ hu;rw [W0] at this;dsimp only at this;omega
         have Tp:y.1.length<=100:=by have:=pZ _ u [] (Ue _) y (Uc hy);rw [W0] at this;omega
         have O2:nk (s:Nat) (c.1++y.1)∈Al:=BW (c.1++y.1,y.2) (re _ (Ue _) hu (Uc hy));have O3:Lk (nk c.2.1 y.1) (s:Nat) (c.1++y.1) kd c.2.2:=hL i p kd c u y hp hk (Uc hc) hu (Uc hy);refine ⟨_,rfl,⟨la,_,rfl,L8.dm⟩,_,rfl,_,rfl,ak (by show 2<=1000000;decide),fun kp Cb=>?_⟩;have s9:L2.Same H8 (upd H8 kp (.tup [.int c.2.1,.ref ib])):=ad Cb _;have e9:(upd H8 kp (.tup [.int c.2.1,.ref ib])) kp=some (.tup [.int c.2.1,.ref ib]):=ab;dsimp only;generalize (upd H8 kp (.tup [.int c.2.1,.ref ib]))=H9 at s9 e9 ⊢;refine ⟨ak (by show 0<=1000000;decide),fun l0 Cq=>?_⟩;have zk:L2.Same H9 (upd H9 l0 (.lst [])):=ad Cq _;have q9:LQ P w ins Al Lk H0 la H8 G8 H9 G8 (N+i * 80000+j * 400+2 * m):=(LQ.refl L8).same s9;have Kl:=Same.kt (s9.trans zk);refine ⟨la,kp,.ref l0,nk c.2.1 y.1,lkv G8,rfl,rfl,L8.dm.mono (s9.trans zk),kB (zk _ _ e9) ((s9.trans zk) _ _ MC),fx (by unfold lkv;rw [T8];omega),fun u hu=>?_,fun hn zx RC MD=>?_⟩
         · obtain ⟨g,hg,IQ,rfl⟩:=rn hu;have qs:LQ P w ins Al Lk H0 la H8 G8 (upd H9 l0 (.lst [])) G8 (N+i * 80000+j * 400+2 * m+1):=(q9.same zk).up (by omega);generalize (upd H9 l0 (.lst []))=Hs at qs Kl ⊢;have Ls:=qs.lk;refine hid fun ZZ kZ=>?_;obtain ⟨_,gl,gn,_⟩:=Ls.ls g hg;refine kZ ?_;refine ⟨.inl ⟨rfl,_,SqL.of gl⟩,_,rfl,_,rfl,_,rfl,?_⟩;refine mj (Kl _ _ O0) (Kl _ _ MC) (by rw [T8,T8];omega) fun pj zS Ae DJ=>?_;rw [<- Ut] at DJ;refine ⟨_,rfl,_,rfl,ak (by show 4<=1000000;decide),fun en ME=>?_⟩;have zo:L2.Same zS (upd zS en (.tup [.int ((s:Nat):Int),.ref pj,.ref ka,.int c.2.2])):=ad ME _;have Cf:(upd zS en (.tup [.int ((s:Nat):Int),.ref pj,.ref ka,.int c.2.2])) en=some (.tup [.int ((s:Nat):Int),.ref pj,.ref ka,.int c.2.2]):=ab;generalize (upd zS en (.tup [.int ((s:Nat):Int),.ref pj,.ref ka,.int c.2.2]))=Dg at zo Cf ⊢;have BN:=Ae.trans zo;refine ⟨g.2.1,_,_,rfl,rfl,BN _ _ gl,fx (by rw [T8];omega),?_⟩;obtain ⟨IS,has⟩:=(qs.same BN).appG hg (en:=en) ⟨_,_,c.1++y.1,pj,ka,kd,Cf,zo _ _ DJ,(Same.kt BN) _ _ (Kl _ _ O1),Uc hk,O2,by rw [IQ];exact O3⟩;refine ⟨_,_,rfl,(q8.trans IS).up (by omega),fun m' x2 EF BI=>?_⟩;by_cases MF:m'=m
           · rw [MF,hy] at BI;cases BI;have hh:=has _ _ _ _ _ Cf (zo _ _ DJ);rw [IQ] at hh;exact hh
           · exact IS.sub _ _ _ (d8 m' x2 (by omega) BI)
         · have qs:=q9.newG Cq hn RC MD;have MG:=qs.kt L8;refine hid fun ZZ kZ=>?_;obtain ⟨g,hg,IQ,RD⟩:∃ g∈G8++[(nk c.2.1 y.1,l0,[])],g.1=nk c.2.1 y.1/\g.2.1=l0:=⟨_,U6 _ (UM ..),rfl,rfl⟩;refine kZ ?_;rw [<- RD] at qs hg ⊢;have Ls:=qs.lk;refine hid fun ZZ kZ=>?_;obtain ⟨_,gl,gn,_⟩:=Ls.ls g hg;refine kZ ?_;refine ⟨.inl ⟨rfl,_,SqL.of gl⟩,_,rfl,_,rfl,_,rfl,?_⟩;refine mj (MG _ _ O0) (MG _ _ MC) (by rw [T8,T8];omega) fun pj zS Ae DJ=>?_;rw [<- Ut] at DJ;refine ⟨_,rfl,_,rfl,ak (by show 4<=1000000;decide),fun en ME=>?_⟩;have zo:L2.Same zS (upd zS en (.tup [.int ((s:Nat):Int),.ref pj,.ref ka,.int c.2.2])):=ad ME _;have Cf:(upd zS en (.tup [.int ((s:Nat):Int),.ref pj,.ref ka,.int c.2.2])) en=some (.tup [.int ((s:Nat):Int),.ref pj,.ref ka,.int c.2.2]):=ab;generalize (upd zS en (.tup [.int ((s:Nat):Int),.ref pj,.ref ka,.int c.2.2]))=Dg at zo Cf ⊢;have BN:=Ae.trans zo;refine ⟨g.2.1,_,_,rfl,rfl,BN _ _ gl,fx (by rw [T8];omega),?_⟩;obtain ⟨IS,has⟩:=(qs.same BN).appG hg (en:=en) ⟨_,_,c.1++y.1,pj,ka,kd,Cf,zo _ _ DJ,(Same.kt BN) _ _ (MG _ _ O1),Uc hk,O2,by rw [IQ];exact O3⟩;refine ⟨_,_,rfl,(q8.trans IS).up (by omega),fun m' x2 EF BI=>?_⟩;by_cases MF:m'=m
           · rw [MF,hy] at BI;cases BI;have hh:=has _ _ _ _ _ Cf (zo _ _ DJ);rw [IQ] at hh;exact hh
           · exact IS.sub _ _ _ (d8 m' x2 (by omega) BI)
       · rintro σ H8 ⟨Ac,G8,rfl,q8,d8⟩;refine ⟨_,_,_,_,G8,rfl,(q7.trans q8).up (by rw [T8];omega),fun j' c' yS zR u' zZ x2 BI=>?_⟩;by_cases Di:j'=j
         · subst Di;rw [hc] at zR;cases zR;have:u'=u:=qm _ (Ue _) zZ hu;subst this;obtain ⟨m',EF⟩:=UC.mp BI;exact d8 m' x2 (by have:=(Uh.mp EF).1;rw [Th.pl_len] at this;rw [T8];omega) EF
         · exact q8.sub _ _ _ (d7 j' c' (by omega) zR u' zZ x2 BI)
     · obtain ⟨rfl,yW⟩:=yW;refine ⟨_,_,_,_,G6,rfl,q6.up (by omega),fun j' c' yS zR u' zZ x2 BI=>?_⟩;by_cases Di:j'=j
       · subst Di;rw [hc] at zR;cases zR;obtain ⟨a,ha,_⟩:=Mp c.1 u' zZ;rw [ha] at yW;cases yW
       · exact d6 j' c' (by omega) zR u' zZ x2 BI
   · rintro σ H6 ⟨c7,c8,c9,Ac,G6,rfl,q6,d6⟩;refine ⟨_,_,_,_,_,_,G6,rfl,(q5.trans q6).up ?_,?_⟩
     · rw [T8];have:cs.length * 400<=200 * 400:=Zc _ (by omega);omega
     · intro p' zG;rw [Vz,hp] at zG;rcases U8.mp zG with zG | zG
       · exact (d5.sub q6.sub) p' zG
       · cases UH.mp zG;intro c ID;obtain ⟨j',yS⟩:=UC.mp ID;exact d6 j' c (by have:=(Uh.mp yS).1;rw [T8];omega) yS
 · rintro σ H3 ⟨c5,c6,c7,c8,c9,Ac,G3,rfl,q3,d3⟩;rw [T8] at q3 d3;rw [VG (by omega)] at d3;have hmul:yI.length * 80000<=8 * 80000:=Zc _ (by omega);exact q G3 H3 ((Same.kt Bp).trans (q3.kt FT)) (q3.lk.up (by omega)) ((LSub.kt (Same.kt Bp) G).trans q3.sub) d3
theorem mW (k:Key) (v:V):jE [] [(k,v)]=[(k,v)]:=rfl
theorem pH {H:Hp} {ins:List (UP×Int)} {n:Nat} {kid:Int} {t:Th} {a:Ud} (h:At H t a):vN H ins [(UZ kid,.ref a)] (b9 ins n kid t):=fun i u hu=>by
 unfold b9 at hu;rw [Ul,UN] at hu;obtain ⟨j,hj,rfl⟩:=hu;have Tq:j<n:=by have:=WO.mp (Uc hj);exact this
 have EI:i=j:=by
  have hi:i<n:=by have:=(Uh.mp hj).1;rwa [UW] at this
  rw [Va hi] at hj;exact UQ hj
 subst EI;by_cases hk:(i:Int)=kid
 · rw [if_pos hk];exact .inl ⟨a,by rw [bO (by rw [hk])],h⟩
 · rw [if_neg hk];exact .inr ⟨by rw [bU (fun z=>hk (Xh z).symm)];rfl,rfl⟩
def SpI (P:Uv) (w:UK) (Vl:VlT) (H:Hp) (ia la pt hl:Ud) (G:LG) (f':List (aD×V)) (Al:List aD) (m:Nat) (σ:St) (H2:Hp):Prop:=∃ (i:Nat) (zK:List (aD×V)) (BO:List Ud) (c5 c6 c7 c8 c9 Ac:Option V),σ=[some (.ref ia),some (.ref la),some (.ref pt),some (.ref hl),some (.int (i:Nat)),c5,c6,c7,c8,c9,Ac]/\But pt H H2/\H2 hl=some (.lst (BO.map V.ref))/\Pt P w Vl H2 pt zK Al/\UR (fun k b=>MKAt H2 k b) (zK.map (·.1)) BO/\(∀ k∈f'.map (·.1),k∈zK.map (·.1))/\i<=zK.length/\(∀ (j:Nat) (k:aD),j<i->(zK.map (·.1))[j]?=some k->∀ s pl,ij H2 G k s pl->nk s pl∈zK.map (·.1))/\m=Al.length+1 - i
inductive lY (P:Uv) (w:UK) (vs:List V) (H:Hp) (Q:VK) (_E:XK):Prop
 | mk (ia la pt:Ud) (yI:List Ud) (ins:List (UP×Int)) (G:LG) (f':List (aD×V)) (Al:List aD) (Vl:VlT) (Lk:LkT) (yL:vs=[.ref ia,.ref la,.ref pt]) (yM:H ia=some (.tup (yI.map V.ref))) (yR:KsAt H ins yI) (yY:bZ ins) (zf:LkR P w ins Al Lk H la G) (zY:Pt P w Vl H pt f' Al) (BD:Al.length<=1000000) (BX:pt≠la) (D4:(∀ (i j:Nat) (k:aD) (t1 t2:Th) (s:Int) (pl:List Int) (kd:UP×Int) (kid:Int),i<j->Vl i k t1 t2->kd∈ins->Lk k s pl kd kid->Vl j (nk s pl) (.knot kd.1 (b9 ins kd.2.toNat kid t1)) (.knot kd.1 (b9 ins kd.2.toNat kid t2)))) (GG:∀ (zB:List (aD×V)) (H':Hp),But pt H H'->Pt P w Vl H' pt zB Al->(∀ k∈f'.map (·.1),k∈zB.map (·.1))->(∀ k∈zB.map (·.1),∀ s pl,ij H' G k s pl->nk s pl∈zB.map (·.1))->Q .non H'):lY P w vs H Q _E
def tG (P:Uv) (w:UK):Sp:=lY P w
set_option maxHeartbeats 4000000 in
theorem tw:bf P w K mg base CX0 3 T.g_spread.f T.g_spread.d ["ins","links","partings"] (tG P w):=by
 refine T.g_spread.F.ok ck (fun vs H Q E h=>?_) (fun yJ A outer s0 H vs Q E hr h=>?_)
 · obtain ⟨ia,la,pt,yI,ins,G,f',Al,Vl,Lk,rfl,_⟩:=h;rfl
 obtain ⟨ia,la,pt,yI,ins,G,f',Al,Vl,Lk,rfl,ei,AG,g,R,ER,Kg,yU,hS,q⟩:=h
 refine ⟨_,(ae (av (i:=3) ck.nd rfl (Ux rfl) (de (qf rfl) rfl T.n_list X4 (aa (pv 2) ac)))
  (ae (av (i:=4) ck.nd rfl (Ux rfl) af)
  (ag (dU UO (aH mX (pv 4) (aw ai rfl T.n_len UE (aa (pv 3) ac)) (aO _)) (ae (cP (pz (gj hr) (pv 2) (ax aN (pv 3) (pv 4) (fun _ _=>rfl)) (fun _ _=>rfl)) (bA rfl (au (aj (i:=5) ck.nd rfl (Ux rfl)) (au (aj (i:=6) ck.nd rfl (Ux rfl)) aY))))
  (ae (bm UO rfl (cn (ss (gj hr) (pv 1) (ax aN (pv 3) (pv 4) (fun _ _=>rfl)) (bC ac) ⟨rfl,rfl,rfl,rfl⟩)) (bA rfl (au (aj (i:=7) ck.nd rfl (Ux rfl)) (au (aj (i:=8) ck.nd rfl (Ux rfl)) (au (aj (i:=9) ck.nd rfl (Ux rfl)) (au (aj (i:=10) ck.nd rfl (Ux rfl)) aY))))) (ag (bq (qM (qL (gj hr) (aK (aa (pv 7) (aa (pv 8) ac))) (pv 2))) (ae (uh (gj hr) (pv 2) (aK (aa (pv 7) (aa (pv 8) ac))) (aK (aa (pcF T.g_knot_above (eQ T) hr (aa (pv 0) (aa (pv 9) (aa (rj (pI (pv 10) (pv 5) rK) rfl rfl (by decide) (by decide)) ac)))) (aa (pcF T.g_knot_above (eQ T) hr (aa (pv 0) (aa (pv 9) (aa (rj (pI (pv 10) (pv 6) rK) rfl rfl (by decide) (by decide)) ac)))) ac))) rfl)
  (ag (aQ (bL Ur UJ UI aP (pv 3) (aa (aK (aa (pv 7) (aa (pv 8) ac))) ac))))) aZ)))
  (ag (wy (i:=4) ck.nd rfl (Ux rfl) af wX)))))))),?_⟩
 try dsimp only [yZ,yE]
 obtain ⟨φ,D6⟩:=cy ER.dm;have An:ins.length=yI.length:=Up AG;refine ⟨_,rfl,pt,f',rfl,ER.dm,fun hl bs ES y8=>?_⟩;have s1:L2.Same H (upd H hl (.lst (bs.map V.ref))):=ad ES _;have e1:(upd H hl (.lst (bs.map V.ref))) hl=some (.lst (bs.map V.ref)):=ab;generalize (upd H hl (.lst (bs.map V.ref)))=H1 at s1 e1 ⊢;have O4:hl≠pt:=fun z=>by rw [z,D6] at ES;cases ES
 have MH:UR (fun k b=>MKAt H1 k b) (f'.map (·.1)) bs:=P2.mapl _ (P2.mp (fun _ _ e=>e.mono (Same.kt s1)) y8);refine ⟨SpI P w Vl H ia la pt hl G f' Al,⟨_,0,f',bs,none,none,none,none,none,none,rfl,Same.but s1,e1,ER.same s1,MH,fun _ h=>h,UL _,fun _ _ h=>absurd h (XX _),rfl⟩,?_⟩;rintro m σ H2 ⟨i,zK,BO,c5,c6,c7,c8,c9,Ac,rfl,b2,BP,Ak,FV,EU,Iu,Bz,rfl⟩;have MI:(zK.map (·.1)).length=BO.length:=Up FV;rw [T8] at MI;have Tr:=Ak.len;have Mc:=b2.kt D6;obtain ⟨Km,Cg⟩:=cy Ak.dm;refine ⟨_,rfl,_,rfl,hl,_,rfl,.inl (SqL.of BP),_,_,rfl,rfl,?_⟩;refine ⟨_,rfl,?_⟩;refine cB (fun cc=>?_) (fun cc=>?_)
 · have yK:i<BO.length:=by
    have:=of_decide_eq_true cc;rw [T8] at this;omega
   refine hid fun ZZ kZ=>?_;obtain ⟨bk,Kn⟩:∃ bk,BO[i]?=some bk:=⟨_,Ua yK⟩;obtain ⟨k,hk,FO⟩:=P2.get' FV Kn
   obtain ⟨v,hv⟩:∃ v,aW zK k=some v:=by
    cases Eb:aW zK k with
    | none=>exact absurd (Uc hk) (di Eb)
    | some v=>exact ⟨v,rfl⟩
   obtain ⟨kv,GK,IT⟩:∃ kv,zK[i]?=some kv/\kv.1=k:=by
    rw [Ul,UN] at hk;exact hk
   obtain ⟨pr,ta,tb,t1,t2,ev,Cz,AF,IU,O5⟩:=Ak.vl i kv GK;refine kZ ?_;rw [<- IT] at hv;rw [<- rD Ak.nd GK hv] at ev;subst ev;rw [IT] at hv O5;have DK:atI (BO.map V.ref) ((i:Nat):Int)=some (.ref bk):=cu (by rw [Ul,Kn];rfl);refine ⟨fun yA H'=>∃ m',m'<Al.length+1 - i/\SpI P w Vl H ia la pt hl G f' Al m' yA H',fun yA H' h=>h,?_⟩;refine ⟨_,rfl,_,rfl,_,rfl,hl,_,_,.ref bk,rfl,rfl,SqL.of BP,DK,?_⟩;refine ⟨pt,bk,k,zK,.ref pr,rfl,rfl,Ak.dm,FO,hv,?_⟩;refine ⟨pr,_,rfl,SqT.of Cz,rfl,_,_,rfl,_,_,rfl,rfl,?_⟩;dsimp only [aG];have R2:=R.but b2 D6 yU
   -- Bm links of this one
   refine jD (fun yA H'=>Ex6 fun (Ad:List (aD×V)) (Bl:List Ud) (d7 d8 d9 GL:Option V)=>An8 (yA=[some (.ref ia),some (.ref la),some (.ref pt),some (.ref hl),some (.int (i:Nat)),some (.ref ta),some (.ref tb),d7,d8,d9,GL]) (But pt H H') (KT H2 H') (H' hl=some (.lst (Bl.map V.ref))) (Pt P w Vl H' pt Ad Al) (UR (fun k b=>MKAt H' k b) (Ad.map (·.1)) Bl) ((∃ more,Ad.map (·.1)=zK.map (·.1)++more)) (∀ s pl,ij H' G k s pl->nk s pl∈Ad.map (·.1))) (fun kk CA=>?_) ?_
   · refine ⟨_,rfl,la,_,rfl,R2.dm,_,rfl,_,rfl,hl,_,_,.ref bk,rfl,rfl,SqL.of BP,DK,ak (by show 0<=1000000;decide),fun l0 Cq=>?_⟩;have s3:L2.Same H2 (upd H2 l0 (.lst [])):=ad Cq _;have e3:(upd H2 l0 (.lst [])) l0=some (.lst (([]:List Ud).map V.ref)):=ab;generalize (upd H2 l0 (.lst []))=H3 at s3 e3 ⊢;have R3:=R2.but (Same.but s3 (p:=pt)) Cg yU;have MJ:l0≠hl:=fun z=>by rw [z,BP] at Cq;cases Cq
     refine ⟨la,bk,k,lkv G,rfl,rfl,R3.dm,FO.mono (Same.kt s3),?_⟩;refine hid fun ZZ kZ=>?_
     obtain ⟨l,as,el,O6,RE,RF,hle,RG⟩:∃ (l:Ud) (as:List Ud),(aW (lkv G) k).getD (.ref l0)=.ref l/\H3 l=some (.lst (as.map V.ref))/\l≠hl/\l≠pt/\(∀ a∈as,LE H3 ins Al Lk k a)/\∀ s pl,ij H3 G k s pl->∃ a∈as,∃ (pa ka:Ud) (kid:Int),H3 a=some (.tup [.int s,.ref pa,.ref ka,.int kid])/\H3 pa=some (.tup (pl.map V.int)):=by
      have Ci:H3 pt=some (.ext Km):=s3 _ _ Cg;cases O7:aW (lkv G) k with
      | none=>exact ⟨l0,[],rfl,e3,MJ,(fun z=>by rw [z,Ci] at e3;cases e3),(fun a ha=>by cases ha),fun s pl hh=>absurd hh (tL O7)⟩
      | some u =>
        obtain ⟨g,hg,rfl,rfl⟩:=rn O7;obtain ⟨h1,h2⟩:=R3.ls g hg;refine ⟨g.2.1,g.2.2,rfl,h1,(fun z=>?_),(fun z=>by rw [z,Ci] at h1;cases h1),h2,fun s pl hh=>R3.at hg hh⟩;have:=(R.ls g hg).1;rw [z,ES] at this;cases this
     refine kZ ?_;rw [el];refine ⟨l,rfl,⟨_,SqL.of O6⟩,?_⟩;have b3:=b2.trans (Same.but s3 (p:=pt))
     refine eC (K:=K) (a:=l) (xs:=as.map V.ref) (fun j σ H4=>Ex6 fun (Ad:List (aD×V)) (Bl:List Ud) (d7 d8 d9 GL:Option V)=>An8 (σ=[some (.ref ia),some (.ref la),some (.ref pt),some (.ref hl),some (.int (i:Nat)),some (.ref ta),some (.ref tb),d7,d8,d9,GL]) (But pt H H4) ((∀ c o,c≠pt->c≠hl->H3 c=some o->H4 c=some o)) (H4 hl=some (.lst (Bl.map V.ref))) (Pt P w Vl H4 pt Ad Al) (UR (fun k b=>MKAt H4 k b) (Ad.map (·.1)) Bl) ((∃ more,Ad.map (·.1)=zK.map (·.1)++more)) (∀ (j':Nat) (a:Ud),j'<j->as[j']?=some a->∀ (s:Int) (pl:List Int) (pa ka:Ud) (kid:Int),H3 a=some (.tup [.int s,.ref pa,.ref ka,.int kid])->H3 pa=some (.tup (pl.map V.int))->nk s pl∈Ad.map (·.1)))
      ⟨zK,BO,_,_,_,_,rfl,b3,fun _ _ _ _ e=>e,s3 _ _ BP,Ak.same s3,P2.mp (fun _ _ e=>e.mono (Same.kt s3)) FV,⟨[],by rw [U0]⟩,fun _ _ h=>absurd h (XX _)⟩ (fun j σ H4 _ ⟨_,_,_,_,_,_,_,_,f4,_,_,_,_,_⟩=>SqL.of (f4 _ _ RF RE O6)) ?_ ?_
     · rintro j x σ H4 hx ⟨Ad,Bl,d7,d8,d9,GL,rfl,b4,f4,Cj,zX,BQ,zp,yG⟩;have Ci:H3 pt=some (.ext Km):=s3 _ _ Cg;have BR:KT H3 H4:=fun c ys ec=>f4 c _ (fun z=>by rw [z,Ci] at ec;cases ec) (fun z=>by rw [z,s3 _ _ BP] at ec;cases ec) ec;have Ec:=(Same.kt s3).trans BR;have MK:=Mc.trans Ec;refine hid fun ZZ kZ=>?_;obtain ⟨Tt,ML⟩:=cy zX.dm;have RH:=zX.len;have MM:(Ad.map (·.1)).length=Bl.length:=Up BQ;rw [T8] at MM;obtain ⟨a,rfl,ha⟩:=aT hx;obtain ⟨s',kid,pl,pa,ka,kd,g1,g2,g3,g4,g5,g6⟩:=hle a (Uc ha);refine kZ ?_;have ea:=BR _ _ g1;have AQ:=BR _ _ g2;have O8:KAt H4 kd ka:=BR _ _ g3
       have IV:∀ (s:Int) (Aq:List Int) (DB C2:Ud) (AS:Int),H3 a=some (.tup [.int s,.ref DB,.ref C2,.int AS])->H3 DB=some (.tup (Aq.map V.int))->nk s Aq=nk s' pl:=fun s Aq DB C2 AS h1 h2=>by
        rw [g1] at h1;cases h1;rw [g2] at h2;have:pl=Aq:=oQ (by injection h2 with h3;injection h3);rw [this]
       refine ⟨a,_,rfl,SqT.of ea,rfl,_,_,rfl,_,_,rfl,_,_,rfl,_,_,rfl,rfl,?_⟩;dsimp only [aG];refine fk (fun bb H'=>An2 (L2.Same H4 H') (bb=!(aW Ad (nk s' pl)).isSome)) (fun k2 Br=>?_) (fun H5 yW=>?_) (fun H5 yW=>?_)
       · refine ⟨_,rfl,_,rfl,ak (by show 2<=1000000;decide),fun kp Cb=>?_⟩;have s5:=ad Cb (.tup [.int s',.ref pa]);exact ⟨_,rfl,pt,kp,nk s' pl,Ad,rfl,rfl,zX.dm.mono s5,kB ab (s5 _ _ AQ),_,rfl,Br _ _ ⟨s5,rfl⟩⟩
       · obtain ⟨s5,yW⟩:=yW
         have hn:aW Ad (nk s' pl)=none:=by
          cases Eb:aW Ad (nk s' pl) with
          | none=>rfl
          | some u=>rw [Eb] at yW;cases yW
         have IW:=MK.trans (Same.kt s5);have D0:=Ec.trans (Same.kt s5)
         -- Bm first tree
         refine ⟨_,rfl,_,rfl,fun dd Kh=>?_⟩;refine ⟨_,rfl,_,rfl,ab,[(UZ kid,.ref ta)],rfl,(by show 1<=15;decide),?_⟩;rw [mW];have s6:L2.Same H5 (upd (upd H5 dd (.dK [])) dd (.dK [(UZ kid,.ref ta)])):=ay (ad Kh _) Kh;have e6:(upd (upd H5 dd (.dK [])) dd (.dK [(UZ kid,.ref ta)])) dd=some (.dK [(UZ kid,.ref ta)]):=ab;generalize (upd (upd H5 dd (.dK [])) dd (.dK [(UZ kid,.ref ta)]))=H6 at s6 e6 ⊢;have Ea:=IW.trans (Same.kt s6);refine ⟨ia,ka,dd,yI,ins,kd,_,b9 ins kd.2.toNat kid t1,rfl,Ea _ _ ei,AG.mono Ea,g,(s5.trans s6) _ _ O8,g4,e6,iU ..,pH (AF.mono (D0.trans (Same.kt s6))),fun r1 H7 s7 L3=>?_⟩
         -- Bm second
         refine ⟨_,rfl,_,rfl,fun d2 hd2=>?_⟩;refine ⟨_,rfl,_,rfl,ab,[(UZ kid,.ref tb)],rfl,(by show 1<=15;decide),?_⟩;rw [mW];have s8:L2.Same H7 (upd (upd H7 d2 (.dK [])) d2 (.dK [(UZ kid,.ref tb)])):=ay (ad hd2 _) hd2;have e8:(upd (upd H7 d2 (.dK [])) d2 (.dK [(UZ kid,.ref tb)])) d2=some (.dK [(UZ kid,.ref tb)]):=ab;generalize (upd (upd H7 d2 (.dK [])) d2 (.dK [(UZ kid,.ref tb)]))=H8 at s8 e8 ⊢;have D2:=s6.trans (s7.trans s8);have Ce:=IW.trans (Same.kt D2);refine ⟨ia,ka,d2,yI,ins,kd,_,b9 ins kd.2.toNat kid t2,rfl,Ce _ _ ei,AG.mono Ce,g,(s5.trans D2) _ _ O8,g4,e8,iU ..,pH (IU.mono (D0.trans (Same.kt D2))),fun r2 H9 s9 Fy=>?_⟩;refine ⟨ak (by show 2<=1000000;decide),fun p2 AO=>?_⟩;have zk:L2.Same H9 (upd H9 p2 (.tup [.ref r1,.ref r2])):=ad AO _;have FE:(upd H9 p2 (.tup [.ref r1,.ref r2])) p2=some (.tup [.ref r1,.ref r2]):=ab;generalize (upd H9 p2 (.tup [.ref r1,.ref r2]))=zx at zk FE ⊢;refine ⟨_,rfl,_,rfl,_,rfl,ak (by show 2<=1000000;decide),fun kp Cb=>?_⟩;have Ae:L2.Same zx (upd zx kp (.tup [.int s',.ref pa])):=ad Cb _;have DJ:(upd zx kp (.tup [.int s',.ref pa])) kp=some (.tup [.int s',.ref pa]):=ab;generalize (upd zx kp (.tup [.int s',.ref pa]))=zS at Ae DJ ⊢;have Ck:=s5.trans (D2.trans (s9.trans (zk.trans Ae)));have EV:=zX.same Ck;refine ⟨pt,kp,nk s' pl,Ad,rfl,rfl,EV.dm,kB DJ (Ck _ _ AQ),fx (by omega),fun Dg MN MO=>?_⟩;have Ko:But pt zS Dg:=MN
         have MP:i<Ad.length:=by
          obtain ⟨more,hm⟩:=id zp;have:=congrArg W7 hm;rw [T8,UA,T8] at this;omega
         obtain ⟨RI,FW⟩:=EV.put hn Ko MO ⟨p2,r1,r2,_,_,rfl,Ae _ _ FE,L3.mono (Same.kt (s8.trans (s9.trans (zk.trans Ae)))),Fy.mono (Same.kt (zk.trans Ae)),hS i _ k t1 t2 s' pl kd kid MP O5 g4 g6⟩ g5;have Dj:Dg hl=some (.lst (Bl.map V.ref)):=Ko _ _ O4 (Ck _ _ Cj);have EW:KT H4 Dg:=(Same.kt Ck).trans (Ko.kt (Ck _ _ ML));dsimp only [aG];refine ⟨_,rfl,.inl ⟨rfl,_,SqL.of Dj⟩,_,rfl,_,rfl,ak (by show 2<=1000000;decide),fun EX MQ=>?_⟩;have Ed:L2.Same Dg (upd Dg EX (.tup [.int s',.ref pa])):=ad MQ _;have Kp:(upd Dg EX (.tup [.int s',.ref pa])) EX=some (.tup [.int s',.ref pa]):=ab;generalize (upd Dg EX (.tup [.int s',.ref pa]))=D' at Ed Kp ⊢;refine ⟨hl,_,_,rfl,rfl,Ed _ _ Dj,fx (by rw [T8];omega),?_⟩;have Ee:KT D' (upd D' hl (.lst (Bl.map V.ref++[.ref EX]))):=aU (Ed _ _ Dj);have IX:=(EW.trans (Same.kt Ed)).trans Ee;have GJ:=RI.same Ed;have RJ:Pt P w Vl (upd D' hl (.lst (Bl.map V.ref++[.ref EX]))) pt _ Al:=⟨rW GJ.dm Ee fun o eo=>by rw [am O4.symm];exact eo,GJ.nd,GJ.al,fun j p hp=>(GJ.vl j p hp).mono Ee⟩;obtain ⟨more,zp⟩:=zp
         have go:∀ c o,c≠pt->c≠hl->H4 c=some o->(upd D' hl (.lst (Bl.map V.ref++[.ref EX]))) c=some o:=fun c o h1 h2 e=>by
          rw [am h2];exact Ed _ _ (Ko _ _ h1 (Ck _ _ e))
         refine ⟨_,Bl++[EX],_,_,_,_,rfl,fun c o hc e=>go c o hc (fun z=>by rw [z,ES] at e;cases e) (b4 _ _ hc e),fun c o h1 h2 e=>go c o h1 h2 (f4 c o h1 h2 e),by rw [ab,Ut];rfl,RJ,?_,⟨more++[nk s' pl],by rw [FW,zp,Ve]⟩,fun j' a' yS B6 s Aq DB C2 AS h1 h2=>?_⟩
         · rw [FW];exact P2.append (P2.mp (fun _ _ e=>e.mono IX) BQ) (.cons ((kB Kp (Ed _ _ (EW _ _ AQ))).mono Ee) .nil)
         · rw [FW];by_cases Di:j'=j
           · rw [Di,ha] at B6;cases B6;rw [IV s Aq DB C2 AS h1 h2];exact U6 _ (UM ..)
           · exact Vf _ (yG j' a' (by omega) B6 s Aq DB C2 AS h1 h2)
       · obtain ⟨s5,yW⟩:=yW
         obtain ⟨u,hu⟩:∃ u,aW Ad (nk s' pl)=some u:=by
          cases Eb:aW Ad (nk s' pl) with
          | none=>rw [Eb] at yW;cases yW
          | some u=>exact ⟨u,rfl⟩
         refine ⟨Ad,Bl,_,_,_,_,rfl,b4.trans (Same.but s5),fun c o h1 h2 e=>s5 _ _ (f4 c o h1 h2 e),s5 _ _ Cj,zX.same s5,P2.mp (fun _ _ e=>e.mono (Same.kt s5)) BQ,zp,fun j' a' yS B6 s Aq DB C2 AS h1 h2=>?_⟩;by_cases Di:j'=j
         · rw [Di,ha] at B6;cases B6;rw [IV s Aq DB C2 AS h1 h2];exact Vb.mpr ⟨_,fo hu,rfl⟩
         · exact yG j' a' (by omega) B6 s Aq DB C2 AS h1 h2
     · rintro σ H4 ⟨Ad,Bl,d7,d8,d9,GL,rfl,b4,f4,Cj,zX,BQ,zp,yG⟩;have Ci:H3 pt=some (.ext Km):=s3 _ _ Cg;have BR:KT H3 H4:=fun c ys ec=>f4 c _ (fun z=>by rw [z,Ci] at ec;cases ec) (fun z=>by rw [z,s3 _ _ BP] at ec;cases ec) ec;refine CA _ _ ⟨Ad,Bl,_,_,_,_,rfl,b4,(Same.kt s3).trans BR,Cj,zX,BQ,zp,fun s pl hh=>?_⟩;refine hid fun ZZ kZ=>?_;obtain ⟨a,ha,pa,ka,kid,h1,h2⟩:=RG s pl (R3.back BR hh);obtain ⟨j',yS⟩:=UC.mp ha;refine kZ ?_;exact yG j' a (by have:=(Uh.mp yS).1;rw [T8];exact this) yS s pl pa ka kid h1 h2
   · rintro yA H4 ⟨Ad,Bl,d7,d8,d9,GL,rfl,b4,Ec,Cj,zX,BQ,⟨more,zp⟩,MR⟩;have RH:=zX.len;have hlen:=congrArg W7 zp;rw [T8,UA,T8] at hlen;refine ⟨_,rfl,_,_,rfl,rfl,Al.length+1 - (i+1),by omega,i+1,Ad,Bl,_,_,_,_,_,_,rfl,b4,Cj,zX,BQ,fun k' zV=>by rw [zp];exact Vf _ (EU k' zV),by omega,fun j k' hj zV s pl hh=>?_,rfl⟩;have BG:j<(zK.map (·.1)).length:=by rw [T8];omega
     have Br:(zK.map (·.1))[j]?=some k':=by rw [zp,Wl BG] at zV;exact zV
     by_cases IY:j=i
     · rw [IY,hk] at Br;cases Br;exact MR s pl hh
     · rw [zp];exact Vf _ (Bz j k' (by omega) Br s pl (R2.back Ec hh))
 · have Tu:¬ i<BO.length:=fun z=>cc (decide_eq_true (by rw [T8];omega));refine q zK H2 b2 Ak EU fun k hk s pl hh=>?_;obtain ⟨j,hj⟩:=UC.mp hk;exact Bz j k (by have:=(Uh.mp hj).1;rw [T8] at this;omega) hj s pl hh
inductive ir (P:Uv) (w:UK) (K:Ub) (vs:List V) (H:Hp) (Q:VK) (_E:XK):Prop
 | mk (fa pt:Ud) (s:Nat) (t:Th) (f':List (aD×V)) (Al:List aD) (Vl:VlT) (yL:vs=[.ref fa,.int (s:Nat),.ref pt]) (yM:AtK K H t fa) (yR:t.size<=200) (yY:t.tall<=100) (zf:t.noCall) (zY:Pt P w Vl H pt f' Al) (BD:∀ (r:Ud) (H':Hp),L2.Same H H'->AtK K H' (t.cut (Dk f' (s:Nat)) []) r->Q (.ref r) H'):ir P w K vs H Q _E
def i9 (P:Uv) (w:UK) (K:Ub):Sp:=ir P w K
def xz (K:Ub) (D:List Int->Bool) (fa pt tl ah:Ud) (s:Nat) (t:Th) (H:Hp) (m:Nat) (σ:St) (H3:Hp):Prop:=∃ (ts as:List Ud) (Ts:List Th) (As:List (List Int×Th)) (c5 c6 c7:Option V),σ=[some (.ref fa),some (.int (s:Nat)),some (.ref pt),some (.ref tl),some (.ref ah),c5,c6,c7]/\L2.Same H H3/\H3 tl=some (.lst (ts.map V.ref))/\H3 ah=some (.lst (as.map V.ref))/\UR (TopAtK K H3) (Ts.map (eJ Th.call)) ts/\PsAtK K H3 As as/\Ts++i0 D As.reverse=(t.cut D []).walk/\(∀ p∈As,p.1.length+p.2.tall<=100/\p.2.noCall)/\Ts.length+szP As<=200/\m=szP As
set_option maxHeartbeats 4000000 in
theorem nN:bf P w K mg base CX0 3 T.g_cut_front.f T.g_cut_front.d ["front","state","partings"] (i9 P w K):=by
 refine T.g_cut_front.F.ok cA (fun vs H Q E h=>?_) (fun yJ A outer s0 H vs Q E hr h=>?_)
 · obtain ⟨fa,pt,s,t,f',Al,Vl,rfl,_⟩:=h;rfl
 obtain ⟨fa,pt,s,t,f',Al,Vl,rfl,hA,hsz,zb,FY,ER,k⟩:=h
 refine ⟨_,(ae (av (i:=3) cA.nd rfl (Ux rfl) (bC ac))
  (ae (av (i:=4) cA.nd rfl (Ux rfl) (bC (aa (aK (aa (aK ac) (aa (pv 0) ac))) ac)))
  (ae (dU UO (aV (pv 4) (fun _=>rfl)) (ae (cP (jN Ur WS WR jF (pv 4)) (bA rfl (au (aj (i:=5) cA.nd rfl (Yt rfl)) (au (aj (i:=6) cA.nd rfl (Ux rfl)) aY))))
  (ag (bq (PW.pt (dA (aV (pcF T.g_is_hole (i3 T) hr (aa (pv 6) ac)) (fun _=>rfl)) (dl (qM (uW (gj hr) (aK (aa (pv 1) (aa (pv 5) ac))) (pv 2)))))) (ag (aQ (bL Ur UJ UI aP (pv 3) (aa (aK (aa (g8 (v:=.ref T.a_HOLE) rfl T.c_HOLE rfl) (aa af ac))) ac)))) (ae (aQ (bL Ur UJ UI aP (pv 3) (aa (aK (aa (bB qV (pv 6) bY (bF af)) (aa (az gh (aw ai rfl T.n_len UE (aa (pv 6) ac)) af) ac))) ac)))
  (ae (fO (i:=7) (N:=[Ui "number",Ui "kid",Ui "place"]) (js:=[none,none,some 5]) (g:=(mr K 2 (db (aG 0) (db (aG 1) mC)))) (tt:=bK) (te:=(kj (bu (tOp (lO K) (bx 2) (kj (bu (bx 0) d4))) (bu (bx 1) d4)))) cA.nd rfl (Ux rfl) rfl (cG rfl (by decide +kernel) (by decide +kernel) rfl rfl rfl) (n5 rfl T.n_enumerate (bB eT (pv 6) (bF af) bY)) (fun _ _ _ _ _ _=>(bA rfl (au (aj (i:=0) uU rfl (Ux rfl)) (au (aj (i:=1) uU rfl (Ux rfl)) aY)))) (gM (bW aX (aS rfl) (bW aX (aS rfl) gC))) (fun _ _ _ _ _ _=>bS) (fun _ _ _ _ _ _=>(aK (aa (az dz (pv 2) (aK (aa (pv 0) ac))) (aa (pv 1) ac)))))
  (ag (aQ (bL Ur W9 W8 g9 (pv 4) (aa (lU rfl rfl T.n_list rfl T.n_reversed (pv 7)) ac))))))))))
  (ag (aA (pcF T.g_built (lC T) hr (aa (pv 3) ac))))))),?_⟩
 try dsimp only [yZ,yE]
 generalize RK:Dk f' (s:Nat)=D at k;refine ⟨ak (by show 0<=1000000;decide),fun tl FZ=>?_⟩;have s1:L2.Same H (upd H tl (.lst [])):=ad FZ _;have FC:(upd H tl (.lst [])) tl=some (.lst []):=ab;generalize upd H tl (.lst [])=H1 at s1 FC ⊢;refine ⟨ak (by show 0<=1000000;decide),fun p0 DC=>?_⟩;refine ⟨_,rfl,ak (by show 2<=1000000;decide),fun p1 AN=>?_⟩;refine ⟨ak (by show 1<=1000000;decide),fun ah AU=>?_⟩;have s2:L2.Same H1 (upd (upd H1 p0 (.tup [])) p1 (.tup [.ref p0,.ref fa])):=(ad DC _).trans (ad AN _);have e1:(upd (upd H1 p0 (.tup [])) p1 (.tup [.ref p0,.ref fa])) p1=some (.tup [.ref p0,.ref fa]):=ab;have e0:(upd (upd H1 p0 (.tup [])) p1 (.tup [.ref p0,.ref fa])) p0=some (.tup []):=ad AN _ _ _ ab;generalize (upd (upd H1 p0 (.tup [])) p1 (.tup [.ref p0,.ref fa]))=H2 at s2 e1 e0 AU ⊢;have BJ:H1 ah=none:=s2.free AU;have AE:H ah=none:=s1.free BJ;have yU:ah≠tl:=fun z=>by rw [z,FC] at BJ;cases BJ
 have RL:szP [(([]:List Int),t)]=t.size:=by rw [szP,szP];rfl
 refine ⟨xz K D fa pt tl ah s t H,⟨_,[],[p1],[],[([],t)],none,none,none,rfl,ay (s1.trans s2) AE,by rw [am yU.symm];exact s2 _ _ FC,by rw [ab];rfl,.nil,.cons ⟨p0,fa,ad AU _ _ _ e1,ad AU _ _ _ e0,hA.mono (Same.kt (ay (s1.trans s2) AE))⟩ .nil,by show []++((t.cut D []).walk++[])=_;rw [Wc,U0],fun p hp=>by rw [UH.mp hp];exact ⟨by simpa using zb,FY⟩,by rw [RL];simpa using hsz,rfl⟩,?_⟩;rintro m σ H3 ⟨ts,as,Ts,As,c5,c6,c7,rfl,sm,em,ea,a1,a2,hw,hb,hlen,rfl⟩;have Tv:Ts.length=ts.length:=by have:=Up a1;rwa [T8] at this
 refine ⟨_,rfl,_,.inl ⟨_,SqL.of ea,rfl⟩,?_⟩;refine cB (fun c=>?_) (fun c=>?_)
 · refine ⟨fun yA H'=>∃ m',m'<szP As/\xz K D fa pt tl ah s t H m' yA H',fun yA H' h=>h,?_⟩;have zI:as≠[]:=by intro z;subst z;simp at c
   refine hid fun ZZ kZ=>?_;obtain ⟨yO,b,rfl⟩:∃ yO b,as=yO++[b]:=⟨as.dropLast,as.getLast zI,(Wd zI).symm⟩;obtain ⟨Us,⟨pre,x⟩,rfl,a3,pa,ta,eb,AQ,AF⟩:=P2.snoc_inv a2;have DW:szP (Us++[(pre,x)])=szP Us+x.size:=by rw [cJ,szP,szP];rfl
   have Ia:=x.size_eq;rw [DW] at hlen;obtain ⟨J8,IZ⟩:=hb (pre,x) (by simp);refine kZ ?_;simp only at J8 IZ AQ AF;have OL:Us.length=yO.length:=Up a3;have q4:=nS Us;refine ⟨_,rfl,.inl ⟨rfl,_,SqL.of ea⟩,ah,_,.ref b,rfl,rfl,ea,by simp,?_⟩;have d1:((yO++[b]).map V.ref).dropLast=yO.map V.ref:=by simp
   rw [d1];have k1:KT H3 (upd H3 ah (.lst (yO.map V.ref))):=aU ea;have Cy:L2.Same H (upd H3 ah (.lst (yO.map V.ref))):=ay sm AE;have BZ:(upd H3 ah (.lst (yO.map V.ref))) tl=some (.lst (ts.map V.ref)):=by rw [am yU.symm];exact em
   have FD:(upd H3 ah (.lst (yO.map V.ref))) ah=some (.lst (yO.map V.ref)):=ab;generalize (upd H3 ah (.lst (yO.map V.ref)))=H4 at k1 Cy BZ FD ⊢;refine ⟨b,_,rfl,SqT.of (k1 _ _ eb),rfl,_,_,rfl,_,_,rfl,rfl,?_⟩
   try dsimp only [aG]
   have zX:=ER.same Cy;refine fk (fun bb H'=>An2 (L2.Same H4 H') (bb=(x.isHole || D pre))) (fun k2 Br=>?_) (fun H5 yW=>?_) (fun H5 yW=>?_)
   · refine ⟨_,rfl,ta,x,rfl,AF.mono k1,by omega,_,rfl,?_⟩;refine cB (fun ch=>Br _ _ ⟨.refl _,by rw [ch];rfl⟩) (fun ch=>?_);have RM:x.isHole=false:=VP.mpr ch;refine ⟨_,rfl,_,rfl,ak (by show 2<=1000000;decide),fun kp Cb=>?_⟩;have s5:=ad Cb (.tup [.int ((s:Nat):Int),.ref pa]);refine ⟨_,rfl,pt,kp,nk (s:Nat) pre,f',rfl,rfl,zX.dm.mono s5,kB ab (s5 _ _ (k1 _ _ AQ)),_,rfl,Br _ _ ⟨s5,?_⟩⟩;rw [RM,XW,<- RK];rfl
   · obtain ⟨s5,yW⟩:=yW
     have F0:x.cut D pre=hole:=by
      cases x with
      | call u v=>rw [Th.cut]
      | knot n ks =>
        rw [Th.cut,if_pos];rcases Bool.or_eq_true_iff.mp yW.symm with h | h
        · exact .inl h
        · exact .inr h
     refine ⟨_,rfl,.inl ⟨rfl,_,SqL.of (s5 _ _ BZ)⟩,ak (by show 2<=1000000;decide),fun p hp=>?_⟩;have s6:L2.Same H5 (upd H5 p (.tup [.ref T.a_HOLE,.int 0])):=ad hp _;have e6:(upd H5 p (.tup [.ref T.a_HOLE,.int 0])) p=some (.tup [.ref T.a_HOLE,.int 0]):=ab;generalize (upd H5 p (.tup [.ref T.a_HOLE,.int 0]))=H6 at s6 e6 ⊢;have O9:=(s5.trans s6) _ _ BZ;refine ⟨tl,_,_,rfl,rfl,O9,aF (by rw [T8];omega),?_⟩;have k7:KT H6 (upd H6 tl (.lst (ts.map V.ref++[.ref p]))):=aU O9;have O':=(k1.trans (Same.kt (s5.trans s6))).trans k7;refine ⟨szP Us,by omega,ts++[p],yO,Ts++[hole],Us,_,_,_,rfl,ay (Cy.trans (s5.trans s6)) FZ,by rw [ab,Ut];rfl,by rw [am yU];exact (s5.trans s6) _ _ FD,?_,PsAtK.mono O' a3,?_,fun p' zG=>hb p' (Vf _ zG),?_,rfl⟩
     · rw [Ut];exact P2.append (dN O' a1) (.cons ⟨T.a_HOLE,k7 _ _ e6,wA,(TK.const T.q_HOLE)⟩ .nil)
     · rw [<- hw,VM,Ve];show Ts++([hole]++i0 D Us.reverse)=Ts++i0 D ((pre,x)::Us.reverse);unfold i0;rw [ZI,F0];rfl
     · rw [UA];show Ts.length+1+szP Us<=200;omega
   · obtain ⟨s5,yW⟩:=yW;obtain ⟨hh,I0⟩:=Bool.or_eq_false_iff.mp yW.symm;cases x with
     | call u v=>rw [Th.noCall] at IZ;exact IZ.elim
     | knot n ks =>
     have F0:(Th.knot n ks).cut D pre=.knot n (cF D pre 0 ks):=by
      rw [Th.cut,if_neg];rintro (h | h)
      · rw [hh] at h;cases h
      · rw [I0] at h;cases h
     have GC:=k1.trans (Same.kt s5);have Ja:=AF.mono GC;rw [AtK] at Ja;refine hid fun ZZ kZ=>?_;obtain ⟨GN,yV,MS,zj⟩:=Ja;refine kZ ?_;have zE:yV.length=ks.length:=zj.length;rw [Th.size] at hlen;have GD:=bH ks;rw [Th.noCall] at IZ;rw [Th.tall] at J8;refine ⟨_,rfl,.inl ⟨rfl,_,SqL.of (s5 _ _ BZ)⟩,_,rfl,_,rfl,ta,_,rfl,MS,fun p2 H6 s6 e6=>?_⟩
     have RN:TK K H6 p2 [.str n]:=by
      have e7:TK K H6 p2 (ef (V.str n::yV.map V.ref) none (some 1)):=e6;rw [rN] at e7;exact e7
     refine ⟨_,rfl,ta,_,rfl,.inr ((MS.mono (Same.kt s6)).sq),_,_,rfl,rfl,ak (by show 2<=1000000;decide),fun tp FG=>?_⟩
     have Jb:((V.str n::yV.map V.ref).length:Int) - 1=((ks.length:Nat):Int):=by
      rw [Uo,T8];omega
     dsimp only [d4,qU];rw [Jb];have s7:L2.Same H6 (upd H6 tp (.tup [.ref p2,.int (ks.length:Nat)])):=ad FG _;have e7:(upd H6 tp (.tup [.ref p2,.int (ks.length:Nat)])) tp=some (.tup [.ref p2,.int (ks.length:Nat)]):=ab;generalize (upd H6 tp (.tup [.ref p2,.int (ks.length:Nat)]))=H7 at s7 e7 ⊢;have GO:=s5.trans (s6.trans s7);have Ib:=GO _ _ BZ;refine ⟨tl,_,_,rfl,rfl,Ib,aF (by rw [T8];omega),?_⟩;have k8:KT H7 (upd H7 tl (.lst (ts.map V.ref++[.ref tp]))):=aU Ib;have MT:L2.Same H (upd H7 tl (.lst (ts.map V.ref++[.ref tp]))):=ay (Cy.trans GO) FZ;have Pa:(upd H7 tl (.lst (ts.map V.ref++[.ref tp]))) tl=some (.lst ((ts++[tp]).map V.ref)):=by rw [ab,Ut];rfl
     have Ic:(upd H7 tl (.lst (ts.map V.ref++[.ref tp]))) ah=some (.lst (yO.map V.ref)):=by rw [am yU];exact GO _ _ FD
     generalize (upd H7 tl (.lst (ts.map V.ref++[.ref tp])))=H8 at k8 MT Pa Ic ⊢;have MU:=(Same.kt (s6.trans s7)).trans k8;have EJ:=GC.trans MU
     have MV:UR (TopAtK K H8) ((Ts++[Th.knot n (cF D pre 0 ks)]).map (eJ Th.call)) (ts++[tp]):=by
      rw [Ut];refine P2.append (dN EJ a1) (.cons ⟨p2,?_,GN,RN.mono ((Same.kt s7).trans k8)⟩ .nil);show H8 tp=some (.tup [.ref p2,.int ((cF D pre 0 ks).length:Nat)]);rw [cO];exact k8 _ _ e7
     try dsimp only [aG]
     -- kids
     refine ⟨_,rfl,1,rfl,ta,_,rfl,(MS.mono MU).sq,?_,fun p3 Jc=>?_⟩
     · rintro ⟨z,_⟩;rw [Uo,show (1:Int)=((1:Nat):Int) by rfl,HT.sIx_nat] at z;omega
     dsimp only;rw [dO];have s9:L2.Same H8 (upd H8 p3 (.tup (yV.map V.ref))):=ad Jc _;have e9:(upd H8 p3 (.tup (yV.map V.ref))) p3=some (.tup (yV.map V.ref)):=ab;generalize (upd H8 p3 (.tup (yV.map V.ref)))=H9 at s9 e9 ⊢;have MW:=s9 _ _ (EJ _ _ AQ);have MX:=zj.mono (MU.trans (Same.kt s9));refine ⟨p3,rfl,⟨_,SqT.of e9⟩,?_⟩;intro Dl F1;refine ⟨yV.length,fun j zx=>An3 (j<=yV.length) (L2.Same H9 zx) (Ex1 fun (bs:List Ud)=>An2 (zx Dl=some (.lst (bs.map V.ref))) (PsAtK K zx ((cW pre 0 ks).take j) bs)),⟨UL _,ad F1 _,[],ab,.nil⟩,?_⟩;rintro j zx ⟨hj,zk,bs,eD,y8⟩;by_cases BK:j=yV.length
     · left;refine ⟨⟨_,SqT.of (zk _ _ e9),by rw [T8];exact BK.symm⟩,?_⟩;have yG:(cW pre 0 ks).take j=cW pre 0 ks:=by rw [BK,zE,<- gS pre 0 ks,Wt]
       rw [yG] at y8;have F2:=zk _ _ (s9 _ _ Ic);have Jd:=zk _ _ (s9 _ _ Pa)
       have Ao:bs.length=ks.length:=by
        have:=Up y8;rw [gS] at this;exact this.symm
       try dsimp only [aG]
       refine ⟨_,rfl,.inl ⟨rfl,_,SqL.of F2⟩,_,rfl,true,Dl,_,rfl,SqB.l (SqL.of eD),fun l hl=>?_⟩;have AX:ah≠l:=aL F2 hl;have C8:tl≠l:=aL Jd hl;have Je:(upd zx l (.lst (bs.map V.ref).reverse)) ah=some (.lst (yO.map V.ref)):=by rw [am AX];exact F2
       refine ⟨ah,l,_,_,rfl,rfl,Je,ab,ak ?_,?_⟩
       · rw [T8,VC,T8];omega
       have Jf:KT zx (upd (upd zx l (.lst (bs.map V.ref).reverse)) ah (.lst (yO.map V.ref++(bs.map V.ref).reverse))):=(dZ hl).trans (aU Je);have Jg:=(Same.kt (s9.trans zk)).trans Jf;have MY:=EJ.trans Jg;refine ⟨szP (Us++(cW pre 0 ks).reverse),?_,ts++[tp],yO++bs.reverse,Ts++[.knot n (cF D pre 0 ks)],Us++(cW pre 0 ks).reverse,_,_,_,rfl,?_,?_,?_,dN Jg MV,P2.append (PsAtK.mono MY a3) (P2.reverse (PsAtK.mono Jf y8)),?_,?_,?_,rfl⟩
       · rw [cJ,ku,jv,DW,Th.size];omega
       · exact ay (ay ((MT.trans s9).trans zk) ((MT.trans s9).trans zk |>.free hl)) AE
       · rw [am yU.symm,am C8];exact Jd
       · rw [ab,Ut,YT]
       · rw [<- hw,Ve,VM,VM,We,pw,np];show Ts++([Th.knot n (cF D pre 0 ks)]++(walks (cF D pre 0 ks)++i0 D Us.reverse))=Ts++i0 D ((pre,Th.knot n ks)::Us.reverse);have:i0 D ((pre,Th.knot n ks)::Us.reverse)=((Th.knot n ks).cut D pre).walk++i0 D Us.reverse:=by unfold i0;rw [ZI]
         rw [this,F0,Th.walk];rfl
       · intro p hp;rcases U8.mp hp with hp | hp
         · exact hb p (Vf _ hp)
         · obtain ⟨g1,g2⟩:=lh pre 0 ks p (List.mem_reverse.mp hp);have:=bR g2;exact ⟨by omega,bz IZ g2⟩
       · rw [UA,cJ,ku,jv];show Ts.length+1+(szP Us+aq ks)<=200;omega
     · right;have yS:j<yV.length:=by omega
       refine ⟨yS,⟨_,.ref yV[j],SqT.of (zk _ _ e9),by rw [Ul,Ua yS];rfl⟩,?_⟩;rintro y zS ⟨p,v,hp,rfl,rfl,hv⟩;have zu:=hv _ (SqT.of (zk _ _ e9));obtain ⟨kd,rfl,C9⟩:=aT zu;obtain ⟨tk,AJ,LO⟩:=MX.get C9;have Ae:L2.Same zx (upd zx p (.tup [.int (j:Nat),.ref kd])):=ad hp _;refine ⟨p,_,rfl,SqT.of ab,rfl,_,_,rfl,_,_,rfl,rfl,?_⟩;generalize (upd zx p (.tup [.int (j:Nat),.ref kd]))=zS at Ae ⊢;refine ⟨_,rfl,_,rfl,ak (by show 1<=1000000;decide),fun n1 J9=>?_⟩;have zo:L2.Same zS (upd zS n1 (.tup [.int (j:Nat)])):=ad J9 _;have Cf:(upd zS n1 (.tup [.int (j:Nat)])) n1=some (.tup [.int (j:Nat)]):=ab;generalize (upd zS n1 (.tup [.int (j:Nat)]))=Dg at zo Cf ⊢;refine mj (zo _ _ (Ae _ _ (zk _ _ MW))) Cf (by rw [T8];show pre.length+1<=1000000;omega) fun n2 D' Ed Kp=>?_;refine ⟨_,rfl,ak (by show 2<=1000000;decide),fun n3 EK=>?_⟩;have DL:L2.Same zx (upd D' n3 (.tup [.ref n2,.ref kd])):=(Ae.trans (zo.trans Ed)).trans (ad EK _);have Jh:=DL _ _ eD;refine ⟨_,Jh,aF ?_,yS,?_,bs++[n3],?_,?_⟩
       · have:=Up y8;rw [U1] at this;rw [T8];omega
       · exact ay (zk.trans DL) F1
       · rw [ab,Ut];rfl
       · have Kq:KT (upd D' n3 (.tup [.ref n2,.ref kd])) (upd (upd D' n3 (.tup [.ref n2,.ref kd])) Dl (.lst (bs.map V.ref++[.ref n3]))):=aU Jh;rw [Vz,kO pre 0 ks j tk AJ];refine P2.append (PsAtK.mono ((Same.kt DL).trans Kq) y8) (.cons ⟨n2,kd,Kq _ _ ab,Kq _ _ (ad EK _ _ _ ?_),?_⟩ .nil)
         · rw [Kp,Ut,VH];rfl
         · exact LO.mono ((Same.kt (zk.trans DL)).trans Kq)
 · have hz:as=[]:=by
    cases as with
    | nil=>rfl
    | cons y ys=>simp at c
   subst hz;have DE:As=[]:=VB.mp (Up a2);subst DE;have FA:Ts=(t.cut D []).walk:=by simpa [i0] using hw
   subst FA;obtain ⟨b1,b2⟩:=r8 Th.call (t.cut D []);rw [rA] at b1;refine ⟨_,rfl,tl,ts,_,t.cut D [],rfl,em,a1,by rw [T8];omega,b2,?_,b1,fun r H4 s4 RO=>k r H4 (sm.trans s4) RO⟩;intro u hu;obtain ⟨y,hy,e⟩:=Vb.mp hu;cases y with
   | knot n us=>cases e
   | call sn kn =>
     cases e;rw [Th.size];decide
def fH (ins:List (UP×Int)) (rows:List (List Th)):List aD:=(UT rows.length).flatMap fun s=>((mkF ins rows (s:Nat)).pl []).map fun x=>nk (s:Nat) x.1
theorem kJ {α β:Type} {f:α->List β} {B:Nat}:∀ {l:List α},(∀ x∈l,(f x).length<=B)->(l.flatMap f).length<=l.length * B
 | [],_=>UL _
 | x::l,h=>by
   rw [ZI,UA,Uo,Nat.succ_mul];have h1:=h x (UM ..);have h2:=kJ (l:=l) fun y hy=>h y (UG _ hy);omega
theorem tP {ins outs:List (UP×Int)} {rows:List (List Th)} (F:FrK ins outs rows):(fH ins rows).length<=1000000:=by
 have h:=kJ (l:=UT rows.length) (f:=fun s=>((mkF ins rows (s:Nat)).pl []).map fun x=>nk (s:Nat) x.1) (B:=200) fun s hs=>by
  rw [T8,Th.pl_len];have zq:=WO.mp hs;obtain ⟨row,p,_,_,e,z,_⟩:=F.mkd (l:=(s:Nat)) (by omega) (by omega);rw [e];exact z
 rw [UW] at h;have:=F.le;show ((UT rows.length).flatMap _).length<=_;omega
theorem pC {ins:List (UP×Int)} {rows:List (List Th)} {s:Nat} (hs:s<rows.length) {x:List Int×Th} (hx:x∈(mkF ins rows (s:Nat)).pl []):nk (s:Nat) x.1∈fH ins rows:=List.mem_flatMap.mpr ⟨s,WO.mpr hs,Vb.mpr ⟨x,hx,rfl⟩⟩
theorem uV {ins:List (UP×Int)} {rows:List (List Th)} {s:Nat} (hs:s<rows.length) {x:List Int×Th} (hx:x∈(frS ins rows s).pl []):nk (s:Nat) x.1∈fH ins rows:=by
 obtain ⟨u,hu⟩:=uz _ _ _ x hx;exact pC (x:=(x.1,u)) hs hu
theorem xl {P:Uv} {w:UK} {Vl:VlT} {H H':Hp} {pt:Ud} {f':List (aD×V)} {Al:List aD} (h:Pt P w Vl H pt f' Al) (k:KT H H') (e:∀ o,H pt=some o->H' pt=some o):Pt P w Vl H' pt f' Al:=⟨rW h.dm k e,h.nd,h.al,fun j p hp=>(h.vl j p hp).mono k⟩
theorem o7 {p:Ud} {H0 H H':Hp} (hb:But p H H') (s:L2.Same H0 H) (h0:H0 p=none):L2.Same H0 H':=fun c o e=>hb c o (fun z=>by rw [z,h0] at e;cases e) (s c o e)
theorem jO {ins outs:List (UP×Int)} {rows:List (List Th)} (F:FrK ins outs rows) {s:Nat} (hs:s<rows.length):(frS ins rows s).size<=200/\(frS ins rows s).tall<=100/\(frS ins rows s).noCall:=by
 refine hid fun ZZ kZ=>?_;obtain ⟨row,p,hr,hp,e,z1,z2,hf⟩:=F.mkd (l:=(s:Nat)) (by omega) (by omega);refine kZ ?_;have h:=i6 (mkF ins rows) (mkF ins rows (s:Nat)) ((rows[s]?).getD []);have hn:(mkF ins rows (s:Nat)).noCall:=by rw [e];exact gF _ _ (Ue _) hf
 unfold frS;rw [e] at h hn;rw [e];exact ⟨by omega,by omega,iN hn _⟩
theorem qP {outs:List (UP×Int)} (go:bZ outs) {S C:Int} {t v:Th} {pl:List Int} (h:t.FitS outs S C) (hi:In t pl v):v.isHole=false:=by
 have:=hi.fit h;cases v with
 | call a b=>rw [Th.isHole]
 | knot m ks =>
   rw [Th.FitS] at this;rw [Th.isHole,decide_eq_false_iff_not];rintro ⟨rfl,_⟩;exact oS (go.low _ this.1).1 rfl
theorem tu {ins outs:List (UP×Int)} {rows:List (List Th)} (F:FrK ins outs rows) (go:bZ outs) {s:Nat} (hs:s<rows.length):∀ x∈(mkF ins rows (s:Nat)).pl [],x.2.isHole=false:=fun x hx=>by
 refine hid fun ZZ kZ=>?_;obtain ⟨_,p,_,_,e,_,_,f⟩:=F.mkd (l:=(s:Nat)) (by omega) (by omega);refine kZ ?_;rw [e] at hx;exact qP go f (In.of _ (Ue _) (pl:=x.1) (v:=x.2) hx)
inductive fw (P:Uv) (w:UK) (K:Ub) (vs:List V) (H:Hp) (Q:VK) (_E:XK):Prop
 | mk (b:Ud) (ins outs:List (UP×Int)) (head:Th) (rows:List (List Th)) (yL:vs=[.ref b]) (yM:Bk H ins outs head rows b) (yR:FrK ins outs rows) (yY:bZ outs) (zf:∀ (r fl pt:Ud) (fs:List Ud) (f':List (aD×V)) (H':Hp),L2.Same H H'->H' r=some (.tup [.ref fl,.ref pt])->H' fl=some (.lst (fs.map V.ref))->UR (fun s a=>AtK K H' ((frS ins rows s).cut (Dk f' (s:Nat)) []) a) (UT rows.length) fs->Pt P w (Vl0 ins rows) H' pt f' (fH ins rows)->FrD ins rows (f'.map (·.1))->KeyM ins rows f'->Q (.ref r) H'):fw P w K vs H Q _E
def kg (P:Uv) (w:UK) (K:Ub):Sp:=fw P w K
set_option maxHeartbeats 4000000 in
theorem fZ:bf P w K mg base CX0 7 T.g_found_fronts.f T.g_found_fronts.d ["book"] (kg P w K):=by
 refine T.g_found_fronts.F.ok bE (fun vs H Q E h=>?_) (fun yJ A outer s0 H vs Q E hr h=>?_)
 · obtain ⟨b,ins,outs,head,rows,rfl,_⟩:=h;rfl
 obtain ⟨b,ins,outs,head,rows,rfl,hB,F,go,k⟩:=h
 refine ⟨_,(ae (av (i:=1) bE.nd rfl (Yt rfl) (pcF T.g_first_makings (jS T) hr (aa (pv 0) ac)))
  (ae (av (i:=2) bE.nd rfl (Yt rfl) pk)
  (ae (fO (i:=3) (N:=[Ui "state",Ui "book",Ui "made",Ui "partings"]) (js:=[none,some 0,some 1,some 2]) (g:=(aG 0)) (tt:=bK) (te:=(gx (gJ P w K) [] E0 (bu (bx 1) (bu (bx 0) (bu (bx 2) (bu (bx 3) d4)))))) bE.nd rfl (Ux rfl) rfl (cG rfl (by decide +kernel) (by decide +kernel) rfl rfl rfl) (bp rfl T.n_range (aa (pcF T.g_states_of (oz T) hr (aa (pv 0) ac)) ac)) (fun _ _ _ _ _ _=>(aj (i:=0) yq rfl (Ux rfl))) (aS rfl) (fun _ _ _ _ _ _=>bS) (fun _ _ _ _ _ _=>(pcF T.g_first_front (l4 T) hr (aa (pv 1) (aa (pv 0) (aa (pv 2) (aa (pv 3) ac)))))))
  (ae (av (i:=4) bE.nd rfl (Ux rfl) pk)
  (ae (bm UO rfl (lB rfl T.n_enumerate (pv 3)) (bA rfl (au (aj (i:=5) bE.nd rfl (Ux rfl)) (au (aj (i:=6) bE.nd rfl (Ux rfl)) aY))) (ag (aQ (pcF T.g_put_links (n6 T) hr (aa (pv 0) (aa (pv 5) (aa (pv 6) (aa (pv 4) ac))))))))
  (ae (aQ (pcF T.g_spread (tw T) hr (aa (pcF T.g_ins_of (fb T) hr (aa (pv 0) ac)) (aa (pv 4) (aa (pv 2) ac)))))
  (ag (aA (aK (aa (cq (N:=[Ui "state",Ui "front",Ui "partings"]) (js:=[none,none,some 2]) (g:=(mr K 2 (db (aG 0) (db (aG 1) mC)))) (tt:=bK) (te:=(gx (i9 P w K) [] E0 (bu (bx 1) (bu (bx 0) (bu (bx 2) d4))))) rfl (cG rfl (by decide +kernel) (by decide +kernel) rfl rfl rfl) (lB rfl T.n_enumerate (pv 3)) (fun _ _ _ _ _ _=>(bA rfl (au (aj (i:=0) xb rfl (Ux rfl)) (au (aj (i:=1) xb rfl (Ux rfl)) aY)))) (gM (bW aX (aS rfl) (bW aX (aS rfl) gC))) (fun _ _ _ _ _ _=>bS) (fun _ _ _ _ _ _=>(pcF T.g_cut_front (nN T) hr (aa (pv 1) (aa (pv 0) (aa (pv 2) ac)))))) (aa (pv 2) ac))))))))))),?_⟩
 try dsimp only [yZ,yE]
 have hle:=F.le;refine ⟨_,rfl,b,ins,outs,head,rows,rfl,hB,F.gi,by omega,fun row yC=>(F.fit.row row yC).1,fun md AV H1 s1 RP GH FO=>?_⟩;intro pt H2 Ji s2 Pb;have MZ:=hB.mono (Same.kt s1);refine hid fun ZZ kZ=>?_;obtain ⟨ia,oa,ha,ra,yI,yX,zi,DF⟩:=id MZ;have Dc:rows.length=zi.length:=Up DF.rw;have Kg:=tP F;obtain ⟨Km,Cg⟩:=cy Pb;refine kZ ?_;refine ⟨_,rfl,b,_,_,_,ra,_,rfl,s2 _ _ DF.bk,s2 _ _ DF.rl,_,rfl,by omega,by rw [T8];omega,fun D hD=>?_⟩;have I0:D≠pt:=fun z=>by rw [z,Cg] at hD;cases hD
 have RQ:H1 D=none:=s2.free hD;refine ⟨rows.length,fun j H'=>An3 (j<=rows.length) (L2.Same H1 H') (Ex2 fun (as:List Ud) (f':List (aD×V))=>An4 (H' D=some (.lst (as.map V.ref))) (UR (fun s a=>AtK K H' (frS ins rows s) a) (UT j) as) (Pt P w (Vl0 ins rows) H' pt f' (fH ins rows)) (∀ (s i:Nat) (row:List Th),s<j->rows[s]?=some row->i<=row.length->∀ x∈(frF (mkF ins rows) (mkF ins rows (s:Nat)) (row.take i)).pl [],x.2.isHole=true->nk (s:Nat) x.1∈f'.map (·.1))),⟨UL _,s2.trans (ad hD _),[],[],ab,.nil,⟨Pb.mono (ad hD _),Yx,fun p hp=>(WJ hp).elim,fun j p hp=>by simp at hp⟩,fun s i row hs=>by omega⟩,?_⟩;rintro j H' ⟨hj,sj,as,f',eD,has,GP,Jj⟩;obtain ⟨Tw,Ef⟩:=cy GP.dm;by_cases BK:j=rows.length
 · left;subst BK;refine ⟨by show _<=_;rw [T8];omega,?_⟩;intro la H5 AX s5 RR;have L0:LkI P w ins (fH ins rows) (Lk0 ins rows) H' H5 la [] 0:=⟨s5,AX,RR,Yx,Yx,fun g hg=>(WJ hg).elim,Ue _⟩;have D5:(UT rows.length).length=as.length:=Up has;rw [UW] at D5;refine ⟨_,rfl,D,rfl,⟨_,SqL.of (s5 _ _ eD)⟩,?_⟩
   refine nj (K:=K) (a:=D) (xs:=as.map V.ref) (fun i σ H6=>Ex3 fun (c5 c6:Option V) (G:LG)=>An3 (σ=[some (.ref b),some (.ref md),some (.ref pt),some (.ref D),some (.ref la),c5,c6]) (LkI P w ins (fH ins rows) (Lk0 ins rows) H' H6 la G (i * 640000)) (∀ s<i,∀ row,rows[s]?=some row->LDone H6 G s row (frS ins rows s)))
    ⟨none,none,[],rfl,by rw [Nat.zero_mul];exact L0,fun s hs=>by omega⟩ (fun i σ H6 _ ⟨_,_,_,_,L,_⟩=>SqL.of (L.sm _ _ eD)) ?_ ?_
   · rintro i x pr σ H6 hx Ab ⟨c5,c6,G,rfl,L,B2⟩;obtain ⟨fa,rfl,zd⟩:=aT hx;have An:=(Uh.mp zd).1;have EY:i<rows.length:=by omega
     obtain ⟨s',zq,zP⟩:=P2.get' has zd;rw [Va EY] at zq;cases zq;obtain ⟨row,yC⟩:∃ row,rows[i]?=some row:=⟨_,Ua EY⟩;have s7:L2.Same H6 (upd H6 pr (.tup [.int ((i:Nat):Int),.ref fa])):=ad Ab _;have e7:(upd H6 pr (.tup [.int ((i:Nat):Int),.ref fa])) pr=some (.tup [.int ((i:Nat):Int),.ref fa]):=ab;generalize (upd H6 pr (.tup [.int ((i:Nat):Int),.ref fa]))=H7 at s7 e7 ⊢;refine ⟨pr,_,rfl,SqT.of e7,rfl,_,_,rfl,_,_,rfl,rfl,?_⟩;dsimp only [aG];have L7:=L.same s7;obtain ⟨z1,z2,z3⟩:=jO F EY;refine ⟨_,rfl,_,rfl,_,rfl,_,rfl,b,fa,la,i,ins,outs,head,rows,row,frS ins rows i,H',G,i * 640000,fH ins rows,Lk0 ins rows,rfl,MZ.mono (Same.kt (sj.trans L7.sm)),F,yC,zP.mono (Same.kt L7.sm),z1,z2,L7,by omega,fun x hx=>uV EY hx,fun i2 p kd c u x hp hk hc hu hx=>⟨i,row,i2,p,c.1,x.1,c.2.1,rfl,yC,hp,hk,In.iff.mp (cK.mp hc),rfl,rfl,u,x.2,hu,hx⟩,fun G' H8 k8 L8 M0 Jk=>?_⟩;refine ⟨_,_,G',rfl,by rw [Nat.succ_mul];exact L8,fun s hs Ai Dm=>?_⟩;by_cases RS:s=i
     · subst RS;rw [yC] at Dm;cases Dm;exact Jk
     · exact ((B2 s (by omega) Ai Dm).sub (LSub.kt (Same.kt s7) _)).sub M0
   · rintro σ H6 ⟨c5,c6,G,rfl,L,B2⟩;rw [T8,<- D5] at B2;have Jl:=GP.same L.sm;obtain ⟨Rl,Cd⟩:=cy Jl.dm;have GQ:=sj.trans L.sm
     have zD:pt≠la:=fun z=>by
      rw [z] at Ef;rw [L.la0] at Ef;cases Ef
     refine ⟨_,rfl,b,_,_,_,_,rfl,GQ _ _ DF.bk,_,rfl,_,rfl,ia,la,pt,yI,ins,G,f',fH ins rows,Vl0 ins rows,Lk0 ins rows,rfl,GQ _ _ DF.inE,DF.inK.mono (Same.kt GQ),F.gi,L.r,Jl,Kg,zD,wW F,fun zB H7 GR F3 zQ M1=>?_⟩;have Pd:L2.Same H1 H7:=o7 GR GQ Ji;have Cc:=(Same.kt L.sm).trans (GR.kt Cd);have Kr:H7 D=some (.lst (as.map V.ref)):=GR _ _ I0 (L.sm _ _ eD);refine ⟨_,rfl,D,rfl,⟨_,SqL.of Kr⟩,fun Dl F1=>?_⟩;have RT:H1 Dl=none:=Pd.free F1;refine ⟨rows.length,fun j H8=>An3 (j<=rows.length) (L2.Same H7 H8) (Ex1 fun (bs:List Ud)=>An2 (H8 Dl=some (.lst (bs.map V.ref))) (UR (fun s a=>AtK K H8 ((frS ins rows s).cut (Dk zB (s:Nat)) []) a) (UT j) bs)),⟨UL _,ad F1 _,[],ab,.nil⟩,?_⟩;rintro j H8 ⟨Tx,s8,bs,Pe,y8⟩;by_cases RU:j=rows.length
     · left;subst RU;refine ⟨⟨_,SqL.of (s8 _ _ Kr),by rw [T8];exact D5.symm⟩,?_⟩;refine ⟨_,rfl,ak (by show 2<=1000000;decide),fun r RV=>?_⟩;have s9:L2.Same H8 (upd H8 r (.tup [.ref Dl,.ref pt])):=ad RV _
       have Pf:FrD ins rows (zB.map (·.1)):=⟨fun s i row hr hi x hx hh=>zQ _ (Jj s i row (Uh.mp hr).1 hr hi x hx hh),fun s row yC p hp c hc u hu x hx hk=>by
        have hs:=(Uh.mp yC).1;exact M1 _ hk _ _ (LSub.kt (GR.kt Cd) G _ _ _ (B2 s hs row yC p hp c hc u hu x hx))⟩
       refine k r Dl pt bs zB _ (s1.trans (Pd.trans (s8.trans s9))) ab (s9 _ _ Pe) (P2.mp (fun _ _ h=>h.mono (Same.kt s9)) y8) (F3.same (s8.trans s9)) Pf (uY F Pf fun p hp=>by
        refine hid fun ZZ kZ=>?_;obtain ⟨j,hj⟩:=UC.mp hp;obtain ⟨_,_,_,t1,t2,_,_,_,_,hv⟩:=F3.vl j p hj;refine kZ ?_;exact ⟨j,t1,t2,hv⟩)
     · right;have yS:j<rows.length:=by omega
       obtain ⟨fa,zd⟩:∃ fa,as[j]?=some fa:=⟨_,Ua (by omega)⟩;refine ⟨yS,⟨_,.ref fa,SqL.of (s8 _ _ Kr),by rw [Ul,zd];rfl⟩,?_⟩;rintro y H9 ⟨p,v,hp,rfl,rfl,hv⟩;have zu:=hv _ (SqL.of (s8 _ _ Kr));rw [Ul,zd] at zu;cases zu;obtain ⟨s',zq,zP⟩:=P2.get' has zd;rw [Va yS] at zq;cases zq;have s9:L2.Same H8 (upd H8 p (.tup [.int (j:Nat),.ref fa])):=ad hp _;refine ⟨p,_,rfl,SqT.of ab,rfl,_,_,rfl,_,_,rfl,rfl,?_⟩;generalize (upd H8 p (.tup [.int (j:Nat),.ref fa]))=H9 at s9 ⊢;obtain ⟨z1,z2,z3⟩:=jO F yS;refine ⟨_,rfl,_,rfl,_,rfl,fa,pt,j,frS ins rows j,zB,fH ins rows,Vl0 ins rows,rfl,zP.mono (Cc.trans (Same.kt (s8.trans s9))),z1,z2,z3,F3.same (s8.trans s9),fun q zx zk hq=>?_⟩;have Jm:=(s9.trans zk) _ _ Pe;have Ao:(UT j).length=bs.length:=Up y8;rw [UW] at Ao;have Jf:KT zx (upd zx Dl (.lst (bs.map V.ref++[.ref q]))):=aU Jm;refine ⟨_,Jm,aF (by rw [T8];omega),yS,ay (s8.trans (s9.trans zk)) F1,bs++[q],by rw [ab,Ut];rfl,?_⟩;rw [Y2];exact P2.append (P2.mp (fun _ _ h=>h.mono ((Same.kt (s9.trans zk)).trans Jf)) y8) (.cons (hq.mono Jf) .nil)
 · right;have yS:j<rows.length:=by omega
   obtain ⟨row,yC⟩:∃ row,rows[j]?=some row:=⟨_,Ua yS⟩;refine ⟨yS,by show _<_;rw [T8];omega,?_⟩;rintro y H9 ⟨rfl,rfl⟩;rw [VH];refine ⟨_,rfl,_,rfl,_,rfl,_,rfl,b,md,pt,j,ins,outs,head,rows,row,AV,f',fH ins rows,Vl0 ins rows,rfl,MZ.mono (Same.kt sj),F,yC,sj _ _ GH,FO.mono (Same.kt sj),GP,Kg,fun x hx=>pC yS hx,tu F go yS,vF F go yC,fun r zB H4 GS zP M3 zU Jn=>?_⟩;have FU:=GS.kt Ef;have Ij:=GS _ _ I0 eD;have Aw:(UT j).length=as.length:=Up has;rw [UW] at Aw;have k5:KT H4 (upd H4 D (.lst (as.map V.ref++[.ref r]))):=aU Ij;rw [<- tZ yC] at zP;refine ⟨_,Ij,aF (by rw [T8];omega),yS,ay (o7 GS sj Ji) RQ,as++[r],zB,by rw [ab,Ut];rfl,?_,xl M3 k5 (fun o e=>by rw [am I0.symm];exact e),fun s i Ai hs AR hi x hx hh=>?_⟩
   · rw [Y2];exact P2.append (P2.mp (fun _ _ h=>h.mono (FU.trans k5)) has) (.cons (zP.mono k5) .nil)
   · by_cases RW:s=j
     · subst RW;rw [yC] at AR;cases AR;exact Jn i hi x hx hh
     · exact zU _ (Jj s i Ai (by omega) AR hi x hx hh)
inductive gG (vs:List V) (H:Hp) (Q:VK) (_E:XK):Prop
 | mk (c k:Int) (yL:vs=[.int c,.int k]) (yM:∀ z:Int,Q (.int z) H):gG  vs H Q _E
def mv:Sp:=gG
theorem eW:bf P w K mg base CX0 1 T.g__law_mixed.f T.g__law_mixed.d ["cell","k"] mv:=by
 refine T.g__law_mixed.F.ok eZ (fun vs H Q E h=>?_) (fun yJ A outer s H vs Q E hr h=>?_)
 · obtain ⟨c,k,rfl,_⟩:=h;rfl
 obtain ⟨c,k,rfl,q⟩:=h
 refine ⟨_,(ae (av (i:=2) eZ.nd rfl (Ux rfl) (az bI (az bM (az bM (az dj (az bI (pv 0) (az qp af af)) af) (az dj af (pv 1))) af) af))
  (ae (av (i:=2) eZ.nd rfl (Ux rfl) (az bI (az dj (pv 2) (pv 2)) af))
  (ag (aA (az bM (az dj (pv 2) af) (az dj af (pv 1))))))),?_⟩
 try dsimp only [yZ,yE]
 refine ⟨_,rfl,_,_,rfl,rfl,⟨by decide,by decide,by decide⟩,_,_,rfl,rfl,(by show (0:Int)<10 ^ 40;decide),_,_,rfl,rfl,.inr ⟨by decide,by decide⟩,_,rfl,_,_,rfl,rfl,.inl ⟨by decide,by decide⟩,_,_,rfl,rfl,_,_,rfl,rfl,_,_,rfl,rfl,(by show (0:Int)<2305843009213693951;decide),?_⟩
 try dsimp only [aG]
 generalize c%(10:Int) ^ (40:Int).toNat * 99999999977+7919 * k+1234567890123=z;have z0:=VA z (show (2305843009213693951:Int)≠0 by decide);have z1:=Vu z (show (0:Int)<2305843009213693951 by decide);generalize z%2305843009213693951=y at z0 z1;refine ⟨_,rfl,_,rfl,_,_,rfl,rfl,.inl ⟨by omega,by omega⟩,_,_,rfl,rfl,(by show (0:Int)<2305843009213693951;decide),?_⟩;exact ⟨_,rfl,_,_,rfl,rfl,.inr ⟨by decide,by decide⟩,_,rfl,_,_,rfl,rfl,.inl ⟨by decide,by decide⟩,_,_,rfl,rfl,q _⟩
theorem sC (ns:List Int) (lo hi:Option Int):∃ cs:List Int,ef (ns.map V.int) lo hi=cs.map V.int/\cs.length<=ns.length:=by
 unfold ef;rw [<- Zq,<- List.map_take];exact ⟨_,rfl,by rw [U1,Vx];omega⟩
inductive fV (vs:List V) (H:Hp) (Q:VK) (_E:XK):Prop
 | mk (a:Ud) (cs:List Int) (many:Int) (yL:vs=[.ref a,.int many]) (yM:H a=some (.lst (cs.map V.int))) (yR:cs.length<=1000) (yY:1<=many) (zf:many<=1000) (zY:∀ (r:Ud) (ds:List Int) (H':Hp),L2.Same H H'->H' r=some (.lst (ds.map V.int))->ds.length=many.toNat->Q (.ref r) H'):fV  vs H Q _E
def kI:Sp:=fV
set_option maxHeartbeats 1000000 in
theorem mf:bf P w K mg base CX0 1 T.g__law_folded.f T.g__law_folded.d ["cells","many"] kI:=by
 refine T.g__law_folded.F.ok dS (fun vs H Q E h=>?_) (fun yJ A outer s H vs Q E hr h=>?_)
 · obtain ⟨a,cs,many,rfl,_⟩:=h;rfl
 obtain ⟨a,cs,many,rfl,ea,Bn,m1,m2,q⟩:=h
 refine ⟨_,(ae (fO (i:=2) (N:=[Ui "k",Ui "cells"]) (js:=[none,some 0]) (g:=(aG 0)) (tt:=bK) (te:=(tIf (sd (tOp (rI0 fun i j=>.bl (decide (i<j))) (bx 0) (tCB (uM K) (bu (bx 1) d4)))) (tOp (wE K) (bx 1) (bx 0)) (tC (.int 0)))) dS.nd rfl (Ux rfl) rfl (cG rfl (by decide +kernel) (by decide +kernel) rfl rfl rfl) (bp rfl T.n_range (aa (pv 1) ac)) (fun _ _ _ _ _ _=>(aj (i:=0) xS rfl (Ux rfl))) (aS rfl) (fun _ _ _ _ _ _=>bS) (fun _ _ _ _ _ _=>(ux (aH mX (pv 0) (aw ai rfl T.n_len UE (aa (pv 1) ac)) (aO _)) (ax aN (pv 1) (pv 0) (fun _ _=>rfl)) af)))
  (ae (bm UO rfl (hX rfl T.n_range (aa (pv 1) (aa (aw ai rfl T.n_len UE (aa (pv 0) ac)) ac))) (aj (i:=3) dS.nd rfl (Ux rfl)) (ag (cP (az bM (az bI (az dj (ax aN (pv 2) (az bI (pv 3) (pv 1)) (fun _ _=>rfl)) af) (az qp af af)) (az bI (ax aN (pv 0) (pv 3) (fun _ _=>rfl)) (az qp af af))) (jL (pv 2) (az bI (pv 3) (pv 1)) set_list))))
  (ag (aA (pv 2))))),?_⟩
 try dsimp only [yZ,yE]
 refine ⟨_,rfl,many,rfl,by omega,by omega,oq (xs:=(UT many.toNat).map fun (i:Nat)=>V.int (0+(i:Int))) ((UT many.toNat).map fun (i:Nat)=>cs.getD i 0) V.int (by rw [T8,T8]) (by rw [T8,UW];omega) (fun i Hx sx hi=>by rw [T8,UW] at hi;exact hi) (fun Hx sx=>by rw [T8,UW];exact Ue _) (fun i Hx x Hy sx hi hy=>⟨hy.1,?_⟩) (fun i x z Hx R W' hx hz sx hR=>?_) (fun kl H2 zE s2 e2=>?_)⟩
 · rw [T8,UW] at hi;rw [hy.2,Ul,Va hi];rfl
 · have hi:i<many.toNat:=by
    have:=(Uh.mp hz).1;rw [T8,UW] at this;exact this
   rw [Ul,Va hi] at hx hz;cases hx;cases hz;refine ⟨_,rfl,_,rfl,a,_,rfl,.inl (SqL.of (sx _ _ ea)),_,_,rfl,rfl,_,rfl,?_⟩;refine cB (fun c=>?_) (fun c=>?_)
   · have c':(0+(i:Int))<(((cs.map V.int).length:Nat):Int):=of_decide_eq_true c;rw [T8] at c';refine ⟨_,rfl,_,rfl,a,_,_,.int (cs.getD i 0),rfl,rfl,SqL.of (sx _ _ ea),at_nonneg (by omega) ?_,hR _ (.refl _)⟩;rw [show (0+(i:Int)).toNat=i by omega,Ul,List.getD,Ua (by omega)];rfl
   · have c':¬ (0+(i:Int))<(((cs.map V.int).length:Nat):Int):=fun z=>c (decide_eq_true z);rw [T8] at c';have:cs.getD i 0=0:=by rw [List.getD,Wa (by omega)];rfl
     dsimp only at hR;rw [this] at hR;exact hR _ (.refl _)
 have RX:H kl=none:=zE;refine ⟨_,rfl,_,rfl,a,_,rfl,.inl (SqL.of (s2 _ _ ea)),many,_,rfl,⟨by omega,by omega,by omega,by rw [T8];omega⟩,?_⟩
 refine bD (n:=((((cs.map V.int).length:Nat):Int) - many).toNat) (fun i σ H3=>Ex2 fun (kv:Option V) (ds:List Int)=>An4 (σ=[some (.ref a),some (.int many),some (.ref kl),kv]) (L2.Same H H3) (H3 kl=some (.lst (ds.map V.int))) (ds.length=many.toNat))
  ⟨none,_,rfl,s2,e2,by rw [T8,UW]⟩ ?_ ?_
 · rintro i σ H3 hi ⟨kv,ds,rfl,s3,e3,Cw⟩
   have y9:(i:Int)<((cs.length:Nat):Int) - many:=by
    have h1:i<((((cs.map V.int).length:Nat):Int) - many).toNat:=hi;rw [T8] at h1;omega
   have y0:=VA (many+(i:Int)) (show many≠0 by omega);have y1:=Vu (many+(i:Int)) (show 0<many by omega);refine hid fun ZZ kZ=>?_;obtain ⟨ix,DK⟩:∃ ix:Nat,(many+(i:Int))%many=(ix:Int):=⟨_,(WG y0).symm⟩;obtain ⟨c,hc⟩:∃ c,ds[ix]?=some c:=⟨_,Ua (by omega)⟩;obtain ⟨x,hx⟩:∃ x,cs[(many+(i:Int)).toNat]?=some x:=⟨_,Ua (by omega)⟩;refine kZ ?_;refine ⟨_,rfl,_,rfl,_,rfl,_,_,rfl,rfl,(by show 0<many;omega),kl,_,_,.int c,rfl,rfl,SqL.of e3,at_nonneg y0 (by rw [DK,Vk,Ul,hc];rfl),_,_,rfl,rfl,.inr ⟨by decide,by decide⟩,?_⟩;refine ⟨_,_,rfl,rfl,⟨by decide,by decide,by decide⟩,_,_,rfl,rfl,(by show (0:Int)<10 ^ 40;decide),?_⟩;refine ⟨_,rfl,_,rfl,a,_,_,.int x,rfl,rfl,SqL.of (s3 _ _ ea),at_nonneg (by omega) (by rw [Ul,hx];rfl),_,_,rfl,rfl,⟨by decide,by decide,by decide⟩,_,_,rfl,rfl,(by show (0:Int)<10 ^ 40;decide),_,_,rfl,rfl,?_⟩;refine ⟨_,rfl,_,rfl,_,rfl,_,_,rfl,rfl,(by show 0<many;omega),kl,_,_,ix,rfl,rfl,e3,?_,?_⟩
   · rw [DK];unfold ixN;rw [if_pos (by omega),if_pos (by rw [T8];omega)];simp
   · refine ⟨_,ds.set ix (c * 31%10 ^ 40+x%10 ^ 40),rfl,ay s3 RX,?_,by rw [Y3];exact Cw⟩;rw [ab,List.map_set];rfl
 · rintro σ H3 ⟨kv,ds,rfl,s3,e3,Cw⟩;exact ⟨_,rfl,q kl ds H3 s3 e3 Cw⟩
def ml:Sp:=fun vs H Q _=>∃ c:Int,vs=[.int c]/\∀ (r:Ud) (ws:List UP) (H':Hp),L2.Same H H'->H' r=some (.lst (ws.map V.str))->rL ws->Q (.ref r) H'
set_option maxHeartbeats 1000000 in
theorem iC:bf P w K mg base CX0 1 T.g__law_names.f T.g__law_names.d ["cell"] ml:=by
 refine T.g__law_names.F.ok bd (fun vs H Q E h=>?_) (fun yJ A outer s H vs Q E hr h=>?_)
 · obtain ⟨c,rfl,_⟩:=h;rfl
 obtain ⟨c,rfl,q⟩:=h
 refine ⟨_,(ae (av (i:=1) bd.nd rfl (Ux rfl) eO)
  (ae (av (i:=2) bd.nd rfl (Ux rfl) (az bM af (az bI (az ci (pv 0) af) af)))
  (ae (av (i:=3) bd.nd rfl (Ux rfl) (az ci (pv 0) af))
  (ae (av (i:=4) bd.nd rfl (Ux rfl) eO)
  (ae (bm UO rfl (bp rfl T.n_range (aa af ac)) (aj (i:=5) bd.nd rfl (Ux rfl)) (ag (av (i:=4) bd.nd rfl (Ux rfl) (az iM (pv 4) (ax t5 (pv 1) (az bI (az ci (pv 3) (az bM (pv 5) af)) af) (fun _ _=>rfl))))))
  (ae (av (i:=6) bd.nd rfl (Ux rfl) (bC ac))
  (ae (bm UO rfl (bp rfl T.n_range (aa af ac)) (aj (i:=5) bd.nd rfl (Ux rfl)) (ae (av (i:=7) bd.nd rfl (Ux rfl) (ax t5 (pv 1) (az bI (az bM (pv 3) (az dj (az dj af (pv 2)) (pv 5))) af) (fun _ _=>rfl)))
  (ag (bq (aH cD (az bI (pv 0) af) af (aO _)) (ag (aQ (bL Ur UJ UI aP (pv 6) (aa (pv 7) ac)))) (ag (bq (aH cD (az bI (pv 0) af) af (aO _)) (ag (aQ (bL Ur UJ UI aP (pv 6) (aa (az iM (pv 7) (bB ql (pv 4) (bF af) (bF af))) ac)))) (ag (bq (aH cD (az bI (pv 0) af) af (aO _)) (ag (aQ (bL Ur UJ UI aP (pv 6) (aa (az iM (bB ql (pv 4) bY (bF af)) (pv 7)) ac)))) (ag (aQ (bL Ur UJ UI aP (pv 6) (aa (bB ql (pv 4) bY (bF (az bM (az dj af (pv 5)) af))) ac))))))))))))
  (ag (aA (pv 6)))))))))),?_⟩
 try dsimp only [yZ,yE]
 have z0:=VA (c / 4) (show (4:Int)≠0 by decide);have z1:=Vu (c / 4) (show (0:Int)<4 by decide);refine ⟨_,rfl,_,_,rfl,rfl,⟨by decide,by decide⟩,_,_,rfl,rfl,(by show (0:Int)<4;decide),_,_,rfl,rfl,?_⟩;refine ⟨_,rfl,_,_,rfl,rfl,⟨by decide,by decide⟩,?_⟩
 try dsimp only [aG]
 have Gv:1<=1+c / 4%4:=by omega
 have Pg:1+c / 4%4<=4:=by omega
 generalize 1+c / 4%4=st at Gv Pg ⊢;generalize c / 16=a;refine ⟨8,rfl,by decide,by decide,?_⟩
 refine bD (n:=8) (fun i σ H2=>Ex2 fun (word:UP) (kv:Option V)=>An4 (σ=[some (.int c),some (.str dE),some (.int st),some (.int a),some (.str word),kv,none,none]) (H2=H) (Low word) (word.length=i))
  ⟨Ui "",none,rfl,rfl,(fun x hx=>by have:x∈([]:List Nat):=hx;cases this),rfl⟩ ?_ ?_
 · rintro i σ H2 hi ⟨word,kv,rfl,rfl,Dn,hlen⟩;have DG:i<8:=hi;have y0:=VA (a / (0+(i:Int)+1)) (show (26:Int)≠0 by decide);have y1:=Vu (a / (0+(i:Int)+1)) (show (0:Int)<26 by decide);refine ⟨_,rfl,_,rfl,_,rfl,_,rfl,_,_,rfl,rfl,_,_,rfl,rfl,⟨by show (0:Int)<0+(i:Int)+1;omega,by show 0+(i:Int)+1<1073741824;omega⟩,_,_,rfl,rfl,(by show (0:Int)<26;decide),dE,_,_,rfl,rfl,ak (by rw [kc];decide),m9 y0 y1,?_⟩;refine ⟨_,_,rfl,rfl,ak (by show word.length+1<=1000000;omega),_,_,rfl,rfl,oj Dn (kx (by omega) (by omega)),?_⟩;rw [strLen_append];show word.length+1=i+1;omega
 rintro σ H2 ⟨word,kv,rfl,rfl,Dn,hlen⟩;have Dq:word.length=8:=hlen;refine ⟨ak (by show 0<=1000000;decide),fun nl CD=>?_⟩;refine ⟨4,rfl,by decide,by decide,?_⟩
 refine bD (n:=4) (fun i σ H3=>Ex3 fun (kv tv:Option V) (ws:List UP)=>An5 (σ=[some (.int c),some (.str dE),some (.int st),some (.int a),some (.str word),kv,some (.ref nl),tv]) (L2.Same H2 H3) (H3 nl=some (.lst (ws.map V.str))) (ws.length=i) (∀ (j:Nat) (x:UP),ws[j]?=some x->x=jK (c%4) a st word j))
  ⟨kv,none,[],rfl,ad CD _,ab,rfl,fun j x hj=>by simp at hj⟩ ?_ ?_
 · rintro i σ H3 hi ⟨kv,tv,ws,rfl,s3,e3,By,zt⟩;have Ph:i<4:=hi;have y0:=VA (a+5 * st * (0+(i:Int))) (show (26:Int)≠0 by decide);have y1:=Vu (a+5 * st * (0+(i:Int))) (show (0:Int)<26 by decide);refine ⟨_,rfl,_,rfl,_,rfl,_,_,rfl,rfl,.inl ⟨by decide,by decide⟩,_,rfl,_,_,rfl,rfl,.inl ⟨by omega,by omega⟩,_,_,rfl,rfl,_,_,rfl,rfl,(by show (0:Int)<26;decide),dE,_,_,rfl,rfl,ak (by rw [kc];decide),m9 y0 y1,?_⟩;have GU:97+((a+5 * st * (0+(i:Int)))%26).toNat=ik a st i:=by unfold ik;rw [VH]
   try dsimp only
   rw [GU]
   have fin:∀ x,x=jK (c%4) a st word i->∀ yA,yA=[some (.int c),some (.str dE),some (.int st),some (.int a),some (.str word),some (.int (0+(i:Int))),some (.ref nl),some (.str ⟨#[ik a st i]⟩)]->Ex3 fun (kv tv:Option V) (B3:List UP)=>An5 (yA=[some (.int c),some (.str dE),some (.int st),some (.int a),some (.str word),kv,some (.ref nl),tv]) (L2.Same H2 (upd H3 nl (.lst (ws.map V.str++[.str x])))) ((upd H3 nl (.lst (ws.map V.str++[.str x]))) nl=some (.lst (B3.map V.str))) (B3.length=i+1) (∀ (j:Nat) (x:UP),B3[j]?=some x->x=jK (c%4) a st word j):=fun x hx yA M4=>by
    refine ⟨_,_,ws++[x],M4,ay s3 CD,by rw [ab,Ut];rfl,by rw [UA,By];rfl,fun j y hj=>?_⟩;by_cases IY:j<ws.length
    · rw [Wl IY] at hj;exact zt j y hj
    · have BG:=(Uh.mp hj).1;rw [UA] at BG
      have:j=ws.length:=by
       have:([x]:List UP).length=1:=rfl;omega
      subst this;rw [WQ (Ue _),ZF] at hj;have:x=y:=by simpa using hj
      rw [<- this,hx,By]
   have RY:ws.length<=4:=by omega
   refine ⟨_,rfl,_,_,rfl,rfl,(by show (0:Int)<4;decide),rfl,_,rfl,?_⟩;refine cB (fun c0=>?_) (fun c0=>?_)
   · have h0:c%4=0:=V.int.inj (of_decide_eq_true c0);exact ⟨_,rfl,.inl ⟨rfl,_,SqL.of e3⟩,_,rfl,nl,_,_,rfl,rfl,e3,aF (by rw [T8];omega),fin _ (by unfold jK;rw [if_pos h0]) _ rfl⟩
   have n0:¬ c%4=0:=fun z=>c0 (decide_eq_true (congrArg V.int z));refine ⟨_,rfl,_,_,rfl,rfl,(by show (0:Int)<4;decide),rfl,_,rfl,?_⟩;refine cB (fun c1=>?_) (fun c1=>?_)
   · have h1:c%4=1:=V.int.inj (of_decide_eq_true c1);refine ⟨_,rfl,.inl ⟨rfl,_,SqL.of e3⟩,_,rfl,_,rfl,_,rfl,_,rfl,_,rfl,ak (by omega),_,_,rfl,rfl,ak (by rw [oP Dq];show 1+3<=1000000;decide),nl,_,_,rfl,rfl,e3,aF (by rw [T8];omega),fin _ (by unfold jK;rw [if_neg n0,if_pos h1]) _ rfl⟩
   have n1:¬ c%4=1:=fun z=>c1 (decide_eq_true (congrArg V.int z));refine ⟨_,rfl,_,_,rfl,rfl,(by show (0:Int)<4;decide),rfl,_,rfl,?_⟩;refine cB (fun c2=>?_) (fun c2=>?_)
   · have h2:c%4=2:=V.int.inj (of_decide_eq_true c2);have Tz:=(fy (z:=word) (n:=5) (by omega)).2;refine ⟨_,rfl,.inl ⟨rfl,_,SqL.of e3⟩,_,rfl,_,rfl,_,rfl,ak (by omega),_,rfl,_,_,rfl,rfl,ak (by show (eE word none (some ((5:Nat):Int))).length+1<=1000000;omega),nl,_,_,rfl,rfl,e3,aF (by rw [T8];omega),fin _ (by unfold jK;rw [if_neg n0,if_neg n1,if_pos h2]) _ rfl⟩
   have n2:¬ c%4=2:=fun z=>c2 (decide_eq_true (congrArg V.int z));refine ⟨_,rfl,.inl ⟨rfl,_,SqL.of e3⟩,_,rfl,_,rfl,_,_,rfl,rfl,.inl ⟨by decide,by decide⟩,_,_,rfl,rfl,_,rfl,_,rfl,ak (by omega),nl,_,_,rfl,rfl,e3,aF (by rw [T8];omega),fin _ (by unfold jK;rw [if_neg n0,if_neg n1,if_neg n2,VH]) _ rfl⟩
 · rintro σ H3 ⟨kv,tv,ws,rfl,s3,e3,By,zt⟩;refine ⟨_,rfl,q nl ws H3 s3 e3 ⟨By,fun x hx=>?_,fun i j x hi hj=>?_⟩⟩
   · obtain ⟨j,hj⟩:=UC.mp hx;have BG:=(Uh.mp hj).1;rw [zt j x hj];exact uo Dn Dq (by omega)
   · have An:=(Uh.mp hi).1;have BG:=(Uh.mp hj).1;have h1:=zt i x hi;have h2:=zt j x hj;exact uF Gv Pg Dq (by omega) (by omega) (h1.symm.trans h2)
inductive gu (vs:List V) (H:Hp) (Q:VK) (_E:XK):Prop
 | mk (c:Int) (na:Ud) (ws:List UP) (yL:vs=[.int c,.ref na]) (yM:H na=some (.lst (ws.map V.str))) (yR:rL ws) (yY:∀ (r:Ud) (as:List Ud) (ks:List (UP×Int)) (H':Hp),L2.Same H H'->H' r=some (.tup (as.map V.ref))->KsAt H' ks as->bZ ks->ks.length<=4->Q (.ref r) H'):gu  vs H Q _E
def mm:Sp:=gu
set_option maxHeartbeats 1000000 in
theorem iD:bf P w K mg base CX0 1 T.g__law_kinds.f T.g__law_kinds.d ["cell","names"] mm:=by
 refine T.g__law_kinds.F.ok bw (fun vs H Q E h=>?_) (fun yJ A outer s H vs Q E hr h=>?_)
 · obtain ⟨c,na,ws,rfl,_⟩:=h;rfl
 obtain ⟨c,na,ws,rfl,M5,zt,q⟩:=h
 refine ⟨_,(ae (av (i:=2) bw.nd rfl (Ux rfl) (az bM af (az bI (pv 0) af)))
  (ae (av (i:=3) bw.nd rfl (Ux rfl) (az bI (az ci (pv 0) af) (pv 2)))
  (ae (av (i:=4) bw.nd rfl (Ux rfl) (az ci (pv 0) af))
  (ae (av (i:=5) bw.nd rfl (Ux rfl) (bC ac))
  (ae (bm UO rfl (bp rfl T.n_range (aa (pv 2) ac)) (aj (i:=6) bw.nd rfl (Ux rfl)) (ae (av (i:=7) bw.nd rfl (Ux rfl) (az bI (pv 4) af))
  (ae (av (i:=4) bw.nd rfl (Ux rfl) (az ci (pv 4) af))
  (ae (bq (aH cD (pv 6) (pv 3) (aO _)) (ag (av (i:=7) bw.nd rfl (Ux rfl) af)) aZ)
  (ag (aQ (bL Ur UJ UI aP (pv 5) (aa (aK (aa (ax aN (pv 1) (pv 6) (fun _ _=>rfl)) (aa (pv 7) ac))) ac))))))))
  (ag (aA (de cH rfl T.n_tuple VY (aa (pv 5) ac))))))))),?_⟩
 try dsimp only [yZ,yE]
 have z0:=VA c (show (3:Int)≠0 by decide);have z1:=Vu c (show (0:Int)<3 by decide);refine ⟨_,rfl,_,_,rfl,rfl,(by show (0:Int)<3;decide),_,_,rfl,rfl,?_⟩
 try dsimp only [aG]
 have m2:2<=2+c%3:=by omega
 have m4:2+c%3<=4:=by omega
 generalize 2+c%3=many at m2 m4 ⊢;have y0:=VA (c / 3) (show many≠0 by omega);have y1:=Vu (c / 3) (show 0<many by omega);refine ⟨_,rfl,_,_,rfl,rfl,⟨by decide,by decide⟩,_,rfl,_,_,rfl,rfl,(by show 0<many;omega),?_⟩
 try dsimp only [aG]
 generalize c / 3%many=leaf at y0 y1 ⊢;refine ⟨_,rfl,_,_,rfl,rfl,⟨by decide,by decide⟩,?_⟩;refine ⟨ak (by show 0<=1000000;decide),fun kl zE=>?_⟩;refine ⟨_,rfl,many,rfl,by omega,by omega,?_⟩;have By:=zt.len
 refine bD (n:=many.toNat) (fun i σ H3=>Ex5 fun (rest:Int) (kv cv:Option V) (as:List Ud) (ks:List (UP×Int))=>An6 (σ=[some (.int c),some (.ref na),some (.int many),some (.int leaf),some (.int rest),some (.ref kl),kv,cv]) (L2.Same H H3) (H3 kl=some (.lst (as.map V.ref))) (KsAt H3 ks as) (ks.length=i) (∀ (j:Nat) (k:UP×Int),ks[j]?=some k->ws[j]?=some k.1/\0<=k.2/\k.2<=3/\((j:Int)=leaf->k.2=0)))
  ⟨c / 12,none,none,[],[],rfl,ad zE _,ab,.nil,rfl,fun j k hj=>by simp at hj⟩ ?_ ?_
 · rintro i σ H3 hi ⟨rest,kv,cv,as,ks,rfl,s3,e3,Ay,M6,hinv⟩;have Ph:i<many.toNat:=hi;have x0:=VA rest (show (4:Int)≠0 by decide);have x1:=Vu rest (show (0:Int)<4 by decide);refine ⟨_,rfl,_,_,rfl,rfl,(by show (0:Int)<4;decide),?_⟩
   try dsimp only [aG]
   refine ⟨_,rfl,_,_,rfl,rfl,⟨by decide,by decide⟩,?_⟩
   try dsimp only [aG]
   refine jD (fun yA H'=>An2 (H3=H') (Ex1 fun (ct:Int)=>An4 (0<=ct) (ct<=3) (((i:Int)=leaf->ct=0)) (yA=[some (.int c),some (.ref na),some (.int many),some (.int leaf),some (.int (rest / 4)),some (.ref kl),some (.int (0+(i:Int))),some (.int ct)]))) (fun kk hk=>?_) ?_
   · refine ⟨_,rfl,_,rfl,rfl,_,rfl,?_⟩;refine cB (fun c1=>?_) (fun c1=>?_)
     · exact hk _ _ ⟨rfl,0,by decide,by decide,fun _=>rfl,rfl⟩
     · exact hk _ _ ⟨rfl,_,x0,by omega,fun z=>absurd (decide_eq_true (by rw [<- z];congr 1;omega)) c1,rfl⟩
   rintro yA H' ⟨rfl,ct,RZ,R1,R4,rfl⟩;obtain ⟨x,hx⟩:∃ x,ws[i]?=some x:=⟨_,Ua (by omega)⟩;have Aw:ks.length=as.length:=Up Ay;refine ⟨_,rfl,.inl ⟨rfl,_,SqL.of e3⟩,_,rfl,_,rfl,na,_,_,.str x,rfl,rfl,SqL.of (s3 _ _ M5),at_nonneg (by omega) (by rw [show (0+(i:Int)).toNat=i by omega,Ul,hx];rfl),_,rfl,ak (by show 2<=1000000;decide),fun p hp=>?_⟩;have s4:L2.Same H3 (upd H3 p (.tup [.str x,.int ct])):=ad hp _;have e4:(upd H3 p (.tup [.str x,.int ct])) p=some (.tup [.str x,.int ct]):=ab;generalize (upd H3 p (.tup [.str x,.int ct]))=H4 at s4 e4 ⊢;have Pj:=s4 _ _ e3;refine ⟨kl,_,_,rfl,rfl,Pj,aF (by rw [T8];omega),?_⟩;have kt:KT H4 (upd H4 kl (.lst (as.map V.ref++[.ref p]))):=aU Pj;refine ⟨_,_,_,as++[p],ks++[(x,ct)],rfl,ay (s3.trans s4) zE,by rw [ab,Ut];rfl,?_,by rw [UA,M6];rfl,fun j k hj=>?_⟩
   · exact P2.append (P2.mp (fun _ _ e=>kt _ _ (s4 _ _ e)) Ay) (.cons (kt _ _ e4) .nil)
   · by_cases IY:j<ks.length
     · rw [Wl IY] at hj;exact hinv j k hj
     · have BG:=(Uh.mp hj).1;rw [UA] at BG
       have:j=ks.length:=by
        have:([(x,ct)]:List (UP×Int)).length=1:=rfl;omega
       subst this;rw [WQ (Ue _),ZF] at hj;have:(x,ct)=k:=by simpa using hj
       rw [<- this,M6];exact ⟨hx,RZ,R1,R4⟩
 · rintro σ H3 ⟨rest,kv,cv,as,ks,rfl,s3,e3,Ay,M6,hinv⟩;refine ⟨_,rfl,kl,_,rfl,.inl ⟨SqL.of e3,fun p hp=>?_⟩⟩;have s4:=ad hp (.tup (as.map V.ref));refine q p as ks _ (s3.trans s4) ab (Ay.mono (Same.kt s4)) ⟨by omega,by omega,fun k hk=>?_,fun k hk=>?_,?_,fun i j k l hk hl e=>?_⟩ (by omega)
   · obtain ⟨j,hj⟩:=UC.mp hk;exact zt.low _ (Uc (hinv j k hj).1)
   · obtain ⟨j,hj⟩:=UC.mp hk;exact ⟨(hinv j k hj).2.1,(hinv j k hj).2.2.1⟩
   · have hl:leaf.toNat<ks.length:=by omega
     exact ⟨ks[leaf.toNat],Ye hl,(hinv leaf.toNat _ (Ua hl)).2.2.2 (by omega)⟩
   · refine zt.inj i j k.1 (hinv i k hk).1 ?_;rw [e];exact (hinv j l hl).1
inductive gA (n:Nat) (vs:List V) (H:Hp) (Q:VK) (_E:XK):Prop
 | mk (l oa:Ud) (x b:Int) (yX:List Ud) (outs:List (UP×Int)) (S C:Int) (yL:vs=[.ref l,.ref oa,.int S,.int C]) (yM:H l=some (.lst [.int x,.int b])) (yR:H oa=some (.tup (yX.map V.ref))) (yY:KsAt H outs yX) (zf:bZ outs) (zY:S<1000000) (BD:C<1000000) (BX:0<=b) (D4:b<(n:Int)) (GG:∀ (t:Th) (r:Ud) (x' b':Int) (H':Hp),SameB l H H'->H' l=some (.lst [.int x',.int b'])->At H' t r->t.FitS outs S C->0<=b'->(t.size:Int)+b'=b+1->Q (.ref r) H'):gA n vs H Q _E
def mo (n:Nat):Sp:=gA n
set_option maxHeartbeats 2000000 in
theorem cE:∀ n:Nat,bf P w K mg base CX0 (n+1) T.g__law_thing.f T.g__law_thing.d ["left","outs","states","kids"] (mo n)
 | 0=>⟨fun _ _ _ _ h=>by obtain ⟨_,_,_,_,_,_,_,_,_,_,_,_,_,_,_,h1,h2,_⟩:=h;omega,fun _ _ _ _ _ _ _ _ _ _ _ _ _ h=>by obtain ⟨_,_,_,_,_,_,_,_,_,_,_,_,_,_,_,h1,h2,_⟩:=h;omega⟩
 | n+1=>by
   have ih:=cE n;refine T.g__law_thing.F.ok bv (fun vs H Q E h=>?_) (fun yJ A outer s H vs Q E hr h=>?_)
   · obtain ⟨l,oa,x,b,yX,outs,S,C,rfl,_⟩:=h;rfl
   obtain ⟨l,oa,x,b,yX,outs,S,C,rfl,el,eo,Ay,g,R5,R6,b0,b1,q⟩:=h
   refine ⟨_,(ae (av (i:=4) bv.nd rfl (Ux rfl) (az bI (ax aN (pv 0) af (fun _ _=>rfl)) af))
    (ae (cP (az ci (ax aN (pv 0) af (fun _ _=>rfl)) af) (jL (pv 0) af set_list))
    (ae (bq (PW.pt (tT (aH mI (pv 2) af (aO _)) (tT (aH mI (pv 3) af (aO _)) (vk (aH mX (pv 4) af (aO _)))))) (ae (av (i:=5) bv.nd rfl (Ux rfl) (az bI (ax aN (pv 0) af (fun _ _=>rfl)) (pv 2)))
    (ae (cP (az ci (ax aN (pv 0) af (fun _ _=>rfl)) (pv 2)) (jL (pv 0) af set_list))
    (ae (av (i:=6) bv.nd rfl (Ux rfl) (az bI (ax aN (pv 0) af (fun _ _=>rfl)) (pv 3)))
    (ae (cP (az ci (ax aN (pv 0) af (fun _ _=>rfl)) (pv 3)) (jL (pv 0) af set_list))
    (ag (aA (aK (aa eO (aa (pv 5) (aa (pv 6) ac)))))))))) aZ)
    (ae (fO (i:=7) (N:=[Ui "kind",Ui "left"]) (js:=[none,some 0]) (g:=(aG 0)) (tt:=(sd (tOp (rI0 fun i j=>.bl (decide (i<=j))) (tOp (sO K) (bx 0) (tC (.int 1))) (tOp (wE K) (bx 1) (tC (.int 1)))))) (te:=(bx 0)) bv.nd rfl (Ux rfl) rfl (cG rfl (by decide +kernel) (by decide +kernel) rfl rfl rfl) (iH (pv 1)) (fun _ _ _ _ _ _=>(aj (i:=0) xZ rfl (Ux rfl))) (aS rfl) (fun _ _ _ _ _ _=>kA (aH xk (ax aC (pv 0) af (fun _ _=>rfl)) (ax aN (pv 1) af (fun _ _=>rfl)) (aO _))) (fun _ _ _ _ _ _=>(pv 0)))
    (ae (av (i:=8) bv.nd rfl (Ux rfl) (ax aN (pv 7) (az bI (ax aN (pv 0) af (fun _ _=>rfl)) (aw ai rfl T.n_len UE (aa (pv 7) ac))) (fun _ _=>rfl)))
    (ae (cP (az ci (ax aN (pv 0) af (fun _ _=>rfl)) (aw ai rfl T.n_len UE (aa (pv 7) ac))) (jL (pv 0) af set_list))
    (ae (cP (az gh (ax aN (pv 0) af (fun _ _=>rfl)) (ax aC (pv 8) af (fun _ _=>rfl))) (jL (pv 0) af set_list))
    (ae (av (i:=9) bv.nd rfl (Ux rfl) (aK (aa (ax aC (pv 8) af (fun _ _=>rfl)) ac)))
    (ae (bm UO rfl (bp rfl T.n_range (aa (ax aC (pv 8) af (fun _ _=>rfl)) ac)) (aj (i:=10) bv.nd rfl (Ux rfl)) (ag (av (i:=9) bv.nd rfl (Ux rfl) (az dz (pv 9) (aK (aa (eI (ih) (hr.mono (Ue _)) rfl T.g__law_thing.m T.g__law_thing.F.kp T.g__law_thing.b .nil j6 (aa (pv 0) (aa (pv 1) (aa (pv 2) (aa (pv 3) ac))))) ac))))))
    (ag (aA (pv 9)))))))))))),?_⟩
   try dsimp only [yZ,yE]
   have zE:outs.length=yX.length:=Up Ay;have TB:=g.le;have Ks:=g.ne;have Qa:oa≠l:=f9 eo el (by intro z;cases z);refine ⟨_,rfl,l,_,0,.int x,rfl,rfl,SqL.of el,at0,_,_,rfl,rfl,(by show (0:Int)<7;decide),?_⟩
   try dsimp only [aG]
   generalize x%7=digit;refine ⟨_,rfl,l,_,0,.int x,rfl,rfl,SqL.of el,at0,_,_,rfl,rfl,⟨by decide,by decide⟩,_,rfl,l,_,_,0,rfl,rfl,el,rfl,?_⟩;have s1:SameB l H (upd H l (.lst [.int (x / 7),.int b])):=.set;have e1:(upd H l (.lst [.int (x / 7),.int b])) l=some (.lst [.int (x / 7),.int b]):=ab
   try dsimp only [List.set]
   generalize (upd H l (.lst [.int (x / 7),.int b]))=H1 at s1 e1 ⊢;generalize x / 7=x1 at e1;have Pk:KT H H1:=s1.kt el;refine jD (fun yA H'=>An2 (H1=H') (yA=[some (.ref l),some (.ref oa),some (.int S),some (.int C),some (.int digit),none,none,none,none,none,none])) (fun kk hk=>?_) ?_
   · refine fk (fun c H'=>An2 (H1=H') ((c=true->0<S/\0<C))) (fun k2 Br=>?_) (fun H' hb=>?_) (fun H' hb=>?_)
     · refine ⟨_,rfl,_,_,rfl,rfl,_,rfl,?_⟩;refine cB (fun c1=>?_) (fun c1=>Br _ _ ⟨rfl,fun z=>by cases z⟩);refine ⟨_,rfl,_,_,rfl,rfl,_,rfl,?_⟩;refine cB (fun c2=>?_) (fun c2=>Br _ _ ⟨rfl,fun z=>by cases z⟩);exact ⟨_,rfl,_,_,rfl,rfl,_,rfl,Br _ _ ⟨rfl,fun _=>⟨of_decide_eq_true c1,of_decide_eq_true c2⟩⟩⟩
     · obtain ⟨rfl,hb⟩:=hb;obtain ⟨hS,hC⟩:=hb rfl;have d0:=VA x1 (show S≠0 by omega);have d1:=Vu x1 hS;refine ⟨_,rfl,l,_,0,.int x1,rfl,rfl,SqL.of e1,at0,_,rfl,_,_,rfl,rfl,hS,?_⟩;refine ⟨_,rfl,l,_,0,.int x1,rfl,rfl,SqL.of e1,at0,_,rfl,_,_,rfl,rfl,⟨hS,by omega⟩,_,rfl,l,_,_,0,rfl,rfl,e1,rfl,?_⟩;have s2:SameB l H1 (upd H1 l (.lst [.int (x1 / S),.int b])):=.set;have e2:(upd H1 l (.lst [.int (x1 / S),.int b])) l=some (.lst [.int (x1 / S),.int b]):=ab
       try dsimp only [List.set]
       generalize (upd H1 l (.lst [.int (x1 / S),.int b]))=H2 at s2 e2 ⊢;generalize x1 / S=x2 at e2;have c0:=VA x2 (show C≠0 by omega);have c1:=Vu x2 hC;refine ⟨_,rfl,l,_,0,.int x2,rfl,rfl,SqL.of e2,at0,_,rfl,_,_,rfl,rfl,hC,?_⟩;refine ⟨_,rfl,l,_,0,.int x2,rfl,rfl,SqL.of e2,at0,_,rfl,_,_,rfl,rfl,⟨hC,by omega⟩,_,rfl,l,_,_,0,rfl,rfl,e2,rfl,?_⟩;have s3:SameB l H2 (upd H2 l (.lst [.int (x2 / C),.int b])):=.set;have e3:(upd H2 l (.lst [.int (x2 / C),.int b])) l=some (.lst [.int (x2 / C),.int b]):=ab
       try dsimp only [List.set]
       generalize (upd H2 l (.lst [.int (x2 / C),.int b]))=H3 at s3 e3 ⊢;refine ⟨_,rfl,_,rfl,ak (by show 3<=1000000;decide),fun ca Ii=>?_⟩;have s4:=ad Ii (.tup [.str BB.q,.int (x1%S),.int (x2%C)]);refine q (.call (x1%S) (x2%C)) ca _ b _ (s1.trans (s2.trans (s3.trans (.of s4)))) (s4 _ _ e3) ?_ ?_ b0 ?_
       · rw [At];exact ab
       · rw [Th.FitS];exact ⟨d0,d1,c0,c1⟩
       · rw [Th.size];show (1:Int)+b=b+1;omega
     · obtain ⟨rfl,_⟩:=hb;exact hk _ _ ⟨rfl,rfl⟩
   rintro yA H' ⟨rfl,rfl⟩;have M7:H1 oa=some (.tup (yX.map V.ref)):=Pk _ _ eo;have Jo:=Ay.mono Pk;obtain ⟨kz,GD,R7⟩:=g.zero;refine ⟨_,rfl,oa,rfl,⟨_,SqT.of M7⟩,qb (K:=K) (fun k=>decide (k.2<=b)) M7 Jo (by omega) ⟨kz,GD,decide_eq_true (by omega)⟩ (fun z ka H2 R sm hz r=>?_) (fun ka H2 R r=>⟨_,rfl,r⟩) (fun D bs H2 hD e' DF TC y8=>?_)⟩
   · exact ⟨_,rfl,ka,_,1,_,rfl,rfl,SqT.of hz,at1,_,rfl,l,_,1,.int b,rfl,rfl,SqL.of (sm _ _ e1),at1,_,_,rfl,rfl,_,rfl,r⟩
   have s2:L2.Same H1 H2:=by rw [e'];exact ad hD _
   have eD:H2 D=some (.lst (bs.map fun z=>V.ref z.2)):=by rw [e'];exact ab
   have F1:D≠l:=fun z=>by rw [z,e1] at hD;cases hD
   have Kt:=s2 _ _ e1;clear e';have C8:0<((bs.map fun z=>V.ref z.2).length:Int):=by rw [T8];omega
   have y0:=VA x1 (show ((bs.map fun z=>V.ref z.2).length:Int)≠0 by omega);have y1:=Vu x1 C8;refine hid fun ZZ kZ=>?_;obtain ⟨z,hz⟩:∃ z,bs[(x1%((bs.map fun z=>V.ref z.2).length:Int)).toNat]?=some z:=⟨_,Ua (by rw [T8] at y1 ⊢;omega)⟩;obtain ⟨Af,gp,Gy⟩:=y8 z (Uc hz);obtain ⟨k0,ka⟩:=z;refine kZ ?_;dsimp only at Af gp Gy hz;have TF:k0.2<=b:=of_decide_eq_true gp;have Ca:=g.num k0 Af;refine ⟨_,rfl,_,rfl,l,_,0,.int x1,rfl,rfl,SqL.of Kt,at0,_,rfl,D,_,rfl,.inl (SqL.of eD),_,_,rfl,rfl,C8,D,_,_,.ref ka,rfl,rfl,SqL.of eD,at_nonneg y0 (by rw [Ul,hz];rfl),?_⟩
   try dsimp only [aG]
   refine ⟨_,rfl,l,_,0,.int x1,rfl,rfl,SqL.of Kt,at0,_,rfl,D,_,rfl,.inl (SqL.of eD),_,_,rfl,rfl,⟨C8,by rw [T8];omega⟩,_,rfl,l,_,_,0,rfl,rfl,Kt,rfl,?_⟩;have s3:SameB l H2 (upd H2 l (.lst [.int (x1 / ((bs.map fun z=>V.ref z.2).length:Int)),.int b])):=.set;have e3:(upd H2 l (.lst [.int (x1 / ((bs.map fun z=>V.ref z.2).length:Int)),.int b])) l=some (.lst [.int (x1 / ((bs.map fun z=>V.ref z.2).length:Int)),.int b]):=ab
   try dsimp only [List.set]
   generalize (upd H2 l (.lst [.int (x1 / ((bs.map fun z=>V.ref z.2).length:Int)),.int b]))=H3 at s3 e3 ⊢;generalize x1 / ((bs.map fun z=>V.ref z.2).length:Int)=x3 at e3;have Iz:KT H2 H3:=s3.kt Kt;have Jp:H3 ka=some (.tup [.str k0.1,.int k0.2]):=Iz _ _ (s2 _ _ Gy);refine ⟨_,rfl,l,_,1,.int b,rfl,rfl,SqL.of e3,at1,_,rfl,ka,_,1,.int k0.2,rfl,rfl,SqT.of Jp,at1,_,_,rfl,rfl,_,rfl,l,_,_,1,rfl,rfl,e3,rfl,?_⟩;have s4:SameB l H3 (upd H3 l (.lst [.int x3,.int (b - k0.2)])):=.set;have e4:(upd H3 l (.lst [.int x3,.int (b - k0.2)])) l=some (.lst [.int x3,.int (b - k0.2)]):=ab
   try dsimp only [List.set]
   generalize (upd H3 l (.lst [.int x3,.int (b - k0.2)]))=H4 at s4 e4 ⊢;have FU:KT H3 H4:=s4.kt e3;have Jq:=FU _ _ Jp;refine ⟨_,rfl,ka,_,0,.str k0.1,rfl,rfl,SqT.of Jq,at0,ak (by show 1<=1000000;decide),fun ma R8=>?_⟩;have s5:L2.Same H4 (upd H4 ma (.tup [.str k0.1])):=ad R8 _;have e5:(upd H4 ma (.tup [.str k0.1])) ma=some (.tup (.str k0.1::([]:List Ud).map V.ref)):=ab
   try dsimp only
   generalize (upd H4 ma (.tup [.str k0.1]))=H5 at s5 e5 ⊢;have Jr:KT H1 H5:=(Same.kt s2).trans (Iz.trans (FU.trans (Same.kt s5)));have M8:=s5 _ _ Jq;have Pl:=s5 _ _ e4;have Bq:SameB l H H5:=s1.trans ((SameB.of s2).trans (s3.trans (s4.trans (.of s5))));refine ⟨_,rfl,ka,_,1,_,rfl,rfl,SqT.of M8,at1,k0.2,rfl,by omega,by omega,?_⟩
   refine bD (n:=k0.2.toNat) (fun i σ H6=>Ex6 fun (kv:Option V) (ma:Ud) (B0:List Ud) (ts:List Th) (x' b':Int)=>An9 (σ=[some (.ref l),some (.ref oa),some (.int S),some (.int C),some (.int digit),none,none,some (.ref D),some (.ref ka),some (.ref ma),kv]) (SameB l H5 H6) (H6 l=some (.lst [.int x',.int b'])) (H6 ma=some (.tup (.str k0.1::B0.map V.ref))) (Ats H6 ts B0) (ts.length=i) ((∀ t∈ts,t.FitS outs S C)) (0<=b') ((aq ts:Int)+b'=b - k0.2+(i:Int)))
    ⟨none,ma,[],[],x3,b - k0.2,rfl,.refl,Pl,e5,.nil,rfl,(fun t ht=>by cases ht),by omega,by rw [aq];show (0:Int)+(b - k0.2)=b - k0.2+0;omega⟩ ?_ ?_
   · rintro i σ H6 hi ⟨kv,ma,B0,ts,x',b',rfl,s6,Js,M9,Eg,zb,yG,Jt,M'⟩;have TH:i<k0.2.toNat:=hi;have DI:KT H5 H6:=s6.kt Pl;have hsz:=bH ts;refine ⟨_,rfl,_,rfl,_,rfl,_,rfl,_,rfl,l,oa,x',b',yX,outs,S,C,rfl,Js,(Jr.trans DI) _ _ M7,Jo.mono (Jr.trans DI),g,R5,R6,Jt,by omega,fun t r x7 b7 H7 s7 R9 zP BH GR R'=>?_⟩;have Cc:KT H6 H7:=s7.kt Js;refine ⟨ak (by show 1<=1000000;decide),fun p1 AN=>?_⟩;have s8:L2.Same H7 (upd H7 p1 (.tup [.ref r])):=ad AN _;have e8:(upd H7 p1 (.tup [.ref r])) p1=some (.tup [.ref r]):=ab;generalize (upd H7 p1 (.tup [.ref r]))=H8 at s8 e8 ⊢;have Ao:B0.length=ts.length:=Eg.length;refine mj (s8 _ _ (Cc _ _ M9)) e8 (by rw [Uo,T8];show B0.length+1+1<=1000000;omega) fun p H9 s9 e9=>?_;have Ku:=s8.trans s9;refine ⟨_,p,B0++[r],ts++[t],x7,b7,rfl,s6.trans (s7.trans (.of Ku)),Ku _ _ R9,?_,?_,?_,?_,GR,?_⟩
     · rw [e9,Ut];rfl
     · exact (Eg.mono (Cc.trans (Same.kt Ku))).append (.cons (zP.mono (Same.kt Ku)) .nil)
     · rw [UA,zb];rfl
     · intro u hu;rcases U8.mp hu with hu | hu
       · exact yG u hu
       · rw [UH.mp hu];exact BH
     · rw [bg,aq,aq];omega
   · rintro σ H6 ⟨kv,ma,B0,ts,x',b',rfl,s6,Js,M9,Eg,zb,yG,Jt,M'⟩;have Dn:=(g.low k0 Af).1;refine ⟨_,rfl,q (.knot k0.1 ts) ma x' b' H6 (Bq.trans s6) Js ?_ ?_ Jt ?_⟩
     · rw [At];exact ⟨rV Dn,B0,M9,Eg⟩
     · rw [Th.FitS];refine ⟨?_,FitSs.of yG⟩
       have:(k0.1,(ts.length:Int))=k0:=by
        rw [zb];exact Prod.ext rfl (by show ((k0.2.toNat:Nat):Int)=k0.2;omega)
       rw [this];exact Af
     · rw [Th.size];have:((k0.2.toNat:Nat):Int)=k0.2:=by omega
       omega
def PlAt (H:Hp) (p:List Int) (b:Ud):Prop:=H b=some (.tup (p.map V.int))
theorem PlAt.mono {H H':Hp} (k:KT H H') {p:List Int} {b:Ud} (h:PlAt H p b):PlAt H' p b:=k _ _ h
inductive fY (n:Nat) (vs:List V) (H:Hp) (Q:VK) (_E:XK):Prop
 | mk (a:Ud) (t:Th) (yL:vs=[.ref a]) (yM:At H t a) (yR:t.tall<=n) (yY:t.size<=1000) (zf:∀ (r:Ud) (ps:List (List Int)) (bs:List Ud) (H':Hp),L2.Same H H'->H r=none->H' r=some (.lst (bs.map V.ref))->UR (PlAt H') ps bs->1<=ps.length->ps.length<=t.size->(∀ p∈ps,p.length+1<=t.tall/\∃ u,t.sub p=some u)->Q (.ref r) H'):fY n vs H Q _E
def kF (n:Nat):Sp:=fY n
set_option maxHeartbeats 1000000 in
theorem gI:∀ n:Nat,bf P w K mg base CX0 n T.g__law_places.f T.g__law_places.d ["thing"] (kF n)
 | 0=>⟨fun _ _ _ _ h=>by obtain ⟨_,t,_,_,h1,_⟩:=h;have:=t.tall_eq;omega,fun _ _ _ _ _ _ _ _ _ _ _ _ _ h=>by obtain ⟨_,t,_,_,h1,_⟩:=h;have:=t.tall_eq;omega⟩
 | n+1=>by
   have ih:=gI n;refine T.g__law_places.F.ok cS (fun vs H Q E h=>?_) (fun yJ A outer s H vs Q E hr h=>?_)
   · obtain ⟨a,t,rfl,_⟩:=h;rfl
   obtain ⟨a,t,rfl,hA,zb,hsz,q⟩:=h
   refine ⟨_,(ae (av (i:=1) cS.nd rfl (Ux rfl) (bC (aa (aK ac) ac)))
    (ae (bq (aH lQ (ax aC (pv 0) af (fun _ _=>rfl)) eO (aO _)) (ag (bm UO rfl (hX rfl T.n_range (aa af (aa (aw ai rfl T.n_len UE (aa (pv 0) ac)) ac))) (aj (i:=2) cS.nd rfl (Yt rfl)) (ag (av (i:=1) cS.nd rfl (Ux rfl) (az uG (pv 1) (cq (N:=[Ui "place",Ui "k"]) (js:=[none,some 2]) (g:=(aG 0)) (tt:=bK) (te:=(tOp (lO K) (kj (bu (tOp (rI0 fun i j=>.int (i - j)) (bx 1) (tC (.int 1))) d4)) (bx 0))) rfl (cG rfl (by decide +kernel) (by decide +kernel) rfl rfl rfl) (cn (eI (ih) (hr.mono (Ue _)) rfl T.g__law_places.m T.g__law_places.F.kp T.g__law_places.b .nil j6 (aa (ax aC (pv 0) (pv 2) (fun _ _=>rfl)) ac))) (fun _ _ _ _ _ _=>(aj (i:=0) vK rfl (Ux rfl))) (aS rfl) (fun _ _ _ _ _ _=>bS) (fun _ _ _ _ _ _=>(az dz (aK (aa (az gh (pv 1) af) ac)) (pv 0))))))))) aZ)
    (ag (aA (pv 1))))),?_⟩
   try dsimp only [yZ,yE]
   refine ⟨ak (by show 0<=1000000;decide),fun ep Na=>?_⟩;have s1:L2.Same H (upd H ep (.tup [])):=ad Na _;have e1:PlAt (upd H ep (.tup [])) [] ep:=ab;generalize (upd H ep (.tup []))=H1 at s1 e1 ⊢;refine ⟨ak (by show 1<=1000000;decide),fun fl Az=>?_⟩;have s2:L2.Same H1 (upd H1 fl (.lst [.ref ep])):=ad Az _;have e2:(upd H1 fl (.lst [.ref ep])) fl=some (.lst ([ep].map V.ref)):=ab;have EZ:H fl=none:=s1.free Az
   try dsimp only [aG]
   generalize (upd H1 fl (.lst [.ref ep]))=H2 at s2 e2 ⊢;have zo:=s1.trans s2;have Kv:=hA.mono (Same.kt zo);cases t with
   | call sn kn =>
     rw [At] at Kv;refine ⟨_,rfl,a,_,0,.str BB.q,rfl,rfl,SqT.of Kv,at0,rfl,_,rfl,?_⟩;refine cI ?_;refine ⟨_,rfl,q fl [[]] [ep] H2 zo EZ e2 (.cons (e1.mono (Same.kt s2)) .nil) (Ue _) (by rw [Th.size];exact Ue _) (fun p hp=>?_)⟩;rw [UH.mp hp,Th.tall];exact ⟨Ue _,_,i7 _⟩
   | knot m ks =>
     rw [At] at Kv;refine hid fun ZZ kZ=>?_;obtain ⟨Kw,yV,ea,zj⟩:=Kv;refine kZ ?_;rw [Th.tall] at zb;rw [Th.size] at hsz;have zE:=zj.length;have Ay:=bH ks;refine ⟨_,rfl,a,_,0,.str m,rfl,rfl,SqT.of ea,at0,rfl,_,rfl,?_⟩
     have yU:(!decide (V.str m=V.str (Ui "?")))=true:=by
      have:decide (V.str m=V.str (Ui "?"))=false:=decide_eq_false fun z=>Kw (V.str.inj z);rw [this];rfl
     rw [yU];refine pS ?_;refine ⟨_,rfl,a,_,rfl,.inr (SqT.of ea),1,_,rfl,⟨by decide,by decide,by rw [Uo,T8];omega,by rw [Uo,T8];omega⟩,?_⟩;have E1:((((V.str m::yV.map V.ref).length:Nat):Int) - 1).toNat=ks.length:=by rw [Uo,T8];omega
     rw [E1]
     refine bD (n:=ks.length) (fun i σ H3=>Ex4 fun (kv:Option V) (fl:Ud) (ps:List (List Int)) (bs:List Ud)=>An9 (σ=[some (.ref a),some (.ref fl),kv]) (L2.Same H H3) (H fl=none) (H3 fl=some (.lst (bs.map V.ref))) (UR (PlAt H3) ps bs) (1<=ps.length) (ps.length<=1+aq (ks.take i)) ((∀ p∈ps,p.length+1<=bG ks+1/\∃ u,(Th.knot m ks).sub p=some u)) (L2.Same H2 H3))
      ⟨none,fl,[[]],[ep],rfl,zo,EZ,e2,.cons (e1.mono (Same.kt s2)) .nil,Ue _,by rw [Xc,aq];exact Ue _,(fun p hp=>by rw [UH.mp hp];exact ⟨by show 0+1<=bG ks+1;omega,_,i7 _⟩),.refl _⟩ ?_ ?_
     · rintro i σ H3 hi ⟨kv,fl,ps,bs,rfl,s3,EZ,e3,zm,AN,zD,yG,Kx⟩;have y9:i<ks.length:=hi;have GB:=Kx _ _ ea;have Ju:=zj.mono (Same.kt Kx);refine hid fun ZZ kZ=>?_;obtain ⟨ka,zr⟩:∃ ka,yV[i]?=some ka:=⟨_,Ua (by omega)⟩;obtain ⟨u,hu,Jv⟩:=Ju.get zr;refine kZ ?_;have GV:=Uc hu;have Kd:=bR GV;have Sa:=kY GV
       have zy:aq (ks.take i)+u.size<=aq ks:=by
        have h1:aq (ks.take (i+1))+aq (ks.drop (i+1))=aq ks:=by rw [<- bg,List.take_append_drop]
        rw [take_snoc hu,bg,aq,aq] at h1;omega
       refine ⟨_,rfl,_,rfl,_,rfl,a,_,_,.ref ka,rfl,rfl,SqT.of GB,at_nonneg (by omega) (by rw [show (1+(i:Int)).toNat=i+1 by omega,U9,Ul,zr];rfl),ka,u,rfl,Jv,by omega,by omega,fun r Ky BO H4 s4 nr er Dr Sb Sd E2=>?_⟩;have Eh:Ky.length=BO.length:=Up Dr;have Ao:ps.length=bs.length:=Up zm;refine ⟨r,rfl,⟨_,SqL.of er⟩,jd (F:=PlAt) (xs:=BO.map V.ref) (Ky.map fun p=>(i:Int)::p) (fun H1 H2 z p kt h=>h.mono kt) (by rw [T8,T8];exact Eh) (by rw [T8];omega) (fun j Hx sx hj=>⟨_,_,SqL.of (sx _ _ er),Ua hj⟩) (fun Hx sx=>⟨_,SqL.of (sx _ _ er),Ue _⟩) (fun j Hx x Hy sx hj hy=>⟨hy.1,hy.2 _ (SqL.of (sx _ _ er))⟩) (fun j x z Hx R W' hx Bh sx hR=>?_) (fun D H5 Ds hD s5 eD BM=>?_)⟩
       · obtain ⟨pb,rfl,B1⟩:=aT hx;rw [Ul] at Bh;obtain ⟨p,hp,rfl⟩:=UN.mp Bh;have Nb:PlAt Hx p pb:=(i5 Dr hp B1).mono (Same.kt sx);have F4:=(E2 p (Uc hp)).1;have Nc:=cL u;refine ⟨_,rfl,_,_,rfl,rfl,ak (by show 1<=1000000;decide),fun k1 Ks=>?_⟩;have t1:L2.Same Hx (upd Hx k1 (.tup [.int (1+(i:Int) - 1)])):=ad Ks _;have f1:(upd Hx k1 (.tup [.int (1+(i:Int) - 1)])) k1=some (.tup [.int (i:Int)]):=by rw [ab,show 1+(i:Int) - 1=(i:Int) by omega]
         try dsimp only
         generalize (upd Hx k1 (.tup [.int (1+(i:Int) - 1)]))=Hy at t1 f1 ⊢;refine ⟨_,rfl,?_⟩;refine mj f1 (t1 _ _ Nb) (by rw [T8];show 1+p.length<=1000000;omega) fun p3 H7 s7 e7=>?_;exact hR H7 p3 (t1.trans s7) e7
       have Dt:(Ky.map fun p=>(i:Int)::p).length=Ds.length:=Up BM;rw [T8] at Dt;have Nf:=(s4.trans s5) _ _ e3;refine ⟨fl,D,_,_,rfl,rfl,Nf,eD,ak (by rw [T8,T8];omega),fun nl CD=>?_⟩;have s6:L2.Same H5 (upd H5 nl (.lst (bs.map V.ref++Ds.map V.ref))):=ad CD _;have Du:=s4.trans (s5.trans s6);refine ⟨_,nl,ps++Ky.map (fun p=>(i:Int)::p),bs++Ds,rfl,s3.trans Du,(s3.trans (s4.trans s5)).free CD,by rw [ab,Ut],?_,?_,?_,fun p hp=>?_,Kx.trans Du⟩
       · exact P2.append (P2.mp (fun _ _ e=>PlAt.mono (Same.kt Du) e) zm) (P2.mp (fun _ _ e=>PlAt.mono (Same.kt s6) e) BM)
       · rw [UA];omega
       · rw [UA,T8,take_snoc hu,bg,aq,aq];omega
       · rcases U8.mp hp with hp | hp
         · exact yG p hp
         · obtain ⟨p2,AO,rfl⟩:=Vb.mp hp;obtain ⟨h1,v,hv⟩:=E2 p2 AO;refine ⟨by rw [Uo];omega,v,?_⟩;rw [pR (u:=u) (by omega) (by show ks[(i:Int).toNat]?=some u;rw [Vk];exact hu)];exact hv
     · rintro σ H3 ⟨kv,fl,ps,bs,rfl,s3,EZ,e3,zm,AN,zD,yG,Kx⟩;rw [VG (Ue _)] at zD;exact ⟨_,rfl,q fl ps bs H3 s3 EZ e3 zm AN (by rw [Th.size];omega) (by rw [Th.tall];exact yG)⟩
inductive jk (n:Nat) (vs:List V) (H:Hp) (Q:VK) (_E:XK):Prop
 | mk (a pa oa:Ud) (t o u:Th) (p:List Int) (yL:vs=[.ref a,.ref pa,.ref oa]) (yM:At H t a) (yR:H pa=some (.tup (p.map V.int))) (yY:At H o oa) (zf:t.sub p=some u) (zY:p.length<n) (BD:t.size<=1000) (BX:∀ (r:Ud) (H':Hp),L2.Same H H'->At H' (t.put p o) r->Q (.ref r) H'):jk n vs H Q _E
def pM (n:Nat):Sp:=jk n
set_option maxHeartbeats 1000000 in
theorem j4:∀ n:Nat,bf P w K mg base CX0 n T.g__law_put.f T.g__law_put.d ["thing","place","other"] (pM n)
 | 0=>⟨fun _ _ _ _ h=>by obtain ⟨_,_,_,_,_,_,_,_,_,_,_,_,h1,_⟩:=h;omega,fun _ _ _ _ _ _ _ _ _ _ _ _ _ h=>by obtain ⟨_,_,_,_,_,_,_,_,_,_,_,_,h1,_⟩:=h;omega⟩
 | n+1=>by
   have ih:=j4 n;refine T.g__law_put.F.ok kb (fun vs H Q E h=>?_) (fun yJ A outer s H vs Q E hr h=>?_)
   · obtain ⟨a,pa,oa,t,o,u,p,rfl,_⟩:=h;rfl
   obtain ⟨a,pa,oa,t,o,u,p,rfl,hA,AQ,hO,zU,zD,hsz,q⟩:=h
   refine ⟨_,(ae (bq (aH cD (aw ai rfl T.n_len UE (aa (pv 1) ac)) af (aO _)) (ag (aA (pv 2))) aZ)
    (ae (av (i:=3) kb.nd rfl (Ux rfl) (az bM (ax aC (pv 1) af (fun _ _=>rfl)) af))
    (ag (aA (az dz (az dz (bB eT (pv 0) bY (bF (pv 3))) (aK (aa (eI (ih) (hr.mono (Ue _)) rfl T.g__law_put.m T.g__law_put.F.kp T.g__law_put.b .nil j6 (aa (ax aC (pv 0) (pv 3) (fun _ _=>rfl)) (aa (bB eT (pv 1) (bF af) bY) (aa (pv 2) ac)))) ac))) (bB eT (pv 0) (bF (az bM (pv 3) af)) bY)))))),?_⟩
   try dsimp only [yZ,yE]
   refine ⟨_,rfl,pa,_,rfl,.inr (SqT.of AQ),rfl,_,rfl,?_⟩;cases p with
   | nil =>
     refine pS ?_;exact ⟨_,rfl,q oa H (.refl _) (by rw [nY];exact hO)⟩
   | cons i r =>
     have Cq:decide (V.int (((((i::r).map V.int).length:Nat)):Int)=V.int 0)=false:=decide_eq_false fun z=>by
      have:=V.int.inj z;rw [T8,Uo] at this;omega
     rw [Cq];refine cI ?_;refine hid fun ZZ kZ=>?_;obtain ⟨h0,v,hv,Se⟩:=nI zU;refine kZ ?_;cases t with
     | call sn kn=>rw [Th.kids] at hv;simp at hv
     | knot m ks =>
     rw [Th.kids] at hv;have Pm:=hA;rw [At] at Pm;obtain ⟨Kw,yV,ea,zj⟩:=Pm;rw [Th.size] at hsz;have zE:=zj.length;have Ay:=bH ks;have An:=(Uh.mp hv).1;obtain ⟨j,rfl⟩:∃ j:Nat,i=(j:Int):=⟨_,(WG h0).symm⟩;rw [Vk] at hv An;refine ⟨_,rfl,pa,_,0,.int (j:Int),rfl,rfl,SqT.of AQ,at0,_,_,rfl,rfl,?_⟩
     try dsimp only [aG]
     have ej:(j:Int)+1=((j+1:Nat):Int):=by omega
     rw [ej];refine ⟨_,rfl,_,rfl,_,rfl,a,_,rfl,SqT.of ea,?_,fun p1 AN=>?_⟩
     · rintro ⟨_,z⟩;rw [HT.sIx_nat,Uo,T8] at z;omega
     try dsimp only
     have Ke:ef (V.str m::yV.map V.ref) none (some ((j+1:Nat):Int))=V.str m::(yV.take j).map V.ref:=by
      rw [vp (by rw [Uo,T8];omega),List.take_succ_cons,List.map_take]
     rw [Ke];have s1:L2.Same H (upd H p1 (.tup (V.str m::(yV.take j).map V.ref))):=ad AN _;have e1:(upd H p1 (.tup (V.str m::(yV.take j).map V.ref))) p1=some (.tup (V.str m::(yV.take j).map V.ref)):=ab;generalize (upd H p1 (.tup (V.str m::(yV.take j).map V.ref)))=H1 at s1 e1 ⊢;have Ng:=s1 _ _ ea;refine hid fun ZZ kZ=>?_;obtain ⟨ka,zr⟩:∃ ka,yV[j]?=some ka:=⟨_,Ua (by omega)⟩;obtain ⟨v',zu,Sf⟩:=(zj.mono (Same.kt s1)).get zr;refine kZ ?_;rw [hv] at zu;cases zu;refine ⟨_,rfl,_,rfl,a,_,_,.ref ka,rfl,rfl,SqT.of Ng,at_nonneg (by omega) (by rw [Vk,U9,Ul,zr];rfl),?_⟩;refine ⟨_,rfl,1,rfl,pa,_,rfl,SqT.of (s1 _ _ AQ),?_,fun p2 AO=>?_⟩
     · rintro ⟨z,_⟩;rw [Vd,Uo,show (1:Int)=((1:Nat):Int) by rfl,HT.sIx_nat] at z;omega
     try dsimp only
     rw [Vd,dO];have s2:L2.Same H1 (upd H1 p2 (.tup (r.map V.int))):=ad AO _;have e2:(upd H1 p2 (.tup (r.map V.int))) p2=some (.tup (r.map V.int)):=ab;generalize (upd H1 p2 (.tup (r.map V.int)))=H2 at s2 e2 ⊢;have zo:=s1.trans s2;have Cu:=kY (Uc hv);rw [Uo] at zD;refine ⟨_,rfl,ka,p2,oa,v,o,u,r,rfl,Sf.mono (Same.kt s2),e2,hO.mono (Same.kt zo),Se,by omega,by omega,fun r3 H3 s3 h3=>?_⟩;refine ⟨ak (by show 1<=1000000;decide),fun p4 Nh=>?_⟩;have s4:L2.Same H3 (upd H3 p4 (.tup [.ref r3])):=ad Nh _;have e4:(upd H3 p4 (.tup [.ref r3])) p4=some (.tup [.ref r3]):=ab;generalize (upd H3 p4 (.tup [.ref r3]))=H4 at s4 e4 ⊢;refine mj ((s2.trans (s3.trans s4)) _ _ e1) e4 (by rw [Uo,T8,U1];show min j yV.length+1+1<=1000000;omega) fun p5 H5 s5 e5=>?_;have Bq:=zo.trans (s3.trans (s4.trans s5));refine ⟨_,rfl,_,rfl,_,_,rfl,rfl,_,rfl,a,_,rfl,SqT.of (Bq _ _ ea),?_,fun p6 Sg=>?_⟩
     · rintro ⟨z,_⟩;have Sh:((j+1:Nat):Int)+1=((j+2:Nat):Int):=by omega
       rw [Sh,HT.sIx_nat,Uo,T8] at z;omega
     try dsimp only
     have Co:ef (V.str m::yV.map V.ref) (some (((j+1:Nat):Int)+1)) none=(yV.drop (j+1)).map V.ref:=by
      rw [show ((j+1:Nat):Int)+1=((j+2:Nat):Int) by omega,jJ (by rw [Uo,T8];omega),Zk,Zq]
     rw [Co];have s6:L2.Same H5 (upd H5 p6 (.tup ((yV.drop (j+1)).map V.ref))):=ad Sg _;have e6:(upd H5 p6 (.tup ((yV.drop (j+1)).map V.ref))) p6=some (.tup ((yV.drop (j+1)).map V.ref)):=ab;generalize (upd H5 p6 (.tup ((yV.drop (j+1)).map V.ref)))=H6 at s6 e6 ⊢;refine mj (s6 _ _ e5) e6 (by rw [UA,Uo,T8,U1,T8,Vx];show min j yV.length+1+1+(yV.length - (j+1))<=1000000;omega) fun p7 H7 s7 e7=>?_;have Jw:=s4.trans (s5.trans (s6.trans s7));have Pn:=Bq.trans (s6.trans s7);refine q p7 H7 Pn ?_;have GW:(Th.knot m ks).kids[(j:Int).toNat]?=some v:=by rw [Vk];exact hv
     rw [kX GW,At];refine ⟨Kw,yV.set j r3,?_,?_⟩
     · rw [e7];have:yV.set j r3=yV.take j++r3::yV.drop (j+1):=List.set_eq_take_append_cons_drop .. |>.trans (if_pos (by omega));rw [this];simp [Th.nm]
     · rw [Vk];exact (zj.mono (Same.kt Pn)).set _ (h3.mono (Same.kt Jw))
theorem ig {l:Ud} {o:HO} {H H':Hp} (hl:H l=none) (h:SameB l (upd H l o) H'):L2.Same H H':=fun b ob e=>h b ob (aL e hl) (by rw [am (aL e hl)];exact e)
def v6 (ins outs:List (UP×Int)) (S:Int) (m:Nat) (rows:List (List Th)):Prop:=∀ row∈rows,row.length=ins.length/\∀ (j:Nat) (t:Th) (k:UP×Int),row[j]?=some t->ins[j]?=some k->t.FitS outs S k.2/\t.size<=m
inductive iF (vs:List V) (H:Hp) (Q:VK) (_E:XK):Prop
 | mk (ca ia oa:Ud) (cs:List Int) (yI yX:List Ud) (ins outs:List (UP×Int)) (S:Int) (yL:vs=[.ref ca,.ref ia,.ref oa,.int S]) (yM:H ca=some (.lst (cs.map V.int))) (yR:H ia=some (.tup (yI.map V.ref))) (yY:KsAt H ins yI) (zf:bZ ins) (zY:H oa=some (.tup (yX.map V.ref))) (BD:KsAt H outs yX) (BX:bZ outs) (D4:0<=S) (GG:S<=1000) (FL:S.toNat * (ins.length+1)<=cs.length) (FN:cs.length<=100000) (Ni:∀ (r:Ud) (zi:List Ud) (rows:List (List Th)) (H':Hp),L2.Same H H'->H' r=some (.tup (zi.map V.ref))->UR (RowAt H') rows zi->(rows.length:Int)=S->v6 ins outs S 9 rows->Q (.ref r) H'):iF  vs H Q _E
def nD:Sp:=iF
set_option maxHeartbeats 4000000 in
theorem oC:bf P w K mg base CX0 10 T.g__law_rows.f T.g__law_rows.d ["cells","ins","outs","states"] nD:=by
 refine T.g__law_rows.F.ok bh (fun vs H Q E h=>?_) (fun yJ A outer s H vs Q E hr h=>?_)
 · obtain ⟨ca,ia,oa,cs,yI,yX,ins,outs,S,rfl,_⟩:=h;rfl
 obtain ⟨ca,ia,oa,cs,yI,yX,ins,outs,S,rfl,Kz,F5,AG,gi,Bf,Ei,go,S0,S1,Bn,ID,q⟩:=h
 refine ⟨_,(ae (av (i:=4) bh.nd rfl (Ux rfl) (bC ac))
  (ae (bm UO rfl (bp rfl T.n_range (aa (pv 3) ac)) (aj (i:=5) bh.nd rfl (Ux rfl)) (ae (av (i:=6) bh.nd rfl (Ux rfl) (bB nA (pv 0) (bF (az dj (pv 5) (az bM (aw ai rfl T.n_len UE (aa (pv 1) ac)) af))) bY))
  (ae (av (i:=7) bh.nd rfl (Ux rfl) (pcF T.g__law_thing (cE T 7) hr (aa (bC (aa (pcF T.g__law_mixed (eW T) hr (aa (ax aN (pv 6) af (fun _ _=>rfl)) (aa (az dj af (pv 5)) ac))) (aa af ac))) (aa (pv 2) (aa af (aa af ac))))))
  (ae (av (i:=8) bh.nd rfl (Ux rfl) (pcF T.g__law_places (gI T 8) hr (aa (pv 7) ac)))
  (ae (av (i:=9) bh.nd rfl (Ux rfl) (bC ac))
  (ae (bm UO rfl (bp rfl T.n_range (aa (aw ai rfl T.n_len UE (aa (pv 1) ac)) ac)) (aj (i:=10) bh.nd rfl (Ux rfl)) (ae (av (i:=11) bh.nd rfl (Ux rfl) (pcF T.g__law_mixed (eW T) hr (aa (ax aN (pv 6) (az bM (pv 10) af) (fun _ _=>rfl)) (aa (az bM (az dj af (pv 10)) (pv 5)) ac))))
  (ag (bq (aH cD (az bI (pv 11) af) af (aO _)) (ag (aQ (bL Ur UJ UI aP (pv 9) (aa (pcF T.g__law_thing (cE T 7) hr (aa (bC (aa (az ci (pv 11) af) (aa af ac))) (aa (pv 2) (aa (pv 3) (aa (ax aC (ax aC (pv 1) (pv 10) (fun _ _=>rfl)) af (fun _ _=>rfl)) ac))))) ac)))) (ae (av (i:=12) bh.nd rfl (Ux rfl) (ax aN (pv 8) (az bI (az ci (pv 11) af) (aw ai rfl T.n_len UE (aa (pv 8) ac))) (fun _ _=>rfl)))
  (ae (av (i:=13) bh.nd rfl (Ux rfl) (pcF T.g__law_thing (cE T 7) hr (aa (bC (aa (az ci (az ci (pv 11) af) (aw ai rfl T.n_len UE (aa (pv 8) ac))) (aa af ac))) (aa (pv 2) (aa (pv 3) (aa (ax aC (ax aC (pv 1) (pv 10) (fun _ _=>rfl)) af (fun _ _=>rfl)) ac))))))
  (ag (aQ (bL Ur UJ UI aP (pv 9) (aa (pcF T.g__law_put (j4 T 8) hr (aa (pv 7) (aa (pv 12) (aa (pv 13) ac)))) ac))))))))))
  (ag (aQ (bL Ur UJ UI aP (pv 4) (aa (de cH rfl T.n_tuple VY (aa (pv 9) ac)) ac))))))))))
  (ag (aA (de cH rfl T.n_tuple VY (aa (pv 4) ac)))))),?_⟩
 try dsimp only [yZ,yE]
 have An:ins.length=yI.length:=Up AG;have DG:=gi.le;refine ⟨ak (by show 0<=1000000;decide),fun rl DV=>?_⟩;refine ⟨_,rfl,S,rfl,by omega,by omega,?_⟩
 refine bD (n:=S.toNat) (fun i σ H3=>xC fun (c5 c6 c7 c8 c9 Ac Ej CF CG:Option V) (zi:List Ud) (rows:List (List Th))=>An6 (σ=[some (.ref ca),some (.ref ia),some (.ref oa),some (.int S),some (.ref rl),c5,c6,c7,c8,c9,Ac,Ej,CF,CG]) (L2.Same H H3) (H3 rl=some (.lst (zi.map V.ref))) (UR (RowAt H3) rows zi) (rows.length=i) (v6 ins outs S 9 rows))
  ⟨none,none,none,none,none,none,none,none,none,[],[],rfl,ad DV _,ab,.nil,rfl,fun row h=>by cases h⟩ ?_ ?_
 · rintro i σ H3 hi ⟨c5,c6,c7,c8,c9,Ac,Ej,CF,CG,zi,rows,rfl,s3,e3,GX,E1,F6⟩;have TJ:i<S.toNat:=hi
   have hmul:i * (ins.length+1)+(ins.length+1)<=cs.length:=by
    have h1:(i+1) * (ins.length+1)<=S.toNat * (ins.length+1):=Zc _ (by omega);rw [Nat.add_mul,Nat.one_mul] at h1;omega
   have Nj:=s3 _ _ Kz;have F7:=s3 _ _ F5;refine ⟨_,rfl,_,rfl,_,rfl,ia,_,rfl,.inr (SqT.of F7),_,_,rfl,rfl,_,_,rfl,rfl,.inl ⟨by omega,by omega⟩,_,rfl,ca,_,rfl,SqL.of Nj,fun ow how=>?_⟩
   have DK:(0+(i:Int)) * ((((yI.map V.ref).length:Nat):Int)+1)=((i * (ins.length+1):Nat):Int):=by
    rw [T8,<- An,VH];simp
   try dsimp only [aG]
   rw [DK,jJ (by rw [T8];omega),<- Zq];have Cw:(cs.drop (i * (ins.length+1))).length=cs.length - i * (ins.length+1):=Vx;generalize cs.drop (i * (ins.length+1))=ds at Cw ⊢;have s4:L2.Same H3 (upd H3 ow (.lst (ds.map V.int))):=ad how _;have e4:(upd H3 ow (.lst (ds.map V.int))) ow=some (.lst (ds.map V.int)):=ab;generalize (upd H3 ow (.lst (ds.map V.int)))=H4 at s4 e4 ⊢;obtain ⟨d0,Cv⟩:∃ d0,ds[0]?=some d0:=⟨_,Ua (by omega)⟩;refine ⟨_,rfl,ow,_,0,.int d0,rfl,rfl,SqL.of e4,at_nonneg (by decide) (by show (ds.map V.int)[0]?=_;rw [Ul,Cv];rfl),_,rfl,_,_,rfl,rfl,.inl ⟨by decide,by decide⟩,_,_,rfl,fun z=>?_⟩;refine ⟨ak (by show 2<=1000000;decide),fun l1 zT=>?_⟩;have s5:L2.Same H4 (upd H4 l1 (.lst [.int z,.int 6])):=ad zT _;have e5:(upd H4 l1 (.lst [.int z,.int 6])) l1=some (.lst [.int z,.int 6]):=ab;have CB:=s4.trans s5;refine ⟨_,rfl,l1,oa,z,6,yX,outs,0,0,rfl,e5,(s3.trans CB) _ _ Bf,Ei.mono (Same.kt (s3.trans CB)),go,by decide,by decide,by decide,by decide,fun bt ba x' b' H6 s6 Js Po Si Jt TL=>?_⟩;have Du:L2.Same H4 H6:=ig zT s6;clear s5 e5 CB s6;have y8:bt.size<=7:=by omega
   have TM:=cL bt;refine ⟨_,rfl,ba,bt,rfl,Po,by omega,by omega,fun sp ps bs H7 s7 _ Sj zm AN zD yG=>?_⟩;have Ao:ps.length=bs.length:=Up zm;have GO:=Du.trans s7;have Nk:=Po.mono (Same.kt s7);refine ⟨ak (by show 0<=1000000;decide),fun CH De=>?_⟩;have Jw:=s4.trans GO;refine ⟨_,rfl,ia,_,rfl,.inr (SqT.of (ad De _ _ _ (Jw _ _ F7))),_,rfl,by omega,by rw [T8];omega,?_⟩
   refine bD (n:=(((yI.map V.ref).length:Nat):Int).toNat) (fun j σ H8=>Ex6 fun (Ac Ej CF CG:Option V) (Bs:List Ud) (ts:List Th)=>An6 (σ=[some (.ref ca),some (.ref ia),some (.ref oa),some (.int S),some (.ref rl),some (.int (0+(i:Int))),some (.ref ow),some (.ref ba),some (.ref sp),some (.ref CH),Ac,Ej,CF,CG]) (L2.Same H7 H8) (H8 CH=some (.lst (Bs.map V.ref))) (Ats H8 ts Bs) (ts.length=j) (∀ (j:Nat) (t:Th) (k:UP×Int),ts[j]?=some t->ins[j]?=some k->t.FitS outs S k.2/\t.size<=9))
    ⟨_,_,_,_,[],[],rfl,ad De _,ab,.nil,rfl,fun j t k h=>by simp at h⟩ ?_ ?_
   · rintro j σ H8 hj ⟨Ac,Ej,CF,CG,Bs,ts,rfl,s8,e8,Eg,GU,Nl⟩
     have yS:j<ins.length:=by
      have h1:j<(((yI.map V.ref).length:Nat):Int).toNat:=hj;rw [T8] at h1;omega
     have F8:=Jw.trans s8;have Sk:=(GO.trans s8) _ _ e4;obtain ⟨d1,FF⟩:∃ d1,ds[j+1]?=some d1:=⟨_,Ua (by omega)⟩;refine ⟨_,rfl,_,rfl,_,_,rfl,rfl,ow,_,_,.int d1,rfl,rfl,SqL.of Sk,at_nonneg (by omega) (by rw [show (0+(j:Int)+1).toNat=j+1 by omega,Ul,FF];rfl),_,rfl,_,_,rfl,rfl,.inl ⟨by decide,by decide⟩,_,rfl,_,_,rfl,rfl,_,_,rfl,fun nb=>?_⟩;refine hid fun ZZ kZ=>?_;obtain ⟨k0,Aa⟩:∃ k0,ins[j]?=some k0:=⟨_,Ua yS⟩;obtain ⟨ka,zr,Gy⟩:=P2.get AG Aa;refine kZ ?_;have Ca:=gi.num k0 (Uc Aa);have Jx:H8 ka=some (.tup [.str k0.1,.int k0.2]):=(s3.trans F8) _ _ Gy;have Jy:=F8 _ _ F7;have Eh:=Eg.length
     have Ct:∀ (t:Th) (ta:Ud) (H9:Hp) (CF CG:Option V),L2.Same H8 H9->At H9 t ta->t.FitS outs S k0.2->t.size<=9->∀ yA,yA=[some (.ref ca),some (.ref ia),some (.ref oa),some (.int S),some (.ref rl),some (.int (0+(i:Int))),some (.ref ow),some (.ref ba),some (.ref sp),some (.ref CH),some (.int (0+(j:Int))),some (.int nb),CF,CG]->Ex6 fun (Ac Ej CF CG:Option V) (Ek:List Ud) (Nm:List Th)=>An6 (yA=[some (.ref ca),some (.ref ia),some (.ref oa),some (.int S),some (.ref rl),some (.int (0+(i:Int))),some (.ref ow),some (.ref ba),some (.ref sp),some (.ref CH),Ac,Ej,CF,CG]) (L2.Same H7 (upd H9 CH (.lst (Bs.map V.ref++[.ref ta])))) ((upd H9 CH (.lst (Bs.map V.ref++[.ref ta]))) CH=some (.lst (Ek.map V.ref))) (Ats (upd H9 CH (.lst (Bs.map V.ref++[.ref ta]))) Nm Ek) (Nm.length=j+1) (∀ (j:Nat) (t:Th) (k:UP×Int),Nm[j]?=some t->ins[j]?=some k->t.FitS outs S k.2/\t.size<=9):=fun t ta H9 CF CG s9 zP BH hsz yA M4=>by
      have e9:=s9 _ _ e8;have kt:KT H9 (upd H9 CH (.lst (Bs.map V.ref++[.ref ta]))):=aU e9;refine ⟨_,_,_,_,Bs++[ta],ts++[t],M4,ay (s8.trans s9) De,by rw [ab,Ut];rfl,(Eg.mono ((Same.kt s9).trans kt)).append (.cons (zP.mono kt) .nil),by rw [UA,GU];rfl,fun m u k hu hk=>?_⟩;by_cases hm:m<ts.length
      · rw [Wl hm] at hu;exact Nl m u k hu hk
      · have Kc:=(Uh.mp hu).1;rw [UA] at Kc
        have:m=ts.length:=by
         have:([t]:List Th).length=1:=rfl;omega
        subst this;rw [WQ (Ue _),ZF] at hu;have e1:t=u:=by simpa using hu
        rw [GU,Aa] at hk;cases hk;rw [<- e1];exact ⟨BH,hsz⟩
     refine ⟨_,rfl,_,_,rfl,rfl,(by show (0:Int)<4;decide),rfl,_,rfl,?_⟩;refine cB (fun c1=>?_) (fun c1=>?_)
     · refine ⟨_,rfl,.inl ⟨rfl,_,SqL.of e8⟩,_,rfl,_,_,rfl,rfl,⟨by decide,by decide⟩,ak (by show 2<=1000000;decide),fun l2 zw=>?_⟩;have s9:L2.Same H8 (upd H8 l2 (.lst [.int (nb / 4),.int 6])):=ad zw _;have E3:=(s3.trans F8).trans s9;refine ⟨_,rfl,_,rfl,_,rfl,_,rfl,ia,_,_,.ref ka,rfl,rfl,SqT.of (s9 _ _ Jy),at_nonneg (by omega) (by rw [show (0+(j:Int)).toNat=j by omega,Ul,zr];rfl),ka,_,1,.int k0.2,rfl,rfl,SqT.of (s9 _ _ Jx),at1,?_⟩;refine ⟨l2,oa,_,6,yX,outs,S,k0.2,rfl,ab,E3 _ _ Bf,Ei.mono (Same.kt E3),go,by omega,by omega,by decide,by decide,fun pt pa x2 b2 zx zk Nn Dw Np DC EH=>?_⟩;have BS:L2.Same H8 zx:=ig zw zk;refine ⟨CH,_,_,rfl,rfl,BS _ _ e8,aF (by rw [T8];omega),?_⟩;exact Ct pt pa zx _ _ BS Dw Np (by omega) _ rfl
     · have F9:=s8 _ _ Sj;have C8:0<(((bs.map V.ref).length:Nat):Int):=by rw [T8];omega
       have y0:=VA (nb / 4) (show (((bs.map V.ref).length:Nat):Int)≠0 by omega);have y1:=Vu (nb / 4) C8;refine hid fun ZZ kZ=>?_;obtain ⟨m,hm⟩:∃ m:Nat,nb / 4%(((bs.map V.ref).length:Nat):Int)=(m:Int):=⟨_,(WG y0).symm⟩;have Kc:m<bs.length:=by rw [hm,T8] at y1;omega
       obtain ⟨pb,B1⟩:∃ pb,bs[m]?=some pb:=⟨_,Ua Kc⟩;obtain ⟨p,hp⟩:∃ p,ps[m]?=some p:=⟨_,Ua (by omega)⟩;have Iq:PlAt H8 p pb:=(i5 zm hp B1).mono (Same.kt s8);obtain ⟨Pp,u,zU⟩:=yG p (Uc hp);refine kZ ?_;refine ⟨_,rfl,_,rfl,_,_,rfl,rfl,⟨by decide,by decide⟩,_,rfl,sp,_,rfl,.inl (SqL.of F9),_,_,rfl,rfl,C8,sp,_,_,.ref pb,rfl,rfl,SqL.of F9,at_nonneg y0 (by rw [hm,Vk,Ul,B1];rfl),?_⟩;refine ⟨_,rfl,_,_,rfl,rfl,⟨by decide,by decide⟩,_,rfl,sp,_,rfl,.inl (SqL.of F9),_,_,rfl,rfl,⟨C8,by rw [T8];omega⟩,ak (by show 2<=1000000;decide),fun l2 zw=>?_⟩;have s9:L2.Same H8 (upd H8 l2 (.lst [.int (nb / 4 / (((bs.map V.ref).length:Nat):Int)),.int 2])):=ad zw _;have E3:=(s3.trans F8).trans s9;refine ⟨_,rfl,_,rfl,_,rfl,_,rfl,ia,_,_,.ref ka,rfl,rfl,SqT.of (s9 _ _ Jy),at_nonneg (by omega) (by rw [show (0+(j:Int)).toNat=j by omega,Ul,zr];rfl),ka,_,1,.int k0.2,rfl,rfl,SqT.of (s9 _ _ Jx),at1,?_⟩;refine ⟨l2,oa,_,2,yX,outs,S,k0.2,rfl,ab,E3 _ _ Bf,Ei.mono (Same.kt E3),go,by omega,by omega,by decide,by decide,fun pt pa x2 b2 zx zk Nn Dw Np DC EH=>?_⟩;have BS:L2.Same H8 zx:=ig zw zk;refine ⟨_,rfl,.inl ⟨rfl,_,SqL.of (BS _ _ e8)⟩,_,rfl,_,rfl,_,rfl,?_⟩;refine ⟨ba,pb,pa,bt,pt,u,p,rfl,Nk.mono (Same.kt (s8.trans BS)),Iq.mono (Same.kt BS),Dw,zU,by omega,by omega,fun ra zS Ae Jz=>?_⟩;have JA:=BS.trans Ae;have Sl:=pT p bt u pt zU;have Sm:=size_pos u;refine ⟨CH,_,_,rfl,rfl,JA _ _ e8,aF (by rw [T8];omega),?_⟩;exact Ct (bt.put p pt) ra zS _ _ JA Jz (p8 p bt u pt zU (FitS.up Si) Np) (by omega) _ rfl
   · rintro σ H8 ⟨Ac,Ej,CF,CG,Bs,ts,rfl,s8,e8,Eg,GU,Nl⟩
     have Nq:ts.length=ins.length:=by
      rw [GU,T8];omega
     have F8:=Jw.trans s8;have Pq:=F8 _ _ e3;refine ⟨_,rfl,.inl ⟨rfl,_,SqL.of Pq⟩,_,rfl,CH,_,rfl,.inl ⟨SqL.of e8,fun tp FG=>?_⟩⟩;have s9:L2.Same H8 (upd H8 tp (.tup (Bs.map V.ref))):=ad FG _;have e9:(upd H8 tp (.tup (Bs.map V.ref))) tp=some (.tup (Bs.map V.ref)):=ab;generalize (upd H8 tp (.tup (Bs.map V.ref)))=H9 at s9 e9 ⊢;have Pr:=s9 _ _ Pq;have Sn:rows.length=zi.length:=Up GX;refine ⟨rl,_,_,rfl,rfl,Pr,aF (by rw [T8];omega),?_⟩;have kt:KT H9 (upd H9 rl (.lst (zi.map V.ref++[.ref tp]))):=aU Pr;have E3:=F8.trans s9;refine ⟨_,_,_,_,_,_,_,_,_,zi++[tp],rows++[ts],rfl,ay (s3.trans E3) DV,by rw [ab,Ut];rfl,?_,by rw [UA,E1];rfl,fun row yC=>?_⟩
     · refine P2.append (P2.mp (fun _ _ e=>RowAt.mono ((Same.kt E3).trans kt) e) GX) (.cons ⟨Bs,kt _ _ e9,Eg.mono ((Same.kt s9).trans kt)⟩ .nil)
     · rcases U8.mp yC with h | h
       · exact F6 row h
       · rw [UH.mp h];exact ⟨Nq,Nl⟩
 · rintro σ H3 ⟨c5,c6,c7,c8,c9,Ac,Ej,CF,CG,zi,rows,rfl,s3,e3,GX,E1,F6⟩;refine ⟨_,rfl,rl,_,rfl,.inl ⟨SqL.of e3,fun p hp=>?_⟩⟩;have s4:=ad hp (.tup (zi.map V.ref));exact q p zi rows _ (s3.trans s4) ab (P2.mp (fun _ _ e=>RowAt.mono (Same.kt s4) e) GX) (by omega) F6
inductive io (K:Ub) (vs:List V) (H:Hp) (Q:VK) (_E:XK):Prop
 | mk (a:Ud) (ns:List Int) (k:Int) (yL:vs=[.ref a,.int k]) (yM:SqL K H a (ns.map V.int)) (yR:0<=k) (yY:∀ c:Int,Q (.int c) H):io K vs H Q _E
def nU (K:Ub):Sp:=io K
theorem cR:bf P w K mg base CX0 1 T.g__law_cell.f T.g__law_cell.d ["script","k"] (nU K):=by
 refine T.g__law_cell.F.ok n9 (fun vs H Q E h=>?_) (fun yJ A outer s H vs Q E hr h=>?_)
 · obtain ⟨a,ns,k,rfl,_⟩:=h;rfl
 obtain ⟨a,ns,k,rfl,hS,h0,q⟩:=h
 refine ⟨_,(ae (bq (aH mX (pv 1) (aw ai rfl T.n_len UE (aa (pv 0) ac)) (aO _)) (ag (aA (ax aN (pv 0) (pv 1) (fun _ _=>rfl)))) aZ)
  (ag (aA af))),?_⟩
 try dsimp only [yZ,yE]
 refine ⟨_,rfl,_,rfl,a,_,rfl,.inl hS,_,_,rfl,rfl,_,rfl,?_⟩;refine cB (fun c=>?_) (fun c=>q 0);have c':k<(((ns.map V.int).length:Nat):Int):=of_decide_eq_true c;rw [T8] at c';exact ⟨_,rfl,_,rfl,a,_,k,_,rfl,rfl,hS,int_at h0 c',q _⟩
inductive ip (vs:List V) (H:Hp) (Q:VK) (_E:XK):Prop
 | mk (ca ia oa:Ud) (cs:List Int) (yI yX:List Ud) (ins outs:List (UP×Int)) (S:Int) (yL:vs=[.ref ca,.ref ia,.ref oa,.int S]) (yM:H ca=some (.lst (cs.map V.int))) (yR:H ia=some (.tup (yI.map V.ref))) (yY:KsAt H ins yI) (zf:bZ ins) (zY:H oa=some (.tup (yX.map V.ref))) (BD:KsAt H outs yX) (BX:bZ outs) (D4:0<=S) (GG:S<=1000) (FL:1+S.toNat * (ins.length+1)<=cs.length) (FN:cs.length<=100000) (Ni:∀ (r:Ud) (head:Th) (rows:List (List Th)) (H':Hp),L2.Same H H'->Bk H' ins outs head rows r->v9 ins outs S 9 head rows->head.size<=5->Q (.ref r) H'):ip  vs H Q _E
def nL:Sp:=ip
set_option maxHeartbeats 1000000 in
theorem ny:bf P w K mg base CX0 11 T.g__law_book.f T.g__law_book.d ["cells","ins","outs","states"] nL:=by
 refine T.g__law_book.F.ok jm (fun vs H Q E h=>?_) (fun yJ A outer s H vs Q E hr h=>?_)
 · obtain ⟨ca,ia,oa,cs,yI,yX,ins,outs,S,rfl,_⟩:=h;rfl
 obtain ⟨ca,ia,oa,cs,yI,yX,ins,outs,S,rfl,Kz,F5,AG,gi,Bf,Ei,go,S0,S1,Bn,ID,q⟩:=h
 refine ⟨_,(ae (av (i:=4) jm.nd rfl (Ux rfl) (pcF T.g__law_thing (cE T 6) hr (aa (bC (aa (pcF T.g__law_mixed (eW T) hr (aa (ax aN (pv 0) af (fun _ _=>rfl)) (aa af ac))) (aa af ac))) (aa (pv 2) (aa (pv 3) (aa af ac))))))
  (ag (aA (aK (aa (pv 1) (aa (pv 2) (aa (pv 4) (aa (pcF T.g__law_rows (oC T) hr (aa (bB nA (pv 0) (bF af) bY) (aa (pv 1) (aa (pv 2) (aa (pv 3) ac))))) ac)))))))),?_⟩
 try dsimp only [yZ,yE]
 obtain ⟨d0,Cv⟩:∃ d0,cs[0]?=some d0:=⟨_,Ua (by omega)⟩;refine ⟨_,rfl,ca,_,0,.int d0,rfl,rfl,SqL.of Kz,at_nonneg (by decide) (by show (cs.map V.int)[0]?=_;rw [Ul,Cv];rfl),_,_,rfl,fun z=>?_⟩;refine ⟨ak (by show 2<=1000000;decide),fun l1 zT=>?_⟩;have s5:L2.Same H (upd H l1 (.lst [.int z,.int 4])):=ad zT _;refine ⟨_,rfl,_,rfl,l1,oa,z,4,yX,outs,S,1,rfl,ab,s5 _ _ Bf,Ei.mono (Same.kt s5),go,by omega,by decide,by decide,by decide,fun ht ha x' b' H1 So TN hA hF Jt hz=>?_⟩;have s1:L2.Same H H1:=ig zT So;refine ⟨_,rfl,_,rfl,_,rfl,_,rfl,1,rfl,ca,_,rfl,SqL.of (s1 _ _ Kz),fun cl Nr=>?_⟩
 try dsimp only
 rw [show (some (1:Int))=some ((1:Nat):Int) from rfl,jJ (by rw [T8];omega),<- Zq];have s2:L2.Same H1 (upd H1 cl (.lst ((cs.drop 1).map V.int))):=ad Nr _;have e2:(upd H1 cl (.lst ((cs.drop 1).map V.int))) cl=some (.lst ((cs.drop 1).map V.int)):=ab;generalize (upd H1 cl (.lst ((cs.drop 1).map V.int)))=H2 at s2 e2 ⊢;have zo:=s1.trans s2;refine ⟨_,rfl,_,rfl,_,rfl,cl,ia,oa,cs.drop 1,yI,yX,ins,outs,S,rfl,e2,zo _ _ F5,AG.mono (Same.kt zo),gi,zo _ _ Bf,Ei.mono (Same.kt zo),go,S0,S1,by rw [Vx];omega,by rw [Vx];omega,fun r zi rows H3 s3 er GX E1 F6=>?_⟩;refine ⟨ak (by show 4<=1000000;decide),fun p hp=>?_⟩;have s4:=ad hp (.tup [.ref ia,.ref oa,.ref ha,.ref r]);have El:=s3.trans s4;have E4:=zo.trans El;refine q p ht rows _ E4 ⟨ia,oa,ha,r,yI,yX,zi,ab,E4 _ _ F5,AG.mono (Same.kt E4),E4 _ _ Bf,Ei.mono (Same.kt E4),hA.mono (Same.kt (s2.trans El)),s4 _ _ er,P2.mp (fun _ _ e=>RowAt.mono (Same.kt s4) e) GX⟩ ⟨E1,fun row h=>(F6 row h).1,fun row h=>(F6 row h).2,hF,by omega⟩ (by omega)
inductive dR (K:Ub) (vs:List V) (H:Hp) (Q:VK) (_E:XK):Prop
 | mk (a:Ud) (ns:List Int) (yL:vs=[.ref a]) (yM:SqL K H a (ns.map V.int)) (yR:ns.length<=63) (yY:∀ (r:Ud) (ins outs:List (UP×Int)) (S:Int) (head:Th) (rows:List (List Th)) (H':Hp),L2.Same H H'->Bk H' ins outs head rows r->bZ ins->bZ outs->S<=16->v9 ins outs S 9 head rows->head.size<=5->Q (.ref r) H'):dR K vs H Q _E
def jp (K:Ub):Sp:=dR K
set_option maxHeartbeats 1000000 in
theorem jl:bf P w K mg base CX0 12 T.g__law_wide_book.f T.g__law_wide_book.d ["script"] (jp K):=by
 refine T.g__law_wide_book.F.ok bQ (fun vs H Q E h=>?_) (fun yJ A outer s H vs Q E hr h=>?_)
 · obtain ⟨a,ns,rfl,_⟩:=h;rfl
 obtain ⟨a,ns,rfl,hS,Dy,q⟩:=h
 refine ⟨_,(ae (av (i:=1) bQ.nd rfl (Ux rfl) (pcF T.g__law_kinds (iD T) hr (aa (pcF T.g__law_cell (cR T) hr (aa (pv 0) (aa af ac))) (aa (pcF T.g__law_names (iC T) hr (aa (pcF T.g__law_cell (cR T) hr (aa (pv 0) (aa af ac))) ac)) ac))))
  (ae (av (i:=2) bQ.nd rfl (Ux rfl) (pcF T.g__law_kinds (iD T) hr (aa (pcF T.g__law_cell (cR T) hr (aa (pv 0) (aa af ac))) (aa (pcF T.g__law_names (iC T) hr (aa (az bM (az ci (pcF T.g__law_cell (cR T) hr (aa (pv 0) (aa af ac))) af) af) ac)) ac))))
  (ae (av (i:=3) bQ.nd rfl (Ux rfl) (az bI (pcF T.g__law_cell (cR T) hr (aa (pv 0) (aa af ac))) af))
  (ae (av (i:=4) bQ.nd rfl (Ux rfl) (pcF T.g__law_folded (mf T) hr (aa (bB nA (pv 0) (bF af) bY) (aa (az bM af (az dj (pv 3) (az bM (aw ai rfl T.n_len UE (aa (pv 1) ac)) af))) ac))))
  (ag (aA (pcF T.g__law_book (ny T) hr (aa (pv 4) (aa (pv 1) (aa (pv 2) (aa (pv 3) ac))))))))))),?_⟩
 try dsimp only [yZ,yE]
 refine ⟨_,rfl,a,ns,1,rfl,hS,by decide,fun c1=>?_⟩;refine ⟨_,rfl,a,ns,0,rfl,hS,by decide,fun c0=>⟨c0,rfl,fun na ws H1 s1 M5 zt=>?_⟩⟩;refine ⟨c1,na,ws,rfl,M5,zt,fun ia yI ins H2 s2 F5 AG gi Ph=>?_⟩;have zo:=s1.trans s2;refine ⟨_,rfl,a,ns,2,rfl,zo.seq hS,by decide,fun c2=>?_⟩;refine ⟨_,rfl,a,ns,0,rfl,zo.seq hS,by decide,fun TQ=>⟨_,_,rfl,rfl,⟨by decide,by decide⟩,_,_,rfl,rfl,_,rfl,fun nb wo H3 s3 Sq FI=>?_⟩⟩;refine ⟨c2,nb,wo,rfl,Sq,FI,fun oa yX outs H4 s4 Bf Ei go TR=>?_⟩;have El:=s3.trans s4;have DL:=zo.trans El;have An:ins.length=yI.length:=Up AG;refine ⟨_,rfl,a,ns,3,rfl,DL.seq hS,by decide,fun c3=>?_⟩;have z0:=VA c3 (show (7:Int)≠0 by decide);have z1:=Vu c3 (show (0:Int)<7 by decide);refine ⟨_,_,rfl,rfl,(by show (0:Int)<7;decide),?_⟩
 try dsimp only [aG]
 obtain ⟨S,J2⟩:∃ S:Int,S=c3%7:=⟨_,rfl⟩;have S1:0<=S:=by omega
 have S2:S<=16:=by omega
 rw [<- J2];refine ⟨_,rfl,4,rfl,a,_,rfl,DL.seq hS,fun cl Bn=>?_⟩;obtain ⟨cs,Cp,Mt⟩:=sC ns (some 4) none
 try dsimp only
 rw [Cp];have s5:L2.Same H4 (upd H4 cl (.lst (cs.map V.int))):=ad Bn _;have e5:(upd H4 cl (.lst (cs.map V.int))) cl=some (.lst (cs.map V.int)):=ab;generalize (upd H4 cl (.lst (cs.map V.int)))=H5 at s5 e5 ⊢;have Pu:=El.trans s5;have Nt:=Pu _ _ F5
 have Nu:S * ((((yI.map V.ref).length:Nat):Int)+1)=((S.toNat * (ins.length+1):Nat):Int):=by
  rw [T8,<- An];have:((S.toNat:Nat):Int)=S:=by omega
  simp [this]
 have TU:S.toNat * (ins.length+1)<=100 * 5:=Nat.mul_le_mul (by omega) (by omega);refine ⟨_,rfl,_,rfl,ia,_,rfl,.inr (SqT.of Nt),_,_,rfl,rfl,_,_,rfl,rfl,.inl ⟨by omega,by omega⟩,_,_,rfl,rfl,cl,cs,_,rfl,e5,by omega,by rw [Nu];omega,by rw [Nu];omega,fun r ds H6 s6 er Cw=>?_⟩;rw [Nu] at Cw;have Nv:=Pu.trans s6;have Du:=s5.trans s6;refine ⟨_,rfl,_,rfl,_,rfl,_,rfl,r,ia,oa,ds,yI,yX,ins,outs,S,rfl,er,Nv _ _ F5,AG.mono (Same.kt Nv),gi,Du _ _ Bf,Ei.mono (Same.kt Du),go,by omega,by omega,by omega,by omega,fun bk head rows H7 s7 Kn hok Pw=>?_⟩;exact q bk ins outs S head rows H7 (zo.trans (Nv.trans s7)) Kn gi go (by omega) hok Pw
inductive iE (P:Uv) (w:UK) (K:Ub) (vs:List V) (H:Hp) (Q:VK) (_E:XK):Prop
 | mk (b:Ud) (ins outs:List (UP×Int)) (head:Th) (rows:List (List Th)) (yL:vs=[.ref b]) (yM:Bk H ins outs head rows b) (yR:FrK ins outs rows) (yY:bZ outs) (zf:∀ (fl:Ud) (fs:List Ud) (f':List (aD×V)) (H':Hp),L2.Same H H'->H' fl=some (.lst (fs.map V.ref))->UR (fun s a=>AtK K H' ((frS ins rows s).cut (Dk f' (s:Nat)) []) a) (UT rows.length) fs->FrD ins rows (f'.map (·.1))->KeyM ins rows f'->Q (.ref fl) H'):iE P w K vs H Q _E
def nK (P:Uv) (w:UK) (K:Ub):Sp:=iE P w K
theorem nP:bf P w K mg base CX0 8 T.g_fronts_of.f T.g_fronts_of.d ["book"] (nK P w K):=by
 refine T.g_fronts_of.F.ok fJ (fun vs H Q E h=>?_) (fun yJ A outer s0 H vs Q E hr h=>?_)
 · obtain ⟨b,ins,outs,head,rows,rfl,_⟩:=h;rfl
 obtain ⟨b,ins,outs,head,rows,rfl,hB,F,go,k⟩:=h
 refine ⟨_,(ae (cP (pcF T.g_found_fronts (fZ T) hr (aa (pv 0) ac)) (bA rfl (au (aj (i:=1) fJ.nd rfl (Ux rfl)) (au (aj (i:=2) fJ.nd rfl (Ux rfl)) aY))))
  (ag (aA (pv 1)))),?_⟩
 try dsimp only [yZ,yE]
 refine ⟨_,rfl,b,ins,outs,head,rows,rfl,hB,F,go,fun r fl pt fs f' H1 s1 er zC zL GP hD hK=>?_⟩;exact ⟨r,_,rfl,SqT.of er,rfl,_,_,rfl,_,_,rfl,rfl,_,rfl,k fl fs f' H1 s1 zC zL hD hK⟩
def dk (t:Th):List (List Int):=((t.pl []).filter fun p=>p.2.isHole).map (·.1)
theorem kC (t:Th):(dk t).length<=t.size:=by
 unfold dk;rw [T8];have:=WU (fun p:List Int×Th=>p.2.isHole) (t.pl []);rw [Th.pl_len] at this;exact this
theorem lX {t:Th} {pl:List Int}:pl∈dk t↔∃ v,In t pl v/\v.isHole=true:=by
 unfold dk;constructor
 · intro h;obtain ⟨x,hx,rfl⟩:=Vb.mp h;obtain ⟨h1,h2⟩:=V0.mp hx;exact ⟨x.2,In.of _ (Ue _) h1,h2⟩
 · rintro ⟨v,h1,h2⟩;exact Vb.mpr ⟨(pl,v),V0.mpr ⟨In.to h1,h2⟩,rfl⟩
theorem qX {D:List Int->Bool}:∀ (n:Nat) (t:Th) (pre pl:List Int) (v:Th),t.size<=n->t.noCall->In (t.cut D pre) pl v->v.isHole=true->D (pre++pl)=true∨∃ u,In t pl u/\u.isHole=true
 | 0,t,_,_,_,hn=>by have:=t.size_pos;omega
 | n+1,.call a b,_,_,_,_=>fun h=>by rw [Th.noCall] at h;exact h.elim
 | n+1,.knot m ks,pre,pl,v,hn=>fun hc hi hh=>by
   rw [Th.cut] at hi;by_cases hq:(Th.knot m ks).isHole=true∨D pre=true
   · rw [if_pos hq,hole] at hi;cases hi with
     | here =>
       rcases hq with h | h
       · exact .inr ⟨_,.here,h⟩
       · exact .inl (by rw [U0];exact h)
     | kid hj _=>simp at hj
   · rw [if_neg hq] at hi;cases hi with
     | here =>
       exfalso;refine hq (.inl ?_);rw [Th.isHole,decide_eq_true_iff] at hh ⊢;refine ⟨hh.1,VB.mp ?_⟩;rw [<- cO (D:=D) (pre:=pre) (i:=0),hh.2];rfl
     | kid hj hr =>
       rename_i j u r
       rw [fe,UN] at hj;obtain ⟨w,hw,rfl⟩:=hj;rw [Th.size] at hn;rw [Th.noCall] at hc;have hz:=aI (Uc hw);rcases qX n w _ r v (by omega) (bz hc (Uc hw)) hr hh with h | ⟨u,h1,h2⟩
       · refine .inl ?_;rw [VH,Ve] at h;exact h
       · exact .inr ⟨u,.kid hw h1,h2⟩
theorem oJ (D:List Int->Bool):∀ (n:Nat) (t:Th) (pre:List Int),t.size<=n->(t.cut D pre).tall<=t.tall
 | 0,t,_,hn=>by have:=t.size_pos;omega
 | n+1,.call a b,pre,hn=>by rw [Th.cut,hole,Th.tall,Th.tall,bG];exact Ue _
 | n+1,.knot m ks,pre,hn=>by
   rw [Th.cut];split
   · rw [hole,Th.tall,Th.tall,bG];omega
   · rw [Th.size] at hn;rw [Th.tall,Th.tall]
     have:bG (cF D pre 0 ks)<=bG ks:=mZ fun t ht=>by
      obtain ⟨j,hj⟩:=UC.mp ht;rw [fe,UN] at hj;obtain ⟨u,hu,rfl⟩:=hj;have hm:=Uc hu;have h1:=aI hm;have h2:=bR hm;have h3:=oJ D n u (pre++[0+(j:Int)]) (by omega);omega
     omega
def PrL (H:Hp) (R:Nat->List Int->Th->Th->Prop) (fr:Nat->Th) (N:Nat) (pl:Ud) (ls:List Ud):Prop:=H pl=some (.lst (ls.map V.ref))/\UR (fun s la=>∃ prs:List Ud,H la=some (.lst (prs.map V.ref))/\UR (fun h pr=>PtV H (R s h) (.ref pr)) (dk (fr s)) prs) (UT N) ls
def Rp (ins:List (UP×Int)) (rows:List (List Th)) (M:Nat) (s:Nat) (h:List Int) (t1 t2:Th):Prop:=∃ j,j<M/\Vl0 ins rows j (nk (s:Nat) h) t1 t2
theorem nv {α:Type} {f:α->V} {R:α->Ud->Prop}:∀ {zs:List α},(∀ z∈zs,∃ a,f z=.ref a/\R z a)->∃ as:List Ud,zs.map f=as.map V.ref/\UR R zs as
 | [],_=>⟨[],rfl,.nil⟩
 | z::zs,h=>by
   refine hid fun ZZ kZ=>?_;obtain ⟨a,h1,h2⟩:=h z (UM ..);obtain ⟨as,h3,h4⟩:=nv (zs:=zs) fun y hy=>h y (UG _ hy);refine kZ ?_;exact ⟨a::as,by rw [Vd,Vd,h1,h3],.cons h2 h4⟩
inductive fW (P:Uv) (w:UK) (K:Ub) (vs:List V) (H:Hp) (Q:VK) (_E:XK):Prop
 | mk (b:Ud) (ins outs:List (UP×Int)) (head:Th) (rows:List (List Th)) (yL:vs=[.ref b]) (yM:Bk H ins outs head rows b) (yR:FrK ins outs rows) (yY:bZ outs) (zf:∀ (pl:Ud) (ls:List Ud) (f':List (aD×V)) (H':Hp),L2.Same H H'->FrD ins rows (f'.map (·.1))->KeyM ins rows f'->PrL H' (Rp ins rows (fH ins rows).length) (fun s=>(frS ins rows s).cut (Dk f' (s:Nat)) []) rows.length pl ls->Q (.ref pl) H'):fW P w K vs H Q _E
def lP (P:Uv) (w:UK) (K:Ub):Sp:=fW P w K
set_option maxHeartbeats 1000000 in
theorem l7:bf P w K mg base CX0 8 T.g_partings_of.f T.g_partings_of.d ["book"] (lP P w K):=by
 refine T.g_partings_of.F.ok b8 (fun vs H Q E h=>?_) (fun yJ A outer s0 H vs Q E hr h=>?_)
 · obtain ⟨b,ins,outs,head,rows,rfl,_⟩:=h;rfl
 obtain ⟨b,ins,outs,head,rows,rfl,hB,F,go,k⟩:=h
 refine ⟨_,(ae (cP (pcF T.g_found_fronts (fZ T) hr (aa (pv 0) ac)) (bA rfl (au (aj (i:=1) b8.nd rfl (Ux rfl)) (au (aj (i:=2) b8.nd rfl (Yt rfl)) aY))))
  (ae (av (i:=3) b8.nd rfl (Ux rfl) (bC ac))
  (ae (bm UO rfl (lB rfl T.n_enumerate (pv 1)) (bA rfl (au (aj (i:=4) b8.nd rfl (Yt rfl)) (au (aj (i:=5) b8.nd rfl (Ux rfl)) aY))) (ag (aQ (bL Ur UJ UI aP (pv 3) (aa (cq (N:=[Ui "place",Ui "partings",Ui "state"]) (js:=[none,some 2,some 4]) (g:=(aG 0)) (tt:=bK) (te:=(t9 P w (bx 1) (kj (bu (bx 2) (bu (bx 0) d4))))) rfl (cG rfl (by decide +kernel) (by decide +kernel) rfl rfl rfl) (cn (pcF T.g_holes_in (jU T) hr (aa (pv 5) ac))) (fun _ _ _ _ _ _=>(aj (i:=0) xJ rfl (Ux rfl))) (aS rfl) (fun _ _ _ _ _ _=>bS) (fun _ _ _ _ _ _=>(pz (gj hr) (pv 1) (aK (aa (pv 2) (aa (pv 0) ac))) (fun _ _=>rfl)))) ac)))))
  (ag (aA (pv 3)))))),?_⟩
 try dsimp only [yZ,yE]
 refine ⟨_,rfl,b,ins,outs,head,rows,rfl,hB,F,go,fun r fl pt fs f' H1 s1 er zC zL GP hD hK=>?_⟩;refine ⟨r,_,rfl,SqT.of er,rfl,_,_,rfl,_,_,rfl,rfl,?_⟩;have hle:=F.le;have Az:(UT rows.length).length=fs.length:=Up zL;rw [UW] at Az;refine ⟨ak (by show 0<=1000000;decide),fun tl zb=>?_⟩;have Sr:H tl=none:=s1.free zb;have s2:L2.Same H1 (upd H1 tl (.lst [])):=ad zb _;have e2:(upd H1 tl (.lst [])) tl=some (.lst []):=ab;generalize (upd H1 tl (.lst []))=H2 at s2 e2 ⊢;refine ⟨_,rfl,fl,rfl,⟨_,SqL.of (s2 _ _ zC)⟩,?_⟩
 refine nj (K:=K) (a:=fl) (xs:=fs.map V.ref) (fun i σ H3=>Ex3 fun (c4 c5:Option V) (ls:List Ud)=>An4 (σ=[some (.ref b),some (.ref fl),some (.ref pt),some (.ref tl),c4,c5]) (L2.Same H1 H3) (H3 tl=some (.lst (ls.map V.ref))) (UR (fun s la=>la≠tl/\∃ prs:List Ud,H3 la=some (.lst (prs.map V.ref))/\UR (fun h pr=>PtV H3 (Rp ins rows (fH ins rows).length s h) (.ref pr)) (dk ((frS ins rows s).cut (Dk f' (s:Nat)) [])) prs) (UT i) ls))
  ⟨none,none,[],rfl,s2,e2,.nil⟩ (fun i σ H3 _ ⟨_,_,_,_,s3,_,_⟩=>SqL.of (s3 _ _ zC)) ?_ ?_
 · rintro i x pr σ H3 hx Ab ⟨c4,c5,ls,rfl,s3,e3,Bo⟩;obtain ⟨fa,rfl,zd⟩:=aT hx;have An:=(Uh.mp zd).1;have EY:i<rows.length:=by omega
   obtain ⟨s',zq,zP⟩:=P2.get' zL zd;rw [Va EY] at zq;cases zq;obtain ⟨z1,z2,z3⟩:=jO F EY;have TV:=kU (Dk f' (i:Nat)) _ (frS ins rows i) [] (Ue _);have TY:=oJ (Dk f' (i:Nat)) _ (frS ins rows i) [] (Ue _);have s4:L2.Same H3 (upd H3 pr (.tup [.int ((i:Nat):Int),.ref fa])):=ad Ab _;have e4:(upd H3 pr (.tup [.int ((i:Nat):Int),.ref fa])) pr=some (.tup [.int ((i:Nat):Int),.ref fa]):=ab;generalize (upd H3 pr (.tup [.int ((i:Nat):Int),.ref fa]))=H4 at s4 e4 ⊢;refine ⟨pr,_,rfl,SqT.of e4,rfl,_,_,rfl,_,_,rfl,rfl,?_⟩;dsimp only [aG];have DL:=s3.trans s4;refine ⟨_,rfl,.inl ⟨rfl,_,SqL.of (s4 _ _ e3)⟩,_,rfl,fa,_,rfl,zP.mono (Same.kt DL),by omega,by omega,fun hl bs H5 s5 FP y8=>?_⟩;have Px:=DL.trans s5;have JB:UR (fun (p:List Int) b=>H5 b=some (.tup (p.map V.int))) (dk ((frS ins rows i).cut (Dk f' (i:Nat)) [])) bs:=y8;have Ao:(dk ((frS ins rows i).cut (Dk f' (i:Nat)) [])).length=bs.length:=Up JB;have ES:=kC ((frS ins rows i).cut (Dk f' (i:Nat)) []);have Em:=GP.same Px
   have Ar:∀ h∈dk ((frS ins rows i).cut (Dk f' (i:Nat)) []),∃ pr,aW f' (nk (i:Nat) h)=some (.ref pr)/\PtV H5 (Rp ins rows (fH ins rows).length i h) (.ref pr):=fun h hh=>by
    obtain ⟨v,F',GW⟩:=lX.mp hh
    have hm:nk (i:Nat) h∈f'.map (·.1):=by
     rcases qX _ _ [] h v (Ue _) z3 F' GW with hd | ⟨u,h1,h2⟩
     · exact jI.mp hd
     · exact hD.hol i EY (h,u) (In.to h1) h2
    obtain ⟨j,hj⟩:=UC.mp hm;rw [Ul,UN] at hj;obtain ⟨kv,GK,IT⟩:=hj;obtain ⟨p0,ta,tb,t1,t2,ev,q1,q2,q3,q4⟩:=Em.vl j kv GK;have BG:=(Uh.mp GK).1;have hlen:=Em.len;rw [IT] at q4;refine ⟨p0,?_,p0,ta,tb,t1,t2,rfl,q1,q2,q3,j,by omega,q4⟩;cases Eb:aW f' (nk (i:Nat) h) with
    | none=>exact absurd hm (di Eb)
    | some v' =>
      rw [<- IT] at Eb;rw [rD Em.nd GK Eb,ev]
   refine ⟨hl,rfl,⟨_,SqL.of FP⟩,nH (dk ((frS ins rows i).cut (Dk f' (i:Nat)) [])) (fun h=>(aW f' (nk (i:Nat) h)).getD .non) (SqL.of FP) (by rw [T8];exact Ao) (by rw [T8];omega) (fun j x z H6 R W' hx hz s6 hR=>?_) (fun D H6 Py s6 e6=>?_)⟩
   · obtain ⟨pb,rfl,B1⟩:=aT hx;have GI:=i5 JB hz B1;obtain ⟨p0,hv,_⟩:=Ar z (Uc hz);refine ⟨_,rfl,_,rfl,_,rfl,ak (by show 2<=1000000;decide),fun kp Cb=>?_⟩;have s7:L2.Same H6 (upd H6 kp (.tup [.int ((i:Nat):Int),.ref pb])):=ad Cb _;refine ⟨pt,kp,nk (i:Nat) z,f',.ref p0,rfl,rfl,Em.dm.mono (s6.trans s7),kB ab ((s6.trans s7) _ _ GI),hv,?_⟩;have:=hR _ s7;rw [hv] at this;exact this
   · have yU:D≠tl:=fun z=>by rw [z,(s4.trans s5) _ _ e3] at Py;cases Py
     have GQ:=Px.trans s6
     obtain ⟨prs,ep,hp⟩:∃ prs:List Ud,(dk ((frS ins rows i).cut (Dk f' (i:Nat)) [])).map (fun h=>(aW f' (nk (i:Nat) h)).getD .non)=prs.map V.ref/\UR (fun h pr=>PtV H6 (Rp ins rows (fH ins rows).length i h) (.ref pr)) (dk ((frS ins rows i).cut (Dk f' (i:Nat)) [])) prs :=
      nv fun h hh=>by
       obtain ⟨p0,h1,h2⟩:=Ar h hh;exact ⟨p0,by rw [h1];rfl,h2.mono (Same.kt s6)⟩
     rw [ep] at e6;have Pz:=(s4.trans (s5.trans s6)) _ _ e3;have Ft:(UT i).length=ls.length:=Up Bo;rw [UW] at Ft;refine ⟨tl,_,_,rfl,rfl,Pz,aF (by rw [T8];omega),?_⟩;have k7:KT H6 (upd H6 tl (.lst (ls.map V.ref++[.ref D]))):=aU Pz;refine ⟨_,_,ls++[D],rfl,ay GQ zb,by rw [ab,Ut];rfl,?_⟩;rw [Y2];refine P2.append (P2.mp (fun s la ⟨h1,Nw,h2,h3⟩=>⟨h1,Nw,by rw [am h1];exact (s4.trans (s5.trans s6)) _ _ h2,P2.mp (fun _ _ e=>(e.mono (Same.kt (s4.trans (s5.trans s6)))).mono k7) h3⟩) Bo) (.cons ⟨yU,prs,by rw [am yU];exact e6,P2.mp (fun _ _ e=>e.mono k7) hp⟩ .nil)
 · rintro σ H3 ⟨c4,c5,ls,rfl,s3,e3,Bo⟩;rw [T8,<- Az] at Bo;exact ⟨_,rfl,k tl ls f' H3 (s1.trans s3) hD hK ⟨e3,P2.mp (fun _ _ ⟨_,h⟩=>h) Bo⟩⟩
mutual
def Th.Fo (outs:List (UP×Int)):Th->Prop
 | .knot n ks=>(n=star/\ks=[])∨((n,(ks.length:Int))∈outs/\n≠star/\Fos outs ks)
 | .call _ _=>False
def Fos (outs:List (UP×Int)):List Th->Prop
 | []=>True
 | t::ts=>Th.Fo outs t/\Fos outs ts
end
theorem gZ {outs:List (UP×Int)}:∀ {ts:List Th} {t:Th},Fos outs ts->t∈ts->Th.Fo outs t
 | [],t,_,h=>(WJ h).elim
 | u::ts,t,h,hm=>by
   rw [Fos] at h;rcases UB.mp hm with rfl | hm
   · exact h.1
   · exact gZ h.2 hm
theorem ou {outs:List (UP×Int)}:∀ {ts:List Th},(∀ t∈ts,Th.Fo outs t)->Fos outs ts
 | [],_=>by rw [Fos];trivial
 | t::ts,h=>by rw [Fos];exact ⟨h t (UM ..),ou fun u hu=>h u (UG _ hu)⟩
def dh (K:Ub):Nat->Sp
 | 0=>fun _ _ _ _=>False
 | n+1=>fun vs H Q _=>∃ (oa x:Ud) (yX:List Ud) (outs:List (UP×Int)) (f:Th),vs=[.ref oa,.ref x]/\H oa=some (.tup (yX.map V.ref))/\KsAt H outs yX/\AtK K H f x/\Th.Fo outs f/\f.size<=1000/\f.tall<=n+1/\∀ H',L2.Same H H'->Q (.bl true) H'
set_option maxHeartbeats 1000000 in
theorem fu:∀ n:Nat,bf P w K mg base CX0 n T.g__law_is_front.f T.g__law_is_front.d ["outs","front"] (dh K n)
 | 0=>⟨fun _ _ _ _ h=>h.elim,fun _ _ _ _ _ _ _ _ _ _ _ _ _ h=>h.elim⟩
 | n+1=>by
   have ih:=fu n;refine T.g__law_is_front.F.ok jA (fun vs H Q E h=>?_) (fun yJ A outer s H vs Q E hr h=>?_)
   · obtain ⟨oa,x,yX,outs,f,rfl,_⟩:=h;rfl
   obtain ⟨oa,x,yX,outs,f,rfl,eo,AZ,hx,hF,hsz,zb,k⟩:=h
   refine ⟨_,(ae (bq (PW.pt (dA (dq (aV (aw (sh (T:="tuple")) rfl T.n_isinstance VE (aa (pv 1) (aa (eG (v:=.ty "tuple") rfl T.n_tuple VY rfl) ac))) (fun _=>rfl))) (dA (aH cD (aw ai rfl T.n_len UE (aa (pv 1) ac)) af (aO _)) (dl (dq (aV (aw (cM (T:="str")) rfl T.n_isinstance VE (aa (ax aC (pv 1) af (fun _ _=>rfl)) (aa (eG (v:=.ty "str") rfl T.n_str PyProof.Rows.boot_str rfl) ac))) (fun _=>rfl))))))) (ag (aA cY)) aZ)
    (ae (bq (aH cD (ax aC (pv 1) af (fun _ _=>rfl)) eO (aO _)) (ag (aA (jo cD (aw ai rfl T.n_len UE (aa (pv 1) ac)) af (aO _)))) aZ)
    (ae (bq (aH (mG (B:=50) (rG hr)) (aK (aa (ax aC (pv 1) af (fun _ _=>rfl)) (aa (az gh (aw ai rfl T.n_len UE (aa (pv 1) ac)) af) ac))) (pv 0) (by with_unfolding_all rfl)) (ag (aA cY)) aZ)
    (ag (aA (aw (lH rfl) rfl T.n_all Y7 (aa (cq (N:=[Ui "part",Ui "outs"]) (js:=[none,some 0]) (g:=(aG 0)) (tt:=bK) (te:=(gx (dh K _) [] E0 (bu (bx 1) (bu (bx 0) d4)))) rfl (cG rfl (by decide +kernel) (by decide +kernel) rfl rfl rfl) (iH (bB eT (pv 1) (bF af) bY)) (fun _ _ _ _ _ _=>(aj (i:=0) xG rfl (Ux rfl))) (aS rfl) (fun _ _ _ _ _ _=>bS) (fun _ _ _ _ _ _=>(eI (ih) (hr.mono (Ue _)) rfl T.g__law_is_front.m T.g__law_is_front.F.kp T.g__law_is_front.b .nil j6 (aa (pv 1) (aa (pv 0) ac))))) ac))))))),?_⟩
   try dsimp only [yZ,yE]
   cases f with
   | call s k=>rw [Th.Fo] at hF;exact hF.elim
   | knot nm ks =>
   rw [AtK] at hx;refine hid fun ZZ kZ=>?_;obtain ⟨KA,ka,ea,zr⟩:=hx;refine kZ ?_;have zE:ka.length=ks.length:=zr.length;have GD:=bH ks;rw [Th.size] at hsz;rw [Th.tall] at zb;rw [Th.Fo] at hF;have hle:outs.length=yX.length:=Up AZ;have el:(((V.str nm::ka.map V.ref).length:Nat):Int)=(ks.length:Int)+1:=by rw [Uo,T8,zE];omega
   refine ⟨_,rfl,.inr ⟨_,_,_,rfl,ea.sq,qD,_,rfl,?_⟩⟩;refine cI ?_;refine ⟨_,rfl,x,_,rfl,.inr ea.sq,rfl,_,rfl,?_⟩;rw [el,decide_eq_false (show V.int ((ks.length:Int)+1)≠V.int 0 from fun z=>by have:=V.int.inj z;omega)];refine cI ?_;refine ⟨_,rfl,x,_,0,.str nm,rfl,rfl,ea.sq,at0,_,_,_,rfl,.str nm,tO,_,rfl,?_⟩;refine cI ?_;refine ⟨_,rfl,x,_,0,.str nm,rfl,rfl,ea.sq,at0,rfl,_,rfl,?_⟩;refine cB (fun c1=>?_) (fun c1=>?_)
   · have zy:nm=star:=V.str.inj (of_decide_eq_true c1);rcases hF with ⟨_,rfl⟩ | ⟨_,h,_⟩
     · refine ⟨_,rfl,x,_,rfl,.inr ea.sq,rfl,?_⟩;rw [el];exact k H (.refl _)
     · exact absurd zy h
   rcases hF with ⟨h,_⟩ | ⟨Af,Dy,Ay⟩
   · exact absurd (by rw [h];exact decide_eq_true rfl) c1
   refine ⟨_,rfl,x,_,0,.str nm,rfl,rfl,ea.sq,at0,_,rfl,x,_,rfl,.inr ea.sq,_,_,rfl,rfl,ak (by show 2<=1000000;decide),fun p hp=>?_⟩;rw [el];have DU:(ks.length:Int)+1 - 1=(ks.length:Int):=by omega
   dsimp only;rw [DU];have s1:L2.Same H (upd H p (.tup [.str nm,.int (ks.length:Int)])):=ad hp _;have e1:(upd H p (.tup [.str nm,.int (ks.length:Int)])) p=some (.tup [.str nm,.int (ks.length:Int)]):=ab;generalize (upd H p (.tup [.str nm,.int (ks.length:Int)]))=H1 at s1 e1 ⊢;have C9:=lw outs;refine ⟨_,rfl,oa,_,kDv (nm,(ks.length:Int)),outs.map kDv,rfl,SqT.of (s1 _ _ eo),?_,uc (AZ.mono (Same.kt s1)),by omega,fun r AR=>⟨_,rfl,?_⟩⟩
   · rw [kDv,DAt];exact ⟨_,_,rfl,e1,.cons (by rw [DAt]) (.cons (by rw [DAt]) .nil)⟩
   have Nx:r=false:=by
    cases r with
    | false=>rfl
    | true=>exact absurd (List.mem_map_of_mem Af) (AR.mp rfl)
   subst Nx;refine cI ?_;have Ng:=ea.mono (Same.kt s1);refine ⟨_,rfl,1,rfl,x,_,rfl,Ng.sq,?_,fun p3 Jc=>?_⟩
   · rintro ⟨z,_⟩;rw [Uo,show (1:Int)=((1:Nat):Int) by rfl,HT.sIx_nat] at z;omega
   dsimp only;rw [dO];have s2:L2.Same H1 (upd H1 p3 (.tup (ka.map V.ref))):=ad Jc _;have e2:(upd H1 p3 (.tup (ka.map V.ref))) p3=some (.tup (ka.map V.ref)):=ab;generalize (upd H1 p3 (.tup (ka.map V.ref)))=H2 at s2 e2 ⊢;have Bp:=s1.trans s2;refine ⟨p3,rfl,⟨_,SqT.of e2⟩,?_⟩;intro D hD;refine ⟨ks.length,fun j H3=>An3 (j<=ks.length) (L2.Same H2 H3) (H3 D=some (.lst ((VN j true).map V.bl))),⟨UL _,ad hD _,ab⟩,?_⟩;rintro j H3 ⟨hj,s3,eD⟩;by_cases BK:j=ks.length
   · left;refine ⟨⟨_,SqT.of (s3 _ _ e2),by rw [T8,zE,BK];exact Ue _⟩,?_⟩;refine ⟨D,VN j true,rfl,SqL.of eD,?_⟩;rw [show (VN j true).all id=true from WL.mpr fun b hb=>(Zu.mp hb).2];exact k H3 (Bp.trans s3)
   · right;have yS:j<ks.length:=by omega
     refine hid fun ZZ kZ=>?_;obtain ⟨f,hf⟩:∃ f,ks[j]?=some f:=⟨_,Ua yS⟩;obtain ⟨fa,zd,Ny⟩:=zr.at hf;refine kZ ?_;have Ga:f∈ks:=Uc hf;have h1:=bR Ga;have h2:=aI Ga;have h3:=f.tall_eq;refine ⟨yS,⟨_,.ref fa,SqT.of (s3 _ _ e2),by rw [Ul,zd];rfl⟩,?_⟩;rintro x' H4 ⟨AD,hv⟩;have Ge:H4=H3:=AD;subst Ge;have zu:=hv _ (SqT.of (s3 _ _ e2));rw [Ul,zd] at zu;cases zu;have FJ:=Bp.trans s3;obtain ⟨m,rfl⟩:∃ m,n=m+1:=⟨n - 1,by omega⟩;refine ⟨_,rfl,_,rfl,oa,fa,yX,outs,f,rfl,FJ _ _ eo,AZ.mono (Same.kt FJ),Ny.mono (Same.kt FJ),gZ Ay Ga,by omega,by omega,fun H5 s5=>?_⟩;have JC:=s5 _ _ eD;refine ⟨_,JC,aF (by rw [T8,WT];omega),yS,ay (s3.trans s5) hD,?_⟩;rw [ab,Zd,Ut];rfl
mutual
def Th.CR (N:Nat):Th->Prop
 | .knot _ ks=>CRs N ks
 | .call l _=>0<=l/\l<(N:Int)
def CRs (N:Nat):List Th->Prop
 | []=>True
 | t::ts=>Th.CR N t/\CRs N ts
end
theorem rb {N:Nat}:∀ {ts:List Th} {t:Th},CRs N ts->t∈ts->Th.CR N t
 | [],t,_,h=>(WJ h).elim
 | u::ts,t,h,hm=>by
   rw [CRs] at h;rcases UB.mp hm with rfl | hm
   · exact h.1
   · exact rb h.2 hm
theorem qC {N:Nat}:∀ {ts:List Th},(∀ t∈ts,Th.CR N t)->CRs N ts
 | [],_=>by rw [CRs];trivial
 | t::ts,h=>by rw [CRs];exact ⟨h t (UM ..),qC fun u hu=>h u (UG _ hu)⟩
theorem m7 {N:Nat}:∀ (n:Nat) (t:Th),t.size<=n->t.noCall->Th.CR N t
 | 0,t,h,_=>by have:=t.size_pos;omega
 | n+1,.call a b,_,h=>by rw [Th.noCall] at h;exact h.elim
 | n+1,.knot m ks,hn,h=>by
   rw [Th.noCall] at h;rw [Th.size] at hn;rw [Th.CR];exact qC fun t ht=>m7 n t (by have:=aI ht;omega) (bz h ht)
theorem rh {ks:List (UP×Int)} {N:Nat} {C:Int}:∀ (n:Nat) (t:Th),t.size<=n->t.FitS ks (N:Nat) C->Th.CR N t
 | 0,t,h,_=>by have:=t.size_pos;omega
 | n+1,.call a b,_,h=>by rw [Th.FitS] at h;rw [Th.CR];exact ⟨h.1,h.2.1⟩
 | n+1,.knot m us,hn,h=>by
   rw [Th.FitS] at h;rw [Th.size] at hn;rw [Th.CR];exact qC fun t ht=>rh n t (by have:=aI ht;omega) (fc h.2 t ht)
def vb:Th->Nat
 | .knot _ _=>0
 | .call _ _=>1
theorem vx {t:Th} (h:t.noCall):vb t=0:=by
 cases t with
 | knot n ks=>rfl
 | call a b=>rw [Th.noCall] at h;exact h.elim
theorem qZ (t:Th):vb t<=1:=by
 cases t with
 | knot n ks=>exact UL _
 | call a b=>exact Ue _
theorem rB (F:Int->Int->Th):∀ (n:Nat) (t:Th),t.size<=n->t.noCall->t.fill F=t
 | 0,t,h,_=>by have:=t.size_pos;omega
 | n+1,.call a b,_,h=>by rw [Th.noCall] at h;exact h.elim
 | n+1,.knot m ks,hn,h=>by
   rw [Th.noCall] at h;rw [Th.size] at hn;rw [Th.fill,gY];congr 1;refine (XI (g:=id) fun t ht=>rB F n t (by have:=aI ht;omega) (bz h ht)).trans (List.map_id _)
def jt (K:Ub):Nat->Sp
 | 0=>fun _ _ _ _=>False
 | n+1=>fun vs H Q _=>∃ (x y fl:Ud) (f t:Th) (fs:List Ud) (N:Nat) (fr:Nat->Th),vs=[.ref x,.ref y,.ref fl]/\AtK K H f x/\AtK K H t y/\H fl=some (.lst (fs.map V.ref))/\UR (fun s a=>AtK K H (fr s) a) (UT N) fs/\(∀ s<N,(fr s).noCall)/\f.noCall/\f.size<=1000/\Th.CR N t/\2 * f.tall+vb t<=n+1/\f.lies (t.fill fun l _=>fr l.toNat)=true/\∀ H',L2.Same H H'->Q (.bl true) H'
set_option maxHeartbeats 1000000 in
theorem jr:∀ n:Nat,bf P w K mg base CX0 n T.g__law_lies.f T.g__law_lies.d ["front","thing","fronts"] (jt K n)
 | 0=>⟨fun _ _ _ _ h=>h.elim,fun _ _ _ _ _ _ _ _ _ _ _ _ _ h=>h.elim⟩
 | n+1=>by
   have ih:=jr n;refine T.g__law_lies.F.ok oi (fun vs H Q E h=>?_) (fun yJ A outer s H vs Q E hr h=>?_)
   · obtain ⟨x,y,fl,f,t,fs,N,fr,rfl,_⟩:=h;rfl
   obtain ⟨x,y,fl,f,t,fs,N,fr,rfl,hx,hy,zC,zL,Fb,FY,hsz,KC,hd,hl,k⟩:=h
   refine ⟨_,(ae (bq (aH cD (ax aC (pv 0) af (fun _ _=>rfl)) eO (aO _)) (ag (aA cY)) aZ)
    (ae (bq (aH cD (ax aC (pv 1) af (fun _ _=>rfl)) eO (aO _)) (ag (aA (eI (ih) (hr.mono (Ue _)) rfl T.g__law_lies.m T.g__law_lies.F.kp T.g__law_lies.b .nil j6 (aa (pv 0) (aa (ax aN (pv 2) (ax aC (pv 1) af (fun _ _=>rfl)) (fun _ _=>rfl)) (aa (pv 2) ac)))))) aZ)
    (ae (bq (PW.pt (dA (aH lQ (ax aC (pv 1) af (fun _ _=>rfl)) (ax aC (pv 0) af (fun _ _=>rfl)) (aO _)) (dl (aH lQ (aw ai rfl T.n_len UE (aa (pv 1) ac)) (aw ai rfl T.n_len UE (aa (pv 0) ac)) (aO _))))) (ag (aA cY)) aZ)
    (ag (aA (aw (lH rfl) rfl T.n_all Y7 (aa (cq (N:=[Ui "k",Ui "fronts",Ui "front",Ui "thing"]) (js:=[none,some 2,some 0,some 1]) (g:=(aG 0)) (tt:=bK) (te:=(gx (jt K _) [] E0 (bu (tOp (sO K) (bx 2) (bx 0)) (bu (tOp (sO K) (bx 3) (bx 0)) (bu (bx 1) d4))))) rfl (cG rfl (by decide +kernel) (by decide +kernel) rfl rfl rfl) (hX rfl T.n_range (aa af (aa (aw ai rfl T.n_len UE (aa (pv 0) ac)) ac))) (fun _ _ _ _ _ _=>(aj (i:=0) w9 rfl (Ux rfl))) (aS rfl) (fun _ _ _ _ _ _=>bS) (fun _ _ _ _ _ _=>(eI (ih) (hr.mono (Ue _)) rfl T.g__law_lies.m T.g__law_lies.F.kp T.g__law_lies.b .nil j6 (aa (ax aC (pv 2) (pv 0) (fun _ _=>rfl)) (aa (ax aC (pv 3) (pv 0) (fun _ _=>rfl)) (aa (pv 1) ac)))))) ac))))))),?_⟩
   try dsimp only [yZ,yE]
   cases f with
   | call s k=>rw [Th.noCall] at FY;exact FY.elim
   | knot nm ks =>
   have Cs:=hx;rw [AtK] at Cs;obtain ⟨KA,ka,ea,zr⟩:=Cs;have zE:ka.length=ks.length:=zr.length;have GD:=bH ks;rw [Th.size] at hsz;rw [Th.tall] at hd;rw [Th.noCall] at FY;obtain ⟨m,rfl⟩:∃ m,n=m+1:=⟨n - 1,by omega⟩;refine ⟨_,rfl,x,_,0,.str nm,rfl,rfl,ea.sq,at0,rfl,_,rfl,?_⟩;refine cB (fun c1=>?_) (fun c1=>?_)
   · exact k H (.refl _)
   have C7:(Th.knot nm ks).isHole=false:=by
    rw [Th.isHole];refine decide_eq_false fun z=>c1 ?_;rw [z.1];exact decide_eq_true rfl
   cases t with
   | call l c =>
     rw [AtK] at hy;rw [Th.CR] at KC;rw [Th.fill] at hl;refine hid fun ZZ kZ=>?_;obtain ⟨fa,zd⟩:∃ fa,fs[l.toNat]?=some fa:=⟨_,Ua (by have:=Up zL;rw [UW] at this;omega)⟩;have PB:l.toNat<N:=by omega
     obtain ⟨s',zq,zP⟩:=P2.get' zL zd;refine kZ ?_;rw [Va PB] at zq;cases zq;have Gf:=Fb _ PB;refine ⟨_,rfl,y,_,0,.str q,rfl,rfl,hy.sq,at0,rfl,_,rfl,?_⟩;refine cB (fun c2=>?_) (fun c2=>absurd (decide_eq_true rfl) c2);refine ⟨_,rfl,_,rfl,_,rfl,y,_,1,.int l,rfl,rfl,hy.sq,at1,fl,_,l,.ref fa,rfl,rfl,SqL.of zC,at_nonneg KC.1 (by rw [Ul,zd];rfl),_,rfl,?_⟩;refine ⟨x,fa,fl,.knot nm ks,fr l.toNat,fs,N,fr,rfl,hx,zP,zC,zL,Fb,by rw [Th.noCall];exact FY,by rw [Th.size];exact hsz,m7 _ _ (Ue _) Gf,?_,by rw [rB _ _ _ (Ue _) Gf];exact hl,fun H' s'=>k H' s'⟩;rw [vx Gf,Th.tall];have:vb (.call l c)=1:=rfl;omega
   | knot pm ps =>
     rw [AtK] at hy;refine hid fun ZZ kZ=>?_;obtain ⟨Ss,ua,eu,EN⟩:=hy;have L4:ua.length=ps.length:=EN.length;rw [Th.CR] at KC;rw [Th.fill,gY] at hl;obtain ⟨us,e,l1,b1⟩:=lies_of hl C7;refine kZ ?_;injection e with e1 e2;subst e1;subst e2;rw [T8] at l1;refine ⟨_,rfl,y,_,0,.str pm,rfl,rfl,eu.sq,at0,rfl,_,rfl,?_⟩;refine cB (fun c2=>absurd (V.str.inj (of_decide_eq_true c2)) Ss) (fun c2=>?_);refine ⟨_,rfl,y,_,0,.str pm,rfl,rfl,eu.sq,at0,_,rfl,x,_,0,.str pm,rfl,rfl,ea.sq,at0,rfl,_,rfl,?_⟩;refine cB (fun c3=>by rw [decide_eq_true rfl] at c3;cases c3) (fun c3=>?_);refine ⟨_,rfl,y,_,rfl,.inr eu.sq,_,rfl,x,_,rfl,.inr ea.sq,rfl,_,rfl,?_⟩;have hlen:(V.str pm::ua.map V.ref).length=(V.str pm::ka.map V.ref).length:=by rw [Uo,Uo,T8,T8];omega
     refine cB (fun c4=>by rw [hlen,decide_eq_true rfl] at c4;cases c4) (fun c4=>?_);refine ⟨_,rfl,x,_,rfl,.inr ea.sq,_,_,rfl,⟨by decide,by decide,by omega,by rw [Uo,T8];omega⟩,?_⟩;intro D hD;have CD:(((V.str pm::ka.map V.ref).length:Int) - 1).toNat=ks.length:=by rw [Uo,T8,zE];omega
     refine ⟨ks.length,fun j H3=>An3 (j<=ks.length) (L2.Same H H3) (H3 D=some (.lst ((VN j true).map V.bl))),⟨UL _,ad hD _,ab⟩,?_⟩;rintro j H3 ⟨hj,s3,eD⟩;by_cases BK:j=ks.length
     · left;refine ⟨(by show (((V.str pm::ka.map V.ref).length:Int) - 1).toNat<=j;rw [CD,BK];exact Ue _),?_⟩;refine ⟨D,VN j true,rfl,SqL.of eD,?_⟩;rw [show (VN j true).all id=true from WL.mpr fun b hb=>(Zu.mp hb).2];exact k H3 s3
     · right;have yS:j<ks.length:=by omega
       refine ⟨yS,(by show j<(((V.str pm::ka.map V.ref).length:Int) - 1).toNat;rw [CD];exact yS),?_⟩;rintro x' H4 ⟨e1,e2⟩;have AD:H4=H3:=e1;subst AD;refine hid fun ZZ kZ=>?_;obtain ⟨f,hf⟩:∃ f,ks[j]?=some f:=⟨_,Ua yS⟩;obtain ⟨g,hg⟩:∃ g,ps[j]?=some g:=⟨_,Ua (by omega)⟩;obtain ⟨fa,zd,Ny⟩:=zr.at hf;obtain ⟨ga,Su,Sv⟩:=EN.at hg;refine kZ ?_;have Ga:f∈ks:=Uc hf;have h1:=bR Ga;have h2:=aI Ga;have h3:=qZ g;have AB:x'=V.int (1+(j:Int)):=e2;subst AB;refine ⟨_,rfl,_,rfl,x,_,_,.ref fa,rfl,rfl,(ea.mono (Same.kt s3)).sq,at_nonneg (by omega) (by rw [show (1+(j:Int)).toNat=j+1 by omega,U9,Ul,zd];rfl),?_⟩;refine ⟨_,rfl,_,rfl,y,_,_,.ref ga,rfl,rfl,(eu.mono (Same.kt s3)).sq,at_nonneg (by omega) (by rw [show (1+(j:Int)).toNat=j+1 by omega,U9,Ul,Su];rfl),_,rfl,?_⟩;refine ⟨fa,ga,fl,f,g,fs,N,fr,rfl,Ny.mono (Same.kt s3),Sv.mono (Same.kt s3),s3 _ _ zC,P2.mp (fun _ _ h=>h.mono (Same.kt s3)) zL,Fb,bz FY Ga,by omega,rb KC (Uc hg),by omega,dI b1 j f _ hf (by rw [Ul,hg];rfl),fun H5 s5=>?_⟩;have JC:=s5 _ _ eD;refine ⟨_,JC,aF (by rw [T8,WT];omega),yS,ay (s3.trans s5) hD,?_⟩;rw [ab,Zd,Ut];rfl
theorem lm (pre:List Int):∀ (a b:List Th) (i:Int),pls pre i (a++b)=pls pre i a++pls pre (i+(a.length:Int)) b
 | [],b,i=>by rw [Wc,pls,Wc];simp
 | t::a,b,i=>by
   rw [Wf,pls,pls,lm pre a b (i+1),Ve,Uo];rw [show i+1+(a.length:Int)=i+((a.length+1:Nat):Int) by omega]
def mB (ks:List Th) (i:Nat):List (List Int):=((pls [] 0 (ks.take i)).filter fun p=>p.2.isHole).map (·.1)
theorem m8 (ks:List Th):mB ks 0=[]:=by unfold mB;rw [Xc,pls];rfl
theorem mM {ks:List Th} {i:Nat} {u:Th} (h:ks[i]?=some u):mB ks (i+1)=mB ks i++(dk u).map fun p=>(i:Int)::p:=by
 have hi:=(Uh.mp h).1;unfold mB dk;rw [take_snoc h,lm,X0,Ut,pls,pls,U0,U1,Yo (by omega),VH];have e:=qy u [(i:Int)] [];rw [U0] at e;rw [Wc,e,List.filter_map,Wi,Wi];rfl
theorem sR {n:UP} {ks:List Th} (h:(Th.knot n ks).isHole=false):dk (.knot n ks)=mB ks ks.length:=by
 unfold dk mB;rw [VG (Ue _),Th.pl,V4,if_neg (by rw [h];exact UD)]
theorem sE:dk hole=[[]]:=by
 unfold dk;rw [hole,Th.pl,pls,V4,if_pos (by exact gq)];rfl
inductive gE (K:Ub) (n:Nat) (vs:List V) (H:Hp) (Q:VK) (_E:XK):Prop
 | mk (a:Ud) (t:Th) (outs:List (UP×Int)) (yL:vs=[.ref a]) (yM:AtK K H t a) (yR:Th.Fo outs t) (yY:t.tall<=n) (zf:t.size<=1000) (zY:∀ (r:Ud) (bs:List Ud) (H':Hp),L2.Same H H'->H r=none->H' r=some (.lst (bs.map V.ref))->UR (PlAt H') (dk t) bs->Q (.ref r) H'):gE K n vs H Q _E
def mq (K:Ub) (n:Nat):Sp:=gE K n
set_option maxHeartbeats 1000000 in
theorem eV:∀ n:Nat,bf P w K mg base CX0 n T.g__law_holes.f T.g__law_holes.d ["front"] (mq K n)
 | 0=>⟨fun _ _ _ _ h=>by obtain ⟨_,t,_,_,_,_,h1,_⟩:=h;have:=t.tall_eq;omega,fun _ _ _ _ _ _ _ _ _ _ _ _ _ h=>by obtain ⟨_,t,_,_,_,_,h1,_⟩:=h;have:=t.tall_eq;omega⟩
 | n+1=>by
   have ih:=eV n;refine T.g__law_holes.F.ok dw (fun vs H Q E h=>?_) (fun yJ A outer s H vs Q E hr h=>?_)
   · obtain ⟨a,t,outs,rfl,_⟩:=h;rfl
   obtain ⟨a,t,outs,rfl,hA,hF,zb,hsz,q⟩:=h
   refine ⟨_,(ae (bq (aH cD (ax aC (pv 0) af (fun _ _=>rfl)) eO (aO _)) (ag (aA (bC (aa (aK ac) ac)))) aZ)
    (ae (av (i:=1) dw.nd rfl (Ux rfl) (bC ac))
    (ae (bm UO rfl (hX rfl T.n_range (aa af (aa (aw ai rfl T.n_len UE (aa (pv 0) ac)) ac))) (aj (i:=2) dw.nd rfl (Yt rfl)) (ag (av (i:=1) dw.nd rfl (Ux rfl) (az uG (pv 1) (cq (N:=[Ui "place",Ui "k"]) (js:=[none,some 2]) (g:=(aG 0)) (tt:=bK) (te:=(tOp (lO K) (kj (bu (tOp (rI0 fun i j=>.int (i - j)) (bx 1) (tC (.int 1))) d4)) (bx 0))) rfl (cG rfl (by decide +kernel) (by decide +kernel) rfl rfl rfl) (cn (eI (ih) (hr.mono (Ue _)) rfl T.g__law_holes.m T.g__law_holes.F.kp T.g__law_holes.b .nil j6 (aa (ax aC (pv 0) (pv 2) (fun _ _=>rfl)) ac))) (fun _ _ _ _ _ _=>(aj (i:=0) vK rfl (Ux rfl))) (aS rfl) (fun _ _ _ _ _ _=>bS) (fun _ _ _ _ _ _=>(az dz (aK (aa (az gh (pv 1) af) ac)) (pv 0))))))))
    (ag (aA (pv 1)))))),?_⟩
   try dsimp only [yZ,yE]
   cases t with
   | call s k=>rw [Th.Fo] at hF;exact hF.elim
   | knot nm ks =>
   have DE:=hA;rw [AtK] at hA;refine hid fun ZZ kZ=>?_;obtain ⟨KA,yV,ea,zj⟩:=hA;refine kZ ?_;have zE:yV.length=ks.length:=zj.length;have Ay:=bH ks;rw [Th.size] at hsz;rw [Th.tall] at zb;refine ⟨_,rfl,a,_,0,.str nm,rfl,rfl,ea.sq,at0,rfl,_,rfl,?_⟩;rw [Th.Fo] at hF;refine cB (fun c1=>?_) (fun c1=>?_)
   · have zy:nm=star:=V.str.inj (of_decide_eq_true c1);rcases hF with ⟨_,rfl⟩ | ⟨_,h,_⟩
     · refine ⟨ak (by show 0<=1000000;decide),fun ep Na=>?_⟩;refine ⟨ak (by show 1<=1000000;decide),fun fl Az=>?_⟩;have s1:L2.Same H (upd H ep (.tup [])):=ad Na _;have s2:=ad Az (.lst [.ref ep]);refine q fl [ep] _ (s1.trans s2) (s1.free Az) ab ?_;rw [zy];show UR _ (dk hole) _;rw [sE];exact .cons (s2 _ _ ab) .nil
     · exact absurd zy h
   rcases hF with ⟨h,_⟩ | ⟨Af,Dy,Sw⟩
   · exact absurd (by rw [h];exact decide_eq_true rfl) c1
   have C7:(Th.knot nm ks).isHole=false:=by rw [Th.isHole,decide_eq_false_iff_not];exact fun z=>Dy z.1
   refine ⟨ak (by show 0<=1000000;decide),fun fl Az=>?_⟩;have s2:L2.Same H (upd H fl (.lst [])):=ad Az _;have e2:(upd H fl (.lst [])) fl=some (.lst (([]:List Ud).map V.ref)):=ab
   try dsimp only [aG]
   generalize (upd H fl (.lst []))=H2 at s2 e2 ⊢;refine ⟨_,rfl,a,_,rfl,.inr ((ea.mono (Same.kt s2)).sq),1,_,rfl,⟨by decide,by decide,by rw [Uo,T8];omega,by rw [Uo,T8];omega⟩,?_⟩;have E1:((((V.str nm::yV.map V.ref).length:Nat):Int) - 1).toNat=ks.length:=by rw [Uo,T8];omega
   rw [E1]
   refine bD (n:=ks.length) (fun i σ H3=>Ex3 fun (kv:Option V) (fl:Ud) (bs:List Ud)=>An6 (σ=[some (.ref a),some (.ref fl),kv]) (L2.Same H H3) (H fl=none) (H3 fl=some (.lst (bs.map V.ref))) (UR (PlAt H3) (mB ks i) bs) ((mB ks i).length<=aq (ks.take i)))
    ⟨none,fl,[],rfl,s2,Az,e2,by rw [m8];exact .nil,by rw [m8];exact UL _⟩ ?_ ?_
   · rintro i σ H3 hi ⟨kv,fl,bs,rfl,s3,EZ,e3,zm,zD⟩;have y9:i<ks.length:=hi;have GB:=ea.mono (Same.kt s3);refine hid fun ZZ kZ=>?_;obtain ⟨u,hu⟩:∃ u,ks[i]?=some u:=⟨_,Ua y9⟩;obtain ⟨ka,zr,Jv⟩:=zj.at hu;refine kZ ?_;have GV:=Uc hu;have Kd:=bR GV;have Sa:=aI GV
     have zy:aq (ks.take i)+u.size<=aq ks:=by
      have h1:aq (ks.take (i+1))+aq (ks.drop (i+1))=aq ks:=by rw [<- bg,List.take_append_drop]
      rw [take_snoc hu,bg,aq,aq] at h1;omega
     refine ⟨_,rfl,_,rfl,_,rfl,a,_,_,.ref ka,rfl,rfl,GB.sq,at_nonneg (by omega) (by rw [show (1+(i:Int)).toNat=i+1 by omega,U9,Ul,zr];rfl),ka,u,outs,rfl,Jv.mono (Same.kt s3),gZ Sw GV,by omega,by omega,fun r BO H4 s4 nr er Dr=>?_⟩;have Eh:(dk u).length=BO.length:=Up Dr;have Ao:(mB ks i).length=bs.length:=Up zm;have Ov:=kC u;refine ⟨r,rfl,⟨_,SqL.of er⟩,jd (F:=PlAt) (xs:=BO.map V.ref) ((dk u).map fun p=>(i:Int)::p) (fun H1 H2 z p kt h=>h.mono kt) (by rw [T8,T8];exact Eh) (by rw [T8];omega) (fun j Hx sx hj=>⟨_,_,SqL.of (sx _ _ er),Ua hj⟩) (fun Hx sx=>⟨_,SqL.of (sx _ _ er),Ue _⟩) (fun j Hx x Hy sx hj hy=>⟨hy.1,hy.2 _ (SqL.of (sx _ _ er))⟩) (fun j x z Hx R W' hx Bh sx hR=>?_) (fun D H5 Ds hD s5 eD BM=>?_)⟩
     · obtain ⟨pb,rfl,B1⟩:=aT hx;rw [Ul] at Bh;obtain ⟨p,hp,rfl⟩:=UN.mp Bh;have Nb:PlAt Hx p pb:=(i5 Dr hp B1).mono (Same.kt sx);obtain ⟨v,F',GW⟩:=lX.mp (Uc hp);have F4:=pZ _ u [] (Ue _) _ (In.to F');have Nc:=cL u;rw [W0] at F4;dsimp only at F4;refine ⟨_,rfl,_,_,rfl,rfl,ak (by show 1<=1000000;decide),fun k1 Ks=>?_⟩;have t1:L2.Same Hx (upd Hx k1 (.tup [.int (1+(i:Int) - 1)])):=ad Ks _;have f1:(upd Hx k1 (.tup [.int (1+(i:Int) - 1)])) k1=some (.tup [.int (i:Int)]):=by rw [ab,show 1+(i:Int) - 1=(i:Int) by omega]
       try dsimp only
       generalize (upd Hx k1 (.tup [.int (1+(i:Int) - 1)]))=Hy at t1 f1 ⊢;refine ⟨_,rfl,?_⟩;refine mj f1 (t1 _ _ Nb) (by rw [T8];show 1+p.length<=1000000;omega) fun p3 H7 s7 e7=>?_;exact hR H7 p3 (t1.trans s7) e7
     have Dt:((dk u).map fun p=>(i:Int)::p).length=Ds.length:=Up BM;rw [T8] at Dt;have Nf:=(s4.trans s5) _ _ e3;refine ⟨fl,D,_,_,rfl,rfl,Nf,eD,ak (by rw [T8,T8];omega),fun nl CD=>?_⟩;have s6:L2.Same H5 (upd H5 nl (.lst (bs.map V.ref++Ds.map V.ref))):=ad CD _;have Du:=s4.trans (s5.trans s6);refine ⟨_,nl,bs++Ds,rfl,s3.trans Du,(s3.trans (s4.trans s5)).free CD,by rw [ab,Ut],?_,?_⟩
     · rw [mM hu];exact P2.append (P2.mp (fun _ _ e=>PlAt.mono (Same.kt Du) e) zm) (P2.mp (fun _ _ e=>PlAt.mono (Same.kt s6) e) BM)
     · rw [mM hu,UA,T8,take_snoc hu,bg,aq,aq];omega
   · rintro σ H3 ⟨kv,fl,bs,rfl,s3,EZ,e3,zm,zD⟩;rw [<- sR C7] at zm;exact ⟨_,rfl,q fl bs H3 s3 EZ e3 zm⟩
def FrL (K:Ub) (H:Hp) (N:Nat) (fr:Nat->Th) (fl:Ud) (fs:List Ud):Prop:=H fl=some (.lst (fs.map V.ref))/\UR (fun s a=>AtK K H (fr s) a) (UT N) fs
inductive cN (K:Ub) (vs:List V) (H:Hp) (Q:VK) (_E:XK):Prop
 | mk (b fl:Ud) (ins outs:List (UP×Int)) (head:Th) (rows:List (List Th)) (fs:List Ud) (fr:Nat->Th) (yL:vs=[.ref b,.ref fl]) (yM:Bk H ins outs head rows b) (yR:FrL K H rows.length fr fl fs) (yY:(∀ s<rows.length,Th.Fo outs (fr s)/\(fr s).size<=200/\(fr s).tall<=9)) (zf:rows.length<=20) (zY:∀ H',L2.Same H H'->Q (.bl true) H'):cN K vs H Q _E
def gd (K:Ub):Sp:=cN K
set_option maxHeartbeats 1000000 in
theorem gb:bf P w K mg base CX0 11 T.g__law_fronts_formed.f T.g__law_fronts_formed.d ["book","fronts"] (gd K):=by
 refine T.g__law_fronts_formed.F.ok gf (fun vs H Q E h=>?_) (fun yJ A outer s H vs Q E hr h=>?_)
 · obtain ⟨b,fl,ins,outs,head,rows,fs,fr,rfl,_⟩:=h;rfl
 obtain ⟨b,fl,ins,outs,head,rows,fs,fr,rfl,hB,⟨zC,zL⟩,Cm,hle,k⟩:=h;refine hid fun ZZ kZ=>?_;obtain ⟨ia,oa,ha,ra,yI,yX,zi,hB⟩:=hB;refine kZ ?_
 refine ⟨_,(ae (bq (PW.pt (dA (dq (aV (aw (cM (T:="list")) rfl T.n_isinstance VE (aa (pv 1) (aa (eG (v:=.ty "list") rfl T.n_list X4 rfl) ac))) (fun _=>rfl))) (dl (aH lQ (aw ai rfl T.n_len UE (aa (pv 1) ac)) (aw ai rfl T.n_len UE (aa (ax aC (pv 0) af (fun _ _=>rfl)) ac)) (aO _))))) (ag (aA cY)) aZ)
  (ag (aA (aw (lH rfl) rfl T.n_all Y7 (aa (cq (N:=[Ui "front",Ui "book"]) (js:=[none,some 0]) (g:=(aG 0)) (tt:=bK) (te:=(gx (dh K _) [] E0 (bu (tOp (sO K) (bx 1) (tC (.int 1))) (bu (bx 0) d4)))) rfl (cG rfl (by decide +kernel) (by decide +kernel) rfl rfl rfl) (cn (pv 1)) (fun _ _ _ _ _ _=>(aj (i:=0) xB rfl (Ux rfl))) (aS rfl) (fun _ _ _ _ _ _=>bS) (fun _ _ _ _ _ _=>(pcF T.g__law_is_front (fu T 10) hr (aa (ax aC (pv 1) af (fun _ _=>rfl)) (aa (pv 0) ac))))) ac))))),?_⟩
 try dsimp only [yZ,yE]
 have Dc:rows.length=zi.length:=Up hB.rw;have Az:(UT rows.length).length=fs.length:=Up zL;rw [UW] at Az;refine ⟨_,rfl,_,_,_,rfl,.lst zC,qu,_,rfl,?_⟩;refine cI ?_;refine ⟨_,rfl,fl,_,rfl,.inl (SqL.of zC),_,rfl,b,_,3,.ref ra,rfl,rfl,SqT.of hB.bk,at_nonneg (by decide) rfl,ra,_,rfl,.inr (SqT.of hB.rl),rfl,_,rfl,?_⟩;have hlen:(fs.map V.ref).length=(zi.map V.ref).length:=by rw [T8,T8];omega
 refine cB (fun c4=>by rw [hlen,decide_eq_true rfl] at c4;cases c4) (fun c4=>?_);refine ⟨_,rfl,fl,rfl,⟨_,SqL.of zC⟩,fun D hD=>?_⟩;refine ⟨rows.length,fun j H3=>An3 (j<=rows.length) (L2.Same H H3) (H3 D=some (.lst ((VN j true).map V.bl))),⟨UL _,ad hD _,ab⟩,?_⟩;rintro j H3 ⟨hj,s3,eD⟩;by_cases BK:j=rows.length
 · left;refine ⟨⟨_,SqL.of (s3 _ _ zC),by rw [T8];omega⟩,?_⟩;refine ⟨D,VN j true,rfl,SqL.of eD,?_⟩;rw [show (VN j true).all id=true from WL.mpr fun b hb=>(Zu.mp hb).2];exact k H3 s3
 · right;have yS:j<rows.length:=by omega
   refine hid fun ZZ kZ=>?_;obtain ⟨fa,zd⟩:∃ fa,fs[j]?=some fa:=⟨_,Ua (by omega)⟩;obtain ⟨s',zq,zP⟩:=P2.get' zL zd;rw [Va yS] at zq;cases zq;obtain ⟨z1,z2,z3⟩:=Cm j yS;refine kZ ?_;refine ⟨yS,⟨_,.ref fa,SqL.of (s3 _ _ zC),by rw [Ul,zd];rfl⟩,?_⟩;rintro x' H4 ⟨AD,hv⟩;have Ge:H4=H3:=AD;subst Ge;have zu:=hv _ (SqL.of (s3 _ _ zC));rw [Ul,zd] at zu;cases zu;refine ⟨_,rfl,b,_,1,.ref oa,rfl,rfl,SqT.of (s3 _ _ hB.bk),at1,_,rfl,oa,fa,yX,outs,fr j,rfl,s3 _ _ hB.outE,hB.outK.mono (Same.kt s3),zP.mono (Same.kt s3),z1,by omega,(by show _<=9+1;omega),fun H5 s5=>?_⟩;have JC:=s5 _ _ eD;refine ⟨_,JC,aF (by rw [T8,WT];omega),yS,ay (s3.trans s5) hD,?_⟩;rw [ab,Zd,Ut];rfl
inductive fU (K:Ub) (vs:List V) (H:Hp) (Q:VK) (_E:XK):Prop
 | mk (b fl:Ud) (ins outs:List (UP×Int)) (head:Th) (rows:List (List Th)) (fs:List Ud) (fr:Nat->Th) (yL:vs=[.ref b,.ref fl]) (yM:Bk H ins outs head rows b) (yR:FrL K H rows.length fr fl fs) (yY:(∀ s<rows.length,(fr s).noCall/\(fr s).size<=200/\(fr s).tall<=9)) (zf:rows.length<=20) (zY:(∀ row∈rows,row.length<=1000)) (BD:(∀ (s:Nat) (row:List Th),rows[s]?=some row->∀ p∈row,Th.CR rows.length p/\(fr s).lies (p.fill fun l _=>fr l.toNat)=true)) (BX:∀ H',L2.Same H H'->Q (.bl true) H'):fU K vs H Q _E
def lM (K:Ub):Sp:=fU K
set_option maxHeartbeats 1000000 in
theorem lj:bf P w K mg base CX0 21 T.g__law_closed.f T.g__law_closed.d ["book","fronts"] (lM K):=by
 refine T.g__law_closed.F.ok dQ (fun vs H Q E h=>?_) (fun yJ A outer s H vs Q E hr h=>?_)
 · obtain ⟨b,fl,ins,outs,head,rows,fs,fr,rfl,_⟩:=h;rfl
 obtain ⟨b,fl,ins,outs,head,rows,fs,fr,rfl,hB,⟨zC,zL⟩,Cm,hle,F6,Nz,k⟩:=h;refine hid fun ZZ kZ=>?_;obtain ⟨ia,oa,ha,ra,yI,yX,zi,hB⟩:=hB;refine kZ ?_
 refine ⟨_,(ae (bm UO rfl (bp rfl T.n_range (aa (aw ai rfl T.n_len UE (aa (pv 1) ac)) ac)) (aj (i:=2) dQ.nd rfl (Ux rfl)) (ag (bm UO rfl (iH (ax aC (ax aC (pv 0) af (fun _ _=>rfl)) (pv 2) (fun _ _=>rfl))) (aj (i:=3) dQ.nd rfl (Ux rfl)) (ag (bq (dq (aV (pcF T.g__law_lies (jr T 20) hr (aa (ax aN (pv 1) (pv 2) (fun _ _=>rfl)) (aa (pv 3) (aa (pv 1) ac)))) (fun _=>rfl))) (ag (aA cY)) aZ)))))
  (ag (aA cY))),?_⟩
 try dsimp only [yZ,yE]
 have Dc:rows.length=zi.length:=Up hB.rw;have Az:(UT rows.length).length=fs.length:=Up zL;rw [UW] at Az;refine ⟨_,rfl,fl,_,rfl,.inl (SqL.of zC),_,rfl,by omega,by rw [T8];omega,?_⟩;refine bD (n:=(((fs.map V.ref).length:Nat):Int).toNat) (fun i σ H3=>Ex2 fun (c2 c3:Option V)=>An2 (σ=[some (.ref b),some (.ref fl),c2,c3]) (L2.Same H H3)) ⟨none,none,rfl,.refl _⟩ ?_ ?_
 · rintro i σ H3 hi ⟨c2,c3,rfl,s3⟩
   have y9:i<rows.length:=by
    have h1:i<(((fs.map V.ref).length:Nat):Int).toNat:=hi;rw [T8] at h1;omega
   refine hid fun ZZ kZ=>?_;obtain ⟨row,yC⟩:∃ row,rows[i]?=some row:=⟨_,Ua y9⟩;obtain ⟨zJ,Aj,FK,DH,Bi⟩:=P2.get hB.rw yC;obtain ⟨fa,zd⟩:∃ fa,fs[i]?=some fa:=⟨_,Ua (by omega)⟩;obtain ⟨s',zq,zP⟩:=P2.get' zL zd;rw [Va y9] at zq;cases zq;obtain ⟨z1,z2,z3⟩:=Cm i y9;refine kZ ?_;have zD:=Bi.length;refine ⟨_,rfl,b,_,3,.ref ra,rfl,rfl,SqT.of (s3 _ _ hB.bk),at_nonneg (by decide) rfl,_,rfl,ra,_,_,.ref zJ,rfl,rfl,SqT.of (s3 _ _ hB.rl),at_nonneg (by omega) (by rw [show (0+(i:Int)).toNat=i by omega,Ul,Aj];rfl),zJ,rfl,⟨_,SqT.of (s3 _ _ DH)⟩,?_⟩;refine vz (K:=K) (a:=zJ) (xs:=FK.map V.ref) (fun j σ H4=>Ex1 fun (c3:Option V)=>An2 (σ=[some (.ref b),some (.ref fl),some (.int (0+(i:Int))),c3]) (L2.Same H H4)) ⟨_,rfl,s3⟩ (fun j σ H4 _ ⟨_,_,s4⟩=>SqT.of (s4 _ _ DH)) ?_ ?_
   · rintro j y σ H4 hy ⟨c3,rfl,s4⟩;refine hid fun ZZ kZ=>?_;obtain ⟨pa,rfl,DA⟩:=aT hy;obtain ⟨p,hp,Dw⟩:=Bi.get DA;obtain ⟨y1,y2⟩:=Nz i row yC p (Uc hp);refine kZ ?_;have h3:=qZ p;refine ⟨_,rfl,_,rfl,fl,_,_,.ref fa,rfl,rfl,SqL.of (s4 _ _ zC),at_nonneg (by omega) (by rw [show (0+(i:Int)).toNat=i by omega,Ul,zd];rfl),_,rfl,_,rfl,?_⟩;refine ⟨fa,pa,fl,fr i,p,fs,rows.length,fr,rfl,zP.mono (Same.kt s4),(Dw.mono (Same.kt s4)).k,s4 _ _ zC,P2.mp (fun _ _ h=>h.mono (Same.kt s4)) zL,fun s hs=>(Cm s hs).1,z1,by omega,y1,(by show _<=19+1;omega),y2,fun H5 s5=>⟨_,rfl,?_⟩⟩;exact cI ⟨_,rfl,s4.trans s5⟩
   · rintro σ H4 ⟨c3,rfl,s4⟩;exact ⟨_,_,rfl,s4⟩
 · rintro σ H3 ⟨c2,c3,rfl,s3⟩;exact k H3 s3
inductive ft (vs:List V) (H:Hp) (Q:VK) (_E:XK):Prop
 | mk (b ta pa:Ud) (s:Int) (ins outs:List (UP×Int)) (head:Th) (rows:List (List Th)) (t:Th) (pl:List Int) (m:UP) (yL:vs=[.ref b,.int s,.ref ta,.ref pa]) (yM:Bk H ins outs head rows b) (yR:bZ ins) (yY:At H t ta) (zf:H pa=some (.tup (pl.map V.int))) (zY:pl.length<=1000) (BD:qj ins rows s t pl m) (BX:∀ H',L2.Same H H'->Q (.str m) H'):ft  vs H Q _E
def km:Sp:=ft
def NmI (ins:List (UP×Int)) (rows:List (List Th)) (b pa nl:Ud) (s:Int) (pl:List Int) (m:UP) (H:Hp) (n:Nat) (σ:St) (H3:Hp):Prop:=∃ (ta ha:Ud) (at':Nat) (p t:Th),σ=[some (.ref b),some (.int s),some (.ref ta),some (.ref pa),some (.ref nl),some (.ref ha),some (.int (at':Nat))]/\H3=H/\At H p ha/\At H t ta/\at'<=pl.length/\NmAt ins rows n p t (pl.drop at') m
set_option maxHeartbeats 1000000 in
theorem f7:bf P w K mg base CX0 1 T.g__law_name_at.f T.g__law_name_at.d ["book","state","tree","place"] km:=by
 refine T.g__law_name_at.F.ok bi (fun vs H Q E h=>?_) (fun yJ A outer s0 H vs Q E hr h=>?_)
 · obtain ⟨b,ta,pa,s,ins,outs,head,rows,t,pl,m,rfl,_⟩:=h;rfl
 obtain ⟨b,ta,pa,s,ins,outs,head,rows,t,pl,m,rfl,hB,g,AF,AQ,zD,KA,q⟩:=h;refine hid fun ZZ kZ=>?_;obtain ⟨ia,oa,ha,ra,yI,yX,zi,bk⟩:=hB;refine kZ ?_
 refine ⟨_,(ae (fO (i:=4) (N:=[Ui "kind"]) (js:=[none]) (g:=(aG 0)) (tt:=bK) (te:=(tOp (sO K) (bx 0) (tC (.int 0)))) bi.nd rfl (Ux rfl) rfl (cG rfl (by decide +kernel) (by decide +kernel) rfl rfl rfl) (iH (ax aC (pv 0) af (fun _ _=>rfl))) (fun _ _ _ _ _ _=>(aj (i:=0) xy rfl (Ux rfl))) (aS rfl) (fun _ _ _ _ _ _=>bS) (fun _ _ _ _ _ _=>(ax aC (pv 0) af (fun _ _=>rfl))))
  (ae (av (i:=5) bi.nd rfl (Ux rfl) (ax aC (ax aC (ax aC (pv 0) af (fun _ _=>rfl)) (pv 1) (fun _ _=>rfl)) (bL Ur Xb YO nq (pv 4) (aa (ax aC (pv 2) af (fun _ _=>rfl)) ac)) (fun _ _=>rfl)))
  (ae (av (i:=6) bi.nd rfl (Ux rfl) af)
  (ae (dU UO (PW.pt (dA (aH cD (ax aC (pv 5) af (fun _ _=>rfl)) eO (aO _)) (dl (aH mX (pv 6) (aw ai rfl T.n_len UE (aa (pv 3) ac)) (aO _))))) (ag (bq (aH cD (ax aC (pv 5) af (fun _ _=>rfl)) eO (aO _)) (ae (av (i:=2) bi.nd rfl (Ux rfl) (ax aC (pv 2) (az bM af (ax aC (pv 5) af (fun _ _=>rfl))) (fun _ _=>rfl)))
  (ag (av (i:=5) bi.nd rfl (Ux rfl) (ax aC (ax aC (ax aC (pv 0) af (fun _ _=>rfl)) (ax aC (pv 5) af (fun _ _=>rfl)) (fun _ _=>rfl)) (bL Ur Xb YO nq (pv 4) (aa (ax aC (pv 2) af (fun _ _=>rfl)) ac)) (fun _ _=>rfl))))) (ag (bq (aH mX (ax aC (pv 3) (pv 6) (fun _ _=>rfl)) (az gh (aw ai rfl T.n_len UE (aa (pv 5) ac)) af) (aO _)) (ae (av (i:=5) bi.nd rfl (Ux rfl) (ax aC (pv 5) (az bM af (ax aC (pv 3) (pv 6) (fun _ _=>rfl))) (fun _ _=>rfl)))
  (ag (av (i:=6) bi.nd rfl (Ux rfl) (az bM (pv 6) af)))) (ag (aA qe)))))))
  (ag (aA (ax aC (pv 5) af (fun _ _=>rfl)))))))),?_⟩
 try dsimp only [yZ,yE]
 have An:ins.length=yI.length:=Up bk.inK;have DG:=g.le;refine ⟨_,rfl,b,_,0,.ref ia,rfl,rfl,SqT.of bk.bk,at0,ia,rfl,⟨_,SqT.of bk.inE⟩,o0 ins (fun k=>V.str k.1) (SqT.of bk.inE) (by rw [T8];exact An) (by rw [T8];omega) (fun i x z H2 R W' hx hz s2 hR=>?_) (fun D H1 hD s1 e1=>?_)⟩
 · obtain ⟨ka,rfl,zr⟩:=aT hx;obtain ⟨z',Au,ez⟩:=P2.get' bk.inK zr;rw [hz] at Au;cases Au;exact ⟨_,rfl,ka,_,0,.str z.1,rfl,rfl,SqT.of (s2 _ _ ez),at0,hR H2 (.refl _)⟩
 have en:ins.map (fun k=>V.str k.1)=(ins.map (·.1)).map V.str:=by rw [Wi];rfl
 rw [en] at e1;refine hid fun ZZ kZ=>?_;obtain ⟨vm,vs,row,j,kd,p,n,Sx,rfl,yC,hj,C9,hp,hN⟩:=KA;have GY:=bk.mono (Same.kt s1);have JD:=AF.mono (Same.kt s1);have En:=s1 _ _ AQ;have JE:=JD;rw [At] at JE;obtain ⟨Kw,bs,eta,y8⟩:=JE;obtain ⟨zJ,Aj,Bs,NA,JF⟩:=P2.get GY.rw yC;have zw:=JF.length;have Sy:=(Uh.mp hp).1;obtain ⟨PD,JG⟩:∃ a,Bs[j]?=some a:=⟨_,Ua (by omega)⟩;obtain ⟨t2,Fx,NB⟩:=JF.get JG;refine kZ ?_;rw [hp] at Fx;cases Fx;refine ⟨_,rfl,b,_,3,.ref ra,rfl,rfl,SqT.of GY.bk,cu (j:=3) rfl,_,rfl,ra,_,_,.ref zJ,rfl,rfl,SqT.of GY.rl,at_nonneg Sx (by rw [Ul,Aj];rfl),_,rfl,.inl ⟨rfl,_,SqL.of e1⟩,_,rfl,ta,_,0,.str vm,rfl,rfl,SqT.of eta,at0,D,ins.map (·.1),vm,j,rfl,rfl,SqL.of e1,by rw [Ul,hj,<- C9];rfl,fun i hi hz=>?_,by rw [T8];omega,zJ,_,(j:Int),.ref PD,rfl,rfl,SqT.of NA,cu (by rw [Ul,JG];rfl),?_⟩
 · rw [Ul] at hz;obtain ⟨k',zV,e⟩:=UN.mp hz;have:=g.nd i j k' kd zV hj (e.trans C9.symm);omega
 refine ⟨NmI ins rows b pa D s pl m H1,⟨_,ta,PD,0,p,.knot vm vs,rfl,rfl,NB,JD,UL _,by rw [Wy];exact hN⟩,?_⟩;rintro n σ H2 ⟨ta,ha,at',p,t,rfl,rfl,Dw,PF,NC,hN⟩
 have ND:∀ (j:Int) (r:List Int),pl.drop at'=j::r->at'<pl.length/\pl[at']?=some j/\pl.drop (at'+1)=r:=fun j r e=>by
  have yK:at'<pl.length:=by
   have:=congrArg W7 e;rw [Vx,Uo] at this;omega
  rw [XG yK] at e;injection e with e1 e2;exact ⟨yK,by rw [Ua yK,e1],e2⟩
 generalize EL:pl.drop at'=dr at hN;cases hN with
 | here =>
   rename_i ks
   rw [At] at Dw;refine hid fun ZZ kZ=>?_;obtain ⟨GN,yV,eh,zj⟩:=Dw;refine kZ ?_
   have Av:at'=pl.length:=by
    have:=congrArg W7 EL;rw [Vx,W0] at this;omega
   have KD:decide (V.str m=V.str (Ui "?"))=false:=decide_eq_false fun z=>GN (V.str.inj z);refine ⟨_,rfl,ha,_,0,.str m,rfl,rfl,SqT.of eh,at0,rfl,_,rfl,?_⟩;rw [KD];refine cI ?_;refine ⟨_,rfl,_,rfl,pa,_,rfl,.inr (SqT.of En),_,_,rfl,rfl,_,rfl,?_⟩;rw [T8,Av,decide_eq_false (by omega)];refine cI ?_;exact ⟨_,rfl,ha,_,0,.str m,rfl,rfl,SqT.of eh,at0,q _ s1⟩
 | step hu hN =>
   rename_i n nm ks j u r
   rw [At] at Dw;refine hid fun ZZ kZ=>?_;obtain ⟨GN,yV,eh,zj⟩:=Dw;obtain ⟨yK,NF,NG⟩:=ND _ _ EL;have zE:=zj.length;have BG:=(Uh.mp hu).1;obtain ⟨ua,EN,NH⟩:=zj.at hu;refine kZ ?_;have KD:decide (V.str nm=V.str (Ui "?"))=false:=decide_eq_false fun z=>GN (V.str.inj z);refine ⟨_,rfl,ha,_,0,.str nm,rfl,rfl,SqT.of eh,at0,rfl,_,rfl,?_⟩;rw [KD];refine cI ?_;refine ⟨_,rfl,_,rfl,pa,_,rfl,.inr (SqT.of En),_,_,rfl,rfl,_,rfl,?_⟩;rw [T8,decide_eq_true (by omega)];refine pS ?_;refine ⟨fun yA H'=>∃ m',m'<n+1/\NmI ins rows b pa D s pl m H2 m' yA H',fun yA H' h=>h,?_⟩;refine ⟨_,rfl,ha,_,0,.str nm,rfl,rfl,SqT.of eh,at0,rfl,_,rfl,?_⟩;rw [KD];refine cI ?_;have DK:atI (pl.map V.int) ((at':Nat):Int)=some (.int (j:Int)):=cu (by rw [Ul,NF];rfl);refine ⟨_,rfl,_,rfl,pa,_,_,.int (j:Int),rfl,rfl,SqT.of En,DK,_,rfl,ha,_,rfl,.inr (SqT.of eh),_,_,rfl,rfl,_,_,rfl,rfl,_,rfl,?_⟩;rw [Uo,T8,decide_eq_true (by omega)];refine pS ?_;refine ⟨_,rfl,_,rfl,_,rfl,pa,_,_,.int (j:Int),rfl,rfl,SqT.of En,DK,_,_,rfl,rfl,ha,_,_,.ref ua,rfl,rfl,SqT.of eh,at_nonneg (by omega) (by rw [show (1+(j:Int)).toNat=j+1 by omega,U9,Ul,EN];rfl),?_⟩;refine ⟨_,rfl,_,_,rfl,rfl,n,by omega,ta,ua,at'+1,u,t,by rfl,rfl,NH,PF,by omega,by rw [NG];exact hN⟩
 | call hk hs hu hr hi hn hp hN =>
   rename_i n s' k tm PH us TZ Ai i' Ou p'
   have JH:=Dw;rw [At] at JH;have JI:=PF;rw [At] at JI;refine hid fun ZZ kZ=>?_;obtain ⟨T1,T2,et,NI⟩:=JI;obtain ⟨va,Sz,JJ⟩:=NI.at hu;have E5:=JJ;rw [At] at E5;obtain ⟨T3,T4,ev,SD⟩:=E5;obtain ⟨E6,Gg,Ek,JK,E7⟩:=P2.get GY.rw hr;have T5:=E7.length;have SE:=(Uh.mp hp).1;obtain ⟨PJ,JL⟩:∃ a,Ek[i']?=some a:=⟨_,Ua (by omega)⟩;obtain ⟨t3,PK,NJ⟩:=E7.get JL;refine kZ ?_;rw [hp] at PK;cases PK;refine ⟨_,rfl,ha,_,0,.str (Ui "?"),rfl,rfl,SqT.of JH,at0,rfl,_,rfl,?_⟩;refine wa rfl ?_;refine pS ?_;refine ⟨fun yA H'=>∃ m',m'<n+1/\NmI ins rows b pa D s pl m H2 m' yA H',fun yA H' h=>h,?_⟩;refine ⟨_,rfl,ha,_,0,.str (Ui "?"),rfl,rfl,SqT.of JH,at0,rfl,_,rfl,?_⟩;refine wa rfl ?_;refine ⟨_,rfl,_,rfl,ha,_,2,.int k,rfl,rfl,SqT.of JH,at2,_,_,rfl,rfl,ta,_,_,.ref va,rfl,rfl,SqT.of et,at_nonneg (by omega) (by rw [show (1+k).toNat=k.toNat+1 by omega,U9,Ul,Sz];rfl),?_⟩;refine ⟨_,rfl,b,_,3,.ref ra,rfl,rfl,SqT.of GY.bk,cu (j:=3) rfl,_,rfl,ha,_,1,.int s',rfl,rfl,SqT.of JH,at1,ra,_,_,.ref E6,rfl,rfl,SqT.of GY.rl,at_nonneg hs (by rw [Ul,Gg];rfl),_,rfl,.inl ⟨rfl,_,SqL.of e1⟩,_,rfl,va,_,0,.str PH,rfl,rfl,SqT.of ev,at0,D,ins.map (·.1),PH,i',rfl,rfl,SqL.of e1,by rw [Ul,hi,<- hn];rfl,fun i Iu hz=>?_,by rw [T8];omega,E6,_,(i':Int),.ref PJ,rfl,rfl,SqT.of JK,cu (by rw [Ul,JL];rfl),?_⟩
   · rw [Ul] at hz;obtain ⟨k',zV,e⟩:=UN.mp hz;have:=g.nd i i' k' Ou zV hi (e.trans hn.symm);omega
   exact ⟨n,by omega,va,PJ,at',p',_,by rfl,rfl,NJ,JJ,NC,by rw [EL];exact hN⟩
def szW:List (Th×Int)->Nat
 | []=>0
 | p::ps=>p.1.size+szW ps
theorem fG:∀ a b:List (Th×Int),szW (a++b)=szW a+szW b
 | [],b=>by rw [Wc,szW];omega
 | p::a,b=>by rw [Wf,szW,szW,fG a b];omega
theorem lA (d:Int):∀ ks:List Th,szW (ks.map fun t=>(t,d))=aq ks
 | []=>by rw [Wv,szW,aq]
 | t::ks=>by rw [Vd,szW,aq,lA d ks]
theorem se:∀ a:List (Th×Int),a.length<=szW a
 | []=>UL _
 | p::a=>by rw [Uo,szW];have:=se a;have:=p.1.size_pos;omega
def WAt (H:Hp) (p:Th×Int) (a:Ud):Prop:=∃ xa,H a=some (.tup [.ref xa,.int p.2])/\At H p.1 xa
theorem WAt.mono {H H':Hp} (k:KT H H') {p:Th×Int} {a:Ud} (h:WAt H p a):WAt H' p a:=by
 obtain ⟨xa,h1,h2⟩:=h;exact ⟨xa,k _ _ h1,h2.mono k⟩
inductive fj (vs:List V) (H:Hp) (Q:VK) (_E:XK):Prop
 | mk (ia ta:Ud) (most:Int) (yI:List Ud) (ins:List (UP×Int)) (t:Th) (yL:vs=[.ref ia,.ref ta,.int most]) (yM:H ia=some (.tup (yI.map V.ref))) (yR:KsAt H ins yI) (yY:ins.length<=8) (zf:At H t ta) (zY:t.FitS ins 0 0) (BD:(t.tall:Int)<=most) (BX:t.size<=2000) (D4:∀ H',L2.Same H H'->Q (.bl true) H'):fj  vs H Q _E
def kf:Sp:=fj
def xn (ins:List (UP×Int)) (ia ta wl:Ud) (most:Int) (H:Hp) (m:Nat) (σ:St) (H3:Hp):Prop:=∃ (ws:List Ud) (Ws:List (Th×Int)) (mn:Nat) (c5 c6:Option V),σ=[some (.ref ia),some (.ref ta),some (.int most),some (.ref wl),some (.int (mn:Nat)),c5,c6]/\L2.Same H H3/\H3 wl=some (.lst (ws.map V.ref))/\UR (WAt H3) Ws ws/\(∀ p∈Ws,p.1.FitS ins 0 0/\p.2+(p.1.tall:Int)<=most+1)/\mn+szW Ws<=2000/\m=szW Ws
set_option maxHeartbeats 1000000 in
theorem fX:bf P w K mg base CX0 1 T.g__law_is_tree.f T.g__law_is_tree.d ["ins","tree","most"] kf:=by
 refine T.g__law_is_tree.F.ok bN (fun vs H Q E h=>?_) (fun yJ A outer s0 H vs Q E hr h=>?_)
 · obtain ⟨ia,ta,most,yI,ins,t,rfl,_⟩:=h;rfl
 obtain ⟨ia,ta,most,yI,ins,t,rfl,ei,AG,DG,AF,hf,zb,hsz,q⟩:=h
 refine ⟨_,(ae (av (i:=3) bN.nd rfl (Ux rfl) (bC (aa (aK (aa (pv 1) (aa af ac))) ac)))
  (ae (av (i:=4) bN.nd rfl (Ux rfl) af)
  (ae (dU UO (aH mI (aw ai rfl T.n_len UE (aa (pv 3) ac)) af (aO _)) (ae (cP (jN Ur WS WR jF (pv 3)) (bA rfl (au (aj (i:=5) bN.nd rfl (Ux rfl)) (au (aj (i:=6) bN.nd rfl (Yt rfl)) aY))))
  (ae (av (i:=4) bN.nd rfl (Ux rfl) (az bM (pv 4) af))
  (ae (bq (PW.pt (dA (dq (aV (aw (cM (T:="tuple")) rfl T.n_isinstance VE (aa (pv 5) (aa (eG (v:=.ty "tuple") rfl T.n_tuple VY rfl) ac))) (fun _=>rfl))) (dA (aH cD (aw ai rfl T.n_len UE (aa (pv 5) ac)) af (aO _)) (dA (dq (aV (aw (cM (T:="str")) rfl T.n_isinstance VE (aa (ax aC (pv 5) af (fun _ _=>rfl)) (aa (eG (v:=.ty "str") rfl T.n_str PyProof.Rows.boot_str rfl) ac))) (fun _=>rfl))) (dl (aH mI (pv 6) (pv 2) (aO _))))))) (ag (aA cY)) aZ)
  (ae (bq (PW.pt (dA (aH (mG (B:=50) (rG hr)) (aK (aa (ax aC (pv 5) af (fun _ _=>rfl)) (aa (az gh (aw ai rfl T.n_len UE (aa (pv 5) ac)) af) ac))) (pv 0) (by with_unfolding_all rfl)) (dl (aH mI (pv 4) af (aO _))))) (ag (aA cY)) aZ)
  (ag (aQ (bL Ur W9 W8 g9 (pv 3) (aa (cq (N:=[Ui "kid",Ui "deep"]) (js:=[none,some 6]) (g:=(aG 0)) (tt:=bK) (te:=(kj (bu (bx 0) (bu (tOp (rI0 fun i j=>.int (i+j)) (bx 1) (tC (.int 1))) d4)))) rfl (cG rfl (by decide +kernel) (by decide +kernel) rfl rfl rfl) (iH (bB eT (pv 5) (bF af) bY)) (fun _ _ _ _ _ _=>(aj (i:=0) xj rfl (Ux rfl))) (aS rfl) (fun _ _ _ _ _ _=>bS) (fun _ _ _ _ _ _=>(aK (aa (pv 0) (aa (az bM (pv 1) af) ac))))) ac)))))))))
  (ag (aA cY))))),?_⟩
 try dsimp only [yZ,yE]
 have An:ins.length=yI.length:=Up AG;refine ⟨_,rfl,ak (by show 2<=1000000;decide),fun p1 AN=>?_⟩;refine ⟨ak (by show 1<=1000000;decide),fun wl By=>?_⟩;have s1:L2.Same H (upd H p1 (.tup [.ref ta,.int 1])):=ad AN _;have e1:(upd H p1 (.tup [.ref ta,.int 1])) p1=some (.tup [.ref ta,.int 1]):=ab;generalize (upd H p1 (.tup [.ref ta,.int 1]))=H1 at s1 e1 By ⊢;have Il:H wl=none:=s1.free By;have s2:L2.Same H1 (upd H1 wl (.lst [.ref p1])):=ad By _;have e2:(upd H1 wl (.lst [.ref p1])) wl=some (.lst ([p1].map V.ref)):=ab
 try dsimp only [aG]
 generalize (upd H1 wl (.lst [.ref p1]))=H2 at s2 e2 ⊢;have zo:=s1.trans s2;refine ⟨xn ins ia ta wl most H,⟨_,[p1],[(t,1)],0,none,none,rfl,zo,e2,.cons ⟨ta,s2 _ _ e1,AF.mono (Same.kt zo)⟩ .nil,fun p hp=>by rw [UH.mp hp];exact ⟨hf,by dsimp only;omega⟩,by rw [szW,szW];dsimp only;omega,rfl⟩,?_⟩;rintro m σ H3 ⟨ws,Ws,mn,c5,c6,rfl,s3,ew,PL,hW,J1,rfl⟩;have T6:Ws.length=ws.length:=Up PL;refine ⟨_,rfl,wl,_,rfl,.inl (SqL.of ew),_,_,rfl,rfl,_,rfl,?_⟩;refine cB (fun c=>?_) (fun c=>?_)
 · refine ⟨fun yA H'=>∃ m',m'<szW Ws/\xn ins ia ta wl most H m' yA H',fun yA H' h=>h,?_⟩;have zI:ws≠[]:=by intro z;subst z;simp at c
   refine hid fun ZZ kZ=>?_;obtain ⟨B3,b,rfl⟩:∃ yO b,ws=yO++[b]:=⟨ws.dropLast,ws.getLast zI,(Wd zI).symm⟩;obtain ⟨Us,⟨x,d⟩,rfl,a3,xa,eb,Kb⟩:=P2.snoc_inv PL;dsimp only at eb Kb;have DW:szW (Us++[(x,d)])=szW Us+x.size:=by rw [fG,szW,szW];rfl
   rw [DW] at J1;obtain ⟨NK,PM⟩:=hW (x,d) (by simp);refine kZ ?_;dsimp only at NK PM;have OL:Us.length=B3.length:=Up a3;have q4:Us.length<=szW Us:=se Us;refine ⟨_,rfl,.inl ⟨rfl,_,SqL.of ew⟩,wl,_,.ref b,rfl,rfl,ew,by simp,?_⟩;have d1:((B3++[b]).map V.ref).dropLast=B3.map V.ref:=by simp
   rw [d1];have k1:KT H3 (upd H3 wl (.lst (B3.map V.ref))):=aU ew;have Cy:L2.Same H (upd H3 wl (.lst (B3.map V.ref))):=ay s3 Il;have NL:(upd H3 wl (.lst (B3.map V.ref))) wl=some (.lst (B3.map V.ref)):=ab;generalize (upd H3 wl (.lst (B3.map V.ref)))=H4 at k1 Cy NL ⊢;refine ⟨b,_,rfl,SqT.of (k1 _ _ eb),rfl,_,_,rfl,_,_,rfl,rfl,?_⟩
   try dsimp only [aG]
   cases x with
   | call u v=>rw [Th.FitS] at NK;omega
   | knot nm ks =>
   have JM:=Kb.mono k1;rw [At] at JM;refine hid fun ZZ kZ=>?_;obtain ⟨GN,yV,ex,zj⟩:=JM;refine kZ ?_;have zE:yV.length=ks.length:=zj.length;have GD:=bH ks;rw [Th.size] at J1 DW;rw [Th.tall] at PM;have Gh:=NK;rw [Th.FitS] at Gh;have el:(((V.str nm::yV.map V.ref).length:Nat):Int)=(ks.length:Int)+1:=by rw [Uo,T8,zE];omega
   refine ⟨_,rfl,_,_,rfl,rfl,?_⟩
   try dsimp only [aG]
   refine ⟨_,rfl,_,_,_,rfl,.tup ex,qD,_,rfl,?_⟩;refine cI ?_;refine ⟨_,rfl,xa,_,rfl,.inr (SqT.of ex),rfl,_,rfl,?_⟩;rw [el,decide_eq_false (show V.int ((ks.length:Int)+1)≠V.int 0 from fun z=>by have:=V.int.inj z;omega)];refine cI ?_;refine ⟨_,rfl,xa,_,0,.str nm,rfl,rfl,SqT.of ex,at0,_,_,_,rfl,.str nm,tO,_,rfl,?_⟩;refine cI ?_;refine ⟨_,rfl,_,rfl,_,_,rfl,rfl,_,rfl,?_⟩;rw [decide_eq_false (by omega)];refine cI ?_
   -- Bm kind
   refine ⟨_,rfl,xa,_,0,.str nm,rfl,rfl,SqT.of ex,at0,_,rfl,xa,_,rfl,.inr (SqT.of ex),_,_,rfl,rfl,ak (by show 2<=1000000;decide),fun p hp=>?_⟩;rw [el];have DU:(ks.length:Int)+1 - 1=(ks.length:Int):=by omega
   dsimp only;rw [DU];have s5:L2.Same H4 (upd H4 p (.tup [.str nm,.int (ks.length:Int)])):=ad hp _;have e5:(upd H4 p (.tup [.str nm,.int (ks.length:Int)])) p=some (.tup [.str nm,.int (ks.length:Int)]):=ab;generalize (upd H4 p (.tup [.str nm,.int (ks.length:Int)]))=H5 at s5 e5 ⊢;have C9:=lw ins;have Bq:=Cy.trans s5;refine ⟨_,rfl,ia,_,kDv (nm,(ks.length:Int)),ins.map kDv,rfl,SqT.of (Bq _ _ ei),?_,uc (AG.mono (Same.kt Bq)),by omega,fun r AR=>⟨_,rfl,?_⟩⟩
   · rw [kDv,DAt];exact ⟨_,_,rfl,e5,.cons (by rw [DAt]) (.cons (by rw [DAt]) .nil)⟩
   have Nx:r=false:=by
    cases r with
    | false=>rfl
    | true=>exact absurd (List.mem_map_of_mem Gh.1) (AR.mp rfl)
   subst Nx;refine cI ?_;refine ⟨_,rfl,_,_,rfl,rfl,_,rfl,?_⟩;rw [decide_eq_false (by omega)];refine cI ?_
   -- kids
   refine ⟨_,rfl,.inl ⟨rfl,_,SqL.of (s5 _ _ NL)⟩,_,rfl,1,rfl,xa,_,rfl,SqT.of (s5 _ _ ex),?_,fun p3 Jc=>?_⟩
   · rintro ⟨z,_⟩;rw [Uo,show (1:Int)=((1:Nat):Int) by rfl,HT.sIx_nat] at z;omega
   dsimp only;rw [dO];have s6:L2.Same H5 (upd H5 p3 (.tup (yV.map V.ref))):=ad Jc _;have e6:(upd H5 p3 (.tup (yV.map V.ref))) p3=some (.tup (yV.map V.ref)):=ab;generalize (upd H5 p3 (.tup (yV.map V.ref)))=H6 at s6 e6 ⊢;refine ⟨p3,rfl,⟨_,SqT.of e6⟩,jd (F:=WAt) (xs:=yV.map V.ref) (ks.map fun t=>(t,d+1)) (fun H1 H2 z p kt h=>h.mono kt) (by rw [T8,T8];omega) (by rw [T8];omega) (fun j Hx sx hj=>⟨_,_,SqT.of (sx _ _ e6),Ua hj⟩) (fun Hx sx=>⟨_,SqT.of (sx _ _ e6),Ue _⟩) (fun j Hx x Hy sx hj hy=>⟨hy.1,hy.2 _ (SqT.of (sx _ _ e6))⟩) (fun j x z Hx R W' hx Bh sx hR=>?_) (fun D H7 Ds hD s7 eD BM=>?_)⟩
   · obtain ⟨ka,rfl,zr⟩:=aT hx;rw [Ul] at Bh;obtain ⟨u,hu,rfl⟩:=UN.mp Bh;obtain ⟨u',zZ,Jv⟩:=zj.get zr;rw [hu] at zZ;cases zZ;refine ⟨_,rfl,_,rfl,_,_,rfl,rfl,ak (by show 2<=1000000;decide),fun p4 Nh=>?_⟩;have s8:=ad Nh (.tup [.ref ka,.int (d+1)]);exact hR _ p4 s8 ⟨ka,ab,Jv.mono (Same.kt (s5.trans (s6.trans (sx.trans s8))))⟩
   · have Dt:(ks.map fun t=>(t,d+1)).length=Ds.length:=Up BM;rw [T8] at Dt;have PN:=(s5.trans (s6.trans s7)) _ _ NL;refine ⟨wl,D,_,_,rfl,rfl,PN,eD,ak (by rw [T8,T8];omega),?_⟩;have k8:KT H7 (upd H7 wl (.lst (B3.map V.ref++Ds.map V.ref))):=aU PN;refine ⟨szW (Us++ks.map fun t=>(t,d+1)),by rw [fG,lA,DW];omega,B3++Ds,Us++ks.map (fun t=>(t,d+1)),mn+1,_,_,rfl,ay (Cy.trans (s5.trans (s6.trans s7))) Il,by rw [ab,Ut],?_,fun p' zG=>?_,?_,rfl⟩
     · exact P2.append (P2.mp (fun _ _ e=>(e.mono (k1.trans (Same.kt (s5.trans (s6.trans s7))))).mono k8) a3) (P2.mp (fun _ _ e=>e.mono k8) BM)
     · rcases U8.mp zG with zG | zG
       · exact hW p' (Vf _ zG)
       · obtain ⟨u,hu,rfl⟩:=Vb.mp zG;have:=bR hu;exact ⟨FitSs.mem' Gh.2 u hu,by dsimp only;omega⟩
     · rw [fG,lA];omega
 · exact q H3 s3
def vI (ins:List (UP×Int)) (R:Nat->List Int->Th->Th->Prop):Prop:=∀ s h t1 t2,R s h t1 t2->(t1.FitS ins 0 0/\t1.size<=500)/\(t2.FitS ins 0 0/\t2.size<=500)
inductive cZ (K:Ub) (vs:List V) (H:Hp) (Q:VK) (_E:XK):Prop
 | mk (b fl pl:Ud) (ins outs:List (UP×Int)) (head:Th) (rows:List (List Th)) (fs ls:List Ud) (fr:Nat->Th) (R:Nat->List Int->Th->Th->Prop) (yL:vs=[.ref b,.ref fl,.ref pl]) (yM:Bk H ins outs head rows b) (yR:ins.length<=8) (yY:FrL K H rows.length fr fl fs) (zf:(∀ s<rows.length,Th.Fo outs (fr s)/\(fr s).size<=200/\(fr s).tall<=9)) (zY:rows.length<=20) (BD:PrL H R fr rows.length pl ls) (BX:vI ins R) (D4:∀ H',L2.Same H H'->Q (.bl true) H'):cZ K vs H Q _E
def gH (K:Ub):Sp:=cZ K
set_option maxHeartbeats 1000000 in
theorem gg:bf P w K mg base CX0 11 T.g__law_pairs_formed.f T.g__law_pairs_formed.d ["book","fronts","pairs"] (gH K):=by
 refine T.g__law_pairs_formed.F.ok cx (fun vs H Q E h=>?_) (fun yJ A outer s H vs Q E hr h=>?_)
 · obtain ⟨b,fl,pl,ins,outs,head,rows,fs,ls,fr,R,rfl,_⟩:=h;rfl
 obtain ⟨b,fl,pl,ins,outs,head,rows,fs,ls,fr,R,rfl,hB,DG,⟨zC,zL⟩,Cm,hle,⟨CC,Bo⟩,hR,k⟩:=h;refine hid fun ZZ kZ=>?_;obtain ⟨ia,oa,ha,ra,yI,yX,zi,hB⟩:=hB;refine kZ ?_
 refine ⟨_,(ae (bq (PW.pt (dA (dq (aV (aw (cM (T:="list")) rfl T.n_isinstance VE (aa (pv 2) (aa (eG (v:=.ty "list") rfl T.n_list X4 rfl) ac))) (fun _=>rfl))) (dl (aH lQ (aw ai rfl T.n_len UE (aa (pv 2) ac)) (aw ai rfl T.n_len UE (aa (pv 1) ac)) (aO _))))) (ag (aA cY)) aZ)
  (ae (bm UO rfl (bp rfl T.n_range (aa (aw ai rfl T.n_len UE (aa (pv 1) ac)) ac)) (aj (i:=3) cx.nd rfl (Ux rfl)) (ae (bq (PW.pt (dA (dq (aV (aw (cM (T:="list")) rfl T.n_isinstance VE (aa (ax aN (pv 2) (pv 3) (fun _ _=>rfl)) (aa (eG (v:=.ty "list") rfl T.n_list X4 rfl) ac))) (fun _=>rfl))) (dl (aH lQ (aw ai rfl T.n_len UE (aa (ax aN (pv 2) (pv 3) (fun _ _=>rfl)) ac)) (aw ai rfl T.n_len UE (aa (pcF T.g__law_holes (eV T 10) hr (aa (ax aN (pv 1) (pv 3) (fun _ _=>rfl)) ac)) ac)) (aO _))))) (ag (aA cY)) aZ)
  (ag (bm UO rfl (cn (ax aN (pv 2) (pv 3) (fun _ _=>rfl))) (aj (i:=4) cx.nd rfl (Ux rfl)) (ae (bq (PW.pt (dA (dq (aV (aw (cM (T:="tuple")) rfl T.n_isinstance VE (aa (pv 4) (aa (eG (v:=.ty "tuple") rfl T.n_tuple VY rfl) ac))) (fun _=>rfl))) (dl (aH lQ (aw ai rfl T.n_len UE (aa (pv 4) ac)) af (aO _))))) (ag (aA cY)) aZ)
  (ag (bq (PW.pt (dA (dq (aV (pcF T.g__law_is_tree (fX T) hr (aa (ax aC (pv 0) af (fun _ _=>rfl)) (aa (ax aC (pv 4) af (fun _ _=>rfl)) (aa af ac)))) (fun _=>rfl))) (dl (dq (aV (pcF T.g__law_is_tree (fX T) hr (aa (ax aC (pv 0) af (fun _ _=>rfl)) (aa (ax aC (pv 4) af (fun _ _=>rfl)) (aa af ac)))) (fun _=>rfl)))))) (ag (aA cY)) aZ)))))))
  (ag (aA cY)))),?_⟩
 try dsimp only [yZ,yE]
 have Az:(UT rows.length).length=fs.length:=Up zL;have Ft:(UT rows.length).length=ls.length:=Up Bo;rw [UW] at Az Ft;refine ⟨_,rfl,_,_,_,rfl,.lst CC,qu,_,rfl,?_⟩;refine cI ?_;refine ⟨_,rfl,pl,_,rfl,.inl (SqL.of CC),_,rfl,fl,_,rfl,.inl (SqL.of zC),rfl,_,rfl,?_⟩;have hlen:(ls.map V.ref).length=(fs.map V.ref).length:=by rw [T8,T8];omega
 refine cB (fun c4=>by rw [hlen,decide_eq_true rfl] at c4;cases c4) (fun c4=>?_);dsimp only [r9,wU];refine ⟨_,rfl,fl,_,rfl,.inl (SqL.of zC),_,rfl,by omega,by rw [T8];omega,?_⟩;refine bD (n:=(((fs.map V.ref).length:Nat):Int).toNat) (fun i σ H3=>Ex2 fun (c3 c4:Option V)=>An2 (σ=[some (.ref b),some (.ref fl),some (.ref pl),c3,c4]) (L2.Same H H3)) ⟨none,none,rfl,.refl _⟩ ?_ ?_
 · rintro i σ H3 hi ⟨c3,c4,rfl,s3⟩
   have y9:i<rows.length:=by
    have h1:i<(((fs.map V.ref).length:Nat):Int).toNat:=hi;rw [T8] at h1;omega
   refine hid fun ZZ kZ=>?_;obtain ⟨fa,zd⟩:∃ fa,fs[i]?=some fa:=⟨_,Ua (by omega)⟩;obtain ⟨s',zq,zP⟩:=P2.get' zL zd;rw [Va y9] at zq;cases zq;obtain ⟨la,AX⟩:∃ la,ls[i]?=some la:=⟨_,Ua (by omega)⟩;obtain ⟨s',zq,prs,Gi,Bj⟩:=P2.get' Bo AX;rw [Va y9] at zq;cases zq;obtain ⟨z1,z2,z3⟩:=Cm i y9;refine kZ ?_;have zD:(dk (fr i)).length=prs.length:=Up Bj;have CI:∀ (xs:List Ud) (a:Ud),xs[i]?=some a->atI (xs.map V.ref) (0+(i:Int))=some (.ref a):=fun xs a h=>at_nonneg (by omega) (by rw [show (0+(i:Int)).toNat=i by omega,Ul,h];rfl);refine fk (fun bb H'=>An2 (bb=false) (L2.Same H H')) (fun k2 Br=>?_) (fun H' hb=>absurd hb.1 (by decide)) (fun H4 hb=>?_)
   · refine ⟨_,rfl,_,rfl,pl,_,_,.ref la,rfl,rfl,SqL.of (s3 _ _ CC),CI ls la AX,_,_,_,rfl,.lst (s3 _ _ Gi),qu,_,rfl,?_⟩;refine cI ?_;refine ⟨_,rfl,_,rfl,pl,_,_,.ref la,rfl,rfl,SqL.of (s3 _ _ CC),CI ls la AX,la,_,rfl,.inl (SqL.of (s3 _ _ Gi)),_,rfl,_,rfl,fl,_,_,.ref fa,rfl,rfl,SqL.of (s3 _ _ zC),CI fs fa zd,fa,fr i,outs,rfl,zP.mono (Same.kt s3),z1,by omega,by omega,fun r bs H4 s4 nr er zm=>⟨r,_,rfl,.inl (SqL.of er),rfl,_,rfl,?_⟩⟩;have Ao:(dk (fr i)).length=bs.length:=Up zm;have JN:(prs.map V.ref).length=(bs.map V.ref).length:=by rw [T8,T8];omega
     rw [JN,decide_eq_true rfl];exact Br _ _ ⟨rfl,s3.trans s4⟩
   have s4:=hb.2;refine ⟨_,rfl,_,rfl,pl,_,_,.ref la,rfl,rfl,SqL.of (s4 _ _ CC),CI ls la AX,la,rfl,⟨_,SqL.of (s4 _ _ Gi)⟩,?_⟩;refine eC (K:=K) (a:=la) (xs:=prs.map V.ref) (fun j σ H5=>Ex1 fun (c4:Option V)=>An2 (σ=[some (.ref b),some (.ref fl),some (.ref pl),some (.int (0+(i:Int))),c4]) (L2.Same H H5)) ⟨_,rfl,s4⟩ (fun j σ H5 _ ⟨_,_,s5⟩=>SqL.of (s5 _ _ Gi)) ?_ ?_
   · rintro j x σ H5 hx ⟨c4,rfl,s5⟩;refine hid fun ZZ kZ=>?_;obtain ⟨pr,rfl,Ab⟩:=aT hx;obtain ⟨h,hh,p0,ta,tb,t1,t2,e0,Cz,AF,IU,NM⟩:=P2.get' Bj Ab;refine kZ ?_;cases e0;refine hid fun ZZ kZ=>?_;obtain ⟨⟨f1,g1⟩,⟨f2,g2⟩⟩:=hR _ _ _ _ NM;refine kZ ?_;have y1:=cL t1;have y2:=cL t2;have Gj:=s5 _ _ Cz;refine ⟨_,rfl,_,_,_,rfl,.tup Gj,qD,_,rfl,?_⟩;refine cI ?_;refine ⟨_,rfl,pr,_,rfl,.inr (SqT.of Gj),rfl,_,rfl,?_⟩;refine cI ?_;dsimp only [r9];refine ⟨_,rfl,b,_,0,.ref ia,rfl,rfl,SqT.of (s5 _ _ hB.bk),at0,_,rfl,pr,_,0,.ref ta,rfl,rfl,SqT.of Gj,at0,ia,ta,600,yI,ins,t1,rfl,s5 _ _ hB.inE,hB.inK.mono (Same.kt s5),DG,AF.mono (Same.kt s5),f1,by omega,by omega,fun H6 s6=>⟨_,rfl,?_⟩⟩;refine cI ?_;have CJ:=s5.trans s6;refine ⟨_,rfl,b,_,0,.ref ia,rfl,rfl,SqT.of (CJ _ _ hB.bk),at0,_,rfl,pr,_,1,.ref tb,rfl,rfl,SqT.of (CJ _ _ Cz),at1,ia,tb,600,yI,ins,t2,rfl,CJ _ _ hB.inE,hB.inK.mono (Same.kt CJ),DG,IU.mono (Same.kt CJ),f2,by omega,by omega,fun H7 s7=>⟨_,rfl,?_⟩⟩;refine cI ?_;exact ⟨_,rfl,CJ.trans s7⟩
   · rintro σ H5 ⟨c4,rfl,s5⟩;exact ⟨_,_,rfl,s5⟩
 · rintro σ H3 ⟨c3,c4,rfl,s3⟩;exact k H3 s3
def rC (ins:List (UP×Int)) (rows:List (List Th)) (R:Nat->List Int->Th->Th->Prop):Prop:=∀ s h t1 t2,R s h t1 t2->∃ m1 m2,m1≠m2/\qj ins rows (s:Nat) t1 h m1/\qj ins rows (s:Nat) t2 h m2
inductive dD (K:Ub) (vs:List V) (H:Hp) (Q:VK) (_E:XK):Prop
 | mk (b fl pl:Ud) (ins outs:List (UP×Int)) (head:Th) (rows:List (List Th)) (fs ls:List Ud) (fr:Nat->Th) (R:Nat->List Int->Th->Th->Prop) (yL:vs=[.ref b,.ref fl,.ref pl]) (yM:Bk H ins outs head rows b) (yR:bZ ins) (yY:FrL K H rows.length fr fl fs) (zf:(∀ s<rows.length,Th.Fo outs (fr s)/\(fr s).size<=200/\(fr s).tall<=9)) (zY:rows.length<=20) (BD:PrL H R fr rows.length pl ls) (BX:rC ins rows R) (D4:∀ H',L2.Same H H'->Q (.bl true) H'):dD K vs H Q _E
def iI (K:Ub):Sp:=dD K
set_option maxHeartbeats 1000000 in
theorem iV:bf P w K mg base CX0 11 T.g__law_pairs_part.f T.g__law_pairs_part.d ["book","fronts","pairs"] (iI K):=by
 refine T.g__law_pairs_part.F.ok bo (fun vs H Q E h=>?_) (fun yJ A outer s H vs Q E hr h=>?_)
 · obtain ⟨b,fl,pl,ins,outs,head,rows,fs,ls,fr,R,rfl,_⟩:=h;rfl
 obtain ⟨b,fl,pl,ins,outs,head,rows,fs,ls,fr,R,rfl,hB,g,⟨zC,zL⟩,Cm,hle,⟨CC,Bo⟩,hR,k⟩:=h
 refine ⟨_,(ae (bm UO rfl (bp rfl T.n_range (aa (aw ai rfl T.n_len UE (aa (pv 1) ac)) ac)) (aj (i:=3) bo.nd rfl (Ux rfl)) (ae (av (i:=4) bo.nd rfl (Ux rfl) (pcF T.g__law_holes (eV T 10) hr (aa (ax aN (pv 1) (pv 3) (fun _ _=>rfl)) ac)))
  (ag (bm UO rfl (bp rfl T.n_range (aa (aw ai rfl T.n_len UE (aa (pv 4) ac)) ac)) (aj (i:=5) bo.nd rfl (Ux rfl)) (ae (av (i:=6) bo.nd rfl (Ux rfl) (pcF T.g__law_name_at (f7 T) hr (aa (pv 0) (aa (pv 3) (aa (ax aC (ax aN (ax aN (pv 2) (pv 3) (fun _ _=>rfl)) (pv 5) (fun _ _=>rfl)) af (fun _ _=>rfl)) (aa (ax aN (pv 4) (pv 5) (fun _ _=>rfl)) ac))))))
  (ae (av (i:=7) bo.nd rfl (Ux rfl) (pcF T.g__law_name_at (f7 T) hr (aa (pv 0) (aa (pv 3) (aa (ax aC (ax aN (ax aN (pv 2) (pv 3) (fun _ _=>rfl)) (pv 5) (fun _ _=>rfl)) af (fun _ _=>rfl)) (aa (ax aN (pv 4) (pv 5) (fun _ _=>rfl)) ac))))))
  (ag (bq (PW.pt (dA (aH uD (pv 6) qe (aO _)) (dA (aH uD (pv 7) qe (aO _)) (dl (aH cD (pv 6) (pv 7) (aO _)))))) (ag (aA cY)) aZ))))))))
  (ag (aA cY))),?_⟩
 try dsimp only [yZ,yE]
 have Az:(UT rows.length).length=fs.length:=Up zL;have Ft:(UT rows.length).length=ls.length:=Up Bo;rw [UW] at Az Ft;refine ⟨_,rfl,fl,_,rfl,.inl (SqL.of zC),_,rfl,by omega,by rw [T8];omega,?_⟩;refine bD (n:=(((fs.map V.ref).length:Nat):Int).toNat) (fun i σ H3=>Ex5 fun (c3 c4 c5 c6 c7:Option V)=>An2 (σ=[some (.ref b),some (.ref fl),some (.ref pl),c3,c4,c5,c6,c7]) (L2.Same H H3)) ⟨none,none,none,none,none,rfl,.refl _⟩ ?_ ?_
 · rintro i σ H3 hi ⟨c3,c4,c5,c6,c7,rfl,s3⟩
   have y9:i<rows.length:=by
    have h1:i<(((fs.map V.ref).length:Nat):Int).toNat:=hi;rw [T8] at h1;omega
   refine hid fun ZZ kZ=>?_;obtain ⟨fa,zd⟩:∃ fa,fs[i]?=some fa:=⟨_,Ua (by omega)⟩;obtain ⟨s',zq,zP⟩:=P2.get' zL zd;rw [Va y9] at zq;cases zq;obtain ⟨la,AX⟩:∃ la,ls[i]?=some la:=⟨_,Ua (by omega)⟩;obtain ⟨s',zq,prs,Gi,Bj⟩:=P2.get' Bo AX;rw [Va y9] at zq;cases zq;obtain ⟨z1,z2,z3⟩:=Cm i y9;refine kZ ?_;have zD:(dk (fr i)).length=prs.length:=Up Bj;have EH:=kC (fr i);have CI:∀ (xs:List Ud) (a:Ud) (j:Nat),xs[j]?=some a->atI (xs.map V.ref) (0+(j:Int))=some (.ref a):=fun xs a j h=>at_nonneg (by omega) (by rw [show (0+(j:Int)).toNat=j by omega,Ul,h];rfl);refine ⟨_,rfl,_,rfl,fl,_,_,.ref fa,rfl,rfl,SqL.of (s3 _ _ zC),CI fs fa i zd,fa,fr i,outs,rfl,zP.mono (Same.kt s3),z1,by omega,by omega,fun sl bs H4 s4 nr er zm=>?_⟩;have Ao:(dk (fr i)).length=bs.length:=Up zm
   try dsimp only [aG]
   have E4:=s3.trans s4;refine ⟨_,rfl,sl,_,rfl,.inl (SqL.of er),_,rfl,by omega,by rw [T8];omega,?_⟩;refine bD (n:=(((bs.map V.ref).length:Nat):Int).toNat) (fun j σ H5=>Ex3 fun (c5 c6 c7:Option V)=>An2 (σ=[some (.ref b),some (.ref fl),some (.ref pl),some (.int (0+(i:Int))),some (.ref sl),c5,c6,c7]) (L2.Same H4 H5)) ⟨_,_,_,rfl,.refl _⟩ ?_ ?_
   · rintro j σ H5 hj ⟨c5,c6,c7,rfl,s5⟩
     have yS:j<bs.length:=by
      have h1:j<(((bs.map V.ref).length:Nat):Int).toNat:=hj;rw [T8] at h1;omega
     refine hid fun ZZ kZ=>?_;obtain ⟨pb,B1⟩:∃ a,bs[j]?=some a:=⟨_,Ua yS⟩;obtain ⟨pr,Ab⟩:∃ a,prs[j]?=some a:=⟨_,Ua (by omega)⟩;obtain ⟨h,hh,p0,ta,tb,t1,t2,e0,Cz,AF,IU,NM⟩:=P2.get' Bj Ab;refine kZ ?_;cases e0;refine hid fun ZZ kZ=>?_;obtain ⟨h',J7,GI⟩:=P2.get' zm B1;rw [hh] at J7;cases J7;obtain ⟨m1,m2,yU,n1,n2⟩:=hR _ _ _ _ NM;obtain ⟨v,F',_⟩:=lX.mp (Uc hh);refine kZ ?_;have hd:=pZ _ (fr i) [] (Ue _) _ (In.to F');rw [W0] at hd;dsimp only at hd;have Bq:=E4.trans s5;refine ⟨_,rfl,_,rfl,_,rfl,_,rfl,pl,_,_,.ref la,rfl,rfl,SqL.of (Bq _ _ CC),CI ls la i AX,_,rfl,la,_,_,.ref pr,rfl,rfl,SqL.of (Bq _ _ Gi),CI prs pr j Ab,pr,_,0,.ref ta,rfl,rfl,SqT.of (Bq _ _ Cz),at0,_,rfl,_,rfl,sl,_,_,.ref pb,rfl,rfl,SqL.of (s5 _ _ er),CI bs pb j B1,b,ta,pb,_,ins,outs,head,rows,t1,h,m1,rfl,hB.mono (Same.kt Bq),g,AF.mono (Same.kt Bq),s5 _ _ GI,by omega,by rw [VH];exact n1,fun H6 s6=>?_⟩
     try dsimp only [aG]
     have CJ:=Bq.trans s6;refine ⟨_,rfl,_,rfl,_,rfl,_,rfl,pl,_,_,.ref la,rfl,rfl,SqL.of (CJ _ _ CC),CI ls la i AX,_,rfl,la,_,_,.ref pr,rfl,rfl,SqL.of (CJ _ _ Gi),CI prs pr j Ab,pr,_,1,.ref tb,rfl,rfl,SqT.of (CJ _ _ Cz),at1,_,rfl,_,rfl,sl,_,_,.ref pb,rfl,rfl,SqL.of ((s5.trans s6) _ _ er),CI bs pb j B1,b,tb,pb,_,ins,outs,head,rows,t2,h,m2,rfl,hB.mono (Same.kt CJ),g,IU.mono (Same.kt CJ),(s5.trans s6) _ _ GI,by omega,by rw [VH];exact n2,fun H7 s7=>?_⟩
     try dsimp only [aG]
     refine ⟨_,rfl,rfl,_,rfl,?_⟩;refine cI ?_;refine ⟨_,rfl,rfl,_,rfl,?_⟩;refine cI ?_;refine ⟨_,rfl,_,rfl,rfl,_,rfl,?_⟩;rw [decide_eq_false (show V.str m1≠V.str m2 from fun z=>yU (V.str.inj z))];refine cI ?_;exact ⟨_,_,_,rfl,s5.trans (s6.trans s7)⟩
   · rintro σ H5 ⟨c5,c6,c7,rfl,s5⟩;exact ⟨_,_,_,_,_,rfl,E4.trans s5⟩
 · rintro σ H3 ⟨c3,c4,c5,c6,c7,rfl,s3⟩;exact k H3 s3
theorem rf (outs:List (UP×Int)):Th.Fo outs hole:=by rw [hole,Th.Fo];exact .inl ⟨rfl,rfl⟩
theorem vT {outs:List (UP×Int)}:∀ (n:Nat) (t:Th),t.size<=n->Th.Fo outs t->t.noCall
 | 0,t,h,_=>by have:=t.size_pos;omega
 | n+1,.call a b,_,h=>by rw [Th.Fo] at h;exact h.elim
 | n+1,.knot m ks,hn,h=>by
   rw [Th.Fo] at h;rw [Th.size] at hn;rw [Th.noCall];rcases h with ⟨_,rfl⟩ | ⟨_,_,h⟩
   · rw [bX];trivial
   · exact l6 fun t ht=>vT n t (by have:=aI ht;omega) (gZ h ht)
theorem uE {outs:List (UP×Int)} (g:bZ outs) {S:Int}:∀ (n:Nat) (t:Th),t.size<=n->t.FitS outs S 0->Th.Fo outs t
 | 0,t,h,_=>by have:=t.size_pos;omega
 | n+1,.call a b,_,h=>by rw [Th.FitS] at h;omega
 | n+1,.knot m ks,hn,h=>by
   rw [Th.FitS] at h;rw [Th.size] at hn;rw [Th.Fo];exact .inr ⟨h.1,oS (g.low _ h.1).1,ou fun t ht=>uE g n t (by have:=aI ht;omega) (fc h.2 t ht)⟩
theorem tN {outs:List (UP×Int)}:∀ (n:Nat) (l r:Th),l.size<=n->Th.Fo outs l->Th.Fo outs (l.com r)
 | 0,l,_,h,_=>by have:=l.size_pos;omega
 | n+1,l,r,hn,h=>by
   rw [iK];by_cases hs:aJ l r=true
   · rw [if_pos hs];obtain ⟨m,ks,us,rfl,rfl,hl,hh⟩:=bV hs;rw [Th.Fo] at h;rw [Th.size] at hn;rcases h with ⟨h1,h2⟩ | ⟨h1,h2,h3⟩
     · rw [Th.isHole,decide_eq_true ⟨h1,h2⟩] at hh;cases hh
     · show Th.Fo outs (.knot m ((ks.zip us).map fun p=>p.1.com p.2));rw [Th.Fo];refine .inr ⟨by rw [T8,Xm,<- hl,YW];exact h1,h2,ou fun t ht=>?_⟩;obtain ⟨p,hp,rfl⟩:=Vb.mp ht;have hm:=(Xl hp).1;exact tN n p.1 p.2 (by have:=aI hm;omega) (gZ h3 hm)
   · rw [if_neg hs];exact rf _
theorem t4 {outs:List (UP×Int)} (mk:Int->Th):∀ (row:List Th) (m:Th),Th.Fo outs m->Th.Fo outs (frF mk m row)
 | [],m,h=>h
 | p::row,m,h=>t4 mk row _ (tN _ m _ (Ue _) h)
theorem uC {outs:List (UP×Int)} (D:List Int->Bool):∀ (n:Nat) (t:Th) (pre:List Int),t.size<=n->Th.Fo outs t->Th.Fo outs (t.cut D pre)
 | 0,t,_,h,_=>by have:=t.size_pos;omega
 | n+1,.call a b,_,_,h=>by rw [Th.Fo] at h;exact h.elim
 | n+1,.knot m ks,pre,hn,h=>by
   rw [Th.cut];by_cases hc:(Th.knot m ks).isHole=true∨D pre=true
   · rw [if_pos hc];exact rf _
   · rw [if_neg hc];rw [Th.Fo] at h;rw [Th.size] at hn;rcases h with ⟨h1,h2⟩ | ⟨h1,h2,h3⟩
     · exact absurd (.inl (by rw [Th.isHole];exact decide_eq_true ⟨h1,h2⟩)) hc
     · rw [Th.Fo];refine .inr ⟨by rw [cO];exact h1,h2,ou fun t ht=>?_⟩;obtain ⟨j,hj⟩:=UC.mp ht;rw [fe,UN] at hj;obtain ⟨u,hu,rfl⟩:=hj;have hm:=Uc hu;exact uC D n u _ (by have:=aI hm;omega) (gZ h3 hm)
theorem nE {ins outs:List (UP×Int)} {rows:List (List Th)} (F:FrK ins outs rows) {f':List (aD×V)} (hD:FrD ins rows (f'.map (·.1))) {s:Nat} {row:List Th} (yC:rows[s]?=some row) {p:Th} (hp:p∈row) :
 ((frS ins rows s).cut (Dk f' (s:Nat)) []).lies (p.fill fun l _=>(frS ins rows l.toNat).cut (Dk f' ((l.toNat:Nat):Int)) [])=true:=by
 have hs:=(Uh.mp yC).1;obtain ⟨j,hj⟩:=UC.mp hp;obtain ⟨DV,BH⟩:=F.fit.row row (Uc yC);obtain ⟨k0,Aa⟩:∃ k0,ins[j]?=some k0:=⟨_,Ua (by have:=(Uh.mp hj).1;omega)⟩;have GA:=BH j p k0 hj Aa;obtain ⟨z1,z2,z3⟩:=jO F hs;have PQ:=ie _ _ (Ue _) z3
 have E8:∀ (m:Nat),m<rows.length->(frS ins rows m).lies (mkF ins rows (m:Nat))=true/\∀ Ai,rows[m]?=some Ai->∀ p'∈Ai,(frS ins rows m).lies (p'.fill fun l _=>mkF ins rows l)=true:=fun m hm=>by
  obtain ⟨y1,y2,y3⟩:=jO F hm;have h0:=ie _ _ (Ue _) y3;obtain ⟨g1,g2⟩:=kM (frS ins rows m) ((rows[m]?).getD []) (mkF ins rows (m:Nat)) h0;refine ⟨g1,fun Ai AR p' zG=>g2 p' (by rw [AR];exact zG)⟩
 have:=lD (f0:=fun l=>frS ins rows l.toNat) (D:=fun l=>Dk f' ((l.toNat:Nat):Int)) (mk:=mkF ins rows) (s:=(s:Nat)) (pat:=p) (fun c hc=>?_) _ (frS ins rows s) p [] (Ue _) (fun x hx=>hx) (fun c hc=>hc) z3 ((E8 s hs).2 row yC p hp)
 · exact this
 · obtain ⟨c0,c1,_⟩:=gW p [] GA c hc;have NN:c.2.1.toNat<rows.length:=by omega
   have Fc:((c.2.1.toNat:Nat):Int)=c.2.1:=WG c0;have hl:=(E8 _ NN).1;rw [Fc] at hl;refine ⟨hl,(jO F NN).2.2,fun r u hu hh=>jI.mpr (hD.hol _ NN (r,u) hu hh),fun r u hd hu=>?_⟩;have zZ:(c.1++r,u)∈(frS ins rows s).pl []:=hu;obtain ⟨v,F',GW⟩:=oH _ (u:=u) (Ue _) zZ;have hk:=jI.mp hd;rw [Fc] at hk;exact jI.mpr (hD.cl s row yC p hp c hc v F' (r,u) GW hk)
inductive qT (K:Ub) (vs:List V) (H:Hp) (Q:VK) (_E:XK):Prop
 | mk (a:Ud) (ns:List Int) (yL:vs=[.ref a]) (yM:SqL K H a (ns.map V.int)) (yR:ns.length<=63) (yY:∀ H',Q (.bl true) H'):qT K vs H Q _E
def nz (K:Ub):Sp:=qT K
theorem sJ {ins:List (UP×Int)} {rows:List (List Th)} {B:Nat} (h:∀ s<rows.length,(mkF ins rows (s:Nat)).size<=B):(fH ins rows).length<=rows.length * B:=by
 have h2:=kJ (l:=UT rows.length) (f:=fun s=>((mkF ins rows (s:Nat)).pl []).map fun x=>nk (s:Nat) x.1) (B:=B) fun s hs=>by
  rw [T8,Th.pl_len];exact h s (WO.mp hs)
 rw [UW] at h2;exact h2
theorem xq {ins outs:List (UP×Int)} {rows:List (List Th)} (F:FrK ins outs rows) (go:bZ outs) {B:Nat} (hB:∀ row∈rows,∀ p∈row,p.size<=B) (f':List (aD×V)):∀ s<rows.length,Th.Fo outs ((frS ins rows s).cut (Dk f' (s:Nat)) [])/\((frS ins rows s).cut (Dk f' (s:Nat)) []).size<=B/\(mkF ins rows (s:Nat)).size<=B:=fun s hs=>by
 refine hid fun ZZ kZ=>?_;obtain ⟨row,p,hr,hp,e,z1,z2,hf⟩:=F.mkd (l:=(s:Nat)) (by omega) (by omega);refine kZ ?_;have h9:=hB row (Uc hr) p (Uc hp);have hz:=i6 (mkF ins rows) (mkF ins rows (s:Nat)) ((rows[s]?).getD []);have hc:=kU (Dk f' (s:Nat)) _ (frS ins rows s) [] (Ue _);have SF:(frS ins rows s).size<=(mkF ins rows (s:Nat)).size:=hz.1;rw [e] at SF;refine ⟨uC _ _ _ [] (Ue _) (t4 _ _ _ ?_),by omega,by rw [e];exact h9⟩;rw [e];exact uE go _ _ (Ue _) hf
theorem wL {ins:List (UP×Int)} {rows:List (List Th)} {M:Nat} (hM:M<=150):vI ins (Rp ins rows M):=fun s h t1 t2 ⟨j,hj,hv⟩=>by
 refine hid fun ZZ kZ=>?_;obtain ⟨s',pl,m1,m2,_,_,_,⟨f1,g1,_⟩,⟨f2,g2,_⟩⟩:=hv;refine kZ ?_;exact ⟨⟨f1,by omega⟩,⟨f2,by omega⟩⟩
theorem uf {ins:List (UP×Int)} {rows:List (List Th)} {M:Nat}:rC ins rows (Rp ins rows M):=fun s h t1 t2 ⟨j,hj,hv⟩=>by
 refine hid fun ZZ kZ=>?_;obtain ⟨s',pl,m1,m2,e,_,yU,⟨_,_,n1⟩,⟨_,_,n2⟩⟩:=hv;obtain ⟨e4,rfl⟩:=qK e;refine kZ ?_;have:s=s':=by omega
 subst this;exact ⟨m1,m2,yU,n1,n2⟩
set_option maxHeartbeats 1000000 in
theorem wB:bf P w K mg base CX0 22 T.g_law.f T.g_law.d ["script"] (nz K):=by
 refine T.g_law.F.ok nB (fun vs H Q E h=>?_) (fun yJ A outer s H vs Q E hr h=>?_)
 · obtain ⟨a,ns,rfl,_⟩:=h;rfl
 obtain ⟨a,ns,rfl,hS,Dy,k⟩:=h
 refine ⟨_,(ae (av (i:=1) nB.nd rfl (Ux rfl) (pcF T.g__law_wide_book (jl T) hr (aa (pv 0) ac)))
  (ae (av (i:=2) nB.nd rfl (Ux rfl) (pcF T.g_fronts_of (nP T) hr (aa (pv 1) ac)))
  (ae (bq (PW.pt (dA (dq (aV (pcF T.g__law_fronts_formed (gb T) hr (aa (pv 1) (aa (pv 2) ac))) (fun _=>rfl))) (dl (dq (aV (pcF T.g__law_closed (lj T) hr (aa (pv 1) (aa (pv 2) ac))) (fun _=>rfl)))))) (ag (aA cY)) aZ)
  (ae (av (i:=3) nB.nd rfl (Ux rfl) (pcF T.g_partings_of (l7 T) hr (aa (pv 1) ac)))
  (ag (aA (oF (pcF T.g__law_pairs_formed (gg T) hr (aa (pv 1) (aa (pv 2) (aa (pv 3) ac)))) (qB (pcF T.g__law_pairs_part (iV T) hr (aa (pv 1) (aa (pv 2) (aa (pv 3) ac)))))))))))),?_⟩
 try dsimp only [yZ,yE]
 refine ⟨_,rfl,a,ns,rfl,hS,Dy,fun b ins outs S head rows H1 s1 hb gi go SG hok Pw=>?_⟩;have hlen:=hok.len
 have Gk:∀ row∈rows,∀ p∈row,∃ k:UP×Int,p.FitS outs S k.2/\p.size<=9:=fun row yC p hp=>by
  obtain ⟨j,hj⟩:=UC.mp hp;have DV:=hok.row row yC;obtain ⟨k0,Aa⟩:∃ k0,ins[j]?=some k0:=⟨_,Ua (by have:=(Uh.mp hj).1;omega)⟩;exact ⟨k0,hok.fit row yC j p k0 hj Aa⟩
 have F:FrK ins outs rows:=⟨gi,⟨rfl,fun row yC=>⟨hok.row row yC,fun j p k0 hp hk=>by rw [hlen];exact (hok.fit row yC j p k0 hp hk).1⟩⟩,by omega,fun row yC p hp=>by
  obtain ⟨_,_,h⟩:=Gk row yC p hp;have:=cL p;exact ⟨by omega,by omega⟩⟩
 refine ⟨_,rfl,b,ins,outs,head,rows,rfl,hb,F,go,fun fl fs f' H2 s2 zC zL hD hK=>?_⟩;have PR:=xq F go (B:=9) (fun row yC p hp=>(Gk row yC p hp).choose_spec.2) f'
 have Cm:∀ s<rows.length,Th.Fo outs ((frS ins rows s).cut (Dk f' (s:Nat)) [])/\((frS ins rows s).cut (Dk f' (s:Nat)) []).size<=200/\((frS ins rows s).cut (Dk f' (s:Nat)) []).tall<=9:=fun s hs=>by
  obtain ⟨y1,y2,_⟩:=PR s hs;have:=cL ((frS ins rows s).cut (Dk f' (s:Nat)) []);exact ⟨y1,by omega,by omega⟩
 have hM:(fH ins rows).length<=150:=by
  have:=sJ fun s hs=>(PR s hs).2.2;omega
 have yW:=hb.mono (Same.kt s2);refine ⟨_,rfl,_,rfl,b,fl,ins,outs,head,rows,fs,fun s=>(frS ins rows s).cut (Dk f' (s:Nat)) [],rfl,yW,⟨zC,zL⟩,Cm,by omega,fun H3 s3=>?_⟩;refine ⟨_,rfl,?_⟩;refine cI ?_;have GF:=yW.mono (Same.kt s3);refine ⟨_,rfl,_,rfl,b,fl,ins,outs,head,rows,fs,fun s=>(frS ins rows s).cut (Dk f' (s:Nat)) [],rfl,GF,⟨s3 _ _ zC,P2.mp (fun _ _ h=>h.mono (Same.kt s3)) zL⟩,fun s hs=>?_,by omega,fun row yC=>by rw [hok.row row yC];have:=gi.le;omega,fun s row yC p hp=>⟨?_,nE F hD yC hp⟩,fun Hc sc=>?_⟩
 · obtain ⟨y1,y2,y3⟩:=Cm s hs;exact ⟨vT _ _ (Ue _) y1,by omega,by omega⟩
 · obtain ⟨k0,h,_⟩:=Gk row (Uc yC) p hp;rw [<- hlen] at h;exact rh _ _ (Ue _) h
 refine ⟨_,rfl,?_⟩;refine cI ?_;dsimp only [r9];have s3:=s3.trans sc;have GF:=yW.mono (Same.kt s3);refine ⟨_,rfl,b,ins,outs,head,rows,rfl,GF,F,go,fun pl ls NO H4 s4 T7 SH NP=>?_⟩;have SI:(fun s=>(frS ins rows s).cut (Dk NO (s:Nat)) [])=fun (s:Nat)=>(frS ins rows s).cut (Dk f' (s:Nat)) []:=funext fun s=>by rw [SH.eq hK s]
 rw [SI] at NP;have GS:=GF.mono (Same.kt s4);have El:=s3.trans s4;refine ⟨_,rfl,_,rfl,_,rfl,b,fl,pl,ins,outs,head,rows,fs,ls,fun s=>(frS ins rows s).cut (Dk f' (s:Nat)) [],Rp ins rows (fH ins rows).length,rfl,GS,by have:=gi.le;omega,⟨El _ _ zC,P2.mp (fun _ _ h=>h.mono (Same.kt El)) zL⟩,Cm,by omega,NP,wL hM,fun H5 s5=>?_⟩;refine ⟨_,rfl,?_⟩;rw [if_pos rfl];have CB:=El.trans s5;obtain ⟨CC,Bo⟩:=NP;exact ⟨_,rfl,_,rfl,_,rfl,b,fl,pl,ins,outs,head,rows,fs,ls,fun s=>(frS ins rows s).cut (Dk f' (s:Nat)) [],Rp ins rows (fH ins rows).length,rfl,GS.mono (Same.kt s5),gi,⟨CB _ _ zC,P2.mp (fun _ _ h=>h.mono (Same.kt CB)) zL⟩,Cm,by omega,⟨s5 _ _ CC,P2.mp (fun s la ⟨prs,h1,h2⟩=>⟨prs,s5 _ _ h1,P2.mp (fun _ _ e=>e.mono (Same.kt s5)) h2⟩) Bo⟩,uf,fun H6 s6=>k H6⟩
end
set_option maxHeartbeats 8000000 in
theorem all_mk {l:PySem.W.OpenLaw} {w:UK} {K:Ub} {h:Vy} {mg:UP->Option Ug} {fa:Ud} (X:K.In h) (G:h.Ns U3 mg) (zd:mg "law"=some (.ref fa))
 {JO:Ud} {NQ JP:Option Ud} {NR:Array (Option Ug)} {NS JQ JR JS Gm JT:Ug} {PU:Tok} {Gz:Tok} {NT:Ud} {NU:Option Ud} {SJ:Nat} {NV:Array (Option Ug)} {JU:Tok}
 (g_kids_of:FX K mg "kids_of" jG ["thing"])
 (g_walked:FX K mg "walked" kK ["thing"])
 (g_placed:FX K mg "placed" kG ["thing"])
 (g_built:FX K mg "built" om ["tops"])
 (g_places:FX K mg "places" lg ["tree"])
 (g_is_call:FX K mg "is_call" jR ["thing"])
 (g_is_hole:FX K mg "is_hole" jM ["thing"])
 (g_is_knot:FX K mg "is_knot" jz ["thing"])
 (g_called_by:FX K mg "called_by" gy ["call"])
 (g_calls_in:FX K mg "calls_in" iZ ["pattern"])
 (g_holes_in:FX K mg "holes_in" iP ["front"])
 (g_top_of:FX K mg "top_of" kQ ["part"])
 (g_filled:FX K mg "filled" me ["pattern","table"])
 (g_same_top:FX K mg "same_top" iY ["one","two"])
 (g_side_by_side:FX K mg "side_by_side" dM ["one","two"])
 (g_common:FX K mg "common" lL ["one","two"])
 (g_ins_of:FX K mg "ins_of" l5 ["book"])
 (g_rules_of:FX K mg "rules_of" iX ["book"])
 (g_states_of:FX K mg "states_of" gr ["book"])
 (g_small_tree:FX K mg "small_tree" fS ["ins"])
 (g_knot_above:FX K mg "knot_above" fR ["ins","kind","kids"])
 (g_first_makings:FX K mg "first_makings" dB ["book"])
 (g_first_front:FX K mg "first_front" eX ["book","state","made","partings"])
 (g_put_links:FX K mg "put_links" gD ["book","state","front","links"])
 (g_spread:FX K mg "spread" lF ["ins","links","partings"])
 (g_cut_front:FX K mg "cut_front" gR ["front","state","partings"])
 (g_found_fronts:FX K mg "found_fronts" dX ["book"])
 (g_fronts_of:FX K mg "fronts_of" gv ["book"])
 (g_partings_of:FX K mg "partings_of" eU ["book"])
 (g__law_cell:FX K mg "_law_cell" gz ["script","k"])
 (g__law_folded:FX K mg "_law_folded" eM ["cells","many"])
 (g__law_names:FX K mg "_law_names" fM ["cell"])
 (g__law_kinds:FX K mg "_law_kinds" fF ["cell","names"])
 (g__law_thing:FX K mg "_law_thing" fL ["left","outs","states","kids"])
 (g__law_places:FX K mg "_law_places" eR ["thing"])
 (g__law_put:FX K mg "_law_put" iW ["thing","place","other"])
 (g__law_mixed:FX K mg "_law_mixed" fP ["cell","k"])
 (g__law_rows:FX K mg "_law_rows" gw ["cells","ins","outs","states"])
 (g__law_book:FX K mg "_law_book" gP ["cells","ins","outs","states"])
 (g__law_name_at:FX K mg "_law_name_at" dY ["book","state","tree","place"])
 (g__law_is_tree:FX K mg "_law_is_tree" eB ["ins","tree","most"])
 (g__law_is_front:FX K mg "_law_is_front" dC ["outs","front"])
 (g__law_holes:FX K mg "_law_holes" fT ["front"])
 (g__law_lies:FX K mg "_law_lies" gK ["front","thing","fronts"])
 (g__law_fronts_formed:FX K mg "_law_fronts_formed" cw ["book","fronts"])
 (g__law_pairs_formed:FX K mg "_law_pairs_formed" cC ["book","fronts","pairs"])
 (g__law_pairs_part:FX K mg "_law_pairs_part" cU ["book","fronts","pairs"])
 (g__law_closed:FX K mg "_law_closed" eN ["book","fronts"])
 (g__law_wide_book:FX K mg "_law_wide_book" df ["script"])
 (a49:V2 K U3 "law"=some (some (.ref JO))) (l49:K.lookup JO=some ⟨NS,NQ,.func (XB "law" "law" (cr jg) (cg jg) (ao jg) .none JQ JR JS JP Gm JT),NR⟩) (c49:Zb K Gm "law"=true) (k49:Za K (.ref JO)=true)
 (z0:V2 K U3 "all"=some none)
 (z1:V2 K U3 "dict"=some none)
 (z2:V2 K U3 "enumerate"=some none)
 (z3:V2 K U3 "isinstance"=some none)
 (z4:V2 K U3 "len"=some none)
 (z5:V2 K U3 "list"=some none)
 (z6:V2 K U3 "range"=some none)
 (z7:V2 K U3 "reversed"=some none)
 (z8:V2 K U3 "str"=some none)
 (z9:V2 K U3 "tuple"=some none)
 (z10:V2 K U3 "zip"=some none)
 (y0:V2 K U3 "CALL_SIGN"=some (some (.str (Ui "?") PU)))
 (y1:V2 K U3 "MOST_KIDS"=some (some (.int (3) Gz)))
 (y2:V2 K U3 "HOLE"=some (some (.ref NT)))
 (w2:K.lookup NT=some ⟨.type "tuple",NU,.seq #[.str (Ui "*") JU] SJ,NV⟩) :
 ∃ fd:Xw,(∀ (s:Um) (v:Ug),BindsTo s fd ⟨[v],[]⟩ [("script",v)])/\∀ base:Vy,K.In base->base.Ns U3 mg->bf l.prog w K mg base CX0 22 fa fd ["script"] (nz K):=by
 have e0:=zd.symm.trans (YH X G a49);have e:JO=fa:=(Value.ref.inj (UQ e0)).symm;subst e;have PV:=fQ (st:=jg) l49 c49 k49;have SK:=PV.binds (ps:=["script"]) fun _ _ _ _ _ _ us hl=>by obtain ⟨y0,rfl⟩:=us1 hl;rfl
 let T:TX K mg:=⟨⟨PU,YH X G y0⟩,⟨Gz,YH X G y1⟩,NT,YH X G y2,fun H=>.inr ⟨_,_,_,w2,rfl,rfl,(by show 1<=Uz;decide),.cons ⟨_,rfl⟩ (.nil)⟩,g_kids_of,g_walked,g_placed,g_built,g_places,g_is_call,g_is_hole,g_is_knot,g_called_by,g_calls_in,g_holes_in,g_top_of,g_filled,g_same_top,g_side_by_side,g_common,g_ins_of,g_rules_of,g_states_of,g_small_tree,g_knot_above,g_first_makings,g_first_front,g_put_links,g_spread,g_cut_front,g_found_fronts,g_fronts_of,g_partings_of,g__law_cell,g__law_folded,g__law_names,g__law_kinds,g__law_thing,g__law_places,g__law_put,g__law_mixed,g__law_rows,g__law_book,g__law_name_at,g__law_is_tree,g__law_is_front,g__law_holes,g__law_lies,g__law_fronts_formed,g__law_pairs_formed,g__law_pairs_part,g__law_closed,g__law_wide_book,⟨JO,_,PV,SK,YH X G a49⟩,VS X G z0,VS X G z1,VS X G z2,VS X G z3,VS X G z4,VS X G z5,VS X G z6,VS X G z7,VS X G z8,VS X G z9,VS X G z10⟩
 refine ⟨XB "law" "law" (cr jg) (cg jg) (ao jg) .none JQ JR JS JP Gm JT,fun s v=>.of_eq rfl,fun base _ _=>?_⟩;exact wB T
theorem walk {l:PySem.W.OpenLaw} {q:Uv} {loose:List UP} {XP:(UP->Option Ug)->Vy->Prop} {YP:UK->Vy->Prop} {d:DefRec} {K:Params->Ub} (hn:l.most=some 63) (hdf:d.params.defaults=[])
 (hY:∀ (w:UK) (h:Vy),YP w h->(K w.params).In h)
 (F:∀ (w:UK) (mg:UP->Option Ug) (fa:Ud) (h:Vy),(K w.params).In h->h.Ns U3 mg->mg d.name=some (.ref fa) →
  ∃ fd:Xw,(∀ (s:Um) (u:Ug),BindsTo s fd ⟨[u],[]⟩ [("script",u)])/\∀ base:Vy,(K w.params).In base->base.Ns U3 mg->bf l.prog w (K w.params) mg base CX0 22 fa fd ["script"] (nz (K w.params))) :
 PySem.W.WalkO q loose XP YP l.row.toRowW d [] (fun f vs=>PySem.call f vs) :=
 L2.u4 (n:=63) (k:=22) (x:="script") (CX:=fun _=>CX0) (sp:=fun w=>nz (K w.params)) hn (by decide) hdf ⟨rfl,by decide,by decide⟩ hY F (fun _ _ a ns hl _ hS=>⟨a,ns,rfl,hS,hl,fun _=>rfl⟩) fun _ _ _ _ _ z=>z
end LAW
open PySem PySem.W PyProof.Rows
set_option maxRecDepth 100000 in
set_option maxHeartbeats 0 in
theorem PySem.Challenge.cw_boughbook_k59_whole_fronts_are_greatest_holds : PySem.Challenge.rw_boughbook_k59_whole_fronts_are_greatest.Holds := by
 w_on;o_law;(refine holds_open (q:=LAW.vw) (N:=90000) (loose:=[]) (XP:=XL LAW.vw []) (Yf:=Hook.obs (kHook LAW.d0.heap_1 LAW.ks LAW.ke)) (Ya:=Hook.val (kHook LAW.d0.heap_1 LAW.ks LAW.ke)) (YP:=Hook.says (kHook LAW.d0.heap_1 LAW.ks LAW.ke)) (Xt:=LAW.xt) (HD.tz (by kernel_rfl) (by kernel_rfl) (fun _=>by kernel_rfl) LAW.lk0 LAW.lk1 LAW.lk2 LAW.lk3 LAW.lk4 LAW.lk5 (HD.Pc.k LAW.kp)) (Hook.of (kHook LAW.d0.heap_1 LAW.ks LAW.ke)) (Hook.keeps (kHook LAW.d0.heap_1 LAW.ks LAW.ke)) (fun s e=>xl_of s (Zi.mp e).1) XL.keeps (by rfl) (by rfl) (by rfl) (fun s e=>recFacts_of (Zi.mp e).2) (by rfl) (by assumption) (by decide +kernel) ⟨rfl,rfl,rfl,rfl,rfl,by decide +kernel⟩ ?_ ?_);w_witness2
 k_fill
 refine LAW.walk (l:=PySem.Challenge.rw_boughbook_k59_whole_fronts_are_greatest) rfl rfl (fun w h Y=>PySem.W.kIn_of Y) ?F
 case F =>
  intro w mg fa h KX G Ho;refine' LAW.all_mk KX G Ho (LAW.fx1 KX G) (LAW.fx1 KX G) (LAW.fx1 KX G) (LAW.fx1 KX G) (LAW.fx1 KX G) (LAW.fx1 KX G) (LAW.fx1 KX G) (LAW.fx1 KX G) (LAW.fx1 KX G) (LAW.fx1 KX G) (LAW.fx1 KX G) (LAW.fx1 KX G) (LAW.fx2 KX G) (LAW.fx2 KX G) (LAW.fx2 KX G) (LAW.fx2 KX G) (LAW.fx1 KX G) (LAW.fx1 KX G) (LAW.fx1 KX G) (LAW.fx1 KX G) (LAW.fx3 KX G) (LAW.fx1 KX G) (LAW.fx4 KX G) (LAW.fx4 KX G) (LAW.fx3 KX G) (LAW.fx3 KX G) (LAW.fx1 KX G) (LAW.fx1 KX G) (LAW.fx1 KX G) (LAW.fx2 KX G) (LAW.fx2 KX G) (LAW.fx1 KX G) (LAW.fx2 KX G) (LAW.fx4 KX G) (LAW.fx1 KX G) (LAW.fx3 KX G) (LAW.fx2 KX G) (LAW.fx4 KX G) (LAW.fx4 KX G) (LAW.fx4 KX G) (LAW.fx3 KX G) (LAW.fx2 KX G) (LAW.fx1 KX G) (LAW.fx3 KX G) (LAW.fx2 KX G) (LAW.fx3 KX G) (LAW.fx3 KX G) (LAW.fx2 KX G) (LAW.fx1 KX G) ?a49 ?l49 ?c49 ?k49 ?z0 ?z1 ?z2 ?z3 ?z4 ?z5 ?z6 ?z7 ?z8 ?z9 ?z10 ?y0 ?y1 ?y2 ?w2
  (case a49=>k_is)
  (case l49=>k_is)
  (case c49=>k_is)
  (case k49=>k_is)
  (case z0=>k_is)
  (case z1=>k_is)
  (case z2=>k_is)
  (case z3=>k_is)
  (case z4=>k_is)
  (case z5=>k_is)
  (case z6=>k_is)
  (case z7=>k_is)
  (case z8=>k_is)
  (case z9=>k_is)
  (case z10=>k_is)
  (case y0=>k_is)
  (case y1=>k_is)
  (case y2=>k_is)
  (case w2=>k_is)
