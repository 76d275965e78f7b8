import PyProof.Rows.All
import Wide.All
import OpenK.AllK
import Wide.FinOn
import Lean
import PyProof.EqAt
import PyProof.EqKinds
import PyProof.TupleCall
import KE.KRevIter
import PyProof.ListNew
import PyProof.Draws
import PyProof.EnumMake
import PyProof.Rows.EnumRows
import PyProof.ZipIter
import PyProof.ConsumeWalk
import KE.LcSums
import PyProof.AttrMissHeap
import KE.KDictOf
import PyProof.DictWalks
import PyProof.ListMulRoad
import PyProof.FactsAll.tuple
import PyProof.NeKinds
import KE.RegKTryMore
import KE.RegKIsAll
import PyProof.StrWalks
import PyProof.Rows.SetFrom
import PyProof.FString5
import Wide.Txt
import PyProof.Rows.SeqMore
import PyProof.StrOps2
import KE.KEqDict
import PyProof.CollectIter
import PyProof.JoinWalk
import PyProof.CallStr
import PyProof.DictRoadsH
import PyProof.MeetsDictList
import PyProof.DictTruth
import PyProof.StrLawsChain
import PyProof.StrCalls6
import PyProof.ToksMono
import PyProof.StrCalls2
import KE.KWords
import PyProof.MeetsStr2
import KE.KLam
import KE.KDictLaws
import PyProof.DictItems
import PyProof.DictValues
import PyProof.DictItemsLoops
import PySem.Challenge.RW_boughbook_k58_partings_part
set_option Elab.async false
set_option linter.all false
set_option maxRecDepth 100000
set_option genInjectivity false
set_option genSizeOf false
local macro_rules | `(tactic| omega) => `(tactic| lia)
open List renaming length_map→S6,getElem?_eq_getElem→S9,mem_of_getElem?→Tb,getElem?_eq_some_iff→Te,getElem?_map→Tn,length_cons→To,size_toArray→Tq,map_append→Tu,length_append→TC,mem_cons→TF,mem_iff_getElem?→TJ,mem_cons_of_mem→TQ,mem_singleton→TR,mem_cons_self→T1,range→T7,length_range→T8,length_take→Uc,append_nil→Ui,mem_append_right→Uj,mem_append→Ul,mem_map→Um,map_cons→Up,mem_append_left→Uq,getElem?_range→Ux,getElem?_cons_succ→Uy,reverse_cons→UA,append_assoc→UB,length_drop→UL,take_add_one→UN,length_reverse→UP,take_of_length_le→UT,reverse_append→UY,length_eq_zero_iff→UZ,mem_filter→Vb,filter_cons→Vf,getElem?_eq_none→Vk,replicate→Vm,dropLast_concat_getLast→Vp,reverse_reverse→Vq,cons_append→Vr,map_map→Vv,nil_append→Vy,getElem?_zip_eq_some→Vz,getElem?_append_left→VA,take_length→VG,map_nil→VI,drop_zero→VM,lookup_cons→VW,mem_range→VZ,getElem?_append_right→V0,length_filter_le→V3,length_nil→V9,find?_cons→Wa,length→Wf,take_zero→Wl,not_mem_nil→Wm,all_eq_true→Wn,zip_cons_cons→Ww,of_mem_zip→Wy,length_zip→Wz,length_replicate→WB,drop_eq_getElem_cons→WV,filterMap_cons→WX,forIn_cons→W9,filter_append→Xb,getElem_mem→Xo,nodup_cons→Xz,map_congr_left→XB,zip_nil_right→XH,nodup_nil→XI,map_inj_right→XJ,zip_nil_left→XQ,nodup_append→XR,ext_getElem?→XS,map_reverse→X7,range_succ→Yi,length_set→Yj,filter_nil→Yk,getElem?_set_ne→Ys,forIn_nil→Yt,drop_succ_cons→Yy,map_drop→YE,mem_filterMap→YI,filterMap_map→YJ,getElem?_inj→YU,flatMap_cons→YV
open PySem renaming wpAny_bind→S7,Addr→Ta,Value→Tc,wpAny_pure→Tg,Shared→Tj,Program→Tv,wpAny→Tx,sizeLine→TB,World→TN,boot_len→TU,Str→TY,Paired→T3,model→T6,mainGlobals→Ue,Around→Uh,wpAny_field→Uo,starEach→Uu,wpAny_callSpecial?_slot→Uz,wpAny_newObj_type→UD,wpAny_call_entry→UE,Expr→UH,Heap→UM,builtinLookup_eq_fast→UQ,wpAny_seqItems→UU,wpAny_holding→UW,wpAny_specialOf→U2,wpAny_Call_Name_kw→U5,cLine→Vc,wpAny_updateSeq→Vh,sysModules→Vn,Stmt→Vo,typeLookup_type→Vu,wpAny_mono→VC,Obj→VH,IsPair→VJ,rawInt→VR,eval→VS,NameKind→VY,wpAny_typeOf→V4,Builtin→V7,wpAny_isInstance→V8,wpAny_setField_rec→Wc,wpAny_rule→Wd,wpAny_attempt→Wq,pyNext→Wr,plainId_quiet→Wt,isSubtype_type→Wx,wpAny_typeNameOfWhole_keyiter→WD,wpAny_of_eq→WE,wpAny_pyIter_tuple→WG,wpAny_passesOwn→WI,FuncData→WK,compareOp→WN,wpAny_truthy_bool→WU,mem_of_lookup→WW,wpAny_setField→WZ,typeLookup→W0,atKey→W2,wpAny_typeNameOf_keyiter→Xd,binaryOp→Xe,codeAny_builtin→Xi,tupleKind_room_in1→Xj,sliceBounds→Xk,sizeLine_eq→Xl,Scope→Xm,Pos→Xn,tupleKeyHash→Xq,getItem→Xr,firstArgMember→Xs,codeAny→Xu,backTo→Xv,bootBuiltins→XU,OsState→XY,updateSeq→X1,call_meets→X2,wpAny_pyIter_enum→Yc,wpAny_letGo→Yd,wpAny_dictEntries→Ye,storedH→Yg,atKey_none_of_get→Yh,behindInMarks→Ym,tupleKind→Yo,IsZip→Yu,assignEach→Yx,IsPart→Yz,wpAny_ite_split→YA,wpAny_execs_nil→YB,letOwnedTupleGo→YC,importedModules→YD,wpAny_notOrdered_dict→YH,wpAny_updateSeq_pair→YK,slicePicked→YL,callType_codes→YM,ZipApart→YN
open PySem.W renaming Frag→S8,mg_none_of→U3,kia_one→Va,nsIn→Vd,boot_heap→We,kitOne→WJ,fnOf→WQ,mg_of→XW,keepIn→Yp,codeIn→Yq,methodObj→YO
open Nat renaming le_refl→Td,zero_le→TZ,ne_of_lt→T9,lt_of_lt_of_le→Uv,lt_irrefl→U0,le_trans→Ve,le_add_right→VU,ne_of_gt→WR,lt_trans→WS,le_of_lt→WT,not_lt_zero→W8,lt_succ_of_lt→Xg,min_eq_left→Xy,not_lt→XF,lt_of_le_of_lt→XG,add_assoc→XZ,min_self→Yb,mul_le_mul_right→Yr,sub_zero→YR,sub_self→YS,le_of_eq→YT
open PySem.Heap renaming get?_push_of_some→Tf,get?_push_size→Tt,lt_size→Tw,get?_update_self→Ud,get?_update_other→Uk,size_push→UK,SameBut→Vj,size_update→XC,ExtBut→YX
open PySem.Str renaming ofString→Ti
open PySem.Paired renaming length→Tp
open PySem.F renaming plainAttrs_list→Tr,type_list_append→TL,slot_list_append→TM,plain_extend_loop→U1,slot_dict_keyiterator_next→VX,type_list_pop→V1,slot_list_pop→V2,type_list_extend→Wg,slot_list_extend→Wh,slot_list_index→Wk,slot_dict_get→WA,slot_zip_next→WM,slot_tuple_iterator_next→W4,slot_dict_setdefault→Xw,entry_extend_loop→XT,args_tuple_add_2→XX,type_list_index→X3,plainAttrs_dict→X4,entry_tuple_add→X5,args_dict_get_3→X6,slot_tuple_add→X8,entry_dict_get→X9,slot_tuple_hash→Yl,slot_list_getattribute→Yn
open Or renaming inl→Tz,inr→XE
open Bool renaming false_ne_true→TH,false_eq_true→UJ,and_eq_true→Vs,eq_false_iff→Vw,false_or→W7,eq_iff_iff→Xa,not_true→Xp,and_false→XN,and_eq_true_iff→Yw,or_false→YG
open Option.some renaming inj→TV
open PySem.PassesOwn renaming never→T2
open Option renaming map_eq_some_iff→T4,isSome_iff_exists→W3,map_some→Xx,isSome_map→YQ
open PySem.Value renaming ref→T5,none→UX,type→VT
open Array renaming length_toList→Ua,getElem?_eq_getElem→VB,getElem?_toList→WC,toList_append→WY,forIn_toList→Xc,getElem?_eq_none→Xh,getElem?_eq_some_iff→XO,toList→YY
open Sum renaming inl→Ub,inr→WO
open PyProof.Rows renaming slot_tuple_getitem→Ug,callWith_type1→Ur,boot_isinstance→UR,boot_tuple→U9,IsTup→Wv,boot_list→Xf
open PySem.Builtin.SmallTypes renaming nextOf→Ut,ownedTupleIsFree→UC
open Int renaming toNat_natCast→Uw,emod_lt_of_pos→UI,emod_nonneg→UO,zero_add→U7,toNat_of_nonneg→Wj,ediv_one→YW
open PySem.Obj renaming mapSeq→UG,data_mapFields→VN,isFreed_of_fields→XA
open PySem.NameKind renaming free→US,cell→XD
open PySem.Builtin.Slice renaming slicePlaces→U4,sliceAdjust→Wi,sliceApplied→W6
open PySem.Calls renaming spliced_cons→U6,spliced_nil→VD,callWith_builtin→WH,evalArgs_plain→XM
open PySem.Builtin.Tuple renaming tupleExact→U8,tupleHashOf→VL,tupleItemsOf→W5
open PySem.Value.type renaming inj→Vg
open Ne renaming symm→Vi
open PySem.Builtin.List renaming listExtendWith→Vx,listTooLong→VO,listSameRef→VP,listLengthHint→V5,listItems→V6,listUpdate→Yv
open PySem.Heap.SameBut renaming update→VE
open True renaming intro→VF
open PySem.AutoSeq1 renaming wpAny_loadPart'→VQ
open ForInStep renaming yield→Wb
open PySem.Around renaming under_plainId→Wo
open Sum.inl renaming inj→Wu
open False renaming elim→WL
open PySem.Builtin.Str renaming strSliceIndices→X0
open List.cons renaming inj→YF
namespace HD
open PySem PySem.W PySem.Calls PyProof.Rows
def j4 (tb:String->Option V7) (p:Tv) (w:TN) (m:Nat) (ann:Option Tc):Nat->SharedT->Thread->Option SharedT
 | 0,_,_=>none
 | n+1,s,t=>match through t with
   | true=>some s
   | false=>match stepOk m ann t with
     | false=>none
     | true=>match stepT (denote tb) p w s t with
       | some (s',t')=>j4 tb p w m ann n s' t'
       | none=>none
theorem kC {tb:String->Option V7} {p:Tv} {w:TN} {m:Nat} {ann:Option Tc}:∀ {n:Nat} {s s':SharedT} {t:Thread},j4 tb p w m ann n s t=some s'->topRun tb p w m ann n s.abs t=some s'.abs
 | 0,_,_,_,h=>by cases h
 | n+1,s,s',t,h=>by
   unfold j4 at h;unfold topRun;cases he:through t with
   | true=>rw [he] at h;cases h;rfl
   | false =>
     rw [he] at h;cases hk:stepOk m ann t with
     | false=>rw [hk] at h;cases h
     | true =>
       rw [hk] at h;cases hs:stepT (denote tb) p w s t with
       | none=>rw [hs] at h;cases h
       | some r =>
         obtain ⟨s2,t2⟩:=r;rw [hs] at h;rw [stepT_spec hs];exact kC h
def tS:List VH->Nat->BT->BT
 | [],_,t=>t
 | o::l,n,t=>tS l (n+1) (t.ins n o)
def uH:List VH->Nat->BT->Bool
 | [],_,_=>true
 | o::l,n,t=>((t.ins n o).get n).isSome && uH l (n+1) (t.ins n o)
theorem l5:∀ (l:List VH) (n:Nat) (t:BT),uH l n t=true->(tS l n t).list (n+l.length)=t.list n++l
 | [],n,t,_=>by rw [Ui];rfl
 | o::l,n,t,h=>by
   obtain ⟨h1,h2⟩:=Yw.mp h;have e:=absHeap_ins (life:=default) h1
   have e2:(t.ins n o).list (n+1)=t.list n++[o]:=by
    have:=congrArg (fun x:UM=>x.objs.toList) e;simpa [absHeap,Heap.push] using this
   have ih:=l5 l (n+1) (t.ins n o) h2;rw [e2,UB] at ih;rw [To,show n+(l.length+1)=n+1+l.length by omega];exact ih
theorem vG {h:UM} (ok:uH h.objs.toList 0 .nil=true):absHeap (tS h.objs.toList 0 .nil) h.objs.size h.life=h:=by
 have e:=l5 _ _ _ ok;rw [Nat.zero_add] at e;unfold absHeap;rw [<- Ua,e];rfl
noncomputable abbrev nv (p:Tv) (N:Nat) (w:TN) (os:XY):Option SharedT :=
 j4 treeTable p w 11 (some (.ref 6)) N ⟨tS (We w.params).objs.toList 0 .nil,11,(We w.params).life,Array.mk [],boot_drawn,boot_toks,os⟩ (topStub p)
theorem uS (P:Params):(uH (We P).objs.toList 0 .nil,(We P).isNs Ue,(We P).objs.size,(We P).nsMap Ue "__annotations__")=(true,true,11,some (.ref 6)):=by kernel_rfl
theorem map_some {α β:Type} {o:Option α} {a:α} {f:α->β} {b:β} (h:o=some a) (e:o.map f=some b):f a=b:=by rw [h] at e;exact TV e
abbrev Tr0 (p q:Tv) (loose:List TY) (Xt:Tj->Bool) (N:Nat) (g0:Bool):Prop:=∀ (w:TN) (os:XY),((nv p N w os).map fun s=>(staticsOk (YD p.main.body) (We w.params) s.abs.heap && namesBound p s.abs.heap && gensDone s.abs && laidKept (We w.params) s.abs.heap,s.abs.heap.bltView,pinSeenD q (drecsOf q) s.abs,plainSeenD q loose s.abs,clsSeenW q loose s.abs,(s.abs.heap.accountedOkI (YD p.main.body),s.abs.heap.isNs Ue,s.abs.heap.isNs builtinsNs,tablesOk q s.abs.heap,Xt s.abs,(if g0 then s.abs.gens.size == 0 else !leftWithCleanup s.abs.gens))))=some (true,bltViewBooted,pinGoodD (drecsOf q),plainGoodD q loose,clsGoodW q loose,(true,true,true,true,true,true))
abbrev Tr1 (p q:Tv) (N:Nat):Prop:=∀ (w:TN) (os:XY),((nv p N w os).map fun s=>seen ((recsOf q).map (·.name)) (ownsOf q) [] { s.abs with gens:=#[] })=some (expectedOf q)
abbrev Tr2 (p q:Tv) (loose:List TY) (N:Nat):Prop:=∀ (w:TN) (os:XY),((nv p N w os).map fun s=>s.abs.heap.keysOk (looseW q loose) ((recsOf q).map (·.name)) ((litsOf q).map (·.1)) ((clssOf q (looseW q loose)).map (·.name)))=some true
abbrev Tr3 (p q:Tv) (N:Nat):Prop:=∀ (w:TN) (os:XY),((nv p N w os).map fun s=>tabsOk q s.abs)=some true
abbrev Tr4 (p q:Tv) (loose:List TY) (N:Nat):Prop:=∀ (w:TN) (os:XY),((nv p N w os).map fun s=>plainSeenE q (looseW q loose) s.abs)=some (plainGoodE q (looseW q loose))
abbrev Tr5 (p q:Tv) (N:Nat):Prop:=∀ (w:TN) (os:XY),((nv p N w os).map fun s=>wideSeen q s.abs)=some (wideGood q)
theorem sh {p q:Tv} {loose:List TY} {Xt:Tj->Bool} {α:Type} {Yf:Tj->α} {Ya:TN->α} {N:Nat} {g0:Bool}
 (e:opening p=plainProg p.main.scope.names) (hN:Nat.ble 600 N=true) (f:∀ s,fenceModules? p s=some s)
 (r0:Tr0 p q loose Xt N g0)
 (r1:Tr1 p q N)
 (r2:Tr2 p q loose N)
 (r3:Tr3 p q N)
 (r4:Tr4 p q loose N)
 (r5:Tr5 p q N)
 (rY:∀ (w:TN) (os:XY),((nv p N w os).map fun s=>Yf s.abs)=some (Ya w)) :
 LeftO p q loose Xt Yf Ya N g0:=fun w=>by
 obtain ⟨⟨h,gs,d,k,os⟩,e1,e'⟩:=T4.mp (boot_open e hN f w);obtain ⟨rfl,rfl,rfl,rfl⟩:h=We w.params/\gs=Array.mk []/\d=boot_drawn/\k=boot_toks:=by simpa using e'
 have Jc:=uS w.params;have z0:=congrArg Prod.fst Jc;have z1:=congrArg (fun x=>x.2.1) Jc;have z2:=congrArg (fun x=>x.2.2.1) Jc;have z3:=congrArg (fun x=>x.2.2.2) Jc;dsimp only at z0 z1 z2 z3;obtain ⟨s1,Ew,hY⟩:=T4.mp (rY w os);have q0:=map_some Ew (r0 w os);have q1:=map_some Ew (r1 w os);have q2:=map_some Ew (r2 w os);have q3:=map_some Ew (r3 w os);have q4:=map_some Ew (r4 w os);have q5:=map_some Ew (r5 w os);have rr:=kC Ew
 have JW:SharedT.abs ⟨tS (We w.params).objs.toList 0 .nil,11,(We w.params).life,Array.mk [],boot_drawn,boot_toks,os⟩=⟨We w.params,Array.mk [],boot_drawn,boot_toks,os⟩:=by
  unfold SharedT.abs;dsimp only;rw [<- z2,vG z0]
 rw [JW] at rr;have a0:=congrArg Prod.fst q0;have a1:=congrArg (fun x=>x.2.1) q0;have a2:=congrArg (fun x=>x.2.2.1) q0;have a3:=congrArg (fun x=>x.2.2.2.1) q0;have a4:=congrArg (fun x=>x.2.2.2.2.1) q0;have b0:=congrArg (fun x=>x.2.2.2.2.2.1) q0;have b1:=congrArg (fun x=>x.2.2.2.2.2.2.1) q0;have b2:=congrArg (fun x=>x.2.2.2.2.2.2.2.1) q0;have b3:=congrArg (fun x=>x.2.2.2.2.2.2.2.2.1) q0;have b4:=congrArg (fun x=>x.2.2.2.2.2.2.2.2.2.1) q0;have b5:=congrArg (fun x=>x.2.2.2.2.2.2.2.2.2.2) q0;dsimp only at a0 a1 a2 a3 a4 b0 b1 b2 b3 b4 b5
 have l2:openSeen q loose (YD p.main.body) Xt g0 s1.abs=openGood q loose:=by
  unfold openSeen openGood;rw [q1,a1,q2,b0,b1,b2,b3,b4,b5,q3,a2,q4,a3,q5,a4];rfl
 have t:topFrom treeTable p w N ⟨We w.params,Array.mk [],boot_drawn,boot_toks,os⟩=some s1.abs:=by
  unfold topFrom;dsimp only;rw [z1,z2,z3,rr];show (match staticsOk (YD p.main.body) (We w.params) s1.abs.heap && namesBound p s1.abs.heap && gensDone s1.abs && laidKept (We w.params) s1.abs.heap with | true=>_ | false=>_)=_;rw [a0]
 unfold openEnds;rw [e1];show (topFrom treeTable p w N _).map _=_;rw [t];exact congrArg some (Prod.ext l2 hY)
def p0:Params:={ strHash:=fun _=>0,shareClass:=fun _=>0,mergeTok:=fun t=>t,idOf:=fun _=>0,idOfShared:=fun _ _=>0,followText:=fun _=>false,idOfImm:=fun _=>0 }
structure Pc (p:Tv) (N:Nat) (as:List Ta) (vs:TN->List (Option VH)):Prop where
 out:∀ (w:TN) (os:XY),((nv p N w os).map fun s=>as.map s.abs.heap.get?)=some (vs w)
theorem Pc.k {p:Tv} {N:Nat} {as:List Ta} {K:Params->Frag} {e:∀ P,as=(K P).map (·.1)} (h:Pc p N as fun w=>(K w.params).map fun p=>some p.2):∀ (w:TN) (os:XY),((nv p N w os).map fun s=>(kHook K as e).obs s.abs)=some ((kHook K as e).val w):=h.out
end HD
section
open PySem PySem.W PyProof.Rows
def LAW.vw:Tv:=PySem.W.view PySem.Challenge.pw_boughbook_k58_partings_part [1,2,3,4,5,6,7,9,10,11,12,13,14,15,16,17,18,19,20,22,23,24,26,27,28,29,30,31,32,33,34,35,37,38,39,40,41,42,43,44,45,46,47,48,49,50,51,52,53,54,55]
def LAW.xt (s:Tj):Bool:=xlAt LAW.vw [] s && recOk (RowW.records (OpenRow.toRowW (OpenLaw.row PySem.Challenge.rw_boughbook_k58_partings_part))) s
set_option maxHeartbeats 0 in
theorem LAW.lk0:HD.Tr0 PySem.Challenge.pw_boughbook_k58_partings_part LAW.vw [] LAW.xt 90000 true:=fun _ _=>by kernel_rfl
set_option maxHeartbeats 0 in
theorem LAW.lk1:HD.Tr1 PySem.Challenge.pw_boughbook_k58_partings_part LAW.vw 90000:=fun _ _=>by kernel_rfl
set_option maxHeartbeats 0 in
theorem LAW.lk2:HD.Tr2 PySem.Challenge.pw_boughbook_k58_partings_part LAW.vw [] 90000:=fun _ _=>by kernel_rfl
set_option maxHeartbeats 0 in
theorem LAW.lk3:HD.Tr3 PySem.Challenge.pw_boughbook_k58_partings_part LAW.vw 90000:=fun _ _=>by kernel_rfl
set_option maxHeartbeats 0 in
theorem LAW.lk4:HD.Tr4 PySem.Challenge.pw_boughbook_k58_partings_part LAW.vw [] 90000:=fun _ _=>by kernel_rfl
set_option maxHeartbeats 0 in
theorem LAW.lk5:HD.Tr5 PySem.Challenge.pw_boughbook_k58_partings_part LAW.vw 90000:=fun _ _=>by kernel_rfl
section
local macro_rules | `(tactic| o_head $_H) => `(tactic| assumption)
set_option maxHeartbeats 0 in
theorem LAW.d0 (h:OpenRow.Holds (OpenLaw.row PySem.Challenge.rw_boughbook_k58_partings_part)):OpenRow.Holds (OpenLaw.row PySem.Challenge.rw_boughbook_k58_partings_part):=by
 k_head
end
noncomputable def LAW.ks:List Ta:=(LAW.d0.heap_1 HD.p0).map (·.1)
theorem LAW.ke:∀ P,LAW.ks=(LAW.d0.heap_1 P).map (·.1):=fun _=>by kernel_rfl
set_option maxHeartbeats 0 in
theorem LAW.kp:HD.Pc PySem.Challenge.pw_boughbook_k58_partings_part 90000 LAW.ks fun w=>(LAW.d0.heap_1 w.params).map fun p=>some p.2:=⟨fun _ _=>by kernel_rfl⟩
end
namespace L2
open PySem PySem.Spec PyProof.Rows
abbrev Key:=Sum Int TY
def ie:Key->Tc->Bool
 | .inl k,v=>Value.isInt k v
 | .inr x,v=>Value.isStrOf x v
def xG (w:TN):Key->Int
 | .inl k=>hashInt k
 | .inr x=>hashStr w x
theorem bh:∀ {k:Key} {v:Tc},ie k v=true->(∃ i t,k=Ub i/\v=Value.int i t)∨(∃ x t,k=WO x/\v=Value.str x t)
 | .inl i,v,h=>by
   obtain ⟨t,e⟩:=Value.isInt_shape (k:=i) (v:=v) h;exact .inl ⟨i,t,rfl,e⟩
 | .inr x,v,h=>by
   obtain ⟨t,e⟩:=Value.isStrOf_shape (x:=x) (v:=v) h;exact .inr ⟨x,t,rfl,e⟩
theorem rC (i:Int) (t:Tok):ie (.inl i) (.int i t)=true:=by simp [ie,Value.isInt]
theorem sB (x:TY) (t:Tok):ie (.inr x) (.str x t)=true:=by simp [ie,Value.isStrOf]
theorem vK (a b:Int):decide ((Ub a:Key)=Ub b)=(a == b):=by
 by_cases e:a=b
 · subst e;simp
 · have h:¬ (Ub a:Key)=Ub b:=fun q=>e (Wu q);rw [decide_eq_false h];exact (beq_eq_false_iff_ne.mpr e).symm
theorem wq (a b:TY):decide ((WO a:Key)=WO b)=decide (a=b):=by
 by_cases e:a=b
 · subst e;simp
 · have h:¬ (WO a:Key)=WO b:=fun q=>e (Sum.inr.inj q);rw [decide_eq_false h,decide_eq_false e]
theorem wg (a:Int) (b:TY):decide ((Ub a:Key)=WO b)=false:=decide_eq_false (fun q=>nomatch q)
theorem vW (a:TY) (b:Int):decide ((WO a:Key)=Ub b)=false:=decide_eq_false (fun q=>nomatch q)
def aE (prog:Tv) (w:TN):PySem.KeyKind prog w Key where
 is:=ie
 hash:=xG w
 inj:=fun v a b ha hb=>by
  rcases bh ha with ⟨i,t,rfl,rfl⟩ | ⟨x,t,rfl,rfl⟩
  · rcases bh hb with ⟨j,u,rfl,e⟩ | ⟨y,u,rfl,e⟩
    · injection e with e1 _;rw [e1]
    · exact nomatch e
  · rcases bh hb with ⟨j,u,rfl,e⟩ | ⟨y,u,rfl,e⟩
    · exact nomatch e
    · injection e with e1 _;rw [e1]
 byValue:=fun k v h=>by
  rcases bh h with ⟨i,t,rfl,rfl⟩ | ⟨x,t,rfl,rfl⟩ <;> rfl
 pyHash:=fun hv h=>by
  rcases bh hv with ⟨i,t,rfl,rfl⟩ | ⟨x,t,rfl,rfl⟩
  · exact wpAny_pyHash_int h
  · exact wpAny_pyHash_str h
 eqBool:=fun hu hv h=>by
  rcases bh hu with ⟨i,t,rfl,rfl⟩ | ⟨x,t,rfl,rfl⟩
  · rcases bh hv with ⟨j,u,rfl,rfl⟩ | ⟨y,u,rfl,rfl⟩
    · rw [vK] at h;exact wpAny_eqBool_int h
    · rw [wg] at h;exact SeqAt.EqAt.int_str i t y u _ _ _ _ h
  · rcases bh hv with ⟨j,u,rfl,rfl⟩ | ⟨y,u,rfl,rfl⟩
    · rw [vW] at h;exact SeqAt.EqAt.str_int x t j u _ _ _ _ h
    · rw [wq] at h;exact wpAny_eqBool_str h
 «strs»:=fun k x t v h=>by
  rcases bh h with ⟨i,u,rfl,e⟩ | ⟨y,u,rfl,e⟩
  · exact nomatch e
  · injection e with e1 _;subst e1;cases v <;> rfl
theorem oo (prog:Tv) (w:TN) (i:Int) (t:Tok):(aE prog w).is (.inl i) (.int i t)=true:=rC i t
theorem pi (prog:Tv) (w:TN) (x:TY) (t:Tok):(aE prog w).is (.inr x) (.str x t)=true:=sB x t
end L2
namespace L2
open PySem PySem.Spec PyProof.Rows
set_option genInjectivity true in
inductive V where
 | non | bl (b:Bool) | int (i:Int) | str (x:TY) | byt (b:Array UInt8) | flt (b:UInt64) | ref (a:Ta) | ty (n:String)
 deriving DecidableEq
def RelV:V->Tc->Prop
 | .non,u=>u=UX
 | .bl b,u=>u=Value.bool b
 | .int i,u=>∃ t,u=Value.int i t
 | .str x,u=>∃ t,u=Value.str x t
 | .byt b,u=>∃ t,u=Value.bytes b t
 | .flt b,u=>∃ t,u=Value.float b t
 | .ref a,u=>u=T5 a
 | .ty n,u=>u=VT n
abbrev Vals:List V->List Tc->Prop:=T3 RelV
theorem Vals.length {xs:List V} {us:List Tc} (r:Vals xs us):xs.length=us.length:=Tp r
theorem Vals.get:∀ {xs:List V} {us:List Tc} {i:Nat} {x:V},Vals xs us->xs[i]?=some x->∃ u,us[i]?=some u/\RelV x u
 | _,_,_,_,.nil,e=>by simp at e
 | _,_,0,_,.cons r _,e=>by simp at e;subst e;exact ⟨_,rfl,r⟩
 | _,_,i+1,x,.cons _ t,e=>by
   obtain ⟨u,h1,h2⟩:=Vals.get (i:=i) (x:=x) t (by simpa using e);exact ⟨u,by simpa using h1,h2⟩
theorem Vals.set {x:V} {u:Tc} (r:RelV x u):∀ {xs:List V} {us:List Tc} (i:Nat),Vals xs us->Vals (xs.set i x) (us.set i u)
 | _,_,_,.nil=>.nil
 | _,_,0,.cons _ t=>.cons r t
 | _,_,i+1,.cons q t=>.cons q (Vals.set r i t)
theorem Vals.append:∀ {xs ys:List V} {us ws:List Tc},Vals xs us->Vals ys ws->Vals (xs++ys) (us++ws)
 | _,_,_,_,.nil,s=>s
 | _,_,_,_,.cons r t,s=>.cons r (Vals.append t s)
theorem Vals.take:∀ {xs:List V} {us:List Tc} (n:Nat),Vals xs us->Vals (xs.take n) (us.take n)
 | _,_,0,_=>.nil
 | _,_,_+1,.nil=>.nil
 | _,_,n+1,.cons r t=>.cons r (Vals.take n t)
theorem Vals.drop:∀ {xs:List V} {us:List Tc} (n:Nat),Vals xs us->Vals (xs.drop n) (us.drop n)
 | _,_,0,r=>r
 | _,_,_+1,.nil=>.nil
 | _,_,n+1,.cons _ t=>Vals.drop n t
def RelO:Option V->Option Tc->Prop
 | some v,some u=>RelV v u
 | none,none=>True
 | _,_=>False
def KV {κ:Type}:List (κ×V)->List (κ×Tc)->Prop:=T3 fun (p:κ×V) (q:κ×Tc)=>p.1=q.1/\RelV p.2 q.2
def kV:Key->V
 | .inl i=>.int i
 | .inr x=>.str x
inductive HO where
 /-- a list -/
 | lst (xs:List V)
 /-- a tuple (never changes) -/
 | tup (xs:List V)
 /-- a dict F6 keys are ints and texts;one F6 keys are tuples of ints and texts (Az empty one is both) -/
 | dK (f':List (Key×V)) | dT (f':List (List Key×V))
 /-- a set of ints: its members,its size -/
 | set (S:Int->Bool) (n:Nat)
 /-- an instance of Az class at C,its dict at dx,its attributes -/
 | ins (C dx:Ta) (fs:List (TY×V))
 /-- Az dict of Az instance at x -/
 | own (x:Ta)
 /-- Az dict of an exception -/
 | xd (fs:List (TY×V))
 /-- a bound method,f of x -/
 | met (f x:Ta)
 /-- a range object lo,lo+1,.. below hi -/
 | rng (lo hi:Int)
 /-- a thing O1 is known to Az object (Az script;a dict while a loop walks it): read,never written while it is so -/
 | frz (o:VH) (u:HO)
 /-- a code F7 table -/
 | tbl (ps:Array Tc)
 /-- any other thing,by JX is true of its one object (a def of M' own: O2 a S n:=HO.ext fun h=>..) -/
 | ext (φ:UM->Prop)
abbrev Hp:=Ta->Option HO
def upd (H:Hp) (a:Ta) (o:HO):Hp:=fun b=>if b=a then some o else H b
theorem ab {H:Hp} {a:Ta} {o:HO}:upd H a o a=some o:=by unfold upd;rw [if_pos rfl]
theorem ak {H:Hp} {a b:Ta} {o:HO} (h:b≠a):upd H a o b=H b:=by unfold upd;rw [if_neg h]
theorem j0 {H:Hp} {a:Ta} {o u:HO}:upd (upd H a o) a u=upd H a u:=by
 funext b;unfold upd;split <;> rfl
theorem fJ {H:Hp} {a b:Ta} {o u:HO} (h:H a=some o) (h':H b=some u) (d:o≠u):a≠b:=by
 intro e;subst e;rw [h] at h';exact d (TV h')
theorem aI {H:Hp} {a b:Ta} {o:HO} (h:H a=some o) (h':H b=none):a≠b:=by
 intro e;subst e;rw [h] at h';cases h'
section
variable (P:Tv) (w:TN)
def ObjOk (H:Hp) (h:UM) (a:Ta):HO->Prop
 | .lst xs=>xs.length<=TB/\∃ (its:List Tc) (n:Nat),Vals xs its/\h.get? a=some { cls:=.type "list",data:=.seq its.toArray n }
 | .tup xs=>xs.length<=TB/\∃ (its:List Tc) (n:Nat),Vals xs its/\h.get? a=some { cls:=.type "tuple",data:=.seq its.toArray n }
 | .dK f'=>f'.length<=TB/\(a == Vn)=false/\∃ vs,KV f' vs/\h.DictOf (aE P w) a vs
 | .dT f'=>f'.length<=TB/\(a == Vn)=false/\∃ xs:List (List Key×Ta×Tc),
  T3 (fun (p:List Key×V) (q:List Key×Ta×Tc)=>p.1=q.1/\H q.2.1=some (.tup (p.1.map kV))/\RelV p.2 q.2.2) f' xs ∧
  ∃ o es ep,h.get? a=some o/\o.ExactDict/\o.data=.dict es ep/\es.toList=xs.map (entryOfKey (Yo (aE P w)))/\(xs.map (·.1)).Nodup
 | .set S n=>h.SetOf (intKind P w) a S n
 | .ins C dx fs=>H dx=some (.own a)/\fs.length<=1000/\dx≠a/\h.get? a=some (PySem.W.instObj C dx) ∧
  ∃ mA,h.Ns1 dx mA/\(∀ f,RelO (fs.lookup f) (mA f))/\PySem.Within mA (fs.map (·.1))
 | .own _=>∃ o,h.get? a=some o
 | .xd fs=>∃ mA,h.Ns1 a mA/\∀ f,RelO (fs.lookup f) (mA f)
 | .rng lo hi=>∃ t u v,h.get? a=some { cls:=.type "range",data:=.fields #[.int lo t,.int hi u,.int 1 v] }
 | .frz o u=>h.get? a=some o/\ObjOk H h a u
 | .tbl ps=>h.get? a=some { cls:=.none,data:=.fields ps }
 | .met f x=>h.get? a=some (YO (.ref f) (.ref x))
 | .ext φ=>φ h/\(∃ o,h.get? a=some o)/\∀ h1 h2:UM,φ h1->(∀ o,h1.get? a=some o->h2.get? a=some o)->φ h2
def HOk (H:Hp) (h:UM):Prop:=∀ a o,H a=some o->ObjOk P w H h a o
end
section
variable {P:Tv} {w:TN} {H H':Hp} {h h':UM} {a:Ta} {o:HO}
theorem ObjOk.lt (x:ObjOk P w H h a o):a<h.objs.size:=by
 cases o with
 | lst xs=>obtain ⟨_,_,_,_,e⟩:=x;exact Tw e
 | tup xs=>obtain ⟨_,_,_,_,e⟩:=x;exact Tw e
 | dK f'=>obtain ⟨_,_,_,_,o,_,_,e,_⟩:=x;exact Tw e
 | dT f'=>obtain ⟨_,_,_,_,o,_,_,e,_⟩:=x;exact Tw e
 | set S n=>obtain ⟨o,_,_,_,e,_⟩:=x;exact Tw e
 | ins C dx fs=>obtain ⟨_,_,_,e,_⟩:=x;exact Tw e
 | own y=>obtain ⟨_,e⟩:=x;exact Tw e
 | xd fs=>obtain ⟨_,⟨_,_,_,e,_⟩,_⟩:=x;exact Tw e
 | rng lo hi=>obtain ⟨_,_,_,e⟩:=x;exact Tw e
 | frz ob u=>obtain ⟨e,_⟩:=x;exact Tw e
 | tbl ps=>exact Tw (show h.get? a=some _ from x)
 | met f y=>exact Tw (show h.get? a=some _ from x)
 | ext φ=>obtain ⟨_,⟨_,e⟩,_⟩:=x;exact Tw e
theorem T3.mapP {α β:Type} {F G:α->β->Prop}:∀ {F8:List α} {F9:List β},T3 F F8 F9->(∀ a b,F a b->G a b)->T3 G F8 F9
 | _,_,.nil,_=>.nil
 | _,_,.cons r t,f=>.cons (f _ _ r) (T3.mapP t f)
theorem ObjOk.stay (x:ObjOk P w H h a o) (k:∀ b u,(b=a∨H b=some (.own a))->h.get? b=some u->h'.get? b=some u)
 (ho:∀ b,H b=some (.own a)->H' b=some (.own a)) (ht:∀ b xs,H b=some (.tup xs)->H' b=some (.tup xs)):ObjOk P w H' h' a o:=by
 induction o with
 | lst xs=>obtain ⟨z,its,n,r,e⟩:=x;exact ⟨z,its,n,r,k _ _ (.inl rfl) e⟩
 | tup xs=>obtain ⟨z,its,n,r,e⟩:=x;exact ⟨z,its,n,r,k _ _ (.inl rfl) e⟩
 | dK f'=>obtain ⟨z,y,vs,r,ob,es,ep,e,c⟩:=x;exact ⟨z,y,vs,r,ob,es,ep,k _ _ (.inl rfl) e,c⟩
 | dT f' =>
   obtain ⟨z,y,xs,r,ob,es,ep,e,c⟩:=x;exact ⟨z,y,xs,T3.mapP r fun p q z=>⟨z.1,ht _ _ z.2.1,z.2.2⟩,ob,es,ep,k _ _ (.inl rfl) e,c⟩
 | set S n=>obtain ⟨ob,es,ep,t,e,c⟩:=x;exact ⟨ob,es,ep,t,k _ _ (.inl rfl) e,c⟩
 | ins C dx fs =>
   obtain ⟨d,z,ne,e,mA,⟨od,es,ep,e2,c⟩,r⟩:=x;exact ⟨ho _ d,z,ne,k _ _ (.inl rfl) e,mA,⟨od,es,ep,k _ _ (.inr d) e2,c⟩,r⟩
 | own y=>obtain ⟨ob,e⟩:=x;exact ⟨ob,k _ _ (.inl rfl) e⟩
 | xd fs=>obtain ⟨mA,⟨od,es,ep,e,c⟩,r⟩:=x;exact ⟨mA,⟨od,es,ep,k _ _ (.inl rfl) e,c⟩,r⟩
 | rng lo hi=>obtain ⟨t,u,v,e⟩:=x;exact ⟨t,u,v,k _ _ (.inl rfl) e⟩
 | frz ob u ih=>obtain ⟨e,q⟩:=x;exact ⟨k _ _ (.inl rfl) e,ih q⟩
 | tbl ps =>
   have e:h.get? a=some { cls:=.none,data:=.fields ps }:=x;show h'.get? a=some { cls:=.none,data:=.fields ps };exact k a _ (.inl rfl) e
 | met f y =>
   have e:h.get? a=some (YO (.ref f) (.ref y)):=x;show h'.get? a=some (YO (.ref f) (.ref y));exact k a _ (.inl rfl) e
 | ext φ=>obtain ⟨p,⟨o,e⟩,st⟩:=x;exact ⟨st _ _ p fun o q=>k _ _ (.inl rfl) q,⟨o,k _ _ (.inl rfl) e⟩,st⟩
theorem HOk.lt (x:HOk P w H h) (e:H a=some o):a<h.objs.size:=(x a o e).lt
theorem HOk.fresh (x:HOk P w H h) (e:h.objs.size<=a):H a=none:=by
 cases q:H a with
 | none=>rfl
 | some u=>exact absurd (Uv (x.lt q) e) (U0 _)
theorem HOk.kept (x:HOk P w H h) (k:∀ b u,h.get? b=some u->h'.get? b=some u):HOk P w H h':=fun a o e =>
 (x a o e).stay (fun b u _ q=>k b u q) (fun _ q=>q) fun _ _ q=>q
theorem HOk.laid (x:HOk P w H h) (k:∀ b u,h.get? b=some u->h'.get? b=some u) (hp:h.objs.size<=a) (new:ObjOk P w (upd H a o) h' a o):HOk P w (upd H a o) h':=fun b u e=>by
 have hn:=x.fresh hp;by_cases hb:b=a
 · subst hb;rw [ab] at e;cases e;exact new
 · rw [ak hb] at e;exact (x b u e).stay (fun c v _ q=>k c v q) (fun c q=>by rw [ak (aI q hn)];exact q) fun c xs q=>by rw [ak (aI q hn)];exact q
end
def Rd (H:Hp) (a:Ta) (u:HO):Prop:=H a=some u∨∃ o,H a=some (.frz o u)
theorem Rd.ok {P:Tv} {w:TN} {H:Hp} {h:UM} {a:Ta} {u:HO} (r:Rd H a u) (x:HOk P w H h):ObjOk P w H h a u:=by
 rcases r with r | ⟨o,r⟩
 · exact x a u r
 · obtain ⟨_,q⟩:=x a _ r;exact q
def Mut:Option HO->Prop
 | some (.lst _)=>True
 | some (.dK _)=>True
 | some (.dT _)=>True
 | some (.set _ _)=>True
 | some (.ins _ _ _)=>True
 | some (.ext _)=>True
 | _=>False
section
variable {P:Tv} {w:TN} {H:Hp} {h h':UM} {x e:Ta} {o':HO}
theorem HOk.write (ok:HOk P w H h) (mu:Mut (H x)) (he:e=x∨H e=some (.own x)) (k:∀ b u,b≠e->h.get? b=some u->h'.get? b=some u) (Fy:∃ u,h'.get? e=some u)
 (new:ObjOk P w (upd H x o') h' x o'):HOk P w (upd H x o') h':=fun b u q=>by
 have F':∀ c y,H c=some (.own y)->c≠x:=fun c y r z=>by subst z;rw [r] at mu;exact mu
 have JY:∀ c xs,H c=some (.tup xs)->c≠x:=fun c xs r z=>by subst z;rw [r] at mu;exact mu
 by_cases hb:b=x
 · subst hb;rw [ab] at q;cases q;exact new
 · rw [ak hb] at q;by_cases Bq:b=e
   · have q':H b=some (.own x):=by
      rcases he with z | z
      · exact absurd (Bq.trans z) hb
      · rw [Bq];exact z
     rw [q] at q';cases q';obtain ⟨v,hv⟩:=Fy;exact ⟨v,by rw [Bq];exact hv⟩
   · refine (ok b u q).stay (fun c v hc r=>k c v ?_ r) (fun c r=>by rw [ak (F' c b r)];exact r) fun c xs r=>by rw [ak (JY c xs r)];exact r
     rcases hc with rfl | hc
     · exact Bq
     · rintro rfl;rcases he with z | z
       · exact F' c b hc z
       · rw [hc] at z;cases z;exact hb rfl
end
structure Un (fs ex:List Ta) (H H':Hp) (h h':UM):Prop where
 keep:∀ b o,h.get? b=some o->H b=none->b∉fs->b∉ex->h'.get? b=some o
 slot:∀ b o,h.get? b=some o->H b=none->b∈fs->b∉ex->∃ sl,h'.get? b=some { o with slots:=sl }
 free:∀ b o,h.get? b=some o->H b=none->b∉ex->H' b=none
 there:∀ b o,h.get? b=some o->b∉ex->∃ o',h'.get? b=some o'
 tups:∀ b xs,H b=some (.tup xs)->H' b=some (.tup xs)
 frzs:∀ b o u,H b=some (.frz o u)->H' b=some (.frz o u)
 tbls:∀ b ps,H b=some (.tbl ps)->∃ more,H' b=some (.tbl (ps++more))
section
variable {fs O3 ex RU:List Ta} {H H1 H2:Hp} {h h1 h2 h':UM} {a x e:Ta} {o:HO}
theorem Un.any (u:Un fs ex H H1 h h1) {b:Ta} {ob:VH} (q:h.get? b=some ob) (n:H b=none) (hx:b∉ex):∃ sl,h1.get? b=some { ob with slots:=sl }:=by
 by_cases hb:b∈fs
 · exact u.slot b ob q n hb hx
 · exact ⟨ob.slots,u.keep b ob q n hb hx⟩
theorem Un.kept (k:∀ b u,h.get? b=some u->h'.get? b=some u):Un fs ex H H h h' :=
 ⟨fun b ob q _ _ _=>k b ob q,fun b ob q _ _ _=>⟨ob.slots,k b ob q⟩,fun _ _ _ n _=>n,fun b ob q _=>⟨ob,k b ob q⟩,fun _ _ q=>q,fun _ _ _ q=>q,fun _ ps q=>⟨#[],by rw [q];simp⟩⟩
theorem Un.refl:Un fs ex H H h h:=Un.kept fun _ _ q=>q
theorem Un.laid (k:∀ b u,h.get? b=some u->h'.get? b=some u) (hp:h.objs.size<=a) (hn:H a=none):Un fs ex H (upd H a o) h h' where
 keep:=fun b u q _ _ _=>k b u q
 slot:=fun b u q _ _ _=>⟨u.slots,k b u q⟩
 free:=fun b u q n _=>by rw [ak (T9 (Uv (Tw q) hp))];exact n
 there:=fun b u q _=>⟨u,k b u q⟩
 tups:=fun b xs q=>by rw [ak (aI q hn)];exact q
 frzs:=fun b u xs q=>by rw [ak (aI q hn)];exact q
 tbls:=fun b ps q=>⟨#[],by rw [ak (aI q hn),q];simp⟩
theorem Un.write (mu:Mut (H x)) (he:e=x∨H e=some (.own x)) (k:∀ b u,b≠e->h.get? b=some u->h'.get? b=some u) (Fy:∃ u,h'.get? e=some u):Un fs ex H (upd H x o) h h':=by
 have hx:∀ b,H b=none->b≠x:=fun b n z=>by subst z;rw [n] at mu;exact mu
 have hb:∀ b,H b=none->b≠e:=fun b n z=>by
  subst z;rcases he with r | r
  · exact hx b n r
  · rw [n] at r;cases r
 have hm:∀ b u,H b=some u->¬ Mut (some u)->b≠x:=fun b u q nm z=>by subst z;rw [q] at mu;exact nm mu
 refine ⟨fun b u q n _ _=>k b u (hb b n) q,fun b u q n _ _=>⟨u.slots,k b u (hb b n) q⟩,fun b u q n _=>by rw [ak (hx b n)];exact n,fun b u q _=>?_,
  fun b xs q=>by rw [ak (hm b _ q fun z=>z)];exact q,fun b u xs q=>by rw [ak (hm b _ q fun z=>z)];exact q,fun b ps q=>⟨#[],by rw [ak (hm b _ q fun z=>z),q];simp⟩⟩
 by_cases Bq:b=e
 · subst Bq;exact Fy
 · exact ⟨u,k b u Bq q⟩
end
def trk (h:UM) (H:Hp):List Ta:=(T7 h.objs.size).filter fun a=>(H a).isSome
def mV (h:UM) (H:Hp):UM:=PySem.W.hideAll h (trk h H)
theorem rQ (h:UM) (H:Hp):(mV h H).objs.size=h.objs.size:=PySem.W.hideAll_size _ _
theorem sY {h:UM} {H:Hp} {b:Ta} {o:VH} (e:h.get? b=some o) (n:H b=none):(mV h H).get? b=some o :=
 PySem.W.hideAll_get _ e fun hm=>by
  have q:(H b).isSome=true:=(Vb.mp hm).2;rw [n] at q;simp at q
theorem uY {h:UM} {H:Hp} {b:Ta} {o:VH} (e:(mV h H).get? b=some o):h.get? b=some o/\H b=none:=by
 have e':h.get? b=some o:=PySem.W.of_hideAll (trk h H) e;refine ⟨e',?_⟩;cases q:H b with
 | none=>rfl
 | some x =>
   have hm:b∈trk h H:=Vb.mpr ⟨VZ.mpr (Tw e'),by simp [q]⟩;have z:(mV h H).get? b=none:=PySem.W.hideAll_none (trk h H) hm;rw [z] at e;cases e
end L2
namespace L2
open PySem PySem.Spec PyProof.Rows
structure Mod (K:S8) (mg:TY->Option Tc) (base:UM):Prop where
 kin:K.In base
 glob:base.Ns Ue mg
 blt:∃ mb,base.Ns builtinsNs mb/\∀ x:TY,x≠"__name__"->mb x=XU x
 nolimit:base.NoLimit
set_option genInjectivity true in
structure Cx where
 prog:Tv
 w:TN
 K:S8
 mg:TY->Option Tc
 base:UM
 A:Uh
 N:List TY
 s₀:Tj
 H₀:Hp
 env:Env
 outer:List Env
 stack:List Env
 ex:List Ta
 fn:TY->Bool
 calm:Bool
 pn:List (Ta×VH)
 xe:Tc->Tj->Prop
def frs (l:List Env):List Ta:=l.filterMap (·.frame)
abbrev Cx.fs (X:Cx):List Ta:=frs X.outer
def Vis (sc:Xm) (x:TY):Prop:=sc.names.lookup x=some .local∨sc.names.lookup x=some .cell∨sc.names.lookup x=some .free
def Loc (sc:Xm) (x:TY):Prop:=sc.names.lookup x=some .local∨sc.names.lookup x=some .cell
def Look (env:Env) (h:UM) (m:TY->Option Tc) (x:TY) (u:Tc):Prop :=
 (env.kindOf x=some .local/\m x=some u)∨((env.kindOf x=some .cell∨env.kindOf x=some .free)/\∃ c,env.cells.lookup x=some c/\h.IsCell c (some u))
structure Cx.Ok (X:Cx):Prop where
 mod:Mod X.K X.mg X.base
 kind:X.env.scope.kind=.function
 glob:X.env.globals=Ue
 blt:X.env.builtins=builtinsNs
 above:X.s₀.heap.objs.size<=X.env.locals
 inj:∀ x y c,X.env.cells.lookup x=some c->X.env.cells.lookup y=some c->x=y
 has:∀ x,(X.env.kindOf x=some .cell∨X.env.kindOf x=some .free)->∃ c,X.env.cells.lookup x=some c
 cab:∀ x c,X.fn x=true->X.env.cells.lookup x=some c->X.s₀.heap.objs.size<=c
 hd:X.calm=true->X.A.handled=none
 frames:X.A.frames=some X.stack
 stk:X.stack=X.outer∨(X.stack=X.env::X.outer/\X.env.frame=some X.env.locals)
 exf:∀ b∈X.ex,b≠X.env.locals/\∀ x c,X.env.cells.lookup x=some c->c≠b
 bs:∀ b o,X.base.get? b=some o->X.s₀.heap.get? b=some o/\X.H₀ b=none
 bsz:X.base.objs.size<=X.s₀.heap.objs.size
 noex:∀ b o,X.base.get? b=some o->b∉X.ex
 exfs:∀ b∈X.ex,b∉X.fs
 funs:X.s₀.heap.FunFrames X.base X.outer
 frf:∀ b∈X.fs,X.H₀ b=none
structure Inv (X:Cx) (pins:List (Ta×VH)) (σ:List (Option V)) (H:Hp) (s:Tj):Prop where
 ok:X.Ok
 os:s.os=X.s₀.os
 bare:AllBare s.gens
 base:Un X.fs X.ex X.H₀ H X.s₀.heap s.heap
 loc:∃ m,s.heap.Ns X.env.locals m/\∀ (i:Nat) (x:TY) (v:V),X.N[i]?=some x->σ[i]?=some (some v)->Vis X.env.scope x->∃ u,RelV v u/\Look X.env s.heap m x u
 cell:∀ x c,X.env.cells.lookup x=some c->∃ v,s.heap.IsCell c v
 free:H X.env.locals=none
 freeC:∀ x c,X.env.cells.lookup x=some c->H c=none
 pin:∀ p∈X.pn++pins,s.heap.get? p.1=some p.2/\H p.1=none/\p.1≠X.env.locals/\p.1∉X.fs/\∀ v,p.2.data≠.cell v
 hok:HOk X.prog X.w H s.heap
 len:σ.length=X.N.length
section
variable {X:Cx} {pins:List (Ta×VH)} {σ:List (Option V)} {H H':Hp} {s:Tj} {h':UM}
theorem Cx.Ok.nofr (ok:X.Ok) {b:Ta} {o:VH} (e:X.base.get? b=some o):b∉X.fs:=fun hb=>by
 have:=(ok.funs.mem hb).1;rw [e] at this;cases this
theorem Inv.bs (I:Inv X pins σ H s):∀ b o,X.base.get? b=some o->s.heap.get? b=some o/\H b=none:=fun b o e =>
 ⟨I.base.keep b o (I.ok.bs b o e).1 (I.ok.bs b o e).2 (I.ok.nofr e) (I.ok.noex b o e),I.base.free b o (I.ok.bs b o e).1 (I.ok.bs b o e).2 (I.ok.noex b o e)⟩
theorem Inv.bk (I:Inv X pins σ H s):∀ b o,X.base.get? b=some o->s.heap.get? b=some o:=fun b o e=>(I.bs b o e).1
theorem Inv.mod (I:Inv X pins σ H s):Mod X.K X.mg X.base:=I.ok.mod
theorem Inv.kIn (I:Inv X pins σ H s):X.K.In s.heap:=I.ok.mod.kin.keeps I.bk
theorem Inv.lt (I:Inv X pins σ H s):X.env.locals<s.heap.objs.size:=let ⟨_,hn,_⟩:=I.loc;hn.lt
theorem Inv.sz (I:Inv X pins σ H s):X.s₀.heap.objs.size<=s.heap.objs.size:=Ve I.ok.above (WT I.lt)
theorem Inv.nofs (I:Inv X pins σ H s) {a:Ta} (h:s.heap.objs.size<=a):a∉X.fs:=fun hb=>by
 obtain ⟨_,o,ho,_⟩:=I.ok.funs.mem hb;exact absurd (Uv (Tw ho) (Ve I.sz h)) (U0 _)
theorem Inv.cne (I:Inv X pins σ H s):∀ x c,X.env.cells.lookup x=some c->c≠X.env.locals:=fun x c e z=>by
 obtain ⟨v,o,ho,hd⟩:=I.cell x c e;obtain ⟨m,⟨o',es,ep,zQ,zw,_⟩,_⟩:=I.loc;rw [z,zQ] at ho;cases ho;rw [zw] at hd;cases hd
theorem Inv.funs (I:Inv X pins σ H s):s.heap.FunFrames X.base X.outer:=by
 have all:∀ (l:List Env),(∀ b∈frs l,b∈X.fs)->X.s₀.heap.FunFrames X.base l->s.heap.FunFrames X.base l:=by
  intro l;induction l with
  | nil=>intro _ _;trivial
  | cons env r ih =>
    intro hs hl;obtain ⟨hk,⟨L,o,hf,hn,ho,hd⟩,hr⟩:=hl;have hL:L∈X.fs:=hs L (by unfold frs;rw [WX,hf];exact T1);obtain ⟨sl,e⟩:=I.base.slot L o ho (I.ok.frf L hL) hL fun z=>I.ok.exfs L z hL;exact ⟨hk,⟨L,_,hf,hn,e,hd⟩,ih (fun b hb=>hs b (by unfold frs;rw [WX,hf];exact TQ _ hb)) hr⟩
 exact all X.outer (fun _ hb=>hb) I.ok.funs
theorem Inv.stack (I:Inv X pins σ H s):s.heap.FunFrames X.base X.stack:=by
 rcases I.ok.stk with e | ⟨e,hf⟩
 · rw [e];exact I.funs
 · rw [e];obtain ⟨m,hn,_⟩:=I.loc;refine .cons (by rw [I.ok.kind];decide) hf hn ?_ I.funs;exact Heap.get?_none_of_le (Ve I.ok.bsz I.ok.above)
theorem Inv.stkSub (I:Inv X pins σ H s):∀ b∈frs X.stack,b∈X.env.locals::X.fs:=fun b hb=>by
 rcases I.ok.stk with e | ⟨e,hf⟩
 · rw [e] at hb;exact TQ _ hb
 · rw [e] at hb;unfold frs at hb;rw [WX,hf] at hb;exact hb
theorem Inv.stkFree (I:Inv X pins σ H s):∀ b∈frs X.stack,H b=none:=fun b hb=>by
 rcases TF.mp (I.stkSub b hb) with e | hb
 · rw [e];exact I.free
 · obtain ⟨_,o,ho,_⟩:=I.ok.funs.mem hb;exact I.base.free b o ho (I.ok.frf b hb) fun z=>I.ok.exfs b z hb
theorem Inv.step {g':Array GenState} {t':Nat} {d':Drawn} {ch:List Ta} (I:Inv X pins σ H s)
 (CL:∀ b∈ch,(b∈X.ex∨X.s₀.heap.objs.size<=b)/\b≠X.env.locals/\(∀ x c,X.env.cells.lookup x=some c->c≠b)/\∀ p∈X.pn++pins,p.1≠b)
 (keep:∀ b o,b≠X.env.locals->b∉X.fs->b∉ch->s.heap.get? b=some o->H b=none->h'.get? b=some o)
 (slot:∀ b o,b≠X.env.locals->b∈X.fs->b∉ch->s.heap.get? b=some o->H b=none->∃ sl,h'.get? b=some { o with slots:=sl }) (free:∀ b o,b∉ch->s.heap.get? b=some o->H b=none->H' b=none)
 (there:∀ b o,b∉ch->s.heap.get? b=some o->∃ o',h'.get? b=some o')
 (tups:∀ b xs,H b=some (.tup xs)->H' b=some (.tup xs)) (frzs:∀ b o u,H b=some (.frz o u)->H' b=some (.frz o u)) (tbls:∀ b ps,H b=some (.tbl ps)->∃ more,H' b=some (.tbl (ps++more)))
 (ns:∀ m,s.heap.Ns X.env.locals m->h'.Ns X.env.locals m) (hok:HOk X.prog X.w H' h') (hg:AllBare g') :
 Inv X pins σ H' { s with heap:=h',gens:=g',drawn:=d',toks:=t' }:=by
 have Na:∀ b o,X.s₀.heap.get? b=some o->b≠X.env.locals:=fun b o e=>T9 (Uv (Tw e) I.ok.above)
 have Jd:∀ b o,X.s₀.heap.get? b=some o->b∉X.ex->b∉ch:=fun b o e hx hb=>by
  rcases (CL b hb).1 with z | z
  · exact hx z
  · exact absurd (Uv (Tw e) z) (U0 _)
 have cellK:∀ x c,X.env.cells.lookup x=some c->∀ v,s.heap.IsCell c v->h'.IsCell c v:=fun x c e v ⟨o,ho,hd⟩=>by
  have Ga:c∉ch:=fun z=>(CL c z).2.2.1 x c e rfl;by_cases hc:c∈X.fs
  · obtain ⟨sl,q⟩:=slot c o (I.cne x c e) hc Ga ho (I.freeC x c e);exact ⟨_,q,hd⟩
  · exact ⟨o,keep c o (I.cne x c e) hc Ga ho (I.freeC x c e),hd⟩
 refine ⟨I.ok,I.os,hg,⟨fun b o e n hb hx=>?_,fun b o e n hb hx=>?_,fun b o e n hx=>?_,fun b o e hx=>?_,fun b xs e=>tups b xs (I.base.tups b xs e),fun b o xs e=>frzs b o xs (I.base.frzs b o xs e),fun b ps e=>?_⟩,?_,fun x c e=>?_,?_,fun x c e=>?_,fun p hp=>?_,hok,I.len⟩
 · exact keep b o (Na b o e) hb (Jd b o e hx) (I.base.keep b o e n hb hx) (I.base.free b o e n hx)
 · obtain ⟨sl,e1⟩:=I.base.slot b o e n hb hx;obtain ⟨O4,e2⟩:=slot b _ (Na b o e) hb (Jd b o e hx) e1 (I.base.free b o e n hx);exact ⟨O4,e2⟩
 · obtain ⟨o',e1⟩:=I.base.there b o e hx;exact free b o' (Jd b o e hx) e1 (I.base.free b o e n hx)
 · obtain ⟨o',e1⟩:=I.base.there b o e hx;exact there b o' (Jd b o e hx) e1
 · obtain ⟨m1,e1⟩:=I.base.tbls b ps e;obtain ⟨m2,e2⟩:=tbls b _ e1;exact ⟨m1++m2,by rw [e2,Array.append_assoc]⟩
 · obtain ⟨m,hn,hl⟩:=I.loc;refine ⟨m,ns m hn,fun i x v e1 e2 e3=>?_⟩;obtain ⟨u,r,l⟩:=hl i x v e1 e2 e3;refine ⟨u,r,?_⟩;rcases l with l | ⟨k,c,e,z⟩
   · exact .inl l
   · exact .inr ⟨k,c,e,cellK x c e _ z⟩
 · obtain ⟨v,z⟩:=I.cell x c e;exact ⟨v,cellK x c e v z⟩
 · obtain ⟨m,⟨o,_,_,ho,_⟩,_⟩:=I.loc;exact free _ o (fun z=>(CL _ z).2.1 rfl) ho I.free
 · obtain ⟨v,o,ho,hd⟩:=I.cell x c e;exact free c o (fun z=>(CL c z).2.2.1 x c e rfl) ho (I.freeC x c e)
 · obtain ⟨e,n,ne,nf,d⟩:=I.pin p hp;have Ga:p.1∉ch:=fun z=>(CL p.1 z).2.2.2 p hp rfl;exact ⟨keep p.1 p.2 ne nf Ga e n,free p.1 p.2 Ga e n,ne,nf,d⟩
theorem Inv.un {t':Nat} (I:Inv X pins σ H s) (u:Un X.fs [] H H' s.heap h') (hok:HOk X.prog X.w H' h'):Inv X pins σ H' { s with heap:=h',toks:=t' }:=by
 obtain ⟨m,⟨o,es,ep,ho,r⟩,_⟩:=id I.loc;obtain ⟨sl,hL⟩:=u.any ho I.free (by simp)
 exact I.step (g':=s.gens) (d':=s.drawn) (ch:=[]) (fun _ z=>nomatch z) (fun b o _ hb _ e n=>u.keep b o e n hb (by simp)) (fun b o _ hb _ e n=>u.slot b o e n hb (by simp)) (fun b o _ e n=>u.free b o e n (by simp)) (fun b o _ e=>u.there b o e (by simp)) u.tups u.frzs u.tbls (fun m' hm=>by
  obtain ⟨o',JZ,J0,zQ,r'⟩:=hm;rw [ho] at zQ;cases zQ;exact ⟨_,JZ,J0,hL,r'⟩) hok I.bare
theorem Inv.call {g':Array GenState} {t':Nat} {d':Drawn} {ch:List Ta} (I:Inv X pins σ H s) (u:Un (frs X.stack) ch H H' s.heap h') (hok:HOk X.prog X.w H' h') (hg:AllBare g')
 (CL:∀ b∈ch,(b∈X.ex∨X.s₀.heap.objs.size<=b)/\b≠X.env.locals/\(∀ x c,X.env.cells.lookup x=some c->c≠b)/\∀ p∈X.pn++pins,p.1≠b) :
 Inv X pins σ H' { s with heap:=h',gens:=g',drawn:=d',toks:=t' }:=by
 obtain ⟨m,⟨o,es,ep,ho,r⟩,_⟩:=id I.loc;obtain ⟨sl,hL⟩:=u.any ho I.free fun z=>(CL _ z).2.1 rfl
 exact I.step (ch:=ch) CL (fun b o hL hb hc e n=>u.keep b o e n (fun z=>(TF.mp (I.stkSub b z)).elim hL hb) hc) (fun b o _ _ hc e n=>u.any e n hc) (fun b o hc e n=>u.free b o e n hc) (fun b o hc e=>u.there b o e hc) u.tups u.frzs u.tbls (fun m' hm=>by
  obtain ⟨o',JZ,J0,zQ,r'⟩:=hm;rw [ho] at zQ;cases zQ;exact ⟨_,JZ,J0,hL,r'⟩) hok hg
theorem Inv.turned {t':Nat} {it:Ta} (I:Inv X pins σ H s) (k:∀ b o,b≠it->s.heap.get? b=some o->h'.get? b=some o) (hn:H it=none) (hL:it≠X.env.locals)
 (h1:it∈X.ex∨X.s₀.heap.objs.size<=it) (h2:∀ x c,X.env.cells.lookup x=some c->c≠it) (h3:∀ p∈X.pn++pins,p.1≠it):Inv X pins σ H { s with heap:=h',toks:=t' }:=by
 have Ge:∀ b u,H b=some u->b≠it:=fun b u e z=>by rw [z,hn] at e;cases e
 refine I.step (g':=s.gens) (d':=s.drawn) (ch:=[it]) (fun b hb=>?_) (fun b o _ _ hc e _=>k b o (fun z=>hc (by simp [z])) e) (fun b o _ _ hc e _=>⟨o.slots,k b o (fun z=>hc (by simp [z])) e⟩) (fun _ _ _ _ n=>n)
  (fun b o hc e=>⟨o,k b o (fun z=>hc (by simp [z])) e⟩) (fun _ _ e=>e) (fun _ _ _ e=>e) (fun b ps e=>⟨#[],by rw [e];simp⟩) (fun m hm=>?_) (fun b u e=>?_) I.bare
 · have e:b=it:=by simpa using hb
   subst e;exact ⟨h1,hL,h2,h3⟩
 · obtain ⟨o,es,ep,ho,r⟩:=hm;exact ⟨o,es,ep,k _ o (Vi hL) ho,r⟩
 · refine (I.hok b u e).stay (fun c v hc q=>k c v ?_ q) (fun _ q=>q) fun _ _ q=>q;rcases hc with z | z
   · rw [z];exact Ge b u e
   · exact Ge c _ z
theorem Inv.tok (I:Inv X pins σ H s) (t:Nat):Inv X pins σ H { s with toks:=t }:=I.un (h':=s.heap) (t':=t) Un.refl I.hok
theorem Inv.kept {t':Nat} (I:Inv X pins σ H s) (k:∀ b u,s.heap.get? b=some u->h'.get? b=some u):Inv X pins σ H { s with heap:=h',toks:=t' }:=I.un (Un.kept k) (I.hok.kept k)
theorem Inv.laid {a:Ta} {o:HO} {t':Nat} (I:Inv X pins σ H s) (k:∀ b u,s.heap.get? b=some u->h'.get? b=some u) (hp:s.heap.objs.size<=a) (new:ObjOk X.prog X.w (upd H a o) h' a o) :
 Inv X pins σ (upd H a o) { s with heap:=h',toks:=t' }:=I.un (Un.laid k hp (I.hok.fresh hp)) (I.hok.laid k hp new)
theorem Inv.write {x e:Ta} {o:HO} {t':Nat} (I:Inv X pins σ H s) (mu:Mut (H x)) (he:e=x∨H e=some (.own x)) (k:∀ b u,b≠e->s.heap.get? b=some u->h'.get? b=some u) (Fy:∃ u,h'.get? e=some u)
 (new:ObjOk X.prog X.w (upd H x o) h' x o):Inv X pins σ (upd H x o) { s with heap:=h',toks:=t' }:=I.un (Un.write mu he k Fy) (I.hok.write mu he k Fy new)
theorem Inv.weak {xS:List (Option V)} (I:Inv X pins σ H s) (hl:xS.length=σ.length) (w:∀ (i:Nat) v,xS[i]?=some (some v)->σ[i]?=some (some v)):Inv X pins xS H s :=
 ⟨I.ok,I.os,I.bare,I.base,let ⟨m,hn,J1⟩:=I.loc;⟨m,hn,fun i x v e1 e2 e3=>J1 i x v e1 (w i v e2) e3⟩,I.cell,I.free,I.freeC,I.pin,I.hok,hl.trans I.len⟩
theorem Inv.pins_of {DO:List (Ta×VH)} (I:Inv X pins σ H s) (h:∀ p∈DO,s.heap.get? p.1=some p.2/\H p.1=none/\p.1≠X.env.locals/\p.1∉X.fs/\∀ v,p.2.data≠.cell v):Inv X DO σ H s :=
 ⟨I.ok,I.os,I.bare,I.base,I.loc,I.cell,I.free,I.freeC,fun p hp=>(Ul.mp hp).elim (fun z=>I.pin p (Uq _ z)) (h p),I.hok,I.len⟩
theorem pw {N:List TY} (hN:N.Nodup) {i j:Nat} {x:TY} (a:N[i]?=some x) (b:N[j]?=some x):i=j:=by
 obtain ⟨h1,e1⟩:=Te.mp a;obtain ⟨h2,e2⟩:=Te.mp b;exact (List.getElem_inj hN).mp (e1.trans e2.symm)
theorem mz {M:Model} {A:Uh} {E:Tc->Tj->Prop} {i:Nat} {x:TY} {v:V} {u:Tc} {Q:Unit->Tj->Prop} (I:Inv X pins σ H s) (hN:X.N.Nodup) (hi:X.N[i]?=some x) (hx:Loc X.env.scope x) (r:RelV v u)
 (h:∀ s',Inv X pins (σ.set i (some v)) H s'->(∃ a,Vj a s.heap s'.heap/\(a=X.env.locals∨X.env.cells.lookup x=some a))->Q () s') (hf:X.fn x=true∨X.env.scope.names.lookup x=some .local:=by first | exact .inl rfl | exact .inr rfl | assumption):Tx M A (storeName X.env x u) Q E s:=by
 obtain ⟨m,hn,hl⟩:=id I.loc;have J2:(X.env.scope.kind == .class || (X.env.scope.kind == .module && X.env.locals != X.env.globals))=false:=by rw [I.ok.kind];rfl
 have Gf:i<σ.length:=by rw [I.len];exact (Te.mp hi).1
 have cne:=I.cne
 have tracked:∀ {a:Ta} {h':UM},(∃ o,s.heap.get? a=some o/\H a=none)->Vj a s.heap h'->HOk X.prog X.w H h':=fun {a h'} ha hs b ob e=>by
  obtain ⟨_,_,DQ⟩:=ha;refine (I.hok b ob e).stay (fun c w' hc q=>(hs.2 c ?_).trans q) (fun _ q=>q) fun _ _ q=>q;rintro rfl;rcases hc with rfl | hc
  · rw [DQ] at e;cases e
  · rw [DQ] at hc;cases hc
 rcases hx with hk | hk
 · refine wpAny_storeName_local hk hn (fun h' O5 hs=>?_) J2;obtain ⟨oL,_,_,O6,_⟩:=id hn;refine h _ ⟨I.ok,I.os,I.bare,⟨fun b o e n hb hx=>?_,fun b o e n hb hx=>?_,I.base.free,fun b o e hx=>?_,I.base.tups,I.base.frzs,I.base.tbls⟩,⟨_,O5,fun j y v' e1 e2 e3=>?_⟩,fun y c e=>?_,I.free,I.freeC,fun p hp=>?_,tracked ⟨oL,O6,I.free⟩ hs,by simpa using I.len⟩ ⟨_,hs,.inl rfl⟩
   · exact (hs.2 b (T9 (Uv (Tw e) I.ok.above))).trans (I.base.keep b o e n hb hx)
   · obtain ⟨sl,e1⟩:=I.base.slot b o e n hb hx;exact ⟨sl,(hs.2 b (T9 (Uv (Tw e) I.ok.above))).trans e1⟩
   · obtain ⟨o',e1⟩:=I.base.there b o e hx;exact ⟨o',(hs.2 b (T9 (Uv (Tw e) I.ok.above))).trans e1⟩
   · by_cases hj:j=i
     · subst hj;rw [hi] at e1;cases e1;rw [List.getElem?_set_self Gf] at e2;cases e2;exact ⟨u,r,.inl ⟨hk,by simp⟩⟩
     · rw [Ys (Vi hj)] at e2;obtain ⟨u',r',q⟩:=hl j y v' e1 e2 e3;refine ⟨u',r',?_⟩;rcases q with ⟨k,e⟩ | ⟨k,c,e,z⟩
       · refine .inl ⟨k,?_⟩;have:y≠x:=fun e=>hj (pw hN e1 (e ▸ hi));simp [this,e]
       · exact .inr ⟨k,c,e,z.sameBut hs (cne y c e)⟩
   · obtain ⟨w',z⟩:=I.cell y c e;exact ⟨w',z.sameBut hs (cne y c e)⟩
   · obtain ⟨e,n,ne,nf,d⟩:=I.pin p hp;exact ⟨(hs.2 p.1 ne).trans e,n,ne,nf,d⟩
 · have J3:X.fn x=true:=by
    rcases hf with z | z
    · exact z
    · rw [z] at hk;cases hk
   obtain ⟨c,hc⟩:=I.ok.has x (.inl hk);obtain ⟨w',z⟩:=I.cell x c hc;refine wpAny_storeName_cell I.ok.kind hk hc z (fun h' zc hs=>?_);obtain ⟨oc,Nb,J4⟩:=id z;refine h { s with heap:=h' } ⟨I.ok,I.os,I.bare,⟨fun b o e n hb hx=>?_,fun b o e n hb hx=>?_,I.base.free,fun b o e hx=>?_,I.base.tups,I.base.frzs,I.base.tbls⟩,⟨m,hn.sameBut hs (Vi (cne x c hc)),fun j y v' e1 e2 e3=>?_⟩,fun y c' e=>?_,I.free,I.freeC,fun p hp=>?_,tracked ⟨oc,Nb,I.freeC x c hc⟩ hs,by simpa using I.len⟩ ⟨c,hs,.inr hc⟩
   · exact (hs.2 b (T9 (Uv (Tw e) (I.ok.cab x c J3 hc)))).trans (I.base.keep b o e n hb hx)
   · obtain ⟨sl,e1⟩:=I.base.slot b o e n hb hx;exact ⟨sl,(hs.2 b (T9 (Uv (Tw e) (I.ok.cab x c J3 hc)))).trans e1⟩
   · obtain ⟨o',e1⟩:=I.base.there b o e hx;exact ⟨o',(hs.2 b (T9 (Uv (Tw e) (I.ok.cab x c J3 hc)))).trans e1⟩
   · by_cases hj:j=i
     · subst hj;rw [hi] at e1;cases e1;rw [List.getElem?_set_self Gf] at e2;cases e2;exact ⟨u,r,.inr ⟨.inl hk,c,hc,zc⟩⟩
     · rw [Ys (Vi hj)] at e2;obtain ⟨u',r',q⟩:=hl j y v' e1 e2 e3;refine ⟨u',r',?_⟩;rcases q with q | ⟨k,c',e,z'⟩
       · exact .inl q
       · refine .inr ⟨k,c',e,z'.sameBut hs ?_⟩;rintro rfl;exact hj (pw hN e1 (I.ok.inj _ _ _ e hc ▸ hi))
   · by_cases Nc:c'=c
     · subst Nc;exact ⟨_,zc⟩
     · obtain ⟨w2,z2⟩:=I.cell y c' e;exact ⟨w2,z2.sameBut hs Nc⟩
   · obtain ⟨e,n,ne,nf,d⟩:=I.pin p hp;refine ⟨(hs.2 p.1 ?_).trans e,n,ne,nf,d⟩;intro q;rw [q,Nb] at e;have q':oc=p.2:=TV e;exact d w' (by rw [<- q'];exact J4)
theorem kh {M:Model} {A:Uh} {E:Tc->Tj->Prop} {i:Nat} {x:TY} {v:V} {u:Tc} {Q:Unit->Tj->Prop} (I:Inv X pins σ H s) (hN:X.N.Nodup) (hi:X.N[i]?=some x) (hx:Loc X.env.scope x) (r:RelV v u)
 (h:∀ s',Inv X pins (σ.set i (some v)) H s'->Q () s') (hf:X.fn x=true∨X.env.scope.names.lookup x=some .local:=by first | exact .inl rfl | exact .inr rfl | assumption):Tx M A (storeName X.env x u) Q E s :=
 mz I hN hi hx r (fun s' I' _=>h s' I') hf
theorem Inv.call' {s':Tj} {ch:List Ta} (I:Inv X pins σ H s) (ho:s'.os=s.os) (u:Un (frs X.stack) ch H H' s.heap s'.heap) (hok:HOk X.prog X.w H' s'.heap) (hg:AllBare s'.gens)
 (CL:∀ b∈ch,(b∈X.ex∨X.s₀.heap.objs.size<=b)/\b≠X.env.locals/\(∀ x c,X.env.cells.lookup x=some c->c≠b)/\∀ p∈X.pn++pins,p.1≠b):Inv X pins σ H' s':=by
 obtain ⟨h',g',d',t',o'⟩:=s';have e:o'=s.os:=ho;subst e;exact I.call (g':=g') (t':=t') (d':=d') u hok hg CL
end
abbrev XK:=Tc->Option Ta->Hp->Prop
abbrev St:=List (Option V)
abbrev VK:=V->Hp->Prop
abbrev TE:=St->Hp->VK->Prop
abbrev TT:=St->Hp->(Bool->Hp->Prop)->Prop
abbrev TA:=St->Hp->(List V->Hp->Prop)->Prop
structure Ends where
 nx:St->Hp->Prop
 rt:VK
 bk:St->Hp->Prop:=fun _ _=>False
 ct:St->Hp->Prop:=fun _ _=>False
abbrev TS:=Ends->St->Hp->Prop
def EP (X:Cx) (pins:List (Ta×VH)) (σ:St) (Q:VK) (u:Tc) (s':Tj):Prop:=∃ v H',Inv X pins σ H' s'/\RelV v u/\Q v H'
def TP (X:Cx) (pins:List (Ta×VH)) (σ:St) (Q:Bool->Hp->Prop) (b:Bool) (s':Tj):Prop:=∃ H',Inv X pins σ H' s'/\Q b H'
def AP (X:Cx) (pins:List (Ta×VH)) (σ:St) (Q:List V->Hp->Prop) (us:List Tc) (s':Tj):Prop:=∃ vs H',Inv X pins σ H' s'/\Vals vs us/\Q vs H'
def SP (X:Cx) (pins:List (Ta×VH)) (D:Ends) (f:Flow) (s':Tj):Prop :=
 match f with
 | .next=>∃ xS H',Inv X pins xS H' s'/\D.nx xS H'
 | .brk=>∃ xS H',Inv X pins xS H' s'/\D.bk xS H'
 | .cont=>∃ xS H',Inv X pins xS H' s'/\D.ct xS H'
 | .ret u=>∃ v xS H',Inv X pins xS H' s'/\RelV v u/\D.rt v H'
def PE (X:Cx) (e:UH) (t:TE):Prop :=
 ∀ (pins:List (Ta×VH)) (s:Tj) (σ:St) (H:Hp) (Q:VK),Inv X pins σ H s->t σ H Q->Tx (T6 X.prog X.w) X.A (VS e X.env) (EP X pins σ Q) X.xe s
def PT (X:Cx) (e:UH) (t:TT):Prop :=
 ∀ (pins:List (Ta×VH)) (s:Tj) (σ:St) (H:Hp) (Q:Bool->Hp->Prop),Inv X pins σ H s->t σ H Q->Tx (T6 X.prog X.w) X.A (isTrue e X.env (VS e X.env)) (TP X pins σ Q) X.xe s
def PW (X:Cx) (e:UH) (t:TT):Prop :=
 ∀ (whole:Sem Tc) (pins:List (Ta×VH)) (s:Tj) (σ:St) (H:Hp) (Q:Bool->Hp->Prop),Inv X pins σ H s->t σ H Q->Tx (T6 X.prog X.w) X.A (isTrue e X.env whole) (TP X pins σ Q) X.xe s
theorem PW.pt {X:Cx} {e:UH} {t:TT} (h:PW X e t):PT X e t:=h _
def PA (X:Cx) (es:List UH) (t:TA):Prop :=
 ∀ (pos:Xn) (pins:List (Ta×VH)) (s:Tj) (σ:St) (H:Hp) (Q:List V->Hp->Prop),Inv X pins σ H s->t σ H Q->Tx (T6 X.prog X.w) X.A (spliced (Xv pos (Uu es X.env))) (AP X pins σ Q) X.xe s
def PS (X:Cx) (st:Vo) (t:TS):Prop :=
 ∀ (pins:List (Ta×VH)) (s:Tj) (σ:St) (H:Hp) (D:Ends),Inv X pins σ H s->t D σ H->Tx (T6 X.prog X.w) X.A (exec st X.env) (SP X pins D) X.xe s
def PSs (X:Cx) (st:List Vo) (t:TS):Prop :=
 ∀ (pins:List (Ta×VH)) (s:Tj) (σ:St) (H:Hp) (D:Ends),Inv X pins σ H s->t D σ H->Tx (T6 X.prog X.w) X.A (execs st X.env) (SP X pins D) X.xe s
theorem thn {α:Type} {t:Sem α} {Q Q':α->Tj->Prop} {M:Model} {A:Uh} {E:Tc->Tj->Prop} {s:Tj} (h:Tx M A t Q E s) (hQ:∀ a s,Q a s->Q' a s):Tx M A t Q' E s:=VC h hQ fun _ _ x=>x
end L2
namespace L2
open PySem PySem.Spec PyProof.Rows
section
variable {X:Cx}
inductive u8 (i:Nat) (σ:St) (H:Hp) (Q:VK):Prop
 | mk (v:_) (yd:σ[i]?=some (some v)) (ye:Q v H):u8 i σ H Q
def bC (i:Nat):TE:=u8 i
def tC (v:V):TE:=fun _ H Q=>Q v H
theorem v8 {i:Nat} {x:TY} {pos:Xn} (hN:X.N[i]?=some x) (hv:Vis X.env.scope x) (hd:(x == ("__debug__":TY))=false:=by decide) (B4:(x == ("__classdict__":TY))=false:=by decide):PE X (.Name x pos) (bC i):=by
 intro pins s σ H Q I h;obtain ⟨v,e,h⟩:=h;obtain ⟨m,hn,hl⟩:=I.loc;obtain ⟨u,r,l⟩:=hl i x v hN e hv;have fin:EP X pins σ Q u s:=⟨v,H,I,r,h⟩;rcases l with ⟨hk,hm⟩ | ⟨hk,c,hc,Bf⟩
 · exact wpAny_Name (wpAny_loadName_local I.ok.kind hk hn hm fin) hd
 · rcases hk with hk | hk
   · exact wpAny_Name (wpAny_loadName_cell I.ok.kind hk hc Bf fin) hd
   · exact wpAny_Name (wpAny_loadName_free I.ok.kind hk hc Bf fin B4) hd
theorem af {i j pos}:PE X (.Constant (.int i) j pos) (tC (.int i)):=fun _ _ _ H _ I h=>wpAny_Constant_int ⟨.int i,H,I.tok _,⟨_,rfl⟩,h⟩
theorem d4 {b j pos}:PE X (.Constant (.bool b) j pos) (tC (.bl b)):=fun _ _ _ H _ I h=>Constant_bool ⟨.bl b,H,I,rfl,h⟩
theorem pY {j pos}:PE X (.Constant .none j pos) (tC .non):=fun _ _ _ H _ I h=>Constant_none ⟨.non,H,I,rfl,h⟩
theorem gg {x j pos}:PE X (.Constant (.str x) j pos) (tC (.str x)):=fun _ _ _ H _ I h=>Calls.Constant_str ⟨.str x,H,I.tok _,⟨_,rfl⟩,h⟩
def Gl (X:Cx) (x:TY):Prop:=X.env.kindOf x=some .globalImplicit
theorem qR {E:Tc->Tj->Prop} {pins:List (Ta×VH)} {s:Tj} {σ:St} {H:Hp} {x:TY} {u:Tc} {pos:Xn} {Q:Tc->Tj->Prop} (I:Inv X pins σ H s) (hg:Gl X x) (hm:X.mg x=some u) (h:Q u s)
 (hd:(x == ("__debug__":TY))=false:=by decide):Tx (T6 X.prog X.w) X.A (VS (.Name x pos) X.env) Q E s :=
 Calls.Name_function_global I.ok.kind hg (Calls.loadGlobal_global (by rw [I.ok.glob];exact I.mod.glob.keeps I.bk) hm h) hd
theorem db {E:Tc->Tj->Prop} {pins:List (Ta×VH)} {s:Tj} {σ:St} {H:Hp} {x:TY} {u:Tc} {pos:Xn} {Q:Tc->Tj->Prop} (I:Inv X pins σ H s) (hg:Gl X x) (hm:X.mg x=none) (hv:XU x=some u) (h:Q u s)
 (hn:x≠"__name__":=by decide) (hd:(x == ("__debug__":TY))=false:=by decide):Tx (T6 X.prog X.w) X.A (VS (.Name x pos) X.env) Q E s:=by
 obtain ⟨mb,h1,h2⟩:=I.mod.blt;exact Calls.Name_function_global I.ok.kind hg (Calls.loadGlobal_builtin (by rw [I.ok.glob];exact I.mod.glob.keeps I.bk) hm (by rw [I.ok.blt];exact h1.keeps I.bk) ((h2 x hn).trans hv) h) hd
theorem gN {x:TY} {v:V} {u:Tc} {pos:Xn} (hg:Gl X x) (hm:X.mg x=some u) (r:RelV v u) (hd:(x == ("__debug__":TY))=false:=by decide):PE X (.Name x pos) (tC v) :=
 fun _ _ _ H _ I h=>qR I hg hm ⟨v,H,I,r,h⟩ hd
theorem ef {x:TY} {v:V} {u:Tc} {pos:Xn} (hg:Gl X x) (hm:X.mg x=none) (hv:XU x=some u) (r:RelV v u) (hn:x≠"__name__":=by decide) (hd:(x == ("__debug__":TY))=false:=by decide):PE X (.Name x pos) (tC v) :=
 fun _ _ _ H _ I h=>db I hg hm hv ⟨v,H,I,r,h⟩ hn hd
variable {a b:UH} {ta tb:TE} {pos:Xn}
def PC (X:Cx) (op:CmpOp) (a b:UH) (t:TE):Prop :=
 ∀ (pins:List (Ta×VH)) (s:Tj) (σ:St) (H:Hp) (Q:VK),Inv X pins σ H s->t σ H Q →
   Tx (T6 X.prog X.w) X.A (VS a X.env) (fun v xT=>Tx (T6 X.prog X.w) X.A (VS b X.env) (fun u yB=>Tx (T6 X.prog X.w) X.A (WN op v u) (EP X pins σ Q) X.xe yB) X.xe xT) X.xe s
def tB (t:TE):TT:=fun σ H Q=>t σ H fun x H1=>∃ c,x=.bl c/\Q c H1
theorem ql {op:CmpOp} {t:TE} (h:PC X op a b t) (h1:Ym op b=false:=by first | exact Gg _ (by decide) (by decide) | rfl):PT X (.Compare a [op] [b] pos) (tB t):=by
 intro pins s σ H Q I hw;refine wpAny_isTrue_Compare1 (thn (h pins s σ H _ I hw) fun v s1 h1=>thn h1 fun u s2 h2=>thn h2 fun c s3 ⟨x,H1,I1,r1,q1⟩=>?_) h1;obtain ⟨d,rfl,q⟩:=q1;cases r1;exact WU ⟨H1,I1,q⟩
variable {tA Je:TT} {rest:List UH}
def xy (t u:TT):TT:=fun σ H Q=>t σ H fun c H1=>if c=true then u σ H1 Q else Q false H1
def tOr (t u:TT):TT:=fun σ H Q=>t σ H fun c H1=>if c=true then Q true H1 else u σ H1 Q
def xx (t:TT):TT:=fun σ H Q=>t σ H fun c H1=>Q (!c) H1
theorem uZ (ha:PT X a tA):PW X (.BoolOp .And [a] pos) tA:=by
 intro wh pins s σ H Q I h;refine isTrue_and (thn (ha pins s σ H Q I h) fun c s1 e=>?_);cases c with
 | true=>exact isTrue_and_nil e
 | false=>exact e
theorem dQ (ha:PT X a tA):PW X (.BoolOp .Or [a] pos) tA:=by
 intro wh pins s σ H Q I h;refine isTrue_or (thn (ha pins s σ H Q I h) fun c s1 e=>?_);cases c with
 | false=>exact isTrue_or_nil e
 | true=>exact e
theorem t9 (ha:PT X a tA) (hb:PW X (.BoolOp .And (b::rest) pos) Je):PW X (.BoolOp .And (a::b::rest) pos) (xy tA Je):=by
 intro wh pins s σ H Q I h;refine isTrue_and (thn (ha pins s σ H _ I h) fun c s1 ⟨H1,I1,q1⟩=>?_);cases c with
 | true=>exact hb wh pins s1 σ H1 Q I1 q1
 | false=>exact ⟨H1,I1,q1⟩
theorem dL (ha:PT X a tA) (hb:PW X (.BoolOp .Or (b::rest) pos) Je):PW X (.BoolOp .Or (a::b::rest) pos) (tOr tA Je):=by
 intro wh pins s σ H Q I h;refine isTrue_or (thn (ha pins s σ H _ I h) fun c s1 ⟨H1,I1,q1⟩=>?_);cases c with
 | true=>exact ⟨H1,I1,q1⟩
 | false=>exact hb wh pins s1 σ H1 Q I1 q1
theorem dO (ha:PT X a tA):PT X (.UnaryOp .Not a pos) (xx tA):=by
 intro pins s σ H Q I h;exact isTrue_not (ha pins s σ H (fun c H1=>Q (!c) H1) I h)
def wI (ta tb:TE):TE:=fun σ H Q=>ta σ H fun x H1=>∃ c,x=.bl c/\if c=true then tb σ H1 Q else Q (.bl false) H1
def wX (ta:TE):TE:=fun σ H Q=>ta σ H fun x H1=>∃ c,x=.bl c/\Q (.bl (!c)) H1
theorem pK {op} {t:TE} (h:PE X a t):PE X (.BoolOp op [a] pos) t:=fun pins s σ H Q I hw=>BoolOp_one (h pins s σ H Q I hw)
theorem nI (ha:PE X a ta) (hb:PE X (.BoolOp .And (b::rest) pos) tb):PE X (.BoolOp .And (a::b::rest) pos) (wI ta tb):=by
 intro pins s σ H Q I h;refine BoolOp_and (thn (ha pins s σ H _ I h) fun v s1 ⟨x,H1,I1,r1,q1⟩=>?_);obtain ⟨c,rfl,q1⟩:=q1;cases r1;refine WU ?_;cases c with
 | true=>exact hb pins s1 σ H1 Q I1 q1
 | false=>exact ⟨.bl false,H1,I1,rfl,q1⟩
theorem sV (ha:PE X a ta):PE X (.UnaryOp .Not a pos) (wX ta):=by
 intro pins s σ H Q I h;refine UnaryOp_ (thn (ha pins s σ H _ I h) fun v s1 ⟨x,H1,I1,r1,q1⟩=>?_);obtain ⟨c,rfl,q1⟩:=q1;cases r1;exact not_of (WU ⟨.bl (!c),H1,I1,rfl,q1⟩)
def tIf (t:TT) (ta tb:TE):TE:=fun σ H Q=>t σ H fun c H1=>if c=true then ta σ H1 Q else tb σ H1 Q
theorem uc {c:UH} (hc:PT X c tA) (ha:PE X a ta) (hb:PE X b tb):PE X (.IfExp c a b pos) (tIf tA ta tb):=by
 intro pins s σ H Q I h;refine wpAny_IfExp (thn (hc pins s σ H _ I h) fun d s1 ⟨H1,I1,q1⟩=>?_);cases d with
 | true=>exact ha pins s1 σ H1 Q I1 q1
 | false=>exact hb pins s1 σ H1 Q I1 q1
end
end L2
namespace L2
open PySem PySem.Spec PyProof.Rows
def SqL (K:S8) (H:Hp) (a:Ta) (xs:List V):Prop :=
 Rd H a (.lst xs) ∨
  ∃ (o:VH) (its:Array Tc) (n:Nat),K.lookup a=some o/\o.cls=.type "list"/\o.dict=none/\o.data=.seq its n/\its.size<=TB/\Vals xs its.toList
def SqT (K:S8) (H:Hp) (a:Ta) (xs:List V):Prop :=
 Rd H a (.tup xs) ∨
  ∃ (o:VH) (its:Array Tc) (n:Nat),K.lookup a=some o/\o.cls=.type "tuple"/\o.data=.seq its n/\its.size<=TB/\Vals xs its.toList
def xA:Tc->Option V
 | .none=>some .non
 | .bool b=>some (.bl b)
 | .int i _=>some (.int i)
 | .str x _=>some (.str x)
 | .bytes b _=>some (.byt b)
 | .float b _=>some (.flt b)
 | .ref a=>some (.ref a)
 | .type n=>some (.ty n)
 | _=>none
theorem RelV.abs {x:V} {u:Tc} (r:RelV x u):xA u=some x:=by
 cases x with
 | non=>cases r;rfl
 | bl _=>cases r;rfl
 | int _=>obtain ⟨t,rfl⟩:=r;rfl
 | str _=>obtain ⟨t,rfl⟩:=r;rfl
 | byt _=>obtain ⟨t,rfl⟩:=r;rfl
 | flt _=>obtain ⟨t,rfl⟩:=r;rfl
 | ref _=>cases r;rfl
 | ty _=>cases r;rfl
theorem RelV.inj {x y:V} {u:Tc} (r:RelV x u) (q:RelV y u):x=y:=TV (r.abs.symm.trans q.abs)
theorem Vals.inj:∀ {xs ys:List V} {us:List Tc},Vals xs us->Vals ys us->xs=ys
 | _,_,_,.nil,.nil=>rfl
 | _,_,_,.cons r t,.cons r' t'=>by rw [r.inj r',Vals.inj t t']
section
variable {X:Cx} {pins:List (Ta×VH)} {σ:St} {H:Hp} {s:Tj} {a:Ta} {xs ys:List V}
theorem SqL.of {K:S8} (h:H a=some (.lst xs)):SqL K H a xs:=.inl (.inl h)
theorem SqT.of {K:S8} (h:H a=some (.tup xs)):SqT K H a xs:=.inl (.inl h)
theorem Inv.list (I:Inv X pins σ H s) (h:SqL X.K H a xs):∃ its:List Tc,Vals xs its/\PlainL s.heap a its.toArray/\xs.length<=TB:=by
 rcases h with h | ⟨o,its,n,hk,hc,hd,hs,hz,r⟩
 · obtain ⟨z,its,n,r,e⟩:=h.ok I.hok;exact ⟨its,r,⟨_,n,e,rfl,rfl,rfl⟩,z⟩
 · refine ⟨its.toList,r,⟨o,n,I.kIn a o hk,hc,hd,by simpa using hs⟩,?_⟩;have e:=r.length;simp only [Ua] at e;omega
theorem Inv.tuple (I:Inv X pins σ H s) (h:SqT X.K H a xs):∃ its:List Tc,Vals xs its/\IsTup s.heap a its.toArray/\xs.length<=TB:=by
 rcases h with h | ⟨o,its,n,hk,hc,hs,hz,r⟩
 · obtain ⟨z,its,n,r,p⟩:=h.ok I.hok;exact ⟨its,r,⟨_,p,rfl,n,rfl⟩,z⟩
 · refine ⟨its.toList,r,⟨o,I.kIn a o hk,hc,n,by simpa using hs⟩,?_⟩;have e:=r.length;simp only [Ua] at e;omega
theorem Inv.list_inj (I:Inv X pins σ H s) (h:SqL X.K H a xs) (h':SqL X.K H a ys):xs=ys:=by
 obtain ⟨its,r,⟨o,n,e,_,_,d⟩,_⟩:=I.list h;obtain ⟨its',r',⟨o',n',e',_,_,d'⟩,_⟩:=I.list h';rw [e] at e';cases e';rw [d] at d';injection d' with d1 _;have:its=its':=by simpa using congrArg YY d1
 subst this;exact r.inj r'
theorem Inv.tuple_inj (I:Inv X pins σ H s) (h:SqT X.K H a xs) (h':SqT X.K H a ys):xs=ys:=by
 obtain ⟨its,r,⟨o,e,_,n,d⟩,_⟩:=I.tuple h;obtain ⟨its',r',⟨o',e',_,n',d'⟩,_⟩:=I.tuple h';rw [e] at e';cases e';rw [d] at d';injection d' with d1 _;have:its=its':=by simpa using congrArg YY d1
 subst this;exact r.inj r'
end
abbrev Cx.wish (X:Cx) (E:Tc->Tj->Prop):Cx:={ X with xe:=E }
abbrev Cx.nox (X:Cx):Cx:=X.wish fun _ _=>False
theorem Cx.Ok.wish {X:Cx} (ok:X.Ok) (E:Tc->Tj->Prop):(X.wish E).Ok :=
 ⟨ok.mod,ok.kind,ok.glob,ok.blt,ok.above,ok.inj,ok.has,ok.cab,ok.hd,ok.frames,ok.stk,ok.exf,ok.bs,ok.bsz,ok.noex,ok.exfs,ok.funs,ok.frf⟩
theorem Cx.Ok.unwish {X:Cx} {E:Tc->Tj->Prop} (ok:(X.wish E).Ok):X.Ok :=
 ⟨ok.mod,ok.kind,ok.glob,ok.blt,ok.above,ok.inj,ok.has,ok.cab,ok.hd,ok.frames,ok.stk,ok.exf,ok.bs,ok.bsz,ok.noex,ok.exfs,ok.funs,ok.frf⟩
section
variable {X:Cx} {pins:List (Ta×VH)} {σ:St} {H:Hp} {s:Tj} {E:Tc->Tj->Prop}
theorem Inv.wish (I:Inv X pins σ H s) (E:Tc->Tj->Prop):Inv (X.wish E) pins σ H s:=⟨I.ok.wish E,I.os,I.bare,I.base,I.loc,I.cell,I.free,I.freeC,I.pin,I.hok,I.len⟩
theorem Inv.unwish (I:Inv (X.wish E) pins σ H s):Inv X pins σ H s:=⟨I.ok.unwish,I.os,I.bare,I.base,I.loc,I.cell,I.free,I.freeC,I.pin,I.hok,I.len⟩
theorem SP.unwish {D:Ends} {f:Flow} {s':Tj} (h:SP (X.wish E) pins D f s'):SP X pins D f s':=by
 cases f with
 | next=>obtain ⟨xS,H',I,q⟩:=h;exact ⟨xS,H',I.unwish,q⟩
 | brk=>obtain ⟨xS,H',I,q⟩:=h;exact ⟨xS,H',I.unwish,q⟩
 | cont=>obtain ⟨xS,H',I,q⟩:=h;exact ⟨xS,H',I.unwish,q⟩
 | ret u=>obtain ⟨v,xS,H',I,r,q⟩:=h;exact ⟨v,xS,H',I.unwish,r,q⟩
theorem PSs.nox {st:List Vo} {t:TS} (h:PSs X.nox st t):PSs X st t:=fun pins s σ H D I hw =>
 VC (h pins s σ H D (I.wish _) hw) (fun _ _ q=>q.unwish) fun _ _ z=>WL z
end
section
variable {X:Cx} {st:Vo} {rest:List Vo} {t u:TS} {e:UH} {te:TE} {pos:Xn}
def rj:TS:=fun D σ H=>D.nx σ H
def vP (t u:TS):TS:=fun D σ H=>t { D with nx:=u D } σ H
theorem bj:PSs X [] rj:=fun _ _ σ H _ I h=>YB ⟨σ,H,I,h⟩
theorem ae (h1:PS X st t) (h2:PSs X rest u):PSs X (st::rest) (vP t u):=by
 intro pins s σ H D I h;refine wpAny_execs_cons (thn (h1 pins s σ H { D with nx:=u D } I h) fun f s1 q=>?_);cases f with
 | next =>
   obtain ⟨xS,H',I',q⟩:=q;exact h2 pins s1 xS H' D I' q
 | ret v=>exact q
 | brk=>exact q
 | cont=>exact q
theorem ag (h1:PS X st t):PSs X [st] t:=by
 intro pins s σ H D I h;refine wpAny_execs_cons (thn (h1 pins s σ H D I h) fun f s1 q=>?_);cases f with
 | next=>exact YB q
 | ret v=>exact q
 | brk=>exact q
 | cont=>exact q
theorem Inv.quiet {pins:List (Ta×VH)} {σ:St} {H:Hp} {s:Tj} (I:Inv X pins σ H s):interactive X.env=false:=by simp [interactive,I.ok.kind]
def wx (te:TE):TS:=fun D σ H=>te σ H fun _ H1=>D.nx σ H1
theorem aP (he:PE X e te) (hs:swapsWith e none pos.line X.env=pure false:=by rfl):PS X (.Expr e pos) (wx te):=by
 intro pins s σ H D I h;exact wpAny_Expr_any (thn (he pins s σ H _ I h) fun v s1 ⟨x,H1,I1,r1,q1⟩=>⟨σ,H1,I1,q1⟩) I.quiet hs
def xv (te:TE):TS:=fun D σ H=>te σ H D.rt
theorem aC (he:PE X e te):PS X (.Return (some e) pos) (xv te):=by
 intro pins s σ H D I h;exact wpAny_Return_some (thn (he pins s σ H _ I h) fun v s1 ⟨x,H1,I1,r1,q1⟩=>⟨x,σ,H1,I1,r1,q1⟩)
def xf (c:TT) (t u:TS):TS:=fun D σ H=>c σ H fun b H1=>if b=true then t D σ H1 else u D σ H1
theorem bE {c:UH} {a b:List Vo} {tc:TT} (hc:PT X c tc) (ha:PSs X a t) (hb:PSs X b u):PS X (.If c a b pos) (xf tc t u):=by
 intro pins s σ H D I h;refine wpAny_If (thn (hc pins s σ H _ I h) fun d s1 ⟨H1,I1,q1⟩=>?_);cases d with
 | true=>exact ha pins s1 σ H1 D I1 q1
 | false=>exact hb pins s1 σ H1 D I1 q1
end
abbrev TG:=V->St->Hp->(St->Hp->Prop)->Prop
abbrev TGs:=List V->St->Hp->(St->Hp->Prop)->Prop
def PG (X:Cx) (target:UH) (t:TG):Prop :=
 ∀ (pins:List (Ta×VH)) (s:Tj) (σ:St) (H:Hp) (v:V) (u:Tc) (Q:St->Hp->Prop),Inv X pins σ H s->RelV v u->t v σ H Q →
   Tx (T6 X.prog X.w) X.A (assign target X.env u) (fun _ s'=>∃ xS H',Inv X pins xS H' s'/\Q xS H') X.xe s
def PGs (X:Cx) (ts:List UH) (t:TGs):Prop :=
 ∀ (pins:List (Ta×VH)) (s:Tj) (σ:St) (H:Hp) (vs:List V) (us:List Tc) (Q:St->Hp->Prop),Inv X pins σ H s->Vals vs us->t vs σ H Q →
   Tx (T6 X.prog X.w) X.A (assignInOrder ((Yx ts X.env).map (·.2)) us) (fun _ s'=>∃ xS H',Inv X pins xS H' s'/\Q xS H') X.xe s
abbrev wf:=V->V->V->Hp->(Hp->Prop)->Prop
def wH (X:Cx) (t:wf):Prop :=
 ∀ (pins:List (Ta×VH)) (s:Tj) (σ:St) (H:Hp) (o i v:V) (ov iv u:Tc) (Q:Hp->Prop),Inv X pins σ H s->RelV o ov->RelV i iv->RelV v u->t o i v H Q →
   Tx (T6 X.prog X.w) X.A (setItem ov iv u) (fun _ s'=>∃ H',Inv X pins σ H' s'/\Q H') X.xe s
abbrev TIp:=V->V->Hp->VK->Prop
def PIp (X:Cx) (op:Operator) (t:TIp):Prop :=
 ∀ (pins:List (Ta×VH)) (s:Tj) (σ:St) (H:Hp) (x y:V) (v u:Tc) (Q:VK),Inv X pins σ H s->RelV x v->RelV y u->t x y H Q →
   Tx (T6 X.prog X.w) X.A (inplaceOp op v u) (EP X pins σ Q) X.xe s
section
variable {X:Cx} {pos:Xn}
def aF (i:Nat):TG:=fun v σ H Q=>Q (σ.set i (some v)) H
theorem aj {i:Nat} {x:TY} (hN:X.N.Nodup) (hi:X.N[i]?=some x) (hx:Loc X.env.scope x) (hf:X.fn x=true∨X.env.scope.names.lookup x=some .local:=by first | exact .inl rfl | exact .inr rfl | assumption):PG X (.Name x pos) (aF i):=by
 intro pins s σ H v u Q I r h;exact wpAny_assign_Name (kh I hN hi hx r (fun s' I'=>⟨_,H,I',h⟩) hf)
def lR:TGs:=fun vs σ H Q=>vs=[]/\Q σ H
def cT (t:TG) (u:TGs):TGs:=fun vs σ H Q=>∃ v r,vs=v::r/\t v σ H fun xS H'=>u r xS H' Q
theorem aX:PGs X [] lR:=by
 intro pins s σ H vs us Q I r h;obtain ⟨e,h⟩:=h;subst e;cases r;exact assignInOrder_nil ⟨σ,H,I,h⟩
theorem au {e:UH} {es:List UH} {t:TG} {u:TGs} (h1:PG X e t) (h2:PGs X es u)
 (hs:(Yx (e::es) X.env).map (·.2)=assign e X.env::(Yx es X.env).map (·.2):=by rfl):PGs X (e::es) (cT t u):=by
 intro pins s σ H vs us Q I r h;obtain ⟨v,vr,e1,h⟩:=h;subst e1;cases r with
 | cons r rr =>
   rw [hs];refine assignInOrder_cons (thn (h1 pins s σ H _ _ _ I r h) fun _ s1 ⟨zM,H1,I1,q1⟩=>?_);exact h2 pins s1 zM H1 _ _ Q I1 rr q1
def lX (K:S8) (n:Nat) (t:TGs):TG:=fun v σ H Q=>∃ a xs,v=.ref a/\SqT K H a xs/\xs.length=n/\t xs σ H Q
theorem bu {es:List UH} {k:Nat} {t:TGs} {n:Nat} (hc:X.calm=true) (h:PGs X es t)
 (hn:(Yx es X.env).length=n:=by rfl) (yQ:(Yx es X.env).findIdx? (·.1)=none:=by rfl):PG X (.Tuple es k pos) (lX X.K n t):=by
 intro pins s σ H v u Q I r hw;obtain ⟨a,xs,e1,hq,hl,hw⟩:=hw;subst e1;cases r;obtain ⟨its,rv,ht,hz⟩:=I.tuple hq;refine assign_Tuple_tuple (I.ok.hd hc) ht (by simp [hn,<- hl,rv.length]) yQ fun h' hx=>?_;have I1:Inv X pins σ H { s with heap:=h' }:=I.kept (t':=s.toks) fun b o e=>hx b o (T9 (Tw e)) e;exact h pins _ σ H xs _ Q I1 (by simpa using rv) hw
def xl (to ti:TE) (t:wf):TG:=fun v σ H Q=>to σ H fun o H1=>ti σ H1 fun i H2=>t o i v H2 fun H3=>Q σ H3
theorem jh {o i:UH} {to ti:TE} {t:wf} (ho:PE X o to) (hi:PE X i ti) (hs:wH X t)
 (ha:∀ v,assign (.Subscript o i pos) X.env v=(do
  let ov ← holding [v] (VS o X.env)
  let iv ← holding [v,ov] (VS i X.env)
  standAt pos
  holding [v,ov,iv] (setItem ov iv v)
  release [v,ov,iv] []):=by intro _;rfl):PG X (.Subscript o i pos) (xl to ti t):=by
 intro pins s σ H v u Q I r h;rw [ha];refine S7 (UW (thn (ho pins s σ H _ I h) fun ov s1 ⟨x,H1,I1,r1,q1⟩=>?_));refine S7 (UW (thn (hi pins s1 σ H1 _ I1 q1) fun iv s2 ⟨y,H2,I2,r2,q2⟩=>?_));refine S7 (wpAny_standAt (S7 (UW (thn (hs pins s2 σ H2 x y v ov iv u _ I2 r1 r2 r q2) fun _ s3 ⟨H3,I3,q3⟩=>?_))));exact wpAny_release ⟨σ,H3,I3,q3⟩
def wk (te:TE) (g:TG):TS:=fun D σ H=>te σ H fun x H1=>g x σ H1 D.nx
theorem cK {tg e:UH} {te:TE} {g:TG} (he:PE X e te) (hg:PG X tg g) (hs:swapsWithSole [tg] e pos.line X.env=pure false:=by rfl) (hw:swappedStores [tg] e X.env=pure none:=by rfl)
 (h1:(Yx [tg] X.env).map (·.2)=[assign tg X.env]:=by rfl):PS X (.Assign [tg] e pos) (wk te g):=by
 intro pins s σ H D I h;refine wpAny_Assign_stores (thn (he pins s σ H _ I h) fun v s1 ⟨x,H1,I1,r1,q1⟩=>?_) hs hw;rw [h1];exact thn (hg pins s1 σ H1 x v _ I1 r1 q1) fun _ s2 q=>q
theorem av {i:Nat} {x:TY} {e:UH} {te:TE} {pos':Xn} (hN:X.N.Nodup) (hi:X.N[i]?=some x) (hx:Loc X.env.scope x) (he:PE X e te) (hs:swapsWith e (some (.Name x pos')) pos.line X.env=pure false:=by rfl) (hf:X.fn x=true∨X.env.scope.names.lookup x=some .local:=by first | exact .inl rfl | exact .inr rfl | assumption) :
 PS X (.Assign [.Name x pos'] e pos) (wk te (aF i)):=by
 intro pins s σ H D I h;refine wpAny_Assign_Name (thn (he pins s σ H _ I h) fun v s1 ⟨y,H1,I1,r1,q1⟩=>?_) hs;exact kh I1 hN hi hx r1 (fun s2 I2=>⟨_,H1,I2,q1⟩) hf
def xq (i:Nat) (te:TE) (ti:TIp):TS:=fun D σ H=>∃ x,σ[i]?=some (some x)/\te σ H fun y H1=>ti x y H1 fun z H2=>D.nx (σ.set i (some z)) H2
theorem vN {i:Nat} {x:TY} {e:UH} {te:TE} {op:Operator} {ti:TIp} {pos':Xn} (hN:X.N.Nodup) (hi:X.N[i]?=some x) (hx:Loc X.env.scope x) (he:PE X e te) (ho:PIp X op ti) (hf:X.fn x=true∨X.env.scope.names.lookup x=some .local:=by first | exact .inl rfl | exact .inr rfl | assumption) :
 PS X (.AugAssign (.Name x pos') op e pos) (xq i te ti):=by
 intro pins s σ H D I h;obtain ⟨v,e1,h⟩:=h;obtain ⟨m,hn,hl⟩:=I.loc;have Nf:Vis X.env.scope x:=by rcases hx with k | k;exact .inl k;exact .inr (.inl k)
 obtain ⟨u,r,l⟩:=hl i x v hi e1 Nf;refine wpAny_AugAssign_Name ?_
 have go:Tx (T6 X.prog X.w) X.A (VS e X.env) (fun w yB=>Tx (T6 X.prog X.w) X.A (inplaceOp op u w) (fun r zR=>Tx (T6 X.prog X.w) X.A (storeName X.env x r) (fun _=>SP X pins D .next) X.xe zR) X.xe yB) X.xe s:=by
  refine thn (he pins s σ H _ I h) fun w s1 ⟨y,H1,I1,r1,q1⟩=>?_;refine thn (ho pins s1 σ H1 v y u w _ I1 r r1 q1) fun z s2 ⟨zv,H2,I2,r2,q2⟩=>?_;exact kh I2 hN hi hx r2 (fun s3 I3=>⟨_,H2,I3,q2⟩) hf
 rcases l with ⟨hk,hm⟩ | ⟨hk,c,hc,Bf⟩
 · exact wpAny_loadName_local I.ok.kind hk hn hm go
 · rcases hk with hk | hk
   · exact wpAny_loadName_cell I.ok.kind hk hc Bf go
   · rcases hx with k | k
     · have:X.env.scope.names.lookup x=some .free:=hk;rw [k] at this;cases this
     · have:X.env.scope.names.lookup x=some .free:=hk;rw [k] at this;cases this
def ipI (f:Int->Int->Int):TIp:=fun x y H Q=>∃ i j,x=.int i/\y=.int j/\Q (.int (f i j)) H
theorem v9:PIp X .Add (ipI fun i j=>i+j):=by
 intro pins s σ H x y v u Q I r1 r2 h;obtain ⟨i,j,e1,e2,q⟩:=h;subst e1;subst e2;obtain ⟨t,rfl⟩:=r1;obtain ⟨t',rfl⟩:=r2;exact iadd_int ⟨.int _,H,I.tok _,⟨_,rfl⟩,q⟩
end
section
variable {X:Cx} {pos:Xn}
def vU (c:TT) (tb:TS):TS:=fun D σ H=>∃ W:Nat->St->Hp->Prop,(∃ m,W m σ H)/\∀ m σ H,W m σ H →
 c σ H fun b H1=>if b=true then ∃ N:St->Hp->Prop,(∀ xS H',N xS H'->∃ m',m'<m/\W m' xS H')/\tb { D with nx:=N,ct:=N,bk:=D.nx } σ H1 else D.nx σ H1
theorem dF {c:UH} {body:List Vo} {tc:TT} {tb:TS} (hp:PassesOwn (T6 X.prog X.w) X.A X.env X.xe) (hc:PT X c tc) (hb:PSs X body tb):PS X (.While c body [] pos) (vU tc tb):=by
 intro pins s σ H D I h;obtain ⟨W,⟨m0,w0⟩,turn⟩:=h;refine wpAny_While (codeAny_whileLoop (fun n s'=>∃ xS H',Inv X pins xS H' s'/\W n xS H') ?_ m0 ⟨σ,H,I,w0⟩);rintro n s1 ⟨zM,H1,I1,w1⟩;refine WI hp (thn (hc pins s1 zM H1 _ I1 (turn n zM H1 w1)) fun b s2 ⟨H2,I2,q2⟩=>?_);cases b with
 | true =>
   obtain ⟨N,hN,q2⟩:=q2;rw [if_pos rfl];refine WI hp (thn (hb pins s2 zM H2 _ I2 q2) fun f s3 q3=>?_);cases f with
   | next =>
     obtain ⟨B5,H3,I3,n3⟩:=q3;obtain ⟨m',hm,w3⟩:=hN B5 H3 n3;exact ⟨m',hm,B5,H3,I3,w3⟩
   | cont =>
     obtain ⟨B5,H3,I3,n3⟩:=q3;obtain ⟨m',hm,w3⟩:=hN B5 H3 n3;exact ⟨m',hm,B5,H3,I3,w3⟩
   | brk=>exact q3
   | ret v=>exact q3
 | false =>
   rw [if_neg TH];exact YB ⟨zM,H2,I2,q2⟩
end
structure It where
 go:Nat->Hp->Prop
 yld:Nat->Hp->V->Hp->Prop
 stop:Nat->Hp->Prop
def jZ (X:Cx) (pins:List (Ta×VH)) (H:Hp) (b:Ta):Prop :=
 H b=none/\b≠X.env.locals/\b∉X.fs/\(b∈X.ex∨X.s₀.heap.objs.size<=b)/\(∀ x c,X.env.cells.lookup x=some c->c≠b)/\∀ p∈X.pn++pins,p.1≠b
theorem Inv.fpOk {X:Cx} {pins:List (Ta×VH)} {σ:St} {H H':Hp} {s:Tj} {b:Ta} (I:Inv X pins σ H s) (hb:s.heap.objs.size<=b) (hn:H' b=none):jZ X pins H' b:=by
 refine ⟨hn,WR (Uv I.lt hb),I.nofs hb,.inr (Ve I.sz hb),fun x c e z=>?_,fun p hp z=>?_⟩
 · obtain ⟨v,q⟩:=I.cell x c e;exact absurd (Uv q.lt (by rw [z];exact hb)) (U0 _)
 · exact absurd (Uv (Tw (I.pin p hp).1) (by rw [z];exact hb)) (U0 _)
structure Turn (P:Tv) (w:TN) (K:S8) (tg:UH) (J:It) (fp:List Ta) (it:Ta) (tn:Nat->UM->Prop):Prop where
 mem:it∈fp
 obj:∀ i h,tn i h->∀ b∈fp,∃ o,h.get? b=some o/\∀ v,o.data≠.cell v
 keep:∀ i h h',tn i h->(∀ b∈fp,∀ o,h.get? b=some o->h'.get? b=some o)->tn i h'
 item:∀ (X:Cx),X.prog=P->X.w=w->X.K=K->X.calm=true->∀ (i:Nat) (pins:List (Ta×VH)) (s:Tj) (σ:St) (H:Hp) (E:Tc->Tj->Prop),Inv X pins σ H s->(∀ b∈fp,jZ X pins H b)->tn i s.heap->J.go i H →
  Tx (T6 P w) X.A (Wr (.ref it)) (fun r s1=>∃ u,r=some u ∧
   Tx (T6 P w) X.A (YC tg (.ref it) u) (fun _ s2=>∃ x H',Inv X pins σ H' s2/\RelV x u/\J.yld i H x H'/\tn (i+1) s2.heap/\∀ b∈fp,H' b=none) E s1) E s
 done:∀ (X:Cx),X.prog=P->X.w=w->X.K=K->X.calm=true->∀ (i:Nat) (pins:List (Ta×VH)) (s:Tj) (σ:St) (H:Hp) (E:Tc->Tj->Prop),Inv X pins σ H s->(∀ b∈fp,jZ X pins H b)->tn i s.heap->J.stop i H →
  Tx (T6 P w) X.A (Wr (.ref it)) (fun r s1=>r=none/\Inv X pins σ H s1) E s
 self:∀ (A:Uh) (i:Nat) (s:Tj) (Q:Tc->Tj->Prop) (E:Tc->Tj->Prop),tn i s.heap->Q (.ref it) s->Tx (T6 P w) A (pyIter (.ref it)) Q E s
abbrev TI:=St->Hp->(It->Hp->Prop)->Prop
def PIE (X:Cx) (pins:List (Ta×VH)) (σ:St) (tg:UH) (R:It->Hp->Prop) (Jf:Tc) (s2:Tj):Prop :=
 ∃ (it:Ta) (fp:List Ta) (tn:Nat->UM->Prop) (J:It) (H':Hp),Jf=.ref it/\Inv X pins σ H' s2/\Turn X.prog X.w X.K tg J fp it tn/\tn 0 s2.heap/\(∀ b∈fp,jZ X pins H' b)/\R J H'
def PI (X:Cx) (tg iter:UH) (wi:TI):Prop :=
 ∀ (pins:List (Ta×VH)) (s:Tj) (σ:St) (H:Hp) (R:It->Hp->Prop),Inv X pins σ H s->wi σ H R →
   Tx (T6 X.prog X.w) X.A (VS iter X.env) (fun v s1=>Tx (T6 X.prog X.w) X.A (pyIter v) (PIE X pins σ tg R) X.xe s1) X.xe s
theorem re {M:Model} {A:Uh} {E:Tc->Tj->Prop} {s:Tj} {tg:UH} {it:Ta} {u:Tc} {o:VH} {n:String} {vs:Array Tc} {Q:Unit->Tj->Prop} (ho:s.heap.get? it=some o) (hc:o.cls=.type n) (hd:o.data=.fields vs)
 (hn:["enumerate","zip","dict_itemiterator","dict_reverseitemiterator","odict_iterator","itertools.zip_longest","itertools.pairwise"].contains n=false) (hQ:Q () s):Tx M A (YC tg (.ref it) u) Q E s:=by
 unfold YC
 cases tg <;> first
  | exact Tg hQ
  | (cases u <;> first
   | exact Tg hQ
   | (refine S7 (wpAny_load ho ?_)
      rw [hc,hd];show Tx M A (if (["enumerate","zip","dict_itemiterator","dict_reverseitemiterator","odict_iterator","itertools.zip_longest","itertools.pairwise"].contains n && vs[0]? == some (VR _))=true then _ else _) Q E s;rw [if_neg (by intro h;rw [hn,Bool.false_and] at h;cases h)];exact Tg hQ))
def Itl (K:S8) (a:Ta):It :=
 ⟨fun i H=>∃ xs x,SqL K H a xs/\xs[i]?=some x,fun i H x H'=>H'=H/\∀ xs,SqL K H a xs->xs[i]?=some x,fun i H=>∃ xs,SqL K H a xs/\xs.length<=i⟩
def Itt (K:S8) (a:Ta):It :=
 ⟨fun i H=>∃ xs x,SqT K H a xs/\xs[i]?=some x,fun i H x H'=>H'=H/\∀ xs,SqT K H a xs->xs[i]?=some x,fun i H=>∃ xs,SqT K H a xs/\xs.length<=i⟩
def Itr (lo:Int) (n:Nat):It:=⟨fun i _=>i<n,fun i H x H'=>H'=H/\x=.int (lo+i),fun i _=>n<=i⟩
theorem sA {P:Tv} {w:TN} {K:S8} {tg:UH} (a it:Ta):Turn P w K tg (Itl K a) [it] it (fun i h=>h.IsListIter it a i) where
 mem:=by simp
 obj:=fun i h st b hb=>by
  have e:b=it:=by simpa using hb
  subst e;obtain ⟨o,e,c,d⟩:=st;exact ⟨o,e,fun v z=>by rw [d] at z;cases z⟩
 keep:=fun i h h' st k=>st.at fun o e=>k it (by simp) o e
 item:=by
  intro X hP hw hK hc i pins s σ H E I hf st hg;subst hP hw hK;obtain ⟨xs,x,hq,hx⟩:=hg;obtain ⟨its,rv,p,hz⟩:=I.list hq;obtain ⟨u,hu,ru⟩:=rv.get hx;obtain ⟨f0,f1,f2,f3,f4,f5⟩:=hf it (by simp);refine wpAny_pyNext_list_item st p.isList (x:=u) (by simpa using hu) fun h' BK sb=>?_;have I1:Inv X pins σ H { s with heap:=h' }:=I.turned (t':=s.toks) (fun b o hb e=>(sb.2 b hb).trans e) f0 f1 f3 f4 f5;obtain ⟨o,e,c,d⟩:=id BK;exact ⟨u,rfl,re (s:={ s with heap:=h' }) e c d (by decide) ⟨x,H,I1,ru,⟨rfl,fun ys hy=>by rw [I.list_inj hy hq];exact hx⟩,BK,fun b hb=>(hf b hb).1⟩⟩
 done:=by
  intro X hP hw hK hc i pins s σ H E I hf st hg;subst hP hw hK;obtain ⟨xs,hq,hx⟩:=hg;obtain ⟨its,rv,p,hz⟩:=I.list hq;obtain ⟨f0,f1,f2,f3,f4,f5⟩:=hf it (by simp);have hl:=rv.length;exact wpAny_pyNext_list_end (I.ok.hd hc) st p.isList (by simp;omega) fun h' eb=>⟨rfl,I.turned (t':=s.toks) (fun b o hb e=>eb b o hb e) f0 f1 f3 f4 f5⟩
 self:=fun _ _ _ _ _ st h=>wpAny_pyIter_listiter st h
theorem pW {P:Tv} {w:TN} {K:S8} {tg:UH} (a it:Ta):Turn P w K tg (Itt K a) [it] it (fun i h=>h.IsTupleIter it a i) where
 mem:=by simp
 obj:=fun i h st b hb=>by
  have e:b=it:=by simpa using hb
  subst e;obtain ⟨o,e,c,d⟩:=st;exact ⟨o,e,fun v z=>by rw [d] at z;cases z⟩
 keep:=fun i h h' st k=>st.at fun o e=>k it (by simp) o e
 item:=by
  intro X hP hw hK hc i pins s σ H E I hf st hg;subst hP hw hK;obtain ⟨xs,x,hq,hx⟩:=hg;obtain ⟨its,rv,p,hz⟩:=I.tuple hq;obtain ⟨u,hu,ru⟩:=rv.get hx;obtain ⟨f0,f1,f2,f3,f4,f5⟩:=hf it (by simp);refine wpAny_pyNext_tuple_item st (show s.heap.IsTuple a its.toArray from p) (x:=u) (by simpa using hu) fun h' BK sb=>?_;have I1:Inv X pins σ H { s with heap:=h' }:=I.turned (t':=s.toks) (fun b o hb e=>(sb.2 b hb).trans e) f0 f1 f3 f4 f5;obtain ⟨o,e,c,d⟩:=id BK;exact ⟨u,rfl,re (s:={ s with heap:=h' }) e c d (by decide) ⟨x,H,I1,ru,⟨rfl,fun ys hy=>by rw [I.tuple_inj hy hq];exact hx⟩,BK,fun b hb=>(hf b hb).1⟩⟩
 done:=by
  intro X hP hw hK hc i pins s σ H E I hf st hg;subst hP hw hK;obtain ⟨xs,hq,hx⟩:=hg;obtain ⟨its,rv,p,hz⟩:=I.tuple hq;obtain ⟨f0,f1,f2,f3,f4,f5⟩:=hf it (by simp);have hl:=rv.length;exact wpAny_pyNext_tuple_end (I.ok.hd hc) st (show s.heap.IsTuple a its.toArray from p) (by simp;omega) fun h' eb=>⟨rfl,I.turned (t':=s.toks) (fun b o hb e=>eb b o hb e) f0 f1 f3 f4 f5⟩
 self:=fun _ _ _ _ _ st h=>wpAny_pyIter_tupleiter st h
theorem pU {P:Tv} {w:TN} {K:S8} {tg:UH} (it:Ta) (lo:Int) (n:Nat):Turn P w K tg (Itr lo n) [it] it (fun i h=>IsRangeIter h it (lo+(i:Nat) * 1) ((n:Int) - (i:Nat)) 1) where
 mem:=by simp
 obj:=fun i h st b hb=>by
  have e:b=it:=by simpa using hb
  subst e
  exact ⟨_,st,fun v z=>by
   have z':Data.fields _=Data.cell v:=z;cases z'⟩
 keep:=fun i h h' st k=>k it (by simp) _ st
 item:=by
  intro X hP hw hK hc i pins s σ H E I hf st hg;subst hP hw hK;obtain ⟨f0,f1,f2,f3,f4,f5⟩:=hf it (by simp);have W:=Walks.range (prog:=X.prog) (w:=X.w) (I.ok.hd hc) it lo 1 n;refine W.item i s _ _ hg st fun v h' tk hv BK kk=>?_;obtain ⟨t,rfl⟩:=hv;have I1:Inv X pins σ H { s with heap:=h',toks:=tk }:=I.turned (fun b o hb e=>kk b o (by simpa using hb) e) f0 f1 f3 f4 f5;refine ⟨_,rfl,re (s:={ s with heap:=h',toks:=tk }) (n:="range_iterator") BK rfl rfl (by decide) ⟨.int (lo+i),H,I1,⟨t,?_⟩,⟨rfl,rfl⟩,BK,fun b hb=>(hf b hb).1⟩⟩;rw [Int.mul_one]
 done:=by
  intro X hP hw hK hc i pins s σ H E I hf st hg;subst hP hw hK;obtain ⟨f0,f1,f2,f3,f4,f5⟩:=hf it (by simp);exact wpAny_pyNext_range_end (I.ok.hd hc) st (by have:n<=i:=hg;omega) fun h' eb=>⟨rfl,I.turned (t':=s.toks) (fun b o hb e=>eb b o hb e) f0 f1 f3 f4 f5⟩
 self:=fun _ _ _ _ _ st h=>wpAny_pyIter_rangeiter st h
end L2
namespace L2
open PySem PySem.Spec PyProof.Rows
section
variable {X:Cx} {tg:UH}
def xb (K:S8) (tl:TE):TI:=fun σ H R=>tl σ H fun x H1=>∃ a,x=.ref a/\(∃ xs,SqL K H1 a xs)/\R (Itl K a) H1
def xL (K:S8) (tl:TE):TI:=fun σ H R=>tl σ H fun x H1=>∃ a,x=.ref a/\(∃ xs,SqT K H1 a xs)/\R (Itt K a) H1
theorem ck {l:UH} {tl:TE} (hl:PE X l tl):PI X tg l (xb X.K tl):=by
 intro pins s σ H R I h;refine thn (hl pins s σ H _ I h) fun v s1 ⟨x,H1,I1,r1,q1⟩=>?_;obtain ⟨a,e,⟨xs,hq⟩,q⟩:=q1;subst e;cases r1;obtain ⟨its,rv,p,hz⟩:=I1.list hq;refine wpAny_pyIter_list p.isList ?_;refine ⟨s1.heap.objs.size,[s1.heap.objs.size],_,_,H1,rfl,I1.kept (t':=s1.toks) fun b o e=>Tf _ e,sA a _,⟨_,Tt _ rfl,rfl,rfl⟩,fun b hb=>?_,q⟩;have e:b=s1.heap.objs.size:=by simpa using hb
 subst e;exact I1.fpOk (Td _) (I1.hok.fresh (Td _))
theorem jz {l:UH} {tl:TE} (hl:PE X l tl):PI X tg l (xL X.K tl):=by
 intro pins s σ H R I h;refine thn (hl pins s σ H _ I h) fun v s1 ⟨x,H1,I1,r1,q1⟩=>?_;obtain ⟨a,e,⟨xs,hq⟩,q⟩:=q1;subst e;cases r1;obtain ⟨its,rv,p,hz⟩:=I1.tuple hq;refine WG (show s1.heap.IsTuple a its.toArray from p) ?_;refine ⟨s1.heap.objs.size,[s1.heap.objs.size],_,_,H1,rfl,I1.kept (t':=s1.toks) fun b o e=>Tf _ e,pW a _,⟨_,Tt _ rfl,rfl,rfl⟩,fun b hb=>?_,q⟩;have e:b=s1.heap.objs.size:=by simpa using hb
 subst e;exact I1.fpOk (Td _) (I1.hok.fresh (Td _))
theorem pp {pins:List (Ta×VH)} {σ:St} {H:Hp} {s:Tj} {R:It->Hp->Prop} {E:Tc->Tj->Prop} {lo hi:Int} {t u v:Tok} {tk:Nat} (I:Inv X pins σ H s) (h1:-(2 ^ 62)<=lo) (h2:lo<2 ^ 62) (h3:-(2 ^ 62)<=hi) (h4:hi<2 ^ 62)
 (q:R (Itr lo (hi - lo).toNat) H):Tx (T6 X.prog X.w) X.A (pyIter (.ref s.heap.objs.size)) (PIE X pins σ tg R) E { s with heap:=s.heap.push { cls:=.type "range",data:=.fields #[.int lo t,.int hi u,.int 1 v] },toks:=tk }:=by
 refine wpAny_pyIter_range (IsRange.new ..) (small_one h1 h2 h3 h4) ?_;have I1:Inv X pins σ H { s with heap:=s.heap.push { cls:=.type "range",data:=.fields #[.int lo t,.int hi u,.int 1 v] },toks:=tk }:=I.kept fun b o e=>Tf _ e
 refine ⟨(s.heap.push { cls:=.type "range",data:=.fields #[.int lo t,.int hi u,.int 1 v] }).objs.size,[(s.heap.push { cls:=.type "range",data:=.fields #[.int lo t,.int hi u,.int 1 v] }).objs.size],_,_,H,rfl,
  I1.kept (t':=tk) fun b o e=>Tf _ e,pU _ lo (hi - lo).toNat,?_,fun b hb=>?_,q⟩
 · have e1:lo+((0:Nat):Int) * 1=lo:=by simp
   have e2:(((hi - lo).toNat:Nat):Int) - ((0:Nat):Int)=Builtin.Range.rangeSize lo hi 1:=by rw [rangeSize_one];split <;> omega
   show IsRangeIter _ _ (lo+((0:Nat):Int) * 1) ((((hi - lo).toNat:Nat):Int) - ((0:Nat):Int)) 1;rw [e1,e2];exact Tt _ rfl
 · have e:b=(s.heap.push { cls:=.type "range",data:=.fields #[.int lo t,.int hi u,.int 1 v] }).objs.size:=by simpa using hb
   subst e;exact I1.fpOk (Td _) (I1.hok.fresh (Td _))
def wL (ta:TA):TI:=fun σ H R=>ta σ H fun vs H1=>∃ j:Int,vs=[.int j]/\-(2 ^ 62)<=j/\j<2 ^ 62/\R (Itr 0 j.toNat) H1
def wN (ta:TA):TI:=fun σ H R=>ta σ H fun vs H1=>∃ i j:Int,vs=[.int i,.int j]/\(-(2 ^ 62)<=i/\i<2 ^ 62/\-(2 ^ 62)<=j/\j<2 ^ 62)/\R (Itr i (j - i).toNat) H1
theorem bx {a:UH} {ta:TA} {p pos:Xn} (hg:Gl X "range") (hm:X.mg "range"=none) (ha:PA X [a] ta) (hs:Uu [a] X.env=[(false,VS a X.env)]:=by rfl):PI X tg (.Call (.Name "range" p) [a] [] pos) (wL ta):=by
 intro pins s σ H R I h;refine Call_ (db I hg hm boot_range (Ur (thn (ha pos pins s σ H _ I h) fun us s1 ⟨vs,H1,I1,r1,q1⟩=>?_) hs rfl));obtain ⟨j,e,q1,q2,q⟩:=q1;subst e;cases r1 with
 | cons r rr =>
   cases rr;obtain ⟨t,rfl⟩:=r;exact call_range_1 (pp I1 (by omega) (by omega) q1 q2 (by simpa using q))
theorem ji {a b:UH} {ta:TA} {p pos:Xn} (hg:Gl X "range") (hm:X.mg "range"=none) (ha:PA X [a,b] ta) (hs:Uu [a,b] X.env=[(false,VS a X.env),(false,VS b X.env)]:=by rfl) (Ng:Uu [b] X.env=[(false,VS b X.env)]:=by rfl) :
 PI X tg (.Call (.Name "range" p) [a,b] [] pos) (wN ta):=by
 intro pins s σ H R I h;refine Call_ (db I hg hm boot_range (Ur (thn (ha pos pins s σ H _ I h) fun us s1 ⟨vs,H1,I1,r1,q1⟩=>?_) (by rw [hs,Ng]) (by rw [Ng];rfl)));obtain ⟨i,j,e,⟨q1,q2,q3,q4⟩,q⟩:=q1;subst e;cases r1 with
 | cons r rr =>
   cases rr with
   | cons r' rr =>
     cases rr;obtain ⟨t,rfl⟩:=r;obtain ⟨t',rfl⟩:=r';exact call_range_2 (pp I1 q1 q2 q3 q4 q)
def xP (wi:TI) (g:TG) (tb:TS):TS:=fun D σ H=>wi σ H fun J H1=>∃ W:Nat->Nat->St->Hp->Prop,(∃ m,W 0 m σ H1)/\∀ i m σ H,W i m σ H →
 (J.stop i H/\D.nx σ H)∨(J.go i H/\∃ N:St->Hp->Prop,(∀ xS H',N xS H'->∃ m',m'<m/\W (i+1) m' xS H')/\∀ x H',J.yld i H x H'->g x σ H' fun ym H2=>tb { D with nx:=N,ct:=N,bk:=D.nx } ym H2)
def ll (fp:List Ta) (h:UM):List (Ta×VH):=fp.filterMap fun b=>(h.get? b).map fun o=>(b,o)
theorem fy {fp:List Ta} {h:UM} {b:Ta} {o:VH} (hb:b∈fp) (e:h.get? b=some o):(b,o)∈ll fp h:=YI.mpr ⟨b,hb,by rw [e];rfl⟩
theorem sD {fp:List Ta} {h:UM} {p:Ta×VH} (hp:p∈ll fp h):p.1∈fp/\h.get? p.1=some p.2:=by
 obtain ⟨b,hb,e⟩:=YI.mp hp;cases q:h.get? b with
 | none=>rw [q] at e;cases e
 | some o =>
   rw [q] at e;have e':(b,o)=p:=TV e;subst e';exact ⟨hb,q⟩
theorem Inv.pinned {pins:List (Ta×VH)} {σ:St} {H:Hp} {s:Tj} {fp:List Ta} (I:Inv X pins σ H s) (hf:∀ b∈fp,jZ X pins H b) (ho:∀ b∈fp,∃ o,s.heap.get? b=some o/\∀ v,o.data≠.cell v):Inv X (pins++ll fp s.heap) σ H s :=
 I.pins_of fun p hp=>(Ul.mp hp).elim (fun z=>I.pin p (Uj _ z)) fun z=>by
  obtain ⟨hb,e⟩:=sD z;obtain ⟨f0,f1,f2,_⟩:=hf p.1 hb;obtain ⟨o,e',d⟩:=ho p.1 hb;rw [e] at e';cases e';exact ⟨e,f0,f1,f2,d⟩
theorem Inv.unpinned {pins pl:List (Ta×VH)} {σ:St} {H:Hp} {s:Tj} (I:Inv X (pins++pl) σ H s):Inv X pins σ H s:=I.pins_of fun p hp=>I.pin p (Uj _ (Uq _ hp))
theorem bv {iter:UH} {body:List Vo} {wi:TI} {g:TG} {tb:TS} {pos:Xn} (hp:PassesOwn (T6 X.prog X.w) X.A X.env X.xe) (hc:X.calm=true) (hi:PI X tg iter wi) (hg:PG X tg g) (hb:PSs X body tb)
 (hs:∀ x,foldedSetIterable iter X.env x=pure x:=by intro _;rfl):PS X (.For tg iter body [] pos) (xP wi g tb):=by
 intro pins s σ H D I h;refine wpAny_For (thn (hi pins s σ H _ I h) fun v s1 h1=>thn h1 fun Jf s2 h2=>?_) hs;obtain ⟨it,fp,tn,J,H2,e,I2,T,AH,f2,W,⟨m0,w0⟩,turn⟩:=h2;subst e
 -- JX stays true of Az Ex objects through Az loop
 have AI:∀ {H':Hp},(∀ b∈fp,H' b=none)->∀ b∈fp,jZ X pins H' b:=fun hn b hb=>⟨hn b hb,(f2 b hb).2⟩;refine codeAny_forLoop_any (fun n s'=>∃ i xS H',Inv X pins xS H' s'/\tn i s'.heap/\(∀ b∈fp,H' b=none)/\W i n xS H') ?_ m0 ⟨0,σ,H2,I2,AH,fun b hb=>(f2 b hb).1,w0⟩;rintro n s3 ⟨i,B5,H3,I3,Nh,Ni,w3⟩;rcases turn i n B5 H3 w3 with ⟨stop,qn⟩ | ⟨go,N,hN,step⟩
 · refine WI hp (thn (T.done X rfl rfl rfl hc i pins s3 B5 H3 X.xe I3 (AI Ni) Nh stop) fun r s4 ⟨hr,I4⟩=>?_);subst hr;exact YB ⟨B5,H3,I4,qn⟩
 · refine WI hp (thn (T.item X rfl rfl rfl hc i pins s3 B5 H3 X.xe I3 (AI Ni) Nh go) fun r s4 ⟨u,hr,h4⟩=>?_);subst hr;refine WI hp (thn h4 fun _ s5 ⟨x,H5,I5,r5,y5,Fz,Jg⟩=>?_);have O7:=I5.pinned (AI Jg) (T.obj _ _ Fz);refine WI hp (thn (hg _ s5 B5 H5 x u _ O7 r5 (step x H5 y5)) fun _ s6 ⟨O8,H6,I6,q6⟩=>?_);refine WI hp (thn (hb _ s6 O8 H6 _ I6 q6) fun f s7 q7=>?_)
   have again:∀ {B6:St} {H7:Hp},Inv X (pins++ll fp s5.heap) B6 H7 s7->N B6 H7->∃ m,m<n/\∃ i xS H',Inv X pins xS H' s7/\tn i s7.heap/\(∀ b∈fp,H' b=none)/\W i m xS H':=fun {B6 H7} I7 n7=>by
    obtain ⟨m',hm,w7⟩:=hN B6 H7 n7;refine ⟨m',hm,i+1,B6,H7,I7.unpinned,T.keep _ _ _ Fz fun b hb o e=>(I7.pin (b,o) (Uj _ (Uj _ (fy hb e)))).1,fun b hb=>?_,w7⟩;obtain ⟨o,e,d⟩:=T.obj _ _ Fz b hb;exact (I7.pin (b,o) (Uj _ (Uj _ (fy hb e)))).2.1
   cases f with
   | next=>obtain ⟨B6,H7,I7,n7⟩:=q7;exact again I7 n7
   | cont=>obtain ⟨B6,H7,I7,n7⟩:=q7;exact again I7 n7
   | brk=>obtain ⟨B6,H7,I7,q7⟩:=q7;exact ⟨B6,H7,I7.unpinned,q7⟩
   | ret v=>obtain ⟨x7,B6,H7,I7,r7,q7⟩:=q7;exact ⟨x7,B6,H7,I7.unpinned,r7,q7⟩
end
theorem dD {K:S8} {a:Ta} {xs:List V} {g:TG} {tb:TS} {D:Ends} {σ:St} {H:Hp} (Pv:Nat->St->Hp->Prop) (h0:Pv 0 σ H) (hl:∀ i σ H,i<=xs.length->Pv i σ H->SqL K H a xs)
 (hs:∀ i x σ H,xs[i]?=some x->Pv i σ H->g x σ H fun ym H2=>tb { D with nx:=Pv (i+1),ct:=Pv (i+1),bk:=D.nx } ym H2) (hd:∀ σ H,Pv xs.length σ H->D.nx σ H) :
 ∃ W:Nat->Nat->St->Hp->Prop,(∃ m,W 0 m σ H)/\∀ i m σ H,W i m σ H →
   ((Itl K a).stop i H/\D.nx σ H)∨((Itl K a).go i H/\∃ N:St->Hp->Prop,(∀ xS H',N xS H'->∃ m',m'<m/\W (i+1) m' xS H')/\∀ x H',(Itl K a).yld i H x H'->g x σ H' fun ym H2=>tb { D with nx:=N,ct:=N,bk:=D.nx } ym H2):=by
 refine ⟨fun i m σ H=>m=xs.length - i/\i<=xs.length/\Pv i σ H,⟨xs.length,by simp,TZ _,h0⟩,?_⟩;rintro i m σ H ⟨rfl,hi,p⟩;have q:=hl i σ H hi p;by_cases yf:i<xs.length
 · refine .inr ⟨⟨xs,xs[i],q,by simp [yf]⟩,Pv (i+1),fun xS H' p'=>⟨xs.length - (i+1),by omega,rfl,yf,p'⟩,fun x H' y=>?_⟩;obtain ⟨e,y⟩:=y;subst e;exact hs i x σ _ (y xs q) p
 · have e:i=xs.length:=by omega
   subst e;exact .inl ⟨⟨xs,q,Td _⟩,hd σ H p⟩
theorem bF {lo:Int} {n:Nat} {g:TG} {tb:TS} {D:Ends} {σ:St} {H:Hp} (Pv:Nat->St->Hp->Prop) (h0:Pv 0 σ H)
 (hs:∀ i σ H,i<n->Pv i σ H->g (.int (lo+i)) σ H fun ym H2=>tb { D with nx:=Pv (i+1),ct:=Pv (i+1),bk:=D.nx } ym H2) (hd:∀ σ H,Pv n σ H->D.nx σ H) :
 ∃ W:Nat->Nat->St->Hp->Prop,(∃ m,W 0 m σ H)/\∀ i m σ H,W i m σ H →
   ((Itr lo n).stop i H/\D.nx σ H)∨((Itr lo n).go i H/\∃ N:St->Hp->Prop,(∀ xS H',N xS H'->∃ m',m'<m/\W (i+1) m' xS H')/\∀ x H',(Itr lo n).yld i H x H'->g x σ H' fun ym H2=>tb { D with nx:=N,ct:=N,bk:=D.nx } ym H2):=by
 refine ⟨fun i m σ H=>m=n - i/\i<=n/\Pv i σ H,⟨n,by simp,TZ _,h0⟩,?_⟩;rintro i m σ H ⟨rfl,hi,p⟩;by_cases yf:i<n
 · refine .inr ⟨yf,Pv (i+1),fun xS H' p'=>⟨n - (i+1),by omega,rfl,yf,p'⟩,fun x H' y=>?_⟩;obtain ⟨e,y⟩:=y;subst e y;exact hs i σ _ yf p
 · have e:i=n:=by omega
   subst e;exact .inl ⟨Td _,hd σ H p⟩
end L2
namespace L2
open PySem PySem.Spec PyProof.Rows
abbrev R2:=V->V->Hp->VK->Prop
def OpR (X:Cx) (f:Tc->Tc->Sem Tc) (r:R2):Prop :=
 ∀ (pins:List (Ta×VH)) (s:Tj) (σ:St) (H:Hp) (x y:V) (v u:Tc) (Q:VK),Inv X pins σ H s->RelV x v->RelV y u->r x y H Q →
   Tx (T6 X.prog X.w) X.A (f v u) (EP X pins σ Q) X.xe s
def UnR (X:Cx) (f:Tc->Sem Tc) (r:V->Hp->VK->Prop):Prop :=
 ∀ (pins:List (Ta×VH)) (s:Tj) (σ:St) (H:Hp) (x:V) (v:Tc) (Q:VK),Inv X pins σ H s->RelV x v->r x H Q →
   Tx (T6 X.prog X.w) X.A (f v) (EP X pins σ Q) X.xe s
def gR (X:Cx) (f:Tc) (r:List V->Hp->VK->Prop):Prop :=
 ∀ (pins:List (Ta×VH)) (s:Tj) (σ:St) (H:Hp) (xs:List V) (us:List Tc) (Q:VK),Inv X pins σ H s->Vals xs us->r xs H Q →
   Tx (T6 X.prog X.w) X.A (call f us) (EP X pins σ Q) X.xe s
def xu (X:Cx) (r:V->Hp->(Bool->Hp->Prop)->Prop):Prop :=
 ∀ (pins:List (Ta×VH)) (s:Tj) (σ:St) (H:Hp) (x:V) (v:Tc) (Q:Bool->Hp->Prop),Inv X pins σ H s->RelV x v->r x H Q →
   Tx (T6 X.prog X.w) X.A (truthy v) (TP X pins σ Q) X.xe s
def tOp (r:R2) (ta tb:TE):TE:=fun σ H Q=>ta σ H fun x H1=>tb σ H1 fun y H2=>r x y H2 Q
def tUn (r:V->Hp->VK->Prop) (ta:TE):TE:=fun σ H Q=>ta σ H fun x H1=>r x H1 Q
inductive IrI (C:Int->Int->Prop) (g:Int->Int->V) (x:V) (y:V) (H:Hp) (Q:VK):Prop
 | mk (i:_) (j:_) (yd:x=.int i) (ye:y=.int j) (yj:C i j) (yq:Q (g i j) H):IrI C g x y H Q
def rI (C:Int->Int->Prop) (g:Int->Int->V):R2:=IrI C g
inductive w4 (g:Int->Int->V) (x:V) (y:V) (H:Hp) (Q:VK):Prop
 | mk (i:_) (j:_) (yd:x=.int i) (ye:y=.int j) (yj:Q (g i j) H):w4 g x y H Q
def rI0 (g:Int->Int->V):R2:=w4 g
inductive IrU (g:Int->V) (x:V) (H:Hp) (Q:VK):Prop
 | mk (i:_) (yd:x=.int i) (ye:Q (g i) H):IrU g x H Q
def rU (g:Int->V):V->Hp->VK->Prop:=IrU g
section
variable {X:Cx} {a b c:UH} {ta tb tc:TE} {pos:Xn}
theorem wb (ha:PE X a ta) (hb:PE X b tb) {pins:List (Ta×VH)} {s:Tj} {σ:St} {H:Hp} {R:V->V->Hp->Prop} (I:Inv X pins σ H s)
 (h:ta σ H fun x H1=>tb σ H1 fun y H2=>R x y H2) {Q:Tc->Tj->Prop} {f:Tc->Tc->Sem Tc}
 (hf:∀ v u s2 x y H2,Inv X pins σ H2 s2->RelV x v->RelV y u->R x y H2->Tx (T6 X.prog X.w) X.A (f v u) Q X.xe s2) :
 Tx (T6 X.prog X.w) X.A (VS a X.env) (fun v xT=>Tx (T6 X.prog X.w) X.A (VS b X.env) (fun u yB=>Tx (T6 X.prog X.w) X.A (f v u) Q X.xe yB) X.xe xT) X.xe s:=by
 refine thn (ha pins s σ H _ I h) fun v s1 ⟨x,H1,I1,r1,q1⟩=>?_;refine thn (hb pins s1 σ H1 _ I1 q1) fun u s2 ⟨y,H2,I2,r2,q2⟩=>?_;exact hf v u s2 x y H2 I2 r1 r2 q2
theorem ax {op:Operator} {r:R2} (ho:OpR X (Xe op) r) (ha:PE X a ta) (hb:PE X b tb):PE X (.BinOp a op b pos) (tOp r ta tb):=by
 intro pins s σ H Q I h;exact wpAny_BinOp (wb ha hb I h fun v u s2 x y H2 I2 rx ry q=>ho pins s2 σ H2 x y v u Q I2 rx ry q)
theorem wZ {op:UnaryOp} {r:V->Hp->VK->Prop} (ho:UnR X (unaryOp op) r) (ha:PE X a ta):PE X (.UnaryOp op a pos) (tUn r ta):=by
 intro pins s σ H Q I h;exact UnaryOp_ (thn (ha pins s σ H _ I h) fun v s1 ⟨x,H1,I1,r1,q1⟩=>ho pins s1 σ H1 x v Q I1 r1 q1)
theorem opI {f:Tc->Tc->Sem Tc} {C:Int->Int->Prop} {g:Int->Int->Int}
 (rule:∀ (i j:Int) (t u:Tok) (s:Tj) (Q:Tc->Tj->Prop) (E:Tc->Tj->Prop),C i j->Q (.int (g i j) s.toks) { s with toks:=s.toks+1 }->Tx (T6 X.prog X.w) X.A (f (.int i t) (.int j u)) Q E s) :
 OpR X f (rI C fun i j=>.int (g i j)):=by
 intro pins s σ H x y v u Q I rx ry h;obtain ⟨i,j,rfl,rfl,hc,q⟩:=h;obtain ⟨t,rfl⟩:=rx;obtain ⟨t',rfl⟩:=ry;exact rule i j t t' s _ _ hc ⟨.int (g i j),H,I.tok _,⟨_,rfl⟩,q⟩
theorem wY {f:Tc->Tc->Sem Tc} {g:Int->Int->Int}
 (rule:∀ (i j:Int) (t u:Tok) (s:Tj) (Q:Tc->Tj->Prop) (E:Tc->Tj->Prop),Q (.int (g i j) s.toks) { s with toks:=s.toks+1 }->Tx (T6 X.prog X.w) X.A (f (.int i t) (.int j u)) Q E s) :
 OpR X f (rI0 fun i j=>.int (g i j)):=by
 intro pins s σ H x y v u Q I rx ry h;obtain ⟨i,j,rfl,rfl,q⟩:=h;obtain ⟨t,rfl⟩:=rx;obtain ⟨t',rfl⟩:=ry;exact rule i j t t' s _ _ ⟨.int (g i j),H,I.tok _,⟨_,rfl⟩,q⟩
theorem wm {f:Tc->Tc->Sem Tc} {g:Int->Int->Bool}
 (rule:∀ (i j:Int) (t u:Tok) (s:Tj) (Q:Tc->Tj->Prop) (E:Tc->Tj->Prop),Q (.bool (g i j)) s->Tx (T6 X.prog X.w) X.A (f (.int i t) (.int j u)) Q E s) :
 OpR X f (rI0 fun i j=>.bl (g i j)):=by
 intro pins s σ H x y v u Q I rx ry h;obtain ⟨i,j,rfl,rfl,q⟩:=h;obtain ⟨t,rfl⟩:=rx;obtain ⟨t',rfl⟩:=ry;exact rule i j t t' s _ _ ⟨.bl (g i j),H,I,rfl,q⟩
def xM (i j:Int):Prop:=0<j/\j<1073741824
def xD (i j:Int):Prop:=0<=j/\j<=1000000/\i.natAbs<2 ^ 64
def CMul (i j:Int):Prop:=(-(2 ^ 64)<i/\i<2 ^ 64)∨(-(2 ^ 64)<j/\j<2 ^ 64)
theorem CMul.ok {i j:Int} (h:CMul i j):IntMulOk i j:=by
 rcases h with ⟨h1,h2⟩ | ⟨h1,h2⟩
 · exact .of_left (intBits_le_64 h1 h2)
 · exact .of_right (intBits_le_64 h1 h2)
theorem bG:OpR X (Xe .Add) (rI0 fun i j=>.int (i+j)):=wY fun _ _ _ _ _ _ _ q=>add_int q
theorem fT:OpR X (Xe .Sub) (rI0 fun i j=>.int (i - j)):=wY fun _ _ _ _ _ _ _ q=>sub_int q
theorem cW:OpR X (Xe .Mult) (rI CMul fun i j=>.int (i * j)):=opI fun _ _ _ _ _ _ _ hc q=>mul_int q hc.ok
theorem bZ:OpR X (Xe .FloorDiv) (rI xM fun i j=>.int (i / j)):=opI fun i j _ _ _ _ _ hc q=>by
 have h1:(0:Int)<j:=hc.1;have h2:j<1073741824:=hc.2;exact floordiv_int (by omega) (by rw [Int.fdiv_eq_ediv_of_nonneg i (by omega)];exact q) (.inl (PyProof.noPylong_small (by omega)))
theorem bH:OpR X (Xe .Mod) (rI (fun _ j=>0<j) fun i j=>.int (i%j)):=opI fun i j _ _ _ _ _ hc q=>by
 have h1:(0:Int)<j:=hc;exact mod_int' (by omega) (by rw [Int.fmod_eq_emod_of_nonneg i (by omega)];exact q)
theorem qc:OpR X (Xe .Pow) (rI xD fun i j=>.int (i ^ j.toNat)):=opI fun _ _ _ _ _ _ _ hc q=>pow_int_small hc.1 hc.2.1 hc.2.2 q
theorem unI {f:Tc->Sem Tc} {g:Int->Int}
 (rule:∀ (i:Int) (t:Tok) (s:Tj) (Q:Tc->Tj->Prop) (E:Tc->Tj->Prop),Q (.int (g i) s.toks) { s with toks:=s.toks+1 }->Tx (T6 X.prog X.w) X.A (f (.int i t)) Q E s) :
 UnR X f (rU fun i=>.int (g i)):=by
 intro pins s σ H x v Q I rx h;obtain ⟨i,rfl,q⟩:=h;obtain ⟨t,rfl⟩:=rx;exact rule i t s _ _ ⟨.int (g i),H,I.tok _,⟨_,rfl⟩,q⟩
theorem vT:UnR X (unaryOp .USub) (rU fun i=>.int (-i)):=unI fun _ _ _ _ _ q=>neg_int q
end
def wD:V->V->Bool
 | .non,.non=>true | .non,.int _=>true | .int _,.non=>true | .non,.bl _=>true | .bl _,.non=>true | .non,.str _=>true | .str _,.non=>true
 | .int _,.int _=>true | .bl _,.bl _=>true | .str _,.str _=>true | .byt _,.byt _=>true
 | .int _,.str _=>true | .str _,.int _=>true | .bl _,.str _=>true | .str _,.bl _=>true
 | _,_=>false
inductive wz (x:V) (y:V) (H:Hp) (Q:VK):Prop
 | mk  (yd:wD x y=true) (ye:Q (.bl (decide (x=y))) H):wz  x y H Q
def rEq:R2:=wz
inductive wJ (x:V) (y:V) (H:Hp) (Q:VK):Prop
 | mk  (yd:wD x y=true) (ye:Q (.bl (!decide (x=y))) H):wJ  x y H Q
def rNe:R2:=wJ
theorem rm {i j:Int}:decide (V.int i=V.int j)=(i == j):=by
 rw [Xa];simp
theorem sN {i j:Bool}:decide (V.bl i=V.bl j)=(i == j):=by
 rw [Xa];simp
theorem qz {i j:TY}:decide (V.str i=V.str j)=(i == j):=by
 rw [Xa];simp
theorem qU {i j:Array UInt8}:decide (V.byt i=V.byt j)=(i.toList == j.toList):=by
 rw [Xa];cases i;cases j;simp
section
variable {X:Cx} {a b c:UH} {ta tb tc:TE} {pos:Xn}
theorem aZ {pins:List (Ta×VH)} {σ:St} {H:Hp} {s:Tj} {Q:VK} {k k':Bool} (I:Inv X pins σ H s) (q:Q (.bl k) H) (e:k=k'):EP X pins σ Q (.bool k') s:=by
 subst e;exact ⟨.bl k,H,I,rfl,q⟩
theorem cM:OpR X (WN .Eq) rEq:=by
 intro pins s σ H x y v u Q I rx ry h;obtain ⟨hs,q⟩:=h;cases x with
 | non =>
   cases rx;cases y with
   | non=>cases ry;exact PySem.EqNone.eq_none_none (aZ I q (by simp))
   | bl j=>cases ry;exact PySem.EqNone.eq_none_bool (aZ I q (by simp))
   | int j=>obtain ⟨t',rfl⟩:=ry;exact PySem.EqNone.eq_none_int (aZ I q (by simp))
   | str j=>obtain ⟨t',rfl⟩:=ry;exact PySem.EqNone.eq_none_str (aZ I q (by simp))
   | _=>exact absurd (show false=true from hs) TH
 | bl i =>
   cases rx;cases y with
   | non=>cases ry;exact PySem.EqNone.eq_bool_none (aZ I q (by simp))
   | bl j=>cases ry;exact eq_bool (aZ I q sN)
   | str j=>obtain ⟨t',rfl⟩:=ry;exact PySem.EqMixed.eq_bool_str (aZ I q (by simp))
   | _=>exact absurd (show false=true from hs) TH
 | int i =>
   obtain ⟨t,rfl⟩:=rx;cases y with
   | non=>cases ry;exact PySem.EqNone.eq_int_none (aZ I q (by simp))
   | int j=>obtain ⟨t',rfl⟩:=ry;exact eq_int (aZ I q rm)
   | str j=>obtain ⟨t',rfl⟩:=ry;exact PySem.EqMixed.eq_int_str (aZ I q (by simp))
   | _=>exact absurd (show false=true from hs) TH
 | str i =>
   obtain ⟨t,rfl⟩:=rx;cases y with
   | non=>cases ry;exact PySem.EqNone.eq_str_none (aZ I q (by simp))
   | bl j=>cases ry;exact PySem.EqMixed.eq_str_bool (aZ I q (by simp))
   | int j=>obtain ⟨t',rfl⟩:=ry;exact PySem.EqMixed.eq_str_int (aZ I q (by simp))
   | str j=>obtain ⟨t',rfl⟩:=ry;exact eq_str (aZ I q qz)
   | _=>exact absurd (show false=true from hs) TH
 | byt i =>
   obtain ⟨t,rfl⟩:=rx;cases y with
   | byt j=>obtain ⟨t',rfl⟩:=ry;exact PySem.W.eq_bytes (aZ I q qU)
   | _=>exact absurd (show false=true from hs) TH
 | _=>cases y <;> exact absurd (show false=true from hs) TH
theorem o9:OpR X (WN .NotEq) rNe:=by
 intro pins s σ H x y v u Q I rx ry h;obtain ⟨hs,q⟩:=h;cases x with
 | non =>
   cases rx;cases y with
   | non=>cases ry;exact PySem.EqNone.ne_none_none (aZ I q (by simp))
   | bl j=>cases ry;exact PySem.EqNone.ne_none_bool (aZ I q (by simp))
   | int j=>obtain ⟨t',rfl⟩:=ry;exact PySem.EqNone.ne_none_int (aZ I q (by simp))
   | str j=>obtain ⟨t',rfl⟩:=ry;exact PySem.EqNone.ne_none_str (aZ I q (by simp))
   | _=>exact absurd (show false=true from hs) TH
 | bl i =>
   cases rx;cases y with
   | non=>cases ry;exact PySem.EqNone.ne_bool_none (aZ I q (by simp))
   | bl j=>cases ry;exact ne_bool (aZ I q (congrArg not sN))
   | str j=>obtain ⟨t',rfl⟩:=ry;exact PySem.EqMixed.ne_bool_str (aZ I q (by simp))
   | _=>exact absurd (show false=true from hs) TH
 | int i =>
   obtain ⟨t,rfl⟩:=rx;cases y with
   | non=>cases ry;exact PySem.EqNone.ne_int_none (aZ I q (by simp))
   | int j=>obtain ⟨t',rfl⟩:=ry;exact ne_int (aZ I q (congrArg not rm))
   | str j=>obtain ⟨t',rfl⟩:=ry;exact PySem.EqMixed.ne_int_str (aZ I q (by simp))
   | _=>exact absurd (show false=true from hs) TH
 | str i =>
   obtain ⟨t,rfl⟩:=rx;cases y with
   | non=>cases ry;exact PySem.EqNone.ne_str_none (aZ I q (by simp))
   | bl j=>cases ry;exact PySem.EqMixed.ne_str_bool (aZ I q (by simp))
   | int j=>obtain ⟨t',rfl⟩:=ry;exact PySem.EqMixed.ne_str_int (aZ I q (by simp))
   | str j=>obtain ⟨t',rfl⟩:=ry;exact ne_str (aZ I q (congrArg not qz))
   | _=>exact absurd (show false=true from hs) TH
 | byt i =>
   obtain ⟨t,rfl⟩:=rx;cases y with
   | byt j=>obtain ⟨t',rfl⟩:=ry;exact PySem.W.ne_bytes (aZ I q (congrArg not qU))
   | _=>exact absurd (show false=true from hs) TH
 | _=>cases y <;> exact absurd (show false=true from hs) TH
theorem mG:OpR X (WN .Lt) (rI0 fun i j=>.bl (decide (i<j))):=wm fun _ _ _ _ _ _ _ q=>lt_int q
theorem wB:OpR X (WN .LtE) (rI0 fun i j=>.bl (decide (i<=j))):=wm fun _ _ _ _ _ _ _ q=>le_int q
theorem mN:OpR X (WN .Gt) (rI0 fun i j=>.bl (decide (j<i))):=wm fun _ _ _ _ _ _ _ q=>gt_int q
theorem t6:OpR X (WN .Is) (fun x y H Q=>y=.non/\Q (.bl (decide (x=.non))) H):=by
 intro pins s σ H x y v u Q I rx ry h;obtain ⟨rfl,q⟩:=h;cases ry;refine is_none_gen (aZ I q ?_)
 cases x <;> first
  | (cases rx;rfl)
  | (obtain ⟨t,rfl⟩:=rx;rfl)
theorem aO (b:UH) {op:CmpOp} (h:op≠.In:=by decide) (h2:op≠.NotIn:=by decide):Ym op b=false:=by
 have e1:(op == CmpOp.In)=false:=by cases op <;> first | rfl | exact absurd rfl h
 have e2:(op == CmpOp.NotIn)=false:=by cases op <;> first | rfl | exact absurd rfl h2
 cases b <;> simp [Ym,e1,e2]
theorem iY {op:CmpOp} {r:R2} (ho:OpR X (WN op) r) (ha:PE X a ta) (hb:PE X b tb) (hm:Ym op b=false):PE X (.Compare a [op] [b] pos) (tOp r ta tb):=by
 intro pins s σ H Q I h;exact wpAny_Compare1 (wb ha hb I h fun v u s2 x y H2 I2 rx ry q=>ho pins s2 σ H2 x y v u Q I2 rx ry q) hm
inductive vi (x:V) (Q:Bool->Hp->Prop) (H':Hp):Prop
 | mk (k:Bool) (yd:x=.bl k) (ye:Q k H'):vi x Q H'
def qL (t:TE):TT:=fun σ H Q=>t σ H fun x H'=>vi x Q H'
theorem aK {op:CmpOp} {r:R2} (ho:OpR X (WN op) r) (ha:PE X a ta) (hb:PE X b tb) (hm:Ym op b=false):PT X (.Compare a [op] [b] pos) (qL (tOp r ta tb)):=by
 intro pins s σ H Q I h
 refine wpAny_isTrue_Compare1 (thn (ha pins s σ H _ I h) fun v s1 ⟨x,H1,I1,r1,q1⟩=>thn (hb pins s1 σ H1 _ I1 q1) fun u s2 ⟨y,H2,I2,r2,q2⟩ =>
  thn (ho pins s2 σ H2 x y v u _ I2 r1 r2 q2) fun c s3 ⟨z,H3,I3,r3,k,e,q3⟩=>?_) hm
 subst e;cases r3;exact WU ⟨H3,I3,q3⟩
def uv (K:S8) (x:V) (H:Hp) (k:Bool):Prop :=
 match x with
 | .non=>k=false
 | .bl b=>k=b
 | .int i=>k=(i != 0)
 | .str y=>y.length<=TB/\k=((y.length:Int) != 0)
 | .byt y=>y.size<=TB/\k=((y.size:Int) != 0)
 | .ref p=>(∃ xs,SqL K H p xs/\k=!xs.isEmpty)∨(∃ xs,SqT K H p xs/\k=!xs.isEmpty)∨∃ f',H p=some (.dK f')/\k=!f'.isEmpty
 | _=>False
theorem qr {κ:Type} {f':List (κ×V)} {vs:List (κ×Tc)} (r:KV f' vs):(!vs.isEmpty)=!f'.isEmpty:=by
 cases r <;> rfl
theorem j9 {xs:List V} {its:List Tc} (r:Vals xs its):(!its.toArray.isEmpty)=!xs.isEmpty:=by
 cases r <;> simp
theorem fk:(TB:Nat)<2 ^ 63:=by rw [Xl];decide
theorem wn:xu X (fun x H Q=>∃ k,uv X.K x H k/\Q k H):=by
 intro pins s σ H x v Q I rx h;obtain ⟨k,e,q⟩:=h;have hl:=fk;have hs:TB=16777216:=Xl;cases x with
 | non =>
   cases rx;have e':k=false:=e;subst e';exact truthy_none ⟨H,I,q⟩
 | bl b =>
   cases rx;have e':k=b:=e;subst e';exact WU ⟨H,I,q⟩
 | int i =>
   obtain ⟨t,rfl⟩:=rx;have e':k=(i != 0):=e;subst e';exact PySem.P.truthy_int ⟨H,I,q⟩
 | str y =>
   obtain ⟨t,rfl⟩:=rx;obtain ⟨hy,e'⟩:y.length<=TB/\k=((y.length:Int) != 0):=e;subst e';exact PySem.P.truthy_str (by omega) ⟨H,I.tok _,q⟩
 | byt y =>
   obtain ⟨t,rfl⟩:=rx;obtain ⟨hy,e'⟩:y.size<=TB/\k=((y.size:Int) != 0):=e;subst e';exact PySem.W.truthy_bytes (by omega) ⟨H,I.tok _,q⟩
 | ref p =>
   cases rx;have e':(∃ xs,SqL X.K H p xs/\k=!xs.isEmpty)∨(∃ xs,SqT X.K H p xs/\k=!xs.isEmpty)∨∃ f',H p=some (.dK f')/\k=!f'.isEmpty:=e;rcases e' with ⟨xs,hx,e'⟩ | ⟨xs,hx,e'⟩ | ⟨f',hx,e'⟩
   · subst e';obtain ⟨its,r,pl,hz⟩:=I.list hx;have hlen:=r.length;exact wpAny_truthy_list pl.isList (by simp only [Tq];omega) ⟨H,I.tok _,by rw [j9 r];exact q⟩
   · subst e';obtain ⟨its,r,pl,hz⟩:=I.tuple hx;have hlen:=r.length;exact truthy_tuple pl (by simp only [Tq];omega) ⟨H,I.tok _,by rw [j9 r];exact q⟩
   · subst e';obtain ⟨hz,hS,vs,r,m⟩:f'.length<=TB/\(p == Vn)=false/\∃ vs,KV f' vs/\s.heap.DictOf (aE X.prog X.w) p vs:=I.hok p _ hx;have hlen:f'.length=vs.length:=Tp r;exact wpAny_truthy_dict hS m (by omega) ⟨H,I.tok _,by rw [qr r];exact q⟩
 | _=>exact (show False from e).elim
theorem aY (ha:PE X a ta) (he:∀ whole,isTrue a X.env whole=(do let v ← whole;standAt a.pos;holding [v] (truthy v))) :
 PT X a (fun σ H Q=>ta σ H fun x H'=>∃ k,uv X.K x H' k/\Q k H'):=by
 intro pins s σ H Q I h;exact isTrue_plain (thn (ha pins s σ H _ I h) fun v s1 ⟨x,H1,I1,r1,q1⟩=>wn pins s1 σ H1 x v Q I1 r1 q1) (he _)
theorem iE:OpR X (Xe .Add) (fun x y H Q=>∃ i j,x=.str i/\y=.str j/\i.length+j.length<=TB/\Q (.str (i++j)) H):=by
 intro pins s σ H x y v u Q I rx ry h;obtain ⟨i,j,rfl,rfl,hz,q⟩:=h;obtain ⟨t,rfl⟩:=rx;obtain ⟨t',rfl⟩:=ry;exact add_str (fun t' tk=>⟨.str (i++j),H,I.tok _,⟨_,rfl⟩,q⟩) hz
theorem vals1 {x:V} {us:List Tc} (r:Vals [x] us):∃ u,us=[u]/\RelV x u:=by
 cases r with
 | cons r1 r2=>cases r2;exact ⟨_,rfl,r1⟩
theorem vals2 {x y:V} {us:List Tc} (r:Vals [x,y] us):∃ u w',us=[u,w']/\RelV x u/\RelV y w':=by
 cases r with
 | cons r1 r2 =>
   cases r2 with
   | cons r3 r4=>cases r4;exact ⟨_,_,rfl,r1,r3⟩
end
end L2
namespace L2
open PySem PySem.Spec PyProof.Rows
structure ObjM (h:UM) (x dx C:Ta) (mA:TY->Option Tc):Prop where
 obj:h.get? x=some (PySem.W.instObj C dx)
 ns:h.Ns1 dx mA
 ne:dx≠x
theorem sH {h:UM} {dx:Ta} {mA:TY->Option Tc} (n:h.Ns1 dx mA):∃ od,h.get? dx=some od/\∀ name,PySem.W.lookIn name od=some (mA name):=by
 obtain ⟨o,es,ep,ho,hd,hk,_,hm⟩:=n;refine ⟨o,ho,fun name=>?_⟩;have e:=hm name;unfold nsFind findBy at e;rw [<- Array.find?_toList] at e;unfold PySem.W.lookIn;rw [hd];dsimp only;split
 · rename_i y q
   rw [q] at e;exact congrArg some e
 · rename_i q
   rw [q] at e
   have a:es.toList.any (·.refKey)=false:=by
    rw [List.any_eq_false];intro y hy;obtain ⟨z,t,zF⟩:=hk y (Array.mem_toList_iff.mp hy);simp [DictEntry.refKey,zF]
   have a':¬ es.toList.any (·.refKey)=true:=by rw [a];exact TH
   rw [if_neg a'];exact congrArg some e
theorem ObjM.look {h:UM} {x dx C:Ta} {mA:TY->Option Tc} (I:ObjM h x dx C mA):∃ od,PySem.W.InstAt h x (PySem.W.instObj C dx) C (some od)/\∀ name,PySem.W.lookIn name od=some (mA name) :=
 let ⟨od,ho,hl⟩:=sH I.ns
 ⟨od,⟨I.obj,rfl,rfl,ho⟩,hl⟩
section
variable {prog:Tv} {w:TN} {A:Uh} {E:Tc->Tj->Prop} {s:Tj} {K:S8} {x dx C f:Ta} {mA:TY->Option Tc} {name:TY} {v:Tc}
end
theorem RelO.some_of {v:V} {o:Option Tc} (r:RelO (some v) o):∃ u,o=some u/\RelV v u:=by
 cases o with
 | none=>exact (show False from r).elim
 | some u=>exact ⟨u,rfl,r⟩
section
variable {P:Tv} {w:TN} {H H':Hp} {h h':UM} {a C dx:Ta} {fs O3:List (TY×V)}
theorem u5 (hok:HOk P w H h) (e:H a=some (.ins C dx fs)):∃ mA,ObjM h a dx C mA/\(∀ f,RelO (fs.lookup f) (mA f))/\PySem.Within mA (fs.map (·.1))/\fs.length<=1000/\H dx=some (.own a):=by
 obtain ⟨d,z,ne,ob,mA,n,r,q⟩:=(show ObjOk P w H h a (.ins C dx fs) from hok a _ e);exact ⟨mA,⟨ob,n,ne⟩,r,q,z,d⟩
end
structure Cls (K:S8) (C:Ta):Prop where
 pg:PySem.W.plainGet K C Str.empty=true
 hd:PySem.W.hasDictIn K C=true
 po:PySem.W.plainOver K C=true
 sa:PySem.W.findIn K (.ref C) "__setattr__"=some (some (.builtin "object.__setattr__"))
theorem Cls.get {K:S8} {C:Ta} (c:Cls K C) (f:TY):PySem.W.plainGet K C f=true:=c.pg
section
variable {X:Cx} {pins:List (Ta×VH)} {σ:St} {H:Hp} {s:Tj} {a C dx:Ta} {fs:List (TY×V)} {f:TY} {v:V} {A:Uh} {E:Tc->Tj->Prop}
end
section
variable {X:Cx} {o e value:UH} {f:TY} {pos pos' J5:Xn} {ta tv:TE}
end
section
variable {X:Cx} {pins:List (Ta×VH)} {σ:St} {H:Hp} {s:Tj} {A:Uh} {E:Tc->Tj->Prop} {Q:Tc->Tj->Prop} {c:Tc} {b:Bool}
inductive iP (K:S8) (H:Hp):V->Tc->Prop where
 | non:iP K H .non (.type "NoneType")
 | bl (x:Bool):iP K H (.bl x) (.type "bool")
 | int (i:Int):iP K H (.int i) (.type "int")
 | str (x:TY):iP K H (.str x) (.type "str")
 | flt (x:UInt64):iP K H (.flt x) (.type "float")
 | lst {a:Ta} {xs:List V} (e:H a=some (.lst xs)):iP K H (.ref a) (.type "list")
 | frz {a:Ta} {o:VH} {xs:List V} (e:H a=some (.frz o (.lst xs))):iP K H (.ref a) (.type "list")
 | tup {a:Ta} {xs:List V} (e:H a=some (.tup xs)):iP K H (.ref a) (.type "tuple")
 | dK {a:Ta} {f':List (Key×V)} (e:H a=some (.dK f')):iP K H (.ref a) (.type "dict")
 | dT {a:Ta} {f':List (List Key×V)} (e:H a=some (.dT f')):iP K H (.ref a) (.type "dict")
 | ins {a C dx:Ta} {fs:List (TY×V)} (e:H a=some (.ins C dx fs)) (cl:Cls K C) (ha:PySem.W.findIn K (.ref C) "__class__"=some (some (.builtin "object.__class__")))
  (hn:PySem.W.specialIn K (.builtin "object.__class__") "__get__"=some (some (.builtin "getset_descriptor.__get__"))) (zS:PySem.W.takesIn K (.builtin "object.__class__")=some true)
  (hm:PySem.W.mroIn K C (.type "object")=some true):iP K H (.ref a) (.ref C)
theorem r6 {x:V} {u t:Tc} (I:Inv X pins σ H s) (rx:RelV x u) (ty:iP X.K H x t) (e:WJ X.K t c=some b) (h:∀ tk,Q (.bool b) { s with toks:=tk }) :
 Tx (T6 X.prog X.w) A (call (.builtin "isinstance") [u,c]) Q E s:=by
 cases ty with
 | non=>cases (show u=UX from rx);exact Va PySem.W.kitx_none I.kIn VF e (fun z=>nomatch z) h
 | bl y=>cases (show u=Value.bool y from rx);exact Va PySem.W.kitx_bool I.kIn VF e (fun z=>nomatch z) h
 | int i=>obtain ⟨t,q⟩:=(show ∃ t,u=Value.int i t from rx);cases q;exact Va PySem.W.kitx_int I.kIn VF e (fun z=>nomatch z) h
 | str y=>obtain ⟨t,q⟩:=(show ∃ t,u=Value.str y t from rx);cases q;exact Va PySem.W.kitx_str I.kIn VF e (fun z=>nomatch z) h
 | flt y=>obtain ⟨t,q⟩:=(show ∃ t,u=Value.float y t from rx);cases q;exact Va PySem.W.kitx_float I.kIn VF e (fun z=>nomatch z) h
 | @lst a xs ea =>
   cases (show u=T5 a from rx);obtain ⟨_,_,n,_,h1⟩:=(show ObjOk X.prog X.w H s.heap a (.lst xs) from I.hok a _ ea);exact Va PySem.W.kitx_list I.kIn ⟨_,h1,rfl⟩ e (fun z=>nomatch z) h
 | @frz a ob xs ea =>
   cases (show u=T5 a from rx);obtain ⟨_,_,_,n,_,h1⟩:=(show ObjOk X.prog X.w H s.heap a (.frz ob (.lst xs)) from I.hok a _ ea);exact Va PySem.W.kitx_list I.kIn ⟨_,h1,rfl⟩ e (fun z=>nomatch z) h
 | @tup a xs ea =>
   cases (show u=T5 a from rx);obtain ⟨_,_,_,_,h1⟩:=(show ObjOk X.prog X.w H s.heap a (.tup xs) from I.hok a _ ea);exact Va PySem.W.kitx_tuple I.kIn ⟨_,h1,rfl⟩ e (fun z=>nomatch z) h
 | @dK a f' ea =>
   cases (show u=T5 a from rx);obtain ⟨_,_,vs,_,p⟩:=(show ObjOk X.prog X.w H s.heap a (.dK f') from I.hok a _ ea);obtain ⟨o,es,ep,h1,h2,_⟩:=p;exact Va PySem.W.kitx_dict I.kIn ⟨o,h1,h2.1⟩ e (fun z=>nomatch z) h
 | @dT a f' ea =>
   cases (show u=T5 a from rx);obtain ⟨_,_,xs,_,o,es,ep,h1,h2,_⟩:=(show ObjOk X.prog X.w H s.heap a (.dT f') from I.hok a _ ea);exact Va PySem.W.kitx_dict I.kIn ⟨o,h1,h2.1⟩ e (fun z=>nomatch z) h
 | @ins a C dx fs ea cl ha hn zS hm =>
   cases (show u=T5 a from rx);obtain ⟨mA,O,_⟩:=u5 I.hok ea;obtain ⟨od,J,_⟩:=O.look;exact Va (PySem.W.kitx_own (cl.get _) cl.hd ha hn zS hm) I.kIn J e (fun z=>nomatch z) h
end
end L2
namespace L2
open PySem PySem.Spec PyProof.Rows
structure Room (k:Nat) (A:Uh):Prop where
 hd:A.handled=none
 dp:A.depth+3 * k+5<recursionLimit
 un:A.units+16 * k+200<Vc
theorem Room.mono {j k:Nat} {A:Uh} (r:Room k A) (h:j<=k):Room j A:=⟨r.hd,by have:=r.dp;omega,by have:=r.un;omega⟩
theorem Room.deeper {k:Nat} {A:Uh} (r:Room (k+1) A) (env:Env):Room k (A.deeper env) :=
 ⟨r.hd,by have:=r.dp;show A.depth+1+3 * k+5<_;omega,by have:=r.un;show A.units+3+16 * k+200<_;omega⟩
theorem Room.depth {k:Nat} {A:Uh} (r:Room k A):A.depth<recursionLimit:=by have:=r.dp;omega
theorem Room.units {k:Nat} {A:Uh} (r:Room k A):A.units+64<Vc:=by have:=r.un;omega
def dU:TA:=fun _ H Q=>Q [] H
def bA (ta:TE) (tr:TA):TA:=fun σ H Q=>ta σ H fun x H1=>tr σ H1 fun xs H2=>Q (x::xs) H2
section
variable {X:Cx} {e:UH} {es:List UH} {te:TE} {t:TA} {pos:Xn}
theorem ac:PA X [] dU:=fun _ _ _ _ H Q I h=>VD ⟨[],H,I,.nil,h⟩
theorem aa (ha:PE X e te) (hr:PA X es t) (hs:Uu (e::es) X.env=(false,VS e X.env)::Uu es X.env:=by rfl):PA X (e::es) (bA te t):=by
 intro pos pins s σ H Q I h;rw [hs];show Tx _ _ (spliced ((false,VS e X.env)::Xv pos (Uu es X.env))) _ _ s;refine U6 (thn (ha pins s σ H _ I h) fun u s1 ⟨x,H1,I1,r1,q1⟩=>?_);exact thn (hr pos pins s1 σ H1 _ I1 q1) fun us s2 ⟨xs,H2,I2,r2,q2⟩=>⟨x::xs,H2,I2,.cons r1 r2,q2⟩
def jS (t:TA):TE:=fun σ H Q=>t σ H fun xs H1=>xs.length<=TB/\∀ p,H1 p=none->Q (.ref p) (upd H1 p (.tup xs))
def xQ (t:TA):TE:=fun σ H Q=>t σ H fun xs H1=>xs.length<=TB/\∀ p,H1 p=none->Q (.ref p) (upd H1 p (.lst xs))
theorem aJ {x1} (h:PA X es t):PE X (.Tuple es x1 pos) (jS t):=by
 intro pins s σ H Q I hq;refine wpAny_Tuple_spliced (thn (h pos pins s σ H _ I hq) fun us s1 ⟨xs,H1,I1,r,z,q⟩=>⟨by rw [<- r.length];exact z,?_⟩);have hf:H1 s1.heap.objs.size=none:=I1.hok.fresh (Td _);refine ⟨.ref s1.heap.objs.size,upd H1 s1.heap.objs.size (.tup xs),I1.laid (t':=s1.toks) (fun b u e=>Tf _ e) (Td _) ?_,rfl,q _ hf⟩;exact ⟨z,us,0,r,Tt _ rfl⟩
theorem bw (h:PA X es t):PE X (.List es pos) (xQ t):=by
 intro pins s σ H Q I hq;refine wpAny_List_spliced (thn (h pos pins s σ H _ I hq) fun us s1 ⟨xs,H1,I1,r,z,q⟩=>⟨by rw [<- r.length];exact z,?_⟩);have hf:H1 s1.heap.objs.size=none:=I1.hok.fresh (Td _);refine ⟨.ref s1.heap.objs.size,upd H1 s1.heap.objs.size (.lst xs),I1.laid (t':=s1.toks) (fun b u e=>Tf _ e) (Td _) ?_,rfl,q _ hf⟩;exact ⟨z,us,0,r,Tt _ rfl⟩
end
abbrev Sp:=List V->Hp->VK->XK->Prop
abbrev CXT:=List Env->Hp->Tj->XK->Tc->Tj->Prop
structure uq (P:Tv) (w:TN) (K:S8) (mg:TY->Option Tc) (base:UM) (A:Uh) (outer:List Env) (s:Tj) (H:Hp):Prop where
 frames:A.frames=some outer
 mod:Mod K mg base
 bs:∀ b o,base.get? b=some o->s.heap.get? b=some o/\H b=none
 bsz:base.objs.size<=s.heap.objs.size
 funs:s.heap.FunFrames base outer
 frf:∀ b∈frs outer,H b=none
 hok:HOk P w H s.heap
 bare:AllBare s.gens
def CE (outer:List Env) (P:Tv) (w:TN) (H:Hp) (s:Tj) (Q:VK) (u:Tc) (s':Tj):Prop :=
 ∃ v H',s'.os=s.os/\AllBare s'.gens/\Un (frs outer) [] H H' s.heap s'.heap/\HOk P w H' s'.heap/\RelV v u/\Q v H'
def CR (CX:CXT) (outer:List Env) (P:Tv) (w:TN) (H:Hp) (s:Tj) (Q:VK) (E:XK) (r:Result) (s':Tj):Prop :=
 match r with
 | .ok (.ret u)=>CE outer P w H s Q u s'
 | .ok _=>False
 | .error e=>CX outer H s E e s'
structure bi (P:Tv) (w:TN) (K:S8) (mg:TY->Option Tc) (base:UM) (CX:CXT) (k:Nat) (f:Ta) (fd:WK) (ps:List TY) (sp:Sp):Prop where
 len:∀ vs H Q E,sp vs H Q E->vs.length=ps.length
 run:∀ (A:Uh) (outer:List Env) (s:Tj) (H:Hp) (args:Args) (us:List Tc) (vs:List V) (Q:VK) (E:XK),Room k A->uq P w K mg base A outer s H->BindsTo s fd args (ps.zip us)->Vals vs us->sp vs H Q E →
  Xu (T6 P w) A (.call (.ref f) args) (CR CX outer P w H s Q E) s
section
variable {X:Cx} {pins:List (Ta×VH)} {σ:St} {H:Hp} {s s':Tj}
theorem Inv.env0 (I:Inv X pins σ H s):uq X.prog X.w X.K X.mg X.base X.A X.stack s H :=
 ⟨I.ok.frames,I.ok.mod,I.bs,Ve I.ok.bsz I.sz,I.stack,I.stkFree,I.hok,I.bare⟩
theorem Inv.after {Q:VK} {u:Tc} (I:Inv X pins σ H s) (h:CE X.stack X.prog X.w H s Q u s'):EP X pins σ Q u s':=by
 obtain ⟨v,H',os,bare,un,hok,r,q⟩:=h;obtain ⟨hh,g,d,t,O9⟩:=s';obtain rfl:O9=s.os:=os;exact ⟨v,H',I.call (h':=hh) (g':=g) (d':=d) (t':=t) (ch:=[]) un hok bare (fun b z=>absurd z (by simp)),r,q⟩
end
def g9 (sp:Sp) (dvs:List V) (E:XK) (t:TA):TE:=fun σ H Q=>t σ H fun vs H1=>sp (vs++dvs) H1 Q E
def Binds (K:S8) (fd:WK) (ps:List TY) (ds:List Tc):Prop :=
 ∀ (s:Tj) (us:List Tc),K.In s.heap->(us++ds).length=ps.length->BindsTo s fd ⟨us,[]⟩ (ps.zip (us++ds))
theorem Binds.all {K:S8} {fd:WK} {ps:List TY} (h:∀ us:List Tc,us.length=ps.length->bindArgs fd ⟨us,[]⟩=pure (ps.zip us)):Binds K fd ps []:=fun s us _ hl=>by
 rw [Ui] at hl ⊢;exact .of_eq (h us hl)
def Passes (CX:CXT) (X:Cx) (E:XK):Prop:=∀ (pins:List (Ta×VH)) (σ:St) (H:Hp) (s:Tj) (e:Tc) (s':Tj),Inv X pins σ H s->CX X.stack H s E e s'->X.xe e s'
section
variable {X:Cx} {CX:CXT} {k:Nat} {f C:Ta} {fd:WK} {ps:List TY} {sp:Sp} {dvs:List V} {ds:List Tc} {E:XK} {x m:TY} {p pos apos:Xn} {e o:UH} {es:List UH} {ta:TE} {t:TA}
theorem vI {pins:List (Ta×VH)} {σ:St} {H:Hp} {s:Tj} {Q:VK} {us:List Tc} {vs:List V} (F:bi X.prog X.w X.K X.mg X.base CX k f fd ps sp) (hr:Room k X.A) (hb:Binds X.K fd ps ds) (hd:Vals dvs ds) (hx:Passes CX X E)
 (I:Inv X pins σ H s) (r:Vals vs us) (h:sp (vs++dvs) H Q E):Tx (T6 X.prog X.w) X.A (call (.ref f) us) (EP X pins σ Q) X.xe s:=by
 have r2:Vals (vs++dvs) (us++ds):=r.append hd;have hl:(us++ds).length=ps.length:=by rw [<- r2.length];exact F.len _ _ _ _ h
 refine wpAny_call (codeAny_mono (F.run X.A X.stack s H ⟨us,[]⟩ (us++ds) (vs++dvs) Q E hr I.env0 (hb s us I.kIn hl) r2 h) fun r s' hq=>?_);cases r with
 | error e=>exact hx pins σ H s e s' I hq
 | ok fl =>
   cases fl with
   | ret u=>exact I.after hq
   | next=>exact WL hq
   | brk=>exact WL hq
   | cont=>exact WL hq
theorem gH (F:bi X.prog X.w X.K X.mg X.base CX k f fd ps sp) (hr:Room k X.A) (hg:Gl X x) (hm:X.mg x=some (.ref f)) (hk:Yp X.K (.ref f)=true) (hb:Binds X.K fd ps ds) (hd:Vals dvs ds) (hx:Passes CX X E)
 (ha:PA X (e::es) t) (Ey:(x == ("__debug__":TY))=false:=by decide) (he:Uu (e::es) X.env=(false,VS e X.env)::Uu es X.env:=by rfl) (yV:(Xv pos (Uu es X.env)).any (·.1)=false:=by rfl) :
 PE X (.Call (.Name x p) (e::es) [] pos) (g9 sp dvs E t):=by
 intro pins s σ H Q I h;refine U5 (qR I hg hm ?_ Ey);refine PySem.W.callWith_K (h₀:=X.base) I.ok.mod.kin hk (thn (ha pos pins s σ H _ I h) fun us s1 ⟨vs,H1,I1,r,q⟩=>⟨I1.kIn,?_⟩) he yV;exact vI F hr hb hd hx I1 r q
end
section
variable {X:Cx} {CX:CXT} {k:Nat} {f C:Ta} {fd:WK} {ps ks:List TY} {sp:Sp} {E:XK} {x m:TY} {p pos apos O':Xn} {e o:UH} {es:List UH} {RV:List Keyword} {te ta:TE} {t tk:TA} {nm:Option TY}
variable {g:List Tc->List Tc->List Tc} {gV:List V->List V->List V}
end
structure aA (N P:List TY) (sc:Xm):Prop where
 kind:sc.kind=.function
 co:sc.isCoroutine=false
 gen:sc.isGenerator=false
 nd:N.Nodup
 pre:N.take P.length=P
 par:∀ x∈P,sc.names.lookup x=some .local∨sc.names.lookup x=some .cell
 nofree:∀ y∈sc.names,y.2≠.free
theorem mP {kindOf:TY->Option VY} {x:TY}:∀ {binds:List (TY×Tc)} {m:TY->Option Tc},(∀ v,(x,v)∉binds)->bindL kindOf binds m x=m x
 | [],_,_=>rfl
 | (n,v)::r,m,h=>by
   unfold bindL;rw [mP fun w hw=>h w (TQ _ hw)];split
   · have:x≠n:=by rintro rfl;exact h v T1
     simp [this]
   · rfl
theorem mJ {kindOf:TY->Option VY} {x:TY}:∀ {binds:List (TY×Tc)} {m:TY->Option Tc},(∀ v,(x,v)∉binds)->bindC kindOf binds m x=m x
 | [],_,_=>rfl
 | (n,v)::r,m,h=>by
   unfold bindC;rw [mJ fun w hw=>h w (TQ _ hw)];split
   · rfl
   · have:x≠n:=by rintro rfl;exact h v T1
     simp [this]
theorem l8 {kindOf:TY->Option VY} {x:TY} {v:Tc}:∀ {P:List TY} {vs:List Tc} {i:Nat} {m:TY->Option Tc},P.Nodup->P[i]?=some x->vs[i]?=some v->kindOf x=some .local →
 bindL kindOf (P.zip vs) m x=some v
 | [],_,_,_,_,h,_,_=>by simp at h
 | _::_,[],_,_,_,_,h,_=>by simp at h
 | p::P,w::vs,0,m,nd,h1,h2,hk=>by
   simp at h1 h2;subst h1;subst h2;show bindL kindOf ((p,w)::P.zip vs) m p=_;unfold bindL;rw [mP fun v hv=>(Xz.mp nd).1 (Wy hv).1,if_pos hk];simp
 | p::P,w::vs,i+1,m,nd,h1,h2,hk=>by
   show bindL kindOf ((p,w)::P.zip vs) m x=_;unfold bindL;exact l8 (i:=i) (Xz.mp nd).2 (by simpa using h1) (by simpa using h2) hk
theorem mS {kindOf:TY->Option VY} {x:TY} {v:Tc}:∀ {P:List TY} {vs:List Tc} {i:Nat} {m:TY->Option Tc},P.Nodup->P[i]?=some x->vs[i]?=some v->kindOf x≠some .local →
 bindC kindOf (P.zip vs) m x=some v
 | [],_,_,_,_,h,_,_=>by simp at h
 | _::_,[],_,_,_,_,h,_=>by simp at h
 | p::P,w::vs,0,m,nd,h1,h2,hk=>by
   simp at h1 h2;subst h1;subst h2;show bindC kindOf ((p,w)::P.zip vs) m p=_;unfold bindC;rw [mJ fun v hv=>(Xz.mp nd).1 (Wy hv).1,if_neg hk];simp
 | p::P,w::vs,i+1,m,nd,h1,h2,hk=>by
   show bindC kindOf ((p,w)::P.zip vs) m x=_;unfold bindC;exact mS (i:=i) (Xz.mp nd).2 (by simpa using h1) (by simpa using h2) hk
def start (N:List TY) (vs:List V):St:=vs.map some++Vm (N.length - vs.length) none
def rO (CX:CXT) (P:Tv) (w:TN) (K:S8) (mg:TY->Option Tc) (base:UM) (N:List TY) (qual:TY) (scope:Xm) (f:Ta) (cd:Tc) (A:Uh) (outer:List Env) (s:Tj) (H:Hp) (E:XK):Cx where
 prog:=P
 w:=w
 K:=K
 mg:=mg
 base:=base
 A:=A.deeper (envOfC qual scope s.heap.objs.size f cd)
 N:=N
 s₀:=s
 H₀:=H
 env:=envOfC qual scope s.heap.objs.size f cd
 outer:=outer
 stack:=envOfC qual scope s.heap.objs.size f cd::outer
 ex:=[]
 calm:=true
 fn:=fun _=>true
 pn:=[]
 xe:=fun e s'=>Tx (T6 P w) (A.deeper (envOfC qual scope s.heap.objs.size f cd)) (leaving (envOfC qual scope s.heap.objs.size f cd) e) (fun _ J6=>CX outer H s E e J6) (fun e' J6=>CX outer H s E e' J6) s'
theorem oU {sc:Xm} {n:Nat} {x:TY} (h:sc.names.lookup x=some .cell):∃ c,(cellsFrom n sc.names []).lookup x=some c:=by
 have q:=PySem.W.cellsFrom_some sc.names n [] (.inl h);exact W3.mp q
theorem rE {CX:CXT} {P:Tv} {w:TN} {K:S8} {mg:TY->Option Tc} {base:UM} {N ps:List TY} {qual:TY} {scope:Xm} {f:Ta} {cd:Tc} {A:Uh} {outer:List Env} {s s1:Tj} {H:Hp} {E:XK} {us:List Tc} {vs:List V}
 (S:aA N ps scope) (hd:A.handled=none) (e0:uq P w K mg base A outer s H) (hl:vs.length=ps.length) (r:Vals vs us)
 (x:InCallC s s.heap.objs.size (bindL (envOfC qual scope s.heap.objs.size f cd).kindOf (ps.zip us) fun _=>none) (cellsFrom (s.heap.objs.size+1) scope.names []) (bindC (envOfC qual scope s.heap.objs.size f cd).kindOf (ps.zip us) fun _=>none) s1) :
 Inv (rO CX P w K mg base N qual scope f cd A outer s H E) [] (start N vs) H s1:=by
 have yV:ps.length<=N.length:=by have:=congrArg Wf S.pre;rw [Uc] at this;omega
 obtain ⟨h1,tk,rfl,hk⟩:=x.done;have Gh:∀ b:Ta,b∉(rO CX P w K mg base N qual scope f cd A outer s H E).ex:=fun b z=>absurd (show b∈([]:List Ta) from z) (by simp)
 refine ⟨⟨e0.mod,S.kind,rfl,rfl,Td _,fun y z c h1 h2=>?_,fun y hy=>?_,fun y c _ h=>?_,fun _=>hd,Around.frames_deeper e0.frames,.inr ⟨rfl,rfl⟩,fun b z=>absurd z (Gh b),e0.bs,e0.bsz,fun b _ _=>Gh b,fun b z=>absurd z (Gh b),e0.funs,e0.frf⟩,
  rfl,e0.bare,Un.kept hk,⟨_,x.toInCall.ns,fun i y v h1 h2 h3=>?_⟩,fun y c h=>⟨_,x.cell y c h⟩,e0.hok.fresh (Td _),fun y c h=>?_,fun p hp=>absurd (show p∈([]:List (Ta×VH)) from hp) (by simp),e0.hok.kept hk,?_⟩
 · exact name_of_addr x.apart (WW h1) (WW h2)
 · have hy:scope.names.lookup y=some .cell∨scope.names.lookup y=some .free:=hy;rcases hy with hy | hy
   · exact oU hy
   · exact absurd rfl (S.nofree _ (WW hy))
 · exact WT (x.above y c (WW h))
 · have hi:i<vs.length:=by
    unfold start at h2;by_cases hi:i<vs.length
    · exact hi
    · rw [V0 (by simpa using hi)] at h2;rw [List.getElem?_replicate] at h2;split at h2 <;> cases h2
   have ha:vs[i]?=some v:=by
    unfold start at h2;rw [VA (by simpa using hi),Tn] at h2;cases e:vs[i]? with
    | none=>rw [e] at h2;cases h2
    | some a=>rw [e] at h2;cases h2;rfl
   obtain ⟨u,hu,rv⟩:=r.get ha
   have hp:ps[i]?=some y:=by
    rw [<- S.pre,List.getElem?_take_of_lt (by omega)];exact h1
   have Nj:ps.Nodup:=by rw [<- S.pre];exact S.nd.sublist (List.take_sublist _ _)
   refine ⟨u,rv,?_⟩;rcases S.par y (Tb hp) with k | k
   · exact .inl ⟨k,l8 Nj hp hu k⟩
   · obtain ⟨c,e⟩:=oU (n:=s.heap.objs.size+1) k;refine .inr ⟨.inl k,c,e,?_⟩;have q:=x.cell y c e;rw [mS Nj hp hu (by show scope.names.lookup y≠_;rw [k];decide)] at q;exact q
 · exact e0.hok.fresh (WT (x.above y c (WW h)))
 · unfold start;show _=N.length;rw [TC,S6,WB];omega
theorem xc {CX:CXT} {P:Tv} {w:TN} {K:S8} {mg:TY->Option Tc} {base:UM} {k:Nat} {f:Ta} {name qual:TY} {params:Arguments} {body:List Vo} {scope:Xm} {dV kV doc pm yb ct oc:Tc} {an od:Option Ta}
 {DR:Array (Option Tc)} {N ps:List TY} {sp:Sp} (lk:K.lookup f=some ⟨oc,od,.func (WQ name qual params body scope dV kV doc pm an yb ct),DR⟩) (B4:Yq K yb qual=true) (S:aA N ps scope)
 (len:∀ vs H Q E,sp vs H Q E->vs.length=ps.length)
 (B7:∀ (A:Uh) (outer:List Env) (s:Tj) (H:Hp) (vs:List V) (Q:VK) (E:XK),Room k (A.deeper (envOfC qual scope s.heap.objs.size f yb))->sp vs H Q E →
  ∃ t,PSs (rO CX P w K mg base N qual scope f yb A outer s H E) body t/\t { nx:=fun _ H'=>Q .non H',rt:=Q } (start N vs) H) :
 bi P w K mg base CX (k+1) f (WQ name qual params body scope dV kV doc pm an yb ct) ps sp:=by
 refine ⟨len,fun A outer s H args us vs Q E hr e0 hb r DS=>?_⟩;have hl:=len _ _ _ _ DS;have KX:K.In s.heap:=e0.mod.kin.keeps fun b o e=>(e0.bs b o e).1;have lim:s.heap.NoLimit:=e0.mod.nolimit.keeps fun b o e=>(e0.bs b o e).1
 have Gi:∀ y∈ps.zip us,scope.names.lookup y.1=some .local∨(scope.names.lookup y.1=some .cell/\((cellsFrom (s.heap.objs.size+1) scope.names []).lookup y.1).isSome=true):=fun ⟨n,v⟩ hy=>by
  rcases S.par n (Wy hy).1 with q | q
  · exact .inl q
  · exact .inr ⟨q,PySem.W.cellsFrom_some _ _ _ (.inl q)⟩
 refine codeAny_call_function hr.depth (KX _ _ lk) rfl S.co S.gen rfl (PySem.W.codeRec_of KX B4) (hb _ _ _ _ ?_);refine wpAny_newFunctionEnv_cells S.kind Gi fun env he s1 x=>?_;subst he;refine ⟨lim.keeps x.toInCall.keep,codeAny_func ?_⟩;obtain ⟨t,ht,hq⟩:=B7 A outer s H vs Q E (hr.deeper _) DS;have I:Inv (rO CX P w K mg base N qual scope f yb A outer s H E) [] (start N vs) H s1:=rE S hr.hd e0 hl r x;refine VC (ht [] s1 (start N vs) H _ I hq) (fun fl s' hs=>?_) fun e s' hs=>hs
 have fin:∀ {xS:St} {H':Hp} {v:V} {u:Tc},Inv (rO CX P w K mg base N qual scope f yb A outer s H E) [] xS H' s'->RelV v u->Q v H'->CE outer P w H s Q u s' :=
  fun {xS H' v u} J rv q=>⟨v,H',J.os,J.bare,J.base,J.hok,rv,q⟩
 cases fl with
 | ret u =>
   obtain ⟨v,xS,H',J,rv,q⟩:=hs;exact fin J rv q
 | next =>
   obtain ⟨xS,H',J,q⟩:=hs;exact fin (v:=V.non) (u:=UX) J rfl q
 | brk =>
   obtain ⟨_,_,_,q⟩:=hs;exact WL q
 | cont =>
   obtain ⟨_,_,_,q⟩:=hs;exact WL q
end L2
namespace L2
open PySem PySem.Spec PyProof.Rows
section
variable {X:Cx} {x:TY} {p pos:Xn} {e:UH} {es:List UH} {t:TA} {id T:String} {r:List V->Hp->VK->Prop}
def tCB (r:List V->Hp->VK->Prop) (t:TA):TE:=fun σ H Q=>t σ H fun vs H1=>r vs H1 Q
theorem ay (hc:gR X (.builtin id) r) (hg:Gl X x) (hm:X.mg x=none) (hv:XU x=some (.builtin id)) (ha:PA X (e::es) t) (hn:x≠"__name__":=by decide) (Ey:(x == ("__debug__":TY))=false:=by decide)
 (he:Uu (e::es) X.env=(false,VS e X.env)::Uu es X.env:=by rfl) (yV:(Xv pos (Uu es X.env)).any (·.1)=false:=by rfl):PE X (.Call (.Name x p) (e::es) [] pos) (tCB r t):=by
 intro pins s σ H Q I h;refine U5 (db I hg hm hv ?_ hn Ey);exact PyProof.Rows.callWith_builtin1 (thn (ha pos pins s σ H _ I h) fun us s1 ⟨vs,H1,I1,r1,q1⟩=>hc pins s1 σ H1 vs us Q I1 r1 q1) he yV
theorem cV (hc:gR X (.type T) r) (hg:Gl X x) (hm:X.mg x=none) (hv:XU x=some (.type T)) (ha:PA X (e::es) t) (hn:x≠"__name__":=by decide) (Ey:(x == ("__debug__":TY))=false:=by decide)
 (he:Uu (e::es) X.env=(false,VS e X.env)::Uu es X.env:=by rfl) (yV:(Xv pos (Uu es X.env)).any (·.1)=false:=by rfl):PE X (.Call (.Name x p) (e::es) [] pos) (tCB r t):=by
 intro pins s σ H Q I h;refine U5 (db I hg hm hv ?_ hn Ey);exact Ur (thn (ha pos pins s σ H _ I h) fun us s1 ⟨vs,H1,I1,r1,q1⟩=>hc pins s1 σ H1 vs us Q I1 r1 q1) he yV
end
end L2
namespace HT
open PySem PyProof.Rows
section
open PySem.SeqAt
open PySem.AutoSeq1 (wpAny_loadPart')
open PySem.MeetsSeq PySem.MeetsSeq2 PySem.MeetsSeq3
end
section
variable {prog:Tv} {w:TN} {A:Uh} {E:Tc->Tj->Prop} {s:Tj}
theorem cat_tup {t b:Ta} {vs ws:List Tc} {Q:Tc->Tj->Prop} (ht:IsTup s.heap t vs.toArray) (hb:IsTup s.heap b ws.toArray) (hv:vs≠[])
 (h1:ws=[]->Q (.ref t) s) (h2:ws≠[]->Q (.ref s.heap.objs.size) { s with heap:=s.heap.push { cls:=.type "tuple",data:=.seq (vs++ws).toArray } })
 (hsz:vs.length+ws.length<=TB):Tx (T6 prog w) A (Xe .Add (.ref t) (.ref b)) Q E s:=by
 obtain ⟨⟨cls,dd,data,sl⟩,ho,hc,n,hd⟩:=id ht;obtain ⟨⟨Gj,FA,data2,FC⟩,C0,BL,n2,hd2⟩:=id hb;simp only at hc hd BL hd2;subst hc hd BL hd2;have e:vs.toArray++ws.toArray=(vs++ws).toArray:=by simp
 by_cases hw:ws=[]
 · exact concat_meets ⟨_,ho,rfl⟩ ⟨_,C0,rfl⟩ noFill_tuple_add seq_tuple_add X8 X5 (XX _ _)
    (tuple_addW1 t b vs.toArray ws.toArray n n2 dd FA sl FC (by simpa using hv) (by simp [hw])) ⟨ho,C0,h1 hw⟩
 · refine concat_meets ⟨_,ho,rfl⟩ ⟨_,C0,rfl⟩ noFill_tuple_add seq_tuple_add X8 X5 (XX _ _)
    (tuple_addW2 t b vs.toArray ws.toArray n n2 dd FA sl FC (by simpa using hv) (by simpa using hw) (by rw [Tq,Tq];exact hsz)) ⟨ho,C0,?_⟩
   rw [e];exact h2 hw
def sIx (n d:Nat):Option Int->Nat
 | none=>d
 | some v=>if v<0 then (v+(n:Int)).toNat else min v.toNat n
theorem sIx_none (n d:Nat):sIx n d none=d:=rfl
theorem sIx_nat (n d k:Nat):sIx n d (some (k:Int))=min k n:=by
 show (if (k:Int)<0 then ((k:Int)+(n:Int)).toNat else min (k:Int).toNat n)=min k n;rw [if_neg (by omega),Uw]
theorem sIx_le (n d:Nat) (hd:d<=n) (o:Option Int):sIx n d o<=n:=by
 cases o with
 | none=>exact hd
 | some v =>
   show (if v<0 then (v+(n:Int)).toNat else min v.toNat n)<=n;by_cases hv:v<0
   · rw [if_pos hv];omega
   · rw [if_neg hv];exact Nat.min_le_right _ _
theorem clip_eq (v:Int) (n d:Nat):(if v<0 then max (v+(n:Int)) 0 else min v (n:Int))=((sIx n d (some v):Nat):Int):=by
 show (if v<0 then max (v+(n:Int)) 0 else min v (n:Int))=(((if v<0 then (v+(n:Int)).toNat else min v.toNat n):Nat):Int);by_cases hv:v<0
 · simp only [if_pos hv];omega
 · simp only [if_neg hv];omega
theorem adjust_gen (lo hi:Option Int) (n:Nat):Wi lo hi 1 (n:Int)=(((sIx n 0 lo:Nat):Int),((sIx n n hi:Nat):Int)):=by
 have h1:¬ ((1:Int)<0):=by omega
 unfold Wi;simp only [h1,if_false];refine Prod.ext ?_ ?_
 · cases lo with
   | none=>rfl
   | some v=>exact clip_eq v n 0
 · cases hi with
   | none=>rfl
   | some v=>exact clip_eq v n n
theorem places_gen (i j:Nat):U4 (i:Int) (j:Int) 1=j - i:=by
 unfold U4;have h1:(1:Int) > 0:=by omega
 simp only [h1,if_true,YW];split <;> omega
theorem slicePart_ {v:Tc} {o:Option Int} {Q:Option Int->Tj->Prop} (p:Yz v o) (h:Q o s):Tx (T6 prog w) A (Builtin.Slice.slicePartIndex v) Q E s:=by
 cases p with
 | none=>exact slicePart_none h
 | int i t=>exact slicePart_int h
theorem sliceApplied_gen {sl:Ta} {vl vu:Tc} {lo hi:Option Int} {n:Nat} {Q:Int×Int×Nat->Tj->Prop} (hs:s.heap.IsSliceOf sl vl vu .none) (pl:Yz vl lo) (pu:Yz vu hi)
 (h:Q (((sIx n 0 lo:Nat):Int),1,sIx n n hi - sIx n 0 lo) s):Tx (T6 prog w) A (W6 (.ref sl) (pure (n:Int))) Q E s:=by
 obtain ⟨os,Ai,BM,Ad⟩:=id hs;unfold W6 Builtin.Slice.sliceFields;refine S7 (S7 (Uo Ai Ad (x:=vl) rfl (S7 (Uo Ai Ad (x:=vu) rfl (S7 (Uo Ai Ad (x:=.none) rfl (Tg ?_)))))));refine S7 (slicePart_none ?_);show Tx _ _ (if ((1:Int) == 0)=true then _ else _) _ _ s;rw [if_neg (by decide)];refine S7 (slicePart_ pl (S7 (slicePart_ pu (S7 (Tg ?_)))));show Tx _ _ (match Wi lo hi 1 (n:Int) with | (lo,hi)=>pure (lo,(1:Int),U4 lo hi 1)) _ _ s;rw [adjust_gen lo hi n];show Tx _ _ (pure (((sIx n 0 lo:Nat):Int),(1:Int),U4 ((sIx n 0 lo:Nat):Int) ((sIx n n hi:Nat):Int) 1)) _ _ s;rw [places_gen];exact Tg h
theorem pick_gen (xs:Array Tc) (i k:Nat):((T7 k).filterMap fun (m:Nat)=>xs[((i:Int)+(m:Int) * 1).toNat]?).toArray=((xs.toList.drop i).take k).toArray:=by
 have e:(fun (m:Nat)=>xs[((i:Int)+(m:Int) * 1).toNat]?)=fun m=>xs[i+m]?:=by
  funext m;have:((i:Int)+(m:Int) * 1).toNat=i+m:=by omega
  rw [this]
 rw [e];have:=pick_run xs i k;rw [YJ] at this;have e2:((fun x=>xs[x]?) ∘ fun x=>i+x)=fun m=>xs[i+m]?:=rfl;rw [e2] at this;rw [this]
theorem getItem_tuple_cut {t sl:Ta} {items:Array Tc} {vl vu:Tc} {lo hi:Option Int} {Q:Tc->Tj->Prop} (ht:IsTup s.heap t items) (hs:s.heap.IsSliceOf sl vl vu .none) (pl:Yz vl lo) (pu:Yz vu hi)
 (hw:¬ (sIx items.size 0 lo=0/\sIx items.size items.size hi=items.size))
 (h:Q (.ref s.heap.objs.size) { s with heap:=s.heap.push { cls:=.type "tuple",data:=.seq ((items.toList.drop (sIx items.size 0 lo)).take (sIx items.size items.size hi - sIx items.size 0 lo)).toArray } })
 (hsz:items.size<=TB):Tx (T6 prog w) A (Xr (.ref t) (.ref sl)) Q E s:=by
 have yW:sizeOk (.seq ((items.toList.drop (sIx items.size 0 lo)).take (sIx items.size items.size hi - sIx items.size 0 lo)).toArray):=by
  show ((items.toList.drop (sIx items.size 0 lo)).take (sIx items.size items.size hi - sIx items.size 0 lo)).toArray.size<=TB;rw [Tq,Uc,UL,Ua];omega
 have hj:sIx items.size items.size hi<=items.size:=sIx_le _ _ (Td _) hi;obtain ⟨os,Ai,BM,Ad⟩:=id hs;have Gk:s.TypeIs (.ref sl) "slice":=⟨os,Ai,BM⟩;unfold Xr
 try with_reducible refine UW ?_
 first | refine S7 (Tg ?_) | skip
 refine S7 (wpAny_sequenceKey ht.typeIs (by decide) ?_)
 refine S7 (Uz (name:=Ti "__getitem__") ht.typeIs Ug
  (UE Ug ht.typeIs entry_tuple_getitem ?_ (args_tuple_getitem _ _)))
 show Tx _ _ (W5 (.ref t) >>= _) _ _ s;refine S7 (tupleItemsOf_ ht ?_);refine S7 (V4 Gk ?_);rw [if_pos (by decide)];refine S7 (sliceApplied_gen hs pl pu ?_)
 have AJ:¬ ((((sIx items.size 0 lo:Nat):Int) == 0 && (1:Int) == 1 && (sIx items.size items.size hi - sIx items.size 0 lo) == items.size)=true):=by
  intro q;rw [Vs,Vs] at q;have q1:((sIx items.size 0 lo:Nat):Int)=0:=eq_of_beq q.1.1;have q2:sIx items.size items.size hi - sIx items.size 0 lo=items.size:=eq_of_beq q.2;exact hw ⟨by omega,by omega⟩
 show Tx _ _ (if (((sIx items.size 0 lo:Nat):Int) == 0 && (1:Int) == 1 && (sIx items.size items.size hi - sIx items.size 0 lo) == items.size)=true then _ else _) _ _ s;rw [if_neg AJ,pick_gen]
 first
  | exact S7 (m:=U8 _) (UD (Tg ⟨_,rfl,Tg h⟩) yW)
  | exact S7 (m:=U8 _) (UD (S7 (Tg (Tg ⟨_,rfl,Tg h⟩))) yW)
  | exact S7 (S7 (m:=U8 _) (UD (Tg (Tg ⟨_,rfl,Tg h⟩)) yW))
  | exact S7 (S7 (m:=U8 _) (UD (Tg ⟨_,rfl,Tg h⟩) yW))
end
end HT
namespace L2
open PySem PySem.Spec PyProof.Rows
abbrev TO:=St->Hp->(Option Int->Hp->Prop)->Prop
def PO (X:Cx) (e:Option UH) (t:TO):Prop :=
 ∀ (pins:List (Ta×VH)) (s:Tj) (σ:St) (H:Hp) (Q:Option Int->Hp->Prop),Inv X pins σ H s->t σ H Q →
   Tx (T6 X.prog X.w) X.A (evalPart e X.env) (fun u s'=>∃ o H',Inv X pins σ H' s'/\Yz u o/\Q o H') X.xe s
def uO:TO:=fun _ H Q=>Q none H
inductive vc (x:V) (Q:Option Int->Hp->Prop) (H1:Hp):Prop
 | mk (i:Int) (yd:x=.int i) (ye:Q (some i) H1):vc x Q H1
def vp (t:TE):TO:=fun σ H Q=>t σ H fun x H1=>vc x Q H1
section
variable {X:Cx} {e:UH} {te:TE} {lo hi:Option UH} {tl th:TO} {pos p2:Xn}
theorem bS:PO X none uO:=by
 intro pins s σ H Q I h;rw [evalPart_none];exact Tg ⟨none,H,I,.none,h⟩
theorem bB (h:PE X e te):PO X (some e) (vp te):=by
 intro pins s σ H Q I hw;rw [evalPart_some];refine thn (h pins s σ H _ I hw) fun u s1 ⟨x,H1,I1,r1,q1⟩=>?_;obtain ⟨i,rfl,q⟩:=q1;obtain ⟨t,rfl⟩:=r1;exact ⟨some i,H1,I1,.int i t,q⟩
def SlR (X:Cx) (r:V->Option Int->Option Int->Hp->VK->Prop):Prop :=
 ∀ (pins:List (Ta×VH)) (s:Tj) (σ:St) (H:Hp) (x:V) (v vl vu:Tc) (lo hi:Option Int) (sl:Ta) (Q:VK),Inv X pins σ H s->RelV x v->s.heap.IsSliceOf sl vl vu .none->Yz vl lo->Yz vu hi->r x lo hi H Q →
   ∃ T id,W0 (.type T) "__getitem__"=pure (some (.builtin id))/\s.TypeIs v T/\Tx (T6 X.prog X.w) X.A (Xr v (.ref sl)) (EP X pins σ Q) X.xe s
def tSl (r:V->Option Int->Option Int->Hp->VK->Prop) (te:TE) (tl th:TO):TE:=fun σ H Q=>te σ H fun x H1=>tl σ H1 fun l H2=>th σ H2 fun u H3=>r x l u H3 Q
theorem bq {r:V->Option Int->Option Int->Hp->VK->Prop} (hr:SlR X r) (he:PE X e te) (hl:PO X lo tl) (hu:PO X hi th):PE X (.Subscript e (.Slice lo hi none p2) pos) (tSl r te tl th):=by
 intro pins s σ H Q I h;refine Subscript_ (thn (he pins s σ H _ I h) fun v s1 ⟨x,H1,I1,r1,q1⟩=>?_);refine wpAny_Slice (thn (hl pins s1 σ H1 _ I1 q1) fun vl s2 ⟨l,H2,I2,pl,q2⟩=>thn (hu pins s2 σ H2 _ I2 q2) fun vu s3 ⟨u,H3,I3,pu,q3⟩=>?_);rw [evalPart_none];refine Tg ?_;have I4:Inv X pins σ H3 { s3 with heap:=s3.heap.push { cls:=.type "slice",data:=.fields #[vl,vu,.none] } }:=I3.kept (t':=s3.toks) fun b ob q=>Tf _ q;obtain ⟨T,id,hT,ht,hg⟩:=hr pins { s3 with heap:=s3.heap.push { cls:=.type "slice",data:=.fields #[vl,vu,.none] } } σ H3 x v vl vu l u s3.heap.objs.size Q I4 r1 (Heap.IsSliceOf.new ..) pl pu q3;show Tx (T6 X.prog X.w) X.A (subscriptTail e (.Slice lo hi none p2) v (.ref s3.heap.objs.size)) (EP X pins σ Q) X.xe { s3 with heap:=s3.heap.push { cls:=.type "slice",data:=.fields #[vl,vu,.none] } };exact tail_any (ops:=[.ref s3.heap.objs.size,v]) ht hT hg (by with_unfolding_all rfl)
def dJ (xs:List V) (lo hi:Option Int):List V:=(xs.drop (HT.sIx xs.length 0 lo)).take (HT.sIx xs.length xs.length hi - HT.sIx xs.length 0 lo)
theorem jK (xs:List V) (lo hi:Option Int):(dJ xs lo hi).length<=xs.length:=by
 unfold dJ;rw [Uc,UL];omega
inductive vA (K:S8) (x:V) (lo:Option Int) (hi:Option Int) (H:Hp) (Q:VK):Prop
 | mk (a:_) (xs:_) (yd:x=.ref a) (ye:SqT K H a xs) (yj:¬ (HT.sIx xs.length 0 lo=0/\HT.sIx xs.length xs.length hi=xs.length)) (yq:∀ p,H p=none->Q (.ref p) (upd H p (.tup (dJ xs lo hi)))):vA K x lo hi H Q
def xo (K:S8):V->Option Int->Option Int->Hp->VK->Prop:=vA K
theorem eO:SlR X (xo X.K):=by
 intro pins s σ H x v vl vu lo hi sl Q I rx hs pl pu h;obtain ⟨a,xs,rfl,hx,hw,q⟩:=h;cases rx;obtain ⟨its,r,ht,hz⟩:=I.tuple hx;have hlen:its.toArray.size=xs.length:=by rw [Tq];exact r.length.symm
 refine ⟨"tuple",_,Ug.lookup,ht.typeIs,?_⟩;refine HT.getItem_tuple_cut ht hs pl pu (by rw [hlen];exact hw) ?_ (by rw [hlen];exact hz);rw [hlen];refine ⟨.ref s.heap.objs.size,_,I.laid (t':=s.toks) (o:=.tup (dJ xs lo hi)) (fun b ob q=>Tf _ q) (Td _) ?_,rfl,q _ (I.hok.fresh (Td _))⟩;exact ⟨Ve (jK xs lo hi) hz,_,0,(r.drop (HT.sIx xs.length 0 lo)).take (HT.sIx xs.length xs.length hi - HT.sIx xs.length 0 lo),Tt _ rfl⟩
def w6 (K:S8):R2:=fun x y H Q=>∃ a b xs ys,x=.ref a/\y=.ref b/\SqT K H a xs/\SqT K H b ys/\xs≠[]/\xs.length+ys.length<=TB ∧
 (ys=[]->Q (.ref a) H)/\(ys≠[]->∀ p,H p=none->Q (.ref p) (upd H p (.tup (xs++ys))))
theorem Vals.nil_iff {xs:List V} {us:List Tc} (r:Vals xs us):us=[]↔xs=[]:=by
 cases r with
 | nil=>simp
 | cons _ _=>simp
theorem uz:OpR X (Xe .Add) (w6 X.K):=by
 intro pins s σ H x y v u Q I rx ry h;obtain ⟨a,b,xs,ys,rfl,rfl,ha,hb,hx,hz,q1,q2⟩:=h;cases rx;cases ry;obtain ⟨its,r1,p1,_⟩:=I.tuple ha;obtain ⟨xX,r2,p2,_⟩:=I.tuple hb;refine HT.cat_tup p1 p2 (fun z=>hx (r1.nil_iff.mp z)) (fun z=>⟨.ref a,H,I,rfl,q1 (r2.nil_iff.mp z)⟩) (fun z=>?_) (by rw [<- r1.length,<- r2.length];exact hz);refine ⟨.ref s.heap.objs.size,_,I.laid (t':=s.toks) (o:=.tup (xs++ys)) (fun b ob q=>Tf _ q) (Td _) ?_,rfl,q2 (fun w=>z (r2.nil_iff.mpr w)) _ (I.hok.fresh (Td _))⟩;exact ⟨by rw [TC];exact hz,_,0,r1.append r2,Tt _ rfl⟩
end
end L2
namespace L2
open PySem PySem.Spec PyProof.Rows
def ixN (n:Nat) (i:Int):Option Nat:=if 0<=i then (if i<n then some i.toNat else none) else if -(n:Int)<=i then some (i+n).toNat else none
def atI {α:Type} (xs:List α) (i:Int):Option α:=(ixN xs.length i).bind fun j=>xs[j]?
theorem nW {n:Nat} {i:Int} {j:Nat} (h:ixN n i=some j):seqIndex? i n=some j/\j<n/\-(n:Int)<=i/\i<n:=by
 unfold ixN at h;by_cases h0:0<=i
 · rw [if_pos h0] at h;by_cases h1:i<n
   · rw [if_pos h1] at h;have e:i.toNat=j:=TV h;exact ⟨by rw [seqIndex_of h0 h1,e],by omega,by omega,h1⟩
   · rw [if_neg h1] at h;cases h
 · rw [if_neg h0] at h;by_cases h1:-(n:Int)<=i
   · rw [if_pos h1] at h;have e:(i+n).toNat=j:=TV h;exact ⟨by rw [seqIndex_neg (by omega) h1,e],by omega,h1,by omega⟩
   · rw [if_neg h1] at h;cases h
theorem nS {α:Type} {xs:List α} {i:Int} {v:α} (h:atI xs i=some v):∃ j,seqIndex? i xs.length=some j/\xs[j]?=some v/\j<xs.length/\-(xs.length:Int)<=i/\i<xs.length:=by
 unfold atI at h;cases e:ixN xs.length i with
 | none=>rw [e] at h;cases h
 | some j =>
   rw [e] at h;obtain ⟨h1,h2,h3,h4⟩:=nW e;exact ⟨j,h1,h,h2,h3,h4⟩
theorem ci {α:Type} {xs:List α} {j:Nat} {v:α} (h:xs[j]?=some v):atI xs (j:Int)=some v:=by
 have hj:j<xs.length:=(Te.mp h).1
 have e:ixN xs.length (j:Int)=some j:=by
  unfold ixN;rw [if_pos (by omega),if_pos (by omega)];simp
 unfold atI;rw [e];exact h
def uP (b:UH):Prop:=∀ o i,subscripted b false o i=operate [o,i] (Xr o i)
def IxR (X:Cx) (r:R2):Prop :=
 ∀ (value slice:UH) (pins:List (Ta×VH)) (s:Tj) (σ:St) (H:Hp) (x y:V) (v u:Tc) (Q:VK),Inv X pins σ H s->RelV x v->RelV y u->r x y H Q →
   subscripted slice false v u=operate [v,u] (Xr v u)->Tx (T6 X.prog X.w) X.A (subscriptTail value slice v u) (EP X pins σ Q) X.xe s
def MtR (X:Cx) (id:String) (r:V->List V->Hp->VK->Prop):Prop :=
 ∀ (pins:List (Ta×VH)) (s:Tj) (σ:St) (H:Hp) (x:V) (xs:List V) (v:Tc) (us:List Tc) (Q:VK),Inv X pins σ H s->RelV x v->Vals xs us->r x xs H Q →
   Tx (T6 X.prog X.w) X.A (call (.builtin id) (v::us)) (EP X pins σ Q) X.xe s
section
variable {X:Cx} {a b:UH} {ta tb:TE} {pos:Xn}
theorem az {r:R2} (hr:IxR X r) (ha:PE X a ta) (hb:PE X b tb) (hs:uP b):PE X (.Subscript a b pos) (tOp r ta tb):=by
 intro pins s σ H Q I h;exact Subscript_ (wb ha hb I h fun v u s2 x y H2 I2 rx ry q=>hr a b pins s2 σ H2 x y v u Q I2 rx ry q (hs _ _))
inductive vn (K:S8) (x:V) (y:V) (H:Hp) (Q:VK):Prop
 | mk (p:_) (xs:_) (i:_) (v:_) (yd:x=.ref p) (ye:y=.int i) (yj:SqL K H p xs) (yq:atI xs i=some v) (yC:Q v H):vn K x y H Q
def vX (K:S8):R2:=vn K
inductive vb (K:S8) (x:V) (y:V) (H:Hp) (Q:VK):Prop
 | mk (p:_) (xs:_) (i:_) (v:_) (yd:x=.ref p) (ye:y=.int i) (yj:SqT K H p xs) (yq:atI xs i=some v) (yC:Q v H):vb K x y H Q
def uT (K:S8):R2:=vb K
inductive vy (x:V) (y:V) (H:Hp) (Q:VK):Prop
 | mk (z:_) (i:_) (c:_) (yd:x=.str z) (ye:y=.int i) (yj:z.length<=TB) (yq:atI z.cps.toList i=some c) (yC:Q (.str ⟨#[c]⟩) H):vy  x y H Q
def xB:R2:=vy
theorem aL:IxR X (vX X.K):=by
 intro value slice pins s σ H x y v u Q I rx ry h hs;obtain ⟨p,xs,i,z,rfl,rfl,hq,he,q⟩:=h;cases rx;obtain ⟨t,rfl⟩:=ry;obtain ⟨its,r,pl,hz⟩:=I.list hq;obtain ⟨j,h1,h2,h3,h4,h5⟩:=nS he;obtain ⟨w,ew,Br⟩:=r.get h2;have hl:=r.length;have hn:=fk;have fin:EP X pins σ Q w s:=⟨z,H,I,Br,q⟩;by_cases h0:0<=i
 · have hj:i.toNat=j:=by
    rw [seqIndex_of h0 h5] at h1;exact TV h1
   exact item_listR pl.isList h0 (by omega) (by rw [hj];simpa using ew) fin hs
 · have hj:(i+(its.toArray.size:Int)).toNat=j:=by
    rw [seqIndex_neg (by omega) h4] at h1;rw [Tq,<- hl];exact TV h1
   exact subscriptTail_builtinR (x:=w) pl.isList.typeIs slot_list_getitem.lookup
    (wpAny_getItem_list_neg (Q:=fun r s'=>r=w/\EP X pins σ Q r s') pl.isList (by omega) (by rw [Tq] <;> omega) (by omega) (by rw [hj];simpa using ew) ⟨rfl,fin⟩) hs
theorem aD:IxR X (uT X.K):=by
 intro value slice pins s σ H x y v u Q I rx ry h hs;obtain ⟨p,xs,i,z,rfl,rfl,hq,he,q⟩:=h;cases rx;obtain ⟨t,rfl⟩:=ry;obtain ⟨its,r,pl,hz⟩:=I.tuple hq;obtain ⟨j,h1,h2,h3,h4,h5⟩:=nS he;obtain ⟨w,ew,Br⟩:=r.get h2;have hl:=r.length;have hn:=fk;have fin:EP X pins σ Q w s:=⟨z,H,I,Br,q⟩
 exact subscriptTail_builtinR (x:=w) pl.typeIs slot_tuple_getitem.lookup
  (getItem_tuple (j:=j) (Q:=fun r s'=>r=w/\EP X pins σ Q r s') pl (by omega) (by omega) (by rw [Tq,<- hl];exact h1) (by simpa using ew) ⟨rfl,fin⟩) hs
theorem tF:IxR X xB:=by
 intro value slice pins s σ H x y v u Q I rx ry h hs;obtain ⟨z,i,c,rfl,rfl,hz,he,q⟩:=h;obtain ⟨t,rfl⟩:=rx;obtain ⟨t',rfl⟩:=ry;obtain ⟨j,h1,h2,h3,h4,h5⟩:=nS he;have hl:z.cps.toList.length=z.length:=by simp [Str.length]
 rw [hl] at h1 h4 h5;have hn:=fk
 exact tail_any (typeIs_str s z t) slot_str_getitem.lookup (getItem_str (c:=c) (by
  have e1:decide (i < -(2 ^ 63:Int))=false:=decide_eq_false (by omega);have e2:decide (i ≥ 2 ^ 63)=false:=decide_eq_false (by omega);rw [e1,e2,YG]) (by rw [h1];simpa using h2) ⟨.str ⟨#[c]⟩,H,I.tok _,⟨_,rfl⟩,q⟩) hs
theorem pF (its:List Tc) (n j:Nat) (u:Tc):UG (·.setIfInBounds j u) { cls:=.type "list",data:=.seq its.toArray n }={ cls:=.type "list",data:=.seq (its.set j u).toArray n }:=by
 simp [UG]
theorem Inv.lst {pins:List (Ta×VH)} {σ:St} {H:Hp} {s:Tj} {p:Ta} {xs:List V} (I:Inv X pins σ H s) (h:H p=some (.lst xs)) :
 ∃ (its:List Tc) (n:Nat),Vals xs its/\s.heap.get? p=some { cls:=.type "list",data:=.seq its.toArray n }/\xs.length<=TB:=by
 obtain ⟨z,its,n,r,e⟩:=I.hok p _ h;exact ⟨its,n,r,e,z⟩
theorem Inv.lstUpd {pins:List (Ta×VH)} {σ:St} {H:Hp} {s:Tj} {p:Ta} {xs ys:List V} {its its':List Tc} {n n':Nat} {f:VH->VH} (I:Inv X pins σ H s) (h:H p=some (.lst xs))
 (ho:s.heap.get? p=some { cls:=.type "list",data:=.seq its.toArray n }) (hf:f { cls:=.type "list",data:=.seq its.toArray n }={ cls:=.type "list",data:=.seq its'.toArray n' }) (r:Vals ys its') (hz:ys.length<=TB) (t:Nat) :
 Inv X pins σ (upd H p (.lst ys)) { s with heap:=s.heap.update p f,toks:=t }:=by
 have e:(s.heap.update p f).get? p=some { cls:=.type "list",data:=.seq its'.toArray n' }:=by
  rw [Ud f ho (by rw [hf] <;> rfl),hf]
 refine I.write (x:=p) (e:=p) (by rw [h];trivial) (.inl rfl) (fun b u hb q=>(Uk _ _ (Vi hb)).trans q) ⟨_,e⟩ ?_;exact ⟨hz,its',n',r,e⟩
def wS:V->V->V->Hp->(Hp->Prop)->Prop:=fun o i v H Q=>∃ p xs k j,o=.ref p/\i=.int k/\H p=some (.lst xs)/\ixN xs.length k=some j/\Q (upd H p (.lst (xs.set j v)))
theorem set_list:wH X wS:=by
 intro pins s σ H o i v ov iv u Q I ro ri rv h;obtain ⟨p,xs,k,j,rfl,rfl,hp,hj,q⟩:=h;cases ro;obtain ⟨t,rfl⟩:=ri;obtain ⟨its,n,r,ho,hz⟩:=I.lst hp;obtain ⟨h1,h2,h3,h4⟩:=nW hj;have hl:=r.length;have hn:=fk
 have I':Inv X pins σ (upd H p (.lst (xs.set j v))) { s with heap:=s.heap.update p (UG (·.setIfInBounds j u)) } :=
  I.lstUpd hp ho (pF its n j u) (r.set rv j) (by rw [Yj];exact hz) s.toks
 by_cases h0:0<=k
 · have hk:k.toNat=j:=by
    rw [seqIndex_of h0 h4] at h1;exact TV h1
   exact PySem.W.ki_setAt ho h0 (by omega) (by rw [Tq,<- hl];exact h4) (by rw [hk];exact ⟨_,I',q⟩)
 · have hk:(k+(its.toArray.size:Int)).toNat=j:=by
    rw [seqIndex_neg (by omega) h3] at h1;rw [Tq,<- hl];exact TV h1
   exact PySem.W.ki_setBack ho (by omega) (by rw [Tq,<- hl];exact h3) (by omega) (by rw [hk];exact ⟨_,I',q⟩)
theorem nj (lo hi:Option Int) (n:Nat):(Xk lo hi none n).1=((HT.sIx n 0 lo:Nat):Int)/\(Xk lo hi none n).2.1=((HT.sIx n n hi:Nat):Int)/\(Xk lo hi none n).2.2=1:=by
 refine ⟨?_,?_,rfl⟩
 · cases lo with
   | none=>simp [Xk,HT.sIx]
   | some i =>
     simp only [Xk,HT.sIx,Option.getD_none,show (1:Int) > 0 by decide,if_true];by_cases h:i<0
     · simp only [h,if_true] <;> omega
     · simp only [h,if_false] <;> omega
 · cases hi with
   | none=>simp [Xk,HT.sIx]
   | some i =>
     simp only [Xk,HT.sIx,Option.getD_none,show (1:Int) > 0 by decide,if_true];by_cases h:i<0
     · simp only [h,if_true] <;> omega
     · simp only [h,if_false] <;> omega
theorem lS (its:List Tc) (lo hi:Option Int):slicePick its.toArray lo hi none=((its.drop (HT.sIx its.length 0 lo)).take (HT.sIx its.length its.length hi - HT.sIx its.length 0 lo)).toArray:=by
 obtain ⟨h1,h2,h3⟩:=nj lo hi its.toArray.size;unfold slicePick;rw [h1,h2,h3];simp only [sliceRange_one,pick_run,Tq] <;> rfl
inductive vg (K:S8) (x:V) (lo:Option Int) (hi:Option Int) (H:Hp) (Q:VK):Prop
 | mk (a:_) (xs:_) (yd:x=.ref a) (ye:SqL K H a xs) (yj:∀ p,H p=none->Q (.ref p) (upd H p (.lst (dJ xs lo hi)))):vg K x lo hi H Q
def xF (K:S8):V->Option Int->Option Int->Hp->VK->Prop:=vg K
theorem nG:SlR X (xF X.K):=by
 intro pins s σ H x v vl vu lo hi sl Q I rx hs pl pu h;obtain ⟨a,xs,rfl,hx,q⟩:=h;cases rx;obtain ⟨its,r,ht,hz⟩:=I.list hx;have hlen:=r.length;refine ⟨"list",_,slot_list_getitem.lookup,ht.isList.typeIs,?_⟩;refine wpAny_getItem_list_slice ht.isList hs pl pu .none (by simp) ?_ (by rw [Tq] <;> omega);rw [lS,<- hlen];refine ⟨.ref s.heap.objs.size,_,I.laid (t':=s.toks) (o:=.lst (dJ xs lo hi)) (fun b ob q=>Tf _ q) (Td _) ?_,rfl,q _ (I.hok.fresh (Td _))⟩;exact ⟨Ve (jK xs lo hi) hz,_,0,(r.drop (HT.sIx xs.length 0 lo)).take (HT.sIx xs.length xs.length hi - HT.sIx xs.length 0 lo),Tt _ rfl⟩
inductive tP (K:S8) (xs:List V) (H:Hp) (Q:VK):Prop
 | mk (p:Ta) (ys:List V) (yd:xs=[.ref p]) (ye:SqL K H p ys∨SqT K H p ys) (yj:Q (.int ys.length) H):tP K xs H Q
theorem ao:gR X (.builtin "len") (tP X.K):=by
 intro pins s σ H xs us Q I r h;obtain ⟨p,ys,rfl,hq,q⟩:=h;obtain ⟨u,rfl,rx⟩:=vals1 r;cases rx;have hn:=fk;rcases hq with hq | hq
 · obtain ⟨its,r',pl,hz⟩:=I.list hq;have hlen:=r'.length;exact Calls.call_len_list pl.isList (by simp only [Tq] <;> omega) ⟨.int ys.length,H,I.tok _,⟨s.toks+1,by rw [Tq,hlen]⟩,q⟩
 · obtain ⟨its,r',pl,hz⟩:=I.tuple hq;have hlen:=r'.length;exact len_tuple pl (by simp only [Tq] <;> omega) ⟨.int ys.length,H,I.tok _,⟨s.toks+1,by rw [Tq,hlen]⟩,q⟩
theorem cz:gR X (.type "tuple") (fun xs H Q=>∃ p ys,xs=[.ref p]/\((SqL X.K H p ys/\∀ l,H l=none->Q (.ref l) (upd H l (.tup ys)))∨(SqT X.K H p ys/\Q (.ref p) H))):=by
 intro pins s σ H xs us Q I r h;obtain ⟨p,ys,rfl,h⟩:=h;obtain ⟨u,rfl,rx⟩:=vals1 r;cases rx;rcases h with ⟨hq,q⟩ | ⟨hq,q⟩
 · obtain ⟨its,r',pl,hz⟩:=I.list hq;have hlen:=r'.length;refine call_tuple_list pl.isList (fun h' kp=>?_) (by simp only [Tq] <;> omega);have I1:Inv X pins σ H { s with heap:=h' }:=I.kept (t':=s.toks) kp
   have I2:Inv X pins σ (upd H h'.objs.size (.tup ys)) { s with heap:=h'.push { cls:=.type "tuple",data:=.seq its.toArray } } :=
    I1.laid (t':=s.toks) (fun b o e=>Tf _ e) (Td _) (show ObjOk X.prog X.w _ _ _ (.tup ys) from ⟨hz,its,0,r',Tt _ rfl⟩)
   exact ⟨.ref h'.objs.size,_,I2,rfl,q _ (I1.hok.fresh (Td _))⟩
 · obtain ⟨its,r',pl,hz⟩:=I.tuple hq;exact call_tuple_same pl ⟨.ref p,H,I,rfl,q⟩
def tyV (K:S8) (T:String) (x:V) (H:Hp):Prop:=match x with
 | .str _=>T="str"
 | .int _=>T="int"
 | .ref p=>(T="list"/\∃ xs,SqL K H p xs)∨(T="tuple"/\∃ o,K.lookup p=some o/\o.cls=.type "tuple"/\o.dict=none) ∨
  (T="dict"/\((∃ f',H p=some (.dK f'))∨∃ f',H p=some (.dT f')))∨(T="set"/\∃ S n,H p=some (.set S n))
 | _=>False
theorem tQ {pins:List (Ta×VH)} {σ:St} {H:Hp} {s:Tj} {T:String} {x:V} {v:Tc} (I:Inv X pins σ H s) (r:RelV x v) (ty:tyV X.K T x H) :
 s.TypeIs v T/\∀ a,v=.ref a->∃ ob,s.heap.get? a=some ob/\ob.dict=none:=by
 cases x with
 | str z =>
   obtain ⟨t,rfl⟩:=r;cases (show T="str" from ty);exact ⟨typeIs_str s z t,fun _ e=>nomatch e⟩
 | int i =>
   obtain ⟨t,rfl⟩:=r;cases (show T="int" from ty);exact ⟨typeIs_int s i t,fun _ e=>nomatch e⟩
 | ref p =>
   cases r;rcases ty with ⟨rfl,xs,hq⟩ | ⟨rfl,o,hk,hc,hd⟩ | ⟨rfl,hk⟩ | ⟨rfl,S,n,hk⟩
   · obtain ⟨its,_,pl,_⟩:=I.list hq;refine ⟨pl.isList.typeIs,fun a e=>?_⟩;cases e;obtain ⟨o,n,e,c,hd,_⟩:=pl;exact ⟨o,e,hd⟩
   · refine ⟨⟨o,I.kIn p o hk,hc⟩,fun a e=>?_⟩;cases e;exact ⟨o,I.kIn _ o hk,hd⟩
   · have z:∃ o,s.heap.get? p=some o/\o.ExactDict:=by
      rcases hk with ⟨f',hk⟩ | ⟨f',hk⟩
      · obtain ⟨_,_,_,_,o,_,_,e,ex,_⟩:=I.hok p _ hk;exact ⟨o,e,ex⟩
      · obtain ⟨_,_,_,_,o,_,_,e,ex,_⟩:=I.hok p _ hk;exact ⟨o,e,ex⟩
     obtain ⟨o,e,ex⟩:=z;refine ⟨⟨o,e,ex.1⟩,fun a e2=>?_⟩;cases e2;exact ⟨o,e,ex.2.1⟩
   · obtain ⟨o,_,_,_,e,ex,_⟩:=I.hok p _ hk;refine ⟨⟨o,e,ex.1⟩,fun a e2=>?_⟩;cases e2;exact ⟨o,e,ex.2.1⟩
 | _=>exact WL ty
def wA (K:S8) (T:String) (r:V->List V->Hp->VK->Prop) (to:TE):TE:=fun σ H Q=>to σ H fun x H1=>tyV K T x H1/\r x [] H1 Q
def tBM (K:S8) (T:String) (r:V->List V->Hp->VK->Prop) (to:TE) (t:TA):TE:=fun σ H Q=>to σ H fun x H1=>tyV K T x H1/\t σ H1 fun xs H2=>r x xs H2 Q
variable {o e:UH} {es:List UH} {to:TE} {t:TA} {name:TY} {apos yh:Xn} {T id:String} {r:V->List V->Hp->VK->Prop}
theorem ju (pa:PlainAttrs T) (slot:Slot T name id) (Gm:typeOf (.builtin id)=pure (.type "method_descriptor")) (hm:MtR X id r) (ho:PE X o to)
 (Aj:attributeBase o name X.env (VS o X.env)=VS o X.env:=by rfl) (Ak:(apos.endLine == yh.line)=true:=by rfl):PE X (.Call (.Attribute o name apos) [] [] yh) (wA X.K T r to):=by
 intro pins s σ H Q I h;refine wpAny_Call_method0_late Aj Ak (thn (ho pins s σ H _ I h) fun v s1 ⟨x,H1,I1,r1,ty,q1⟩=>?_);obtain ⟨h1,h2⟩:=tQ I1 r1 ty;exact ⟨T,id,pa,slot,Gm,h1,h2,WH rfl (PySem.evalArgs_none (hm pins s1 σ H1 x [] v [] Q I1 r1 .nil q1))⟩
theorem bJ (pa:PlainAttrs T) (slot:Slot T name id) (Gm:typeOf (.builtin id)=pure (.type "method_descriptor")) (hm:MtR X id r) (ho:PE X o to) (ha:PA X (e::es) t)
 (Aj:attributeBase o name X.env (VS o X.env)=VS o X.env:=by rfl)
 (Ez:((Xv yh (Uu (e::es) X.env)).all (fun x=>!x.1) && (backToKw yh (keywordEach [] X.env)).all (fun x=>x.1.isSome)
  && decide ((e::es).length+([]:List Keyword).length+(if ([]:List Keyword).isEmpty then 0 else 1)<30))=true:=by rfl)
 (Ak:(apos.endLine == yh.line)=true:=by rfl) (hs:Uu (e::es) X.env=(false,VS e X.env)::Uu es X.env:=by rfl) (AK:(Xv yh (Uu es X.env)).any (·.1)=false:=by rfl) :
 PE X (.Call (.Attribute o name apos) (e::es) [] yh) (tBM X.K T r to t):=by
 intro pins s σ H Q I h;refine wpAny_Call_method_late Aj Ez Ak rfl (thn (ho pins s σ H _ I h) fun v s1 ⟨x,H1,I1,r1,ty,q1⟩=>?_);obtain ⟨h1,h2⟩:=tQ I1 r1 ty;refine ⟨T,id,pa,slot,Gm,h1,h2,?_⟩;have hA:=ha yh pins s1 σ H1 _ I1 q1;rw [hs] at hA ⊢;refine WH (by show (false || (Xv yh (Uu es X.env)).any (·.1))=false;rw [AK] <;> rfl) (XM ?_);exact thn hA fun us s2 ⟨vs,H2,I2,r2,q2⟩=>hm pins s2 σ H2 x vs v us Q I2 r1 r2 q2
end
end L2
namespace L2
open PySem PySem.Spec PyProof.Rows
def MtM (X:Cx) (id:String) (r:V->List V->Hp->VK->Prop):Prop :=
 ∀ (pins:List (Ta×VH)) (s:Tj) (σ:St) (H:Hp) (x:V) (xs:List V) (v:Tc) (us:List Tc) (Q:VK),Inv X pins σ H s->RelV x v->Vals xs us->r x xs H Q →
   Tx (T6 X.prog X.w) X.A (call (.builtin id) (v::us)) (EP X pins σ Q) X.xe s
theorem Vals.one:∀ {x:V} {us:List Tc},Vals [x] us->∃ u,us=[u]/\RelV x u
 | _,_,.cons r .nil=>⟨_,rfl,r⟩
theorem Vals.zero:∀ {us:List Tc},Vals [] us->us=[]
 | _,.nil=>rfl
theorem Vals.dropLast {xs:List V} {us:List Tc} (h:Vals xs us):Vals xs.dropLast us.dropLast:=by
 induction h with
 | nil=>exact .nil
 | cons r t ih =>
   cases t with
   | nil=>exact .nil
   | cons q t'=>exact .cons r ih
theorem Vals.reverse {xs:List V} {us:List Tc} (h:Vals xs us):Vals xs.reverse us.reverse:=by
 induction h with
 | nil=>exact .nil
 | cons r t ih=>rw [UA,UA];exact Vals.append ih (.cons r .nil)
theorem p8 {α:Type} (l:List α):l.eraseIdx (l.length - 1)=l.dropLast:=by
 induction l with
 | nil=>rfl
 | cons a r ih =>
   cases r with
   | nil=>rfl
   | cons b r =>
     have e:(a::b::r).length - 1=((b::r).length - 1)+1:=by
      have h1:(a::b::r).length=r.length+2:=rfl;have h2:(b::r).length=r.length+1:=rfl;omega
     rw [e,List.eraseIdx_cons_succ,ih]
     all_goals rfl
section
variable {X:Cx} {pins:List (Ta×VH)} {σ:St} {H:Hp} {s:Tj} {l b:Ta} {xs ys zs:List V}
theorem Inv.lset {its its':List Tc} {n:Nat} {f:Array Tc->Array Tc} {t':Nat} (I:Inv X pins σ H s) (hH:H l=some (.lst xs))
 (e:s.heap.get? l=some { cls:=.type "list",data:=.seq its.toArray n }) (hf:f its.toArray=its'.toArray) (hv:Vals ys its') (hz:ys.length<=TB) :
 Inv X pins σ (upd H l (.lst ys)) { s with heap:=s.heap.update l (UG f),toks:=t' }:=by
 have q:=PySem.IsL.update e f;rw [hf] at q;refine I.write (x:=l) (e:=l) (by rw [hH];exact trivial) (.inl rfl) (fun b' u hb hu=>(Uk s.heap (UG f) (Vi hb)).trans hu) ⟨_,q⟩ ?_;exact ⟨hz,its',_,hv,q⟩
theorem Inv.lnew {its:List Tc} {t':Nat} (I:Inv X pins σ H s) (hv:Vals ys its) (hz:ys.length<=TB) :
 Inv X pins σ (upd H s.heap.objs.size (.lst ys)) { s with heap:=s.heap.push { cls:=.type "list",data:=.seq its.toArray },toks:=t' } :=
 I.laid (fun _ _ q=>Tf _ q) (Td _) ⟨hz,its,0,hv,Tt _ rfl⟩
theorem Inv.fresh (I:Inv X pins σ H s):H s.heap.objs.size=none:=I.hok.fresh (Td _)
theorem Inv.lstM (I:Inv X pins σ H s) (hH:H l=some (.lst xs)):xs.length<=TB/\∃ (its:List Tc) (n:Nat),Vals xs its/\xs.length=its.length/\s.heap.get? l=some { cls:=.type "list",data:=.seq its.toArray n }:=by
 obtain ⟨z,its,n,r,e⟩:=I.hok l _ hH;exact ⟨z,its,n,r,r.length,e⟩
theorem kj {n:Nat} (h:n<=TB):VO n=false:=by
 unfold VO;exact decide_eq_false (by omega)
end
section
variable {X:Cx}
inductive pc (x:V) (vs:List V) (H:Hp) (Q:VK):Prop
 | mk (l:_) (xs:_) (y:_) (yd:x=.ref l) (ye:vs=[y]) (yj:H l=some (.lst xs)) (yq:xs.length<TB) (yC:Q .non (upd H l (.lst (xs++[y])))):pc  x vs H Q
def qF:V->List V->Hp->VK->Prop:=pc
theorem aN:MtM X "list.append" qF:=by
 intro pins s σ H x vs v us Q I rx rv h;obtain ⟨l,xs,y,rfl,rfl,hH,hz,q⟩:=h;cases rx;obtain ⟨u,rfl,ru⟩:=rv.one;obtain ⟨z,its,n,r,hl,e⟩:=I.lstM hH;refine X2 F.slot_list_append ⟨_,e,rfl⟩ F.entry_list_append (F.args_list_append_2 _ _) (PySem.list_append l its.toArray n u (by rw [Tq];omega)) ⟨e,?_⟩;refine ⟨.non,_,I.lset (its':=its++[u]) hH e (by simp) (r.append (.cons ru .nil)) ?_,rfl,q⟩;rw [TC,List.length_singleton];omega
inductive nZ (x:V) (vs:List V) (H:Hp) (Q:VK):Prop
 | mk (l:_) (b:_) (xs:_) (zs:_) (yd:x=.ref l) (ye:vs=[.ref b]) (yj:H l=some (.lst xs)) (yq:H b=some (.lst zs)) (yC:xs.length+zs.length<=TB) (zj:Q .non (upd H l (.lst (xs++zs)))):nZ  x vs H Q
def ux:V->List V->Hp->VK->Prop:=nZ
theorem gE:MtM X "list.extend" ux:=by
 intro pins s σ H x vs v us Q I rx rv h;obtain ⟨l,b,xs,zs,rfl,rfl,hH,hB,hz,q⟩:=h;cases rx;obtain ⟨u,rfl,ru⟩:=rv.one;cases ru;obtain ⟨z,its,n,r,hl,e⟩:=I.lstM hH;obtain ⟨z2,xX,n2,r2,yN,e2⟩:=I.lstM hB;have hsz:its.toArray.size+xX.toArray.size<=TB:=by rw [Tq,Tq];omega
 have B8:¬ (!its.toArray.isEmpty && VO (its.toArray.size+xX.toArray.size))=true:=by
  rw [kj hsz,XN];exact TH
 refine X2 F.slot_list_extend ⟨_,e,rfl⟩ F.entry_list_extend (F.args_list_extend_2 _ _)
  (AutoSeq1.list_extend_list_list_0 l its.toArray n b xX.toArray n2 B8 (by rw [Tq];omega) (by omega)) ⟨e,e2,?_⟩
 refine ⟨.non,_,I.lset (its':=its++xX) hH e (by simp) (r.append r2) ?_,rfl,q⟩;rw [TC];omega
inductive vz (x:V) (vs:List V) (H:Hp) (Q:VK):Prop
 | mk (l:_) (xs:_) (y:_) (yd:x=.ref l) (ye:vs=[]) (yj:H l=some (.lst xs)) (yq:xs[xs.length - 1]?=some y) (yC:Q y (upd H l (.lst xs.dropLast))):vz  x vs H Q
def wE:V->List V->Hp->VK->Prop:=vz
theorem jl:MtM X "list.pop" wE:=by
 intro pins s σ H x vs v us Q I rx rv h;obtain ⟨l,xs,y,rfl,rfl,hH,hy,q⟩:=h;cases rx;have Gn:=rv.zero;subst Gn;obtain ⟨z,its,n,r,hl,e⟩:=I.lstM hH;obtain ⟨u,hu,ru⟩:=r.get hy
 have AL:its.toArray[its.toArray.size - 1]?=some u:=by
  show its.toArray[its.length - 1]?=some u;rw [<- WC,<- hl];exact hu
 refine X2 F.slot_list_pop ⟨_,e,rfl⟩ F.entry_list_pop (F.args_list_pop_1 _) (MeetsSeq.list_pop_last l its.toArray n u AL (by rw [Tq];omega)) ⟨e,?_⟩;refine ⟨y,_,I.lset (its':=its.dropLast) hH e ?_ r.dropLast ?_,ru,q⟩
 · show its.toArray.eraseIdxIfInBounds (its.toArray.size - 1)=its.dropLast.toArray;rw [Tq,List.eraseIdxIfInBounds_toArray,p8]
 · rw [List.length_dropLast];omega
inductive vf (x:V) (y:V) (H:Hp) (Q:VK):Prop
 | mk (l:_) (b:_) (xs:_) (zs:_) (yd:x=.ref l) (ye:y=.ref b) (yj:H l=some (.lst xs)) (yq:H b=some (.lst zs)) (yC:xs.length+zs.length<=TB) (zj:∀ p,H p=none->Q (.ref p) (upd H p (.lst (xs++zs)))):vf  x y H Q
def xn:R2:=vf
theorem tY:OpR X (Xe .Add) xn:=by
 intro pins s σ H x y v u Q I rx ry h;obtain ⟨l,b,xs,zs,rfl,rfl,hH,hB,hz,q⟩:=h;cases rx;cases ry;obtain ⟨z,its,n,r,hl,e⟩:=I.lstM hH;obtain ⟨z2,xX,n2,r2,yN,e2⟩:=I.lstM hB;refine PySem.P.add_list e e2 ?_ (by rw [Tq,Tq];omega);have ea:its.toArray++xX.toArray=(its++xX).toArray:=by simp
 rw [ea];exact ⟨.ref _,_,I.lnew (t':=s.toks) (r.append r2) (by rw [TC];omega),rfl,q _ I.fresh⟩
end
section
variable {prog:Tv} {w:TN} {A:Uh} {E:Tc->Tj->Prop} {s:Tj}
end
section
variable {X:Cx}
end
end L2
namespace Att
open PySem PySem.W PySem.Calls PyProof.Rows
theorem ints_of_wellAll {P:Params} {h:UM}:∀ (ns:List Int) (vs:List Tc),WellAll P h vs (ns.map WData.int)->IntsAre vs ns:=by
 intro ns;induction ns with
 | nil =>
   intro vs w;rw [VI] at w;cases w;exact .nil
 | cons n ns ih =>
   intro vs w;rw [Up] at w;cases w with
   | cons a b =>
     cases a;exact .cons _ _ (ih _ b)
theorem script_of {l:OpenLaw} {n:Nat} (hn:l.most=some n) {P:Params} {h:UM} {args:List WData} {vals:List Tc}
 (C1:l.row.toRowW.claim.pre args=true) (AM:WellAll P h vals args) :
 ∃ a vs ns,vals=[T5 a]/\args=[WData.list (ns.map WData.int)]/\h.get? a=some { cls:=.type "list",data:=.seq vs.toArray }/\IntsAre vs ns/\ns.length<=n:=by
 have Pa:WShape.hasAll [] args [.list .int]=true:=(pre_splitW C1).1;have hc:l.pre.holds [] { args:=args }=true:=(pre_splitW C1).2;obtain ⟨d,r,rfl,h1,h2⟩:=hasAllW_cons Pa;obtain rfl:=hasAllW_nil h2;obtain ⟨xs,rfl,h3⟩:=hasW_list h1;obtain ⟨ns,rfl⟩:=items_int h3
 have hlen:ns.length<=n:=by
  unfold OpenLaw.pre at hc
  have h4:(WTm.not (.lt (.lit (.int (n:Int))) (.len (.arg 0)))).holds [] { args:=[.list (ns.map .int)] }=true:=by
   have h4:=(holds_andW hc).1;rw [hn] at h4;exact h4
  have h5:=condW_of h4 (w_not (w_lt w_lit (w_len_list (w_arg rfl))));rw [S6] at h5;refine Nat.le_of_not_lt fun q=>?_;have q':(n:Int)<((ns.length:Nat):Int):=by omega
  first
   | (rw [decide_eq_true q'] at h5;exact absurd h5 (by decide))
   | (simp at h5;omega)
 cases AM with
 | cons w1 w2 =>
   cases w2;cases w1 with
   | list ho xY=>exact ⟨_,_,ns,rfl,rfl,ho,ints_of_wellAll ns _ xY,hlen⟩
theorem post_true (l:OpenLaw) (args:List WData):l.row.toRowW.claim.post args (.bool true) args=true :=
 postW_of (r:=l.row.toRowW) (X:=(true == true))
  (show WShape.has [] (.bool true) .bool=true by first | rfl | decide | simp [WShape.has,WShape.arms,WShape.armsAll])
  (show (WTm.eq .res (.lit (.bool true))).value [] { args:=args,res:=some (.bool true),after:=args }=some (.bool (true == true)) from w_eq_bool (w_res rfl) w_lit) rfl
theorem attach_call {l:OpenLaw} {n:Nat} {q:Tv} {loose:List TY} {XP:(TY->Option Tc)->UM->Prop} {YP:TN->UM->Prop} {d:DefRec}
 (hn:l.most=some n) (hdf:d.params.defaults=[])
 (call:∀ (w:TN) (s₀ xT:Tj) (mg mb:TY->Option Tc) (fa:Ta) (o:VH) (pm cd doc:Tc) (a:Ta) (vs:List Tc) (ns:List Int),
  Ground q loose [] XP w s₀ mg mb xT.heap->YP w xT.heap →
  xT.heap.get? fa=some o->o.data=.func (docDef d.name d.params d.body d.scope pm cd doc)->xT.heap.CodeRec cd d.name->mg d.name=some (.ref fa) →
  xT.heap.get? a=some { cls:=.type "list",data:=.seq vs.toArray }->IntsAre vs ns->ns.length<=n->xT.gens=#[] →
  Xu (T6 l.prog w) callerA (.call (.ref fa) ⟨[.ref a],[]⟩) (fun r s'=>r=.ok (.ret (.bool true))/\OldK xT.heap s'.heap/\s'.os=xT.os/\AllBare s'.gens) xT) :
 WalkO q loose XP YP l.row.toRowW d [] (fun f vs=>PySem.call f vs):=by
 intro w s₀ xT mg mb G Y fa o pm cd doc dV kV ho hd B4 hD Gp hg args vals as C1 Pb Nk AM Pd;obtain rfl:dV=.none:=Dflts.none hD hdf;obtain rfl:kV=.none:=Dflts.noKw hD;obtain ⟨a,vs,ns,rfl,rfl,EA,hints,hlen⟩:=script_of hn C1 AM;refine enter_call (codeAny_mono (call w s₀ xT mg mb fa o pm cd doc a vs ns G Y ho (fd_plain hd) B4 Gp EA hints hlen hg) fun r s' hq=>?_);obtain ⟨rfl,h2,h3,h4⟩:=hq;exact ⟨.inl ⟨.bool true,.bool true,[],rfl,fun _=>rfl,.bool true,post_true l _,fun _=>⟨List.Pairwise.nil,fun _ hm=>(nomatch hm)⟩⟩,h2,h3,h4⟩
section
variable {prog:Tv} {w:TN} {A:Uh} {E:Tc->Tj->Prop} {s:Tj} {K:Frag}
end
end Att
namespace L2
open PySem PySem.Spec PyProof.Rows
theorem mq:∀ {vs:List Tc} {ns:List Int},IntsAre vs ns->Vals (ns.map V.int) vs
 | _,_,.nil=>.nil
 | _,_,.cons n t h=>.cons ⟨t,rfl⟩ (mq h)
def vL (H:Hp):Prop:=∀ b,H b=none∨∃ o xs,H b=some (.frz o (.lst xs))
theorem uh {P:Tv} {w:TN} {K:S8} {mg mb:TY->Option Tc} {CX:CXT} {k:Nat} {fa a:Ta} {fd:WK} {x:TY} {sp:Sp} {xT:Tj} {vs:List Tc} {ns:List Int}
 (KX:K.In xT.heap) (CM:xT.heap.Ns Ue mg) (hb:xT.heap.Ns builtinsNs mb) (Pe:∀ x:TY,x≠"__name__"->mb x=XU x) (J7:xT.heap.NoLimit) (hg:xT.gens=#[])
 (ha:xT.heap.get? a=some { cls:=.type "list",data:=.seq vs.toArray }) (hi:IntsAre vs ns) (hl:ns.length<=TB) (hr:Room k callerA)
 (F:∀ base:UM,K.In base->base.Ns Ue mg->bi P w K mg base CX k fa fd [x] sp) (Gq:∀ (s:Tj) (u:Tc),BindsTo s fd ⟨[u],[]⟩ [(x,u)])
 (DS:∀ H:Hp,vL H->SqL K H a (ns.map V.int)->sp [.ref a] H (fun v _=>v=.bl true) fun _ _ _=>False)
 (J8:∀ H e s',CX [] H xT (fun _ _ _=>False) e s'->False) :
 Xu (T6 P w) callerA (.call (.ref fa) ⟨[.ref a],[]⟩) (fun r s'=>r=.ok (.ret (.bool true))/\OldK xT.heap s'.heap/\s'.os=xT.os/\AllBare s'.gens) xT:=by
 have rv:=mq hi;have J9:=hi.length
 -- from an abstract heap in Nl nothing but Az script may be tracked
 have core:∀ H:Hp,vL H->SqL K H a (ns.map V.int)->HOk P w H xT.heap->(∀ b,H b≠none->b=a)->(H a≠none->K.lookup a=none) →
  Xu (T6 P w) callerA (.call (.ref fa) ⟨[.ref a],[]⟩) (fun r s'=>r=.ok (.ret (.bool true))/\OldK xT.heap s'.heap/\s'.os=xT.os/\AllBare s'.gens) xT:=by
  intro H hO hS hok hA hK;have Bg:∀ {b:Ta} {o:VH},xT.heap.get? b=some o->H b=none->(mV xT.heap H).get? b=some o:=fun e n=>sY e n
  have Gh:∀ {b:Ta} {o:VH} {es:Array DictEntry} {ep:Nat},xT.heap.get? b=some o->o.data=.dict es ep->H b=none:=fun {b o es ep} e d=>by
   cases q:H b with
   | none=>rfl
   | some u =>
     have e':b=a:=hA b (by rw [q];simp);subst e';rw [ha] at e;cases e;have d':Data.seq vs.toArray _=Data.dict es ep:=d;cases d'
  have Jh:∀ {b:Ta} {m:TY->Option Tc},xT.heap.Ns b m->(mV xT.heap H).Ns b m:=fun {b m} ⟨o,es,ep,e,d,r⟩=>⟨o,es,ep,Bg e (Gh e d),d,r⟩
  have Nm:K.In (mV xT.heap H):=fun b o e=>Bg (KX b o e) (by
   cases q:H b with
   | none=>rfl
   | some u =>
     have e':b=a:=hA b (by rw [q];simp);subst e';rw [hK (by rw [q];simp)] at e;cases e)
  have hM:Mod K mg (mV xT.heap H):=⟨Nm,Jh CM,⟨mb,Jh hb,Pe⟩,let ⟨mc,h1,h2⟩:=J7;⟨mc,Jh h1,h2⟩⟩;have e0:uq P w K mg (mV xT.heap H) callerA [] xT H:=⟨rfl,hM,fun b o e=>uY e,YT (rQ _ _),trivial,fun b hb=>absurd (show b∈([]:List Ta) from hb) (by simp),hok,.of_eq hg⟩;refine codeAny_mono ((F _ Nm (Jh CM)).run callerA [] xT H ⟨[.ref a],[]⟩ [.ref a] [.ref a] _ _ hr e0 (Gq xT (.ref a)) (.cons rfl .nil) (DS H hO hS)) fun r s' h=>?_;cases r with
  | error e=>exact (J8 H e s' h).elim
  | ok fl =>
    cases fl with
    | next=>exact WL h
    | brk=>exact WL h
    | cont=>exact WL h
    | ret u =>
      obtain ⟨v,H',os,bare,un,J',r',q⟩:=h;have q':v=.bl true:=q;subst q';obtain rfl:u=Value.bool true:=r';refine ⟨rfl,OldK.of_keep fun b o e=>?_,os,bare⟩;cases q:H b with
      | none=>exact un.keep b o e q (by intro z;exact absurd (show b∈([]:List Ta) from z) (by simp)) (by simp)
      | some u =>
        rcases hO b with z | ⟨ob,xs,z⟩
        · rw [q] at z;cases z
        · have z2:=un.frzs b ob _ z;obtain ⟨e1,_⟩:=hok b _ z;obtain ⟨e2,_⟩:=J' b _ z2;rw [e] at e1;cases e1;exact e2
 cases hk:K.lookup a with
 | some o =>
   -- Az script is one of Az Gr own objects
   have e:=KX a o hk;rw [ha] at e;cases e;refine core (fun _=>none) (fun _=>.inl rfl) (.inr ⟨_,vs.toArray,_,hk,rfl,rfl,rfl,by rw [Tq,J9];exact hl,by simpa using rv⟩) (fun b u z=>by have z':(none:Option HO)=some u:=z;cases z') (fun b z=>absurd rfl z) fun z=>absurd rfl z
 | none =>
   refine core (fun b=>if b=a then some (.frz { cls:=.type "list",data:=.seq vs.toArray } (.lst (ns.map V.int))) else none) (fun b=>?_) (.inl (.inr ⟨{ cls:=.type "list",data:=.seq vs.toArray },if_pos rfl⟩)) (fun b u z=>?_) (fun b z=>?_) fun _=>hk
   · by_cases hb:b=a
     · exact .inr ⟨_,_,if_pos hb⟩
     · exact .inl (if_neg hb)
   · by_cases hb:b=a
     · have z':=(if_pos hb).symm.trans z;cases z';subst hb;exact ⟨ha,by rw [S6];exact hl,vs,_,rv,ha⟩
     · have z':=(if_neg hb).symm.trans z;cases z'
   · by_cases hb:b=a
     · exact hb
     · exact absurd (if_neg hb) z
end L2
namespace L2
open PySem PySem.Spec PyProof.Rows
theorem uu {l:PySem.W.OpenLaw} {n k:Nat} {q:Tv} {loose:List TY} {XP:(TY->Option Tc)->UM->Prop} {YP:TN->UM->Prop} {d:DefRec} {K:Params->S8} {CX:TN->CXT} {sp:TN->Sp} {x:TY}
 (hn:l.most=some n) (Nn:n<=TB) (hdf:d.params.defaults=[]) (hr:Room k callerA)
 (hY:∀ (w:TN) (h:UM),YP w h->(K w.params).In h)
 (F:∀ (w:TN) (mg:TY->Option Tc) (fa:Ta) (h:UM),(K w.params).In h->h.Ns Ue mg->mg d.name=some (.ref fa) →
  ∃ fd:WK,(∀ (s:Tj) (u:Tc),BindsTo s fd ⟨[u],[]⟩ [(x,u)]) ∧
    ∀ base:UM,(K w.params).In base->base.Ns Ue mg->bi l.prog w (K w.params) mg base (CX w) k fa fd [x] (sp w))
 (DS:∀ (w:TN) (H:Hp) (a:Ta) (ns:List Int),ns.length<=n->vL H->SqL (K w.params) H a (ns.map V.int)->sp w [.ref a] H (fun v _=>v=.bl true) fun _ _ _=>False)
 (J8:∀ (w:TN) (H:Hp) (s:Tj) (e:Tc) (s':Tj),CX w [] H s (fun _ _ _=>False) e s'->False) :
 PySem.W.WalkO q loose XP YP l.row.toRowW d [] (fun f vs=>PySem.call f vs):=by
 refine Att.attach_call hn hdf fun w s₀ xT mg mb fa o pm cd doc a vs ns G Y ho hd B4 Gp EA hints hlen hg=>?_;have KX:=hY w _ Y;obtain ⟨fd,hb,hF⟩:=F w mg fa _ KX G.T.g Gp;exact uh KX G.T.g G.T.b G.T.builtins G.T.nolimit hg EA hints (Ve hlen Nn) hr hF hb (fun H hO hS=>DS w H a ns hlen hO hS) fun H e s'=>J8 w H xT e s'
end L2
namespace L2
open PySem PySem.Spec PyProof.Rows
def cn (s:Vo):Arguments:=match s with
 | .FunctionDef _ a _ _ _ _ _ _ _ _=>a
 | _=>{ posonlyargs:=[],args:=[],vararg:=none,kwonlyargs:=[],kw_defaults:=[],kwarg:=none,defaults:=[] }
def b8 (s:Vo):List Vo:=match s with
 | .FunctionDef _ _ b _ _ _ _ _ _ _=>b
 | _=>[]
def am (s:Vo):Xm:=match s with
 | .FunctionDef _ _ _ _ _ _ sc _ _ _=>sc
 | _=>{ kind:=.function,names:=[],isGenerator:=false,isCoroutine:=false }
abbrev CX0:CXT:=fun _ _ _ _ _ _=>False
abbrev E0:XK:=fun _ _ _=>False
theorem mj {X:Cx}:Passes CX0 X E0:=fun _ _ _ _ _ _ _ h=>h.elim
structure Fun (K:S8) (x qual:TY) (st:Vo) (f:Ta) (fd:WK):Prop where
 ex:∃ (oc:Tc) (od:Option Ta) (kV doc pm:Tc) (an:Option Ta) (yb ct:Tc) (DR:Array (Option Tc)),
  fd=WQ x qual (cn st) (b8 st) (am st) .none kV doc pm an yb ct/\K.lookup f=some ⟨oc,od,.func fd,DR⟩/\Yq K yb qual=true
 kp:Yp K (.ref f)=true
section
variable {P:Tv} {w:TN} {K:S8} {mg:TY->Option Tc} {base:UM}
theorem Fun.ok {x qual:TY} {st:Vo} {f:Ta} {fd:WK} {N ps:List TY} {k:Nat} {sp:Sp} (F:Fun K x qual st f fd) (S:aA N ps (am st)) (len:∀ vs H Q E,sp vs H Q E->vs.length=ps.length)
 (B7:∀ (yb:Tc) (A:Uh) (outer:List Env) (s:Tj) (H:Hp) (vs:List V) (Q:VK) (E:XK),Room k (A.deeper (envOfC qual (am st) s.heap.objs.size f yb))->sp vs H Q E →
  ∃ t,PSs (rO CX0 P w K mg base N qual (am st) f yb A outer s H E).nox (b8 st) t/\t { nx:=fun _ H'=>Q .non H',rt:=Q } (start N vs) H):bi P w K mg base CX0 (k+1) f fd ps sp:=by
 obtain ⟨oc,od,kV,doc,pm,an,yb,ct,DR,rfl,lk,B4⟩:=F.ex;refine xc lk B4 S len fun A outer s H vs Q E hr DS=>?_;obtain ⟨t,h,q⟩:=B7 yb A outer s H vs Q E hr DS;exact ⟨t,h.nox,q⟩
theorem Fun.binds {x qual:TY} {st:Vo} {f:Ta} {fd:WK} {ps:List TY} (F:Fun K x qual st f fd)
 (h:∀ (kV doc pm:Tc) (an:Option Ta) (yb ct:Tc) (us:List Tc),us.length=ps.length->bindArgs (WQ x qual (cn st) (b8 st) (am st) .none kV doc pm an yb ct) ⟨us,[]⟩=pure (ps.zip us)):Binds K fd ps []:=by
 obtain ⟨oc,od,kV,doc,pm,an,yb,ct,DR,rfl,lk,B4⟩:=F.ex;exact .all (h kV doc pm an yb ct)
theorem fu {x qual:TY} {st:Vo} {f:Ta} {oc:Tc} {od an:Option Ta} {DR:Array (Option Tc)} {kV doc pm yb ct:Tc} (l:K.lookup f=some ⟨oc,od,.func (WQ x qual (cn st) (b8 st) (am st) .none kV doc pm an yb ct),DR⟩)
 (c:Yq K yb qual=true) (k:Yp K (.ref f)=true):Fun K x qual st f (WQ x qual (cn st) (b8 st) (am st) .none kV doc pm an yb ct):=⟨⟨oc,od,kV,doc,pm,an,yb,ct,DR,rfl,l,c⟩,k⟩
end
theorem l9 {A:Uh} {k:Nat} (hr:Room k A):A.units+1<Vc:=XG (Nat.add_le_add_left (by decide:1<=64) _) hr.units
section
variable {X:Cx}
theorem pv (i:Nat) {x:TY} {pos:Xn} (hN:X.N[i]?=some x:=by rfl) (hv:Vis X.env.scope x:=by first | exact Tz rfl | exact XE (Tz rfl) | exact XE (XE rfl)) (hd:(x == ("__debug__":TY))=false:=by decide)
 (B4:(x == ("__classdict__":TY))=false:=by decide):PE X (.Name x pos) (bC i):=v8 hN hv hd B4
end
theorem cO {A B:Prop} (h:B):if false=true then A else B:=by
 rw [if_neg TH];exact h
theorem oF {A B:Prop} (h:A):if true=true then A else B:=by
 rw [if_pos rfl];exact h
theorem cQ {c A B:Prop} [Decidable c] (h1:c->A) (h2:¬ c->B):if c then A else B:=by
 by_cases h:c
 · rw [if_pos h];exact h1 h
 · rw [if_neg h];exact h2 h
def Same (H H':Hp):Prop:=∀ b o,H b=some o->H' b=some o
theorem Same.refl (H:Hp):Same H H:=fun _ _ h=>h
theorem Same.trans {H H1 H2:Hp} (a:Same H H1) (b:Same H1 H2):Same H H2:=fun c o h=>b c o (a c o h)
theorem Same.free {H H':Hp} (e:Same H H') {l:Ta} (h:H' l=Option.none):H l=Option.none:=by
 cases q:H l with
 | none=>rfl
 | some o =>
   rw [e l o q] at h;cases h
theorem Same.seq {K:S8} {H H':Hp} {a:Ta} {xs:List V} (e:Same H H') (h:SqL K H a xs):SqL K H' a xs:=by
 rcases h with (h | ⟨o,h⟩) | h
 · exact .inl (.inl (e _ _ h))
 · exact .inl (.inr ⟨o,e _ _ h⟩)
 · exact .inr h
end L2
namespace L2
open PySem PySem.Spec PyProof.Rows
theorem iq (env:Env):∀ (ns:List (TY×VY)) (acc:List (TY×Ta)),(∀ n,(n,US)∈ns->∃ c,env.cells.lookup n=some c) →
 (∀ x c,acc.lookup x=some c->env.cells.lookup x=some c) →
 ∃ cl,(forIn ns acc fun (x:TY×VY) (cs:List (TY×Ta))=>(if (x.2 == US)=true then (do let a ← cellOf env x.1;pure (Wb ((x.1,a)::cs))) else pure (Wb cs):Sem _))=pure cl ∧
   (∀ x c,cl.lookup x=some c->env.cells.lookup x=some c)/\(∀ n,(n,US)∈ns->∃ c,cl.lookup n=some c)/\∀ n c,acc.lookup n=some c->cl.lookup n=some c
 | [],acc,_,ha=>⟨acc,rfl,ha,fun _ h=>by simp at h,fun _ _ h=>h⟩
 | (n,k)::r,acc,hf,ha=>by
   by_cases hk:k=US
   · subst hk;obtain ⟨c,hc⟩:=hf n T1
     have Bs:∀ x c',((n,c)::acc).lookup x=some c'->env.cells.lookup x=some c':=fun x c' e=>by
      rw [VW] at e;cases hx:x == n with
      | true =>
        rw [hx] at e;have e1:x=n:=by simpa using hx
        cases e;rw [e1];exact hc
      | false=>rw [hx] at e;exact ha x c' e
     obtain ⟨cl,h1,h2,h3,h4⟩:=iq env r ((n,c)::acc) (fun m hm=>hf m (TQ _ hm)) Bs;have up:∀ m c',((n,c)::acc).lookup m=some c'->cl.lookup m=some c':=h4;refine ⟨cl,?_,h2,?_,?_⟩
     · rw [W9];have e0:cellOf env n=pure c:=by unfold cellOf;rw [hc]
       simp only [beq_self_eq_true,if_true,e0,pure_bind];exact h1
     · intro m hm;rcases TF.mp hm with e | e
       · have:m=n:=by simpa using (Prod.mk.inj e).1
         subst this;exact ⟨c,up m c (by rw [VW];simp)⟩
       · exact h3 m e
     · intro m c' e;by_cases hm:m=n
       · subst hm;have:=ha m c' e;rw [hc] at this;cases this;exact up m c (by rw [VW];simp)
       · have Ji:(m == n)=false:=by simpa using hm
         exact up m c' (by rw [VW,Ji];exact e)
   · have hb:(k == US)=false:=by simpa using hk
     obtain ⟨cl,h1,h2,h3,h4⟩:=iq env r acc (fun m hm=>hf m (TQ _ hm)) ha;refine ⟨cl,?_,h2,?_,h4⟩
     · rw [W9];simp only [hb,UJ,if_false,pure_bind];exact h1
     · intro m hm;rcases TF.mp hm with e | e
       · exact absurd (Prod.mk.inj e).2.symm hk
       · exact h3 m e
theorem kK {env:Env} {sc:Xm} (hf:∀ n,(n,US)∈sc.names->∃ c,env.cells.lookup n=some c) :
 ∃ cl,closureFor sc env=pure cl/\(∀ x c,cl.lookup x=some c->env.cells.lookup x=some c)/\∀ n,(n,US)∈sc.names->∃ c,cl.lookup n=some c:=by
 obtain ⟨cl,h1,h2,h3,_⟩:=iq env sc.names [] hf (fun x c e=>by simp at e);refine ⟨cl,?_,h2,h3⟩;unfold closureFor;have e:(forIn sc.names ([]:List (TY×Ta)) fun (x:TY×VY) (cs:List (TY×Ta))=>(do if (x.2 == US)=true then (do let a ← cellOf env x.1;pure (Wb ((x.1,a)::cs))) else pure (Wb cs):Sem _))=pure cl:=h1
 first
  | (rw [show (forIn sc.names ([]:List (TY×Ta)) _:Sem _)=pure cl from h1];rfl)
  | (simp only [h1,pure_bind])
theorem lp {f:TY×VY->TY×VY} (hf:∀ p,(f p).1=p.1):∀ {l:List (TY×VY)} {x:TY} {k:VY},l.lookup x=some k->(l.map f).lookup x=some (f (x,k)).2
 | [],_,_,h=>by simp at h
 | (n,k0)::r,x,k,h=>by
   have ih:=@lp f hf r x k;rw [Up];obtain ⟨a,b,e⟩:∃ a b,f (n,k0)=(a,b):=⟨_,_,rfl⟩;have ea:a=n:=by have:=hf (n,k0);rw [e] at this;exact this
   subst ea;rw [e,VW];cases hx:x == a with
   | true =>
     rw [VW,hx] at h;cases h;have:x=a:=by simpa using hx
     subst this;rw [e]
   | false=>rw [VW,hx] at h;exact ih h
theorem eB {f:TY×VY->TY×VY} (hf:∀ p,(f p).1=p.1):∀ {l:List (TY×VY)} {x:TY} {k:VY},(l.map f).lookup x=some k->∃ k0,(x,k0)∈l/\(f (x,k0)).2=k
 | [],_,_,h=>by simp at h
 | (n,k0)::r,x,k,h=>by
   have ih:=@eB f hf r x k;rw [Up] at h;obtain ⟨a,b,e⟩:∃ a b,f (n,k0)=(a,b):=⟨_,_,rfl⟩;have ea:a=n:=by have:=hf (n,k0);rw [e] at this;exact this
   subst ea;rw [e,VW] at h;cases hx:x == a with
   | true =>
     rw [hx] at h;cases h;have:x=a:=by simpa using hx
     subst this;exact ⟨k0,T1,by rw [e]⟩
   | false =>
     rw [hx] at h;obtain ⟨k1,h1,h2⟩:=ih h;exact ⟨k1,TQ _ h1,h2⟩
def rlb (env:Env) (p:TY×VY):TY×VY:=if (p.2 == US && env.scope.kind == .function && env.kindOf p.1 == some .cell) then (p.1,XD) else (p.1,p.2)
theorem m3 (env:Env) (p:TY×VY):(rlb env p).1=p.1:=by unfold rlb;split <;> rfl
theorem gY (sc:Xm) (env:Env):(relabel sc env).names=sc.names.map (rlb env):=rfl
theorem i9 {sc:Xm} {env:Env} {x:TY} (h:sc.names.lookup x=some .free):(relabel sc env).names.lookup x=some .cell∨(relabel sc env).names.lookup x=some .free:=by
 rw [gY,lp (m3 env) h];unfold rlb;split
 · exact .inl rfl
 · exact .inr rfl
theorem ld {sc:Xm} {env:Env} {x:TY} (hn:∀ y∈sc.names,y.2≠XD) (h:(relabel sc env).names.lookup x=some .cell∨(relabel sc env).names.lookup x=some .free):(x,US)∈sc.names:=by
 rw [gY] at h
 have:∃ k0,(x,k0)∈sc.names/\((rlb env (x,k0)).2=.cell∨(rlb env (x,k0)).2=.free):=by
  rcases h with h | h
  · obtain ⟨k0,a,b⟩:=eB (m3 env) h;exact ⟨k0,a,.inl b⟩
  · obtain ⟨k0,a,b⟩:=eB (m3 env) h;exact ⟨k0,a,.inr b⟩
 obtain ⟨k0,hm,hk⟩:=this;have nc:=hn _ hm;cases k0 with
 | free=>exact hm
 | cell=>exact absurd rfl nc
 | _=>simp [rlb] at hk
def b9 (X:Cx) (N:List TY) (sc:Xm) (cl:List (TY×Ta)) (C:Ta) (s:Tj) (H:Hp) (fp:List Ta) (pins:List (Ta×VH)):Cx :=
 { X with N:=N,s₀:=s,H₀:=H,env:=compEnvC sc cl C X.env,outer:=X.stack,ex:=fp,fn:=fun _=>false,pn:=X.pn++pins,xe:=fun _ _=>False }
def cσ (js:List (Option Nat)) (σ:St):St:=js.map fun o=>o.bind fun j=>(σ[j]?).join
structure eT (X:Cx) (sc:Xm) (N:List TY) (js:List (Option Nat)):Prop where
 kind:sc.kind=.function
 nocell:∀ y∈sc.names,y.2≠XD
 names:∀ y∈sc.names,y.2=NameKind.local->sc.names.lookup y.1=some .local
 frees:∀ y∈sc.names,y.2=US->X.env.kindOf y.1=some .cell∨X.env.kindOf y.1=some .free
 len:js.length=N.length
 slots:∀ (i j:Nat) (x:TY),js[i]?=some (some j)->N[i]?=some x->X.N[j]?=some x/\sc.names.lookup x=some .free/\(X.env.kindOf x=some .cell∨X.env.kindOf x=some .free)
theorem cG {X:Cx} {sc:Xm} {N:List TY} {js:List (Option Nat)} (k:sc.kind=.function) (nc:∀ y∈sc.names,y.2≠XD) (nm:∀ y∈sc.names,y.2=NameKind.local->sc.names.lookup y.1=some .local)
 (fr:(sc.names.all fun y=>y.2 != US || X.env.kindOf y.1 == some XD || X.env.kindOf y.1 == some US)=true) (ln:js.length=N.length)
 (sl:((js.zip N).all fun p=>match p.1 with | none=>true | some j=>X.N[j]? == some p.2 && sc.names.lookup p.2 == some US && (X.env.kindOf p.2 == some XD || X.env.kindOf p.2 == some US))=true):eT X sc N js:=by
 refine ⟨k,nc,nm,fun y hy hf=>?_,ln,fun i j x e1 e2=>?_⟩
 · have h:=Wn.mp fr y hy;rw [hf] at h;simpa using h
 · have hm:(some j,x)∈js.zip N:=by
    have:(js.zip N)[i]?=some (some j,x):=by rw [Vz];exact ⟨e1,e2⟩
    exact Tb this
   have h:=Wn.mp sl _ hm;simp at h;exact ⟨h.1.1,h.1.2,h.2⟩
def PTs (X:Cx) (ifs:List UH) (t:TT):Prop :=
 ∀ (pins:List (Ta×VH)) (s:Tj) (σ:St) (H:Hp) (Q:Bool->Hp->Prop),Inv X pins σ H s->t σ H Q →
   Tx (T6 X.prog X.w) X.A (forIn ifs true fun c r=>if r=true then do let ok ← isTrue c X.env (VS c X.env);pure (Wb ok) else pure (Wb r)) (TP X pins σ Q) X.xe s
def bP:TT:=fun _ H Q=>Q true H
theorem bT {X:Cx}:PTs X [] bP:=fun _ _ _ H _ I h=>wpAny_tests_nil ⟨H,I,h⟩
theorem j5 {X:Cx} {c:UH} {t:TT} (h:PT X c t):PTs X [c] t:=fun pins s σ H Q I q=>wpAny_tests_one (h pins s σ H Q I q)
def Keep (σ xS:St):Prop:=σ.length=xS.length/\∀ (i:Nat) (v:V),σ[i]?=some (some v)->xS[i]?=some (some v)
def mF (js:List (Option Nat)) (g:TG):Prop:=∀ (σ zM:St) (x:V) (H:Hp) (Q:St->Hp->Prop),Keep (cσ js σ) zM->g x zM H Q->g x zM H fun ym H2=>Keep (cσ js σ) ym/\Q ym H2
def nR (js:List (Option Nat)) (g:TGs):Prop:=∀ (σ zM:St) (x:List V) (H:Hp) (Q:St->Hp->Prop),Keep (cσ js σ) zM->g x zM H Q->g x zM H fun ym H2=>Keep (cσ js σ) ym/\Q ym H2
theorem Keep.refl (σ:St):Keep σ σ:=⟨rfl,fun _ _ h=>h⟩
theorem uD {js:List (Option Nat)} {σ:St} {i:Nat} (h:js[i]?=some none):(cσ js σ)[i]?=some none:=by
 unfold cσ;rw [Tn,h];rfl
theorem aS {js:List (Option Nat)} {i:Nat} (h:js[i]?=some none):mF js (aF i):=fun σ zM x H Q k q=>by
 refine ⟨⟨by rw [Yj];exact k.1,fun j v e=>?_⟩,q⟩;by_cases hj:i=j
 · subst hj;rw [uD h] at e;cases e
 · rw [Ys hj];exact k.2 j v e
theorem f7 {js:List (Option Nat)}:nR js lR:=fun σ zM x H Q k ⟨e,q⟩=>⟨e,k,q⟩
theorem bR {js:List (Option Nat)} {t:TG} {u:TGs} (mono:∀ x σ H (Q Q':St->Hp->Prop),(∀ a b,Q a b->Q' a b)->t x σ H Q->t x σ H Q') (h1:mF js t) (h2:nR js u):nR js (cT t u):=fun σ zM x H Q k ⟨v,r,e,q⟩ =>
 ⟨v,r,e,mono _ _ _ _ _ (fun a b ⟨k',q'⟩=>h2 σ a r b Q k' q') (h1 σ zM v H _ k q)⟩
theorem aW {i:Nat}:∀ x σ H (Q Q':St->Hp->Prop),(∀ a b,Q a b->Q' a b)->aF i x σ H Q->aF i x σ H Q':=fun _ _ _ _ _ h q=>h _ _ q
theorem gf {js:List (Option Nat)} {K:S8} {n:Nat} {t:TGs} (h:nR js t):mF js (lX K n t):=fun σ zM x H Q k ⟨a,xs,e,hs,hl,q⟩=>⟨a,xs,e,hs,hl,h σ zM xs H Q k q⟩
def fN (js:List (Option Nat)) (g:TG) (tt:TT) (te:TE) (σ:St) (J:It) (D:Ta) (n:Nat) (W:Nat->Hp->Prop) (fin:Hp->Prop):Prop :=
 ∀ i H,W i H->(J.stop i H/\fin H)∨(i<n/\J.go i H/\∀ x H1,J.yld i H x H1->g x (cσ js σ) H1 fun ym H2=>tt ym H2 fun b H3 =>
   if b=true then te ym H3 fun v H4=>∃ ys,H4 D=some (.lst ys)/\ys.length<TB/\W (i+1) (upd H4 D (.lst (ys++[v]))) else W (i+1) H3)
def u9 (js:List (Option Nat)) (wi:TI) (g:TG) (tt:TT) (te:TE):TE:=fun σ H Q=>wi σ H fun J H1=>∀ D,H1 D=none →
 ∃ (n:Nat) (W:Nat->Hp->Prop),W 0 (upd H1 D (.lst []))/\fN js g tt te σ J D n W fun H'=>Q (.ref D) H'
section
variable {X:Cx} {pins:List (Ta×VH)} {σ:St} {s:Tj} {H:Hp}
theorem sL {sc:Xm} {N:List TY} {js:List (Option Nat)} {cl:List (TY×Ta)} {fp:List Ta} {h1:UM} {t':Nat} (S:eT X sc N js) (I:Inv X pins σ H s)
 (AA:∀ x c,cl.lookup x=some c->X.env.cells.lookup x=some c) (AN:∀ n,(n,US)∈sc.names->∃ c,cl.lookup n=some c)
 (hf:∀ b∈fp,jZ X pins H b) (yf:∀ b∈fp,b<s.heap.objs.size) (CM:h1.Ns s.heap.objs.size fun x=>List.lookup x ([]:List (TY×Tc)))
 (DT:∀ b o,s.heap.get? b=some o->h1.get? b=some o) :
 Inv (b9 X N sc cl s.heap.objs.size s H fp pins) [] (cσ js σ) H { s with heap:=h1,toks:=t' }:=by
 have hok:(b9 X N sc cl s.heap.objs.size s H fp pins).Ok :=
  { mod:=I.ok.mod
    kind:=S.kind
    glob:=I.ok.glob
    blt:=I.ok.blt
    above:=Td _
    inj:=fun x y c a b=>I.ok.inj x y c (AA x c a) (AA y c b)
    has:=fun x h=>AN x (ld S.nocell h)
    cab:=fun x c h=>by cases h
    hd:=I.ok.hd
    frames:=I.ok.frames
    stk:=.inl rfl
    exf:=fun b hb=>⟨fun e=>absurd (yf b hb) (by rw [e];exact U0 _),fun x c e z=>(hf b hb).2.2.2.2.1 x c (AA x c e) z⟩
    bs:=I.bs
    bsz:=Ve I.ok.bsz I.sz
    noex:=fun b o e hb=>by
     rcases (hf b hb).2.2.2.1 with h | h
     · exact I.ok.noex b o e h
     · exact absurd (Uv (Uv (Tw e) I.ok.bsz) h) (U0 _)
    exfs:=fun b hb hm=>by
     rcases TF.mp (I.stkSub b hm) with e | e
     · exact (hf b hb).2.1 e
     · exact (hf b hb).2.2.1 e
    funs:=I.stack
    frf:=I.stkFree }
 have hC:H s.heap.objs.size=none:=I.hok.fresh (Td _);obtain ⟨m0,Ka,BN⟩:=I.loc
 exact
  { ok:=hok
    os:=rfl
    bare:=I.bare
    base:=Un.kept DT
    loc:=⟨_,CM,fun i x v e1 e2 Nf=>by
     have Ae:∃ j,js[i]?=some (some j)/\σ[j]?=some (some v):=by
      unfold cσ at e2;rw [Tn] at e2;cases q:js[i]? with
      | none=>rw [q] at e2;cases e2
      | some o =>
        rw [q] at e2;cases o with
        | none=>cases e2
        | some j =>
          refine ⟨j,rfl,?_⟩;have e3:(σ[j]?).join=some v:=TV e2;cases r:σ[j]? with
          | none=>rw [r] at e3;cases e3
          | some z=>rw [r] at e3;exact congrArg some e3
     obtain ⟨j,q1,q2⟩:=Ae;obtain ⟨n1,n2,n3⟩:=S.slots i j x q1 e1;obtain ⟨u,ru,look⟩:=BN j x v n1 q2 (by rcases n3 with z | z;exact .inr (.inl z);exact .inr (.inr z));refine ⟨u,ru,.inr ⟨i9 n2,?_⟩⟩;have hm:(x,US)∈sc.names:=ld (env:=X.env) S.nocell (i9 n2);obtain ⟨c,hc⟩:=AN x hm;refine ⟨c,hc,?_⟩;rcases look with ⟨k1,_⟩ | ⟨_,c',zc,ic⟩
     · rcases n3 with z | z <;> (rw [k1] at z;cases z)
     · have:=AA x c hc;rw [zc] at this;cases this;exact ic.keeps DT⟩
    cell:=fun x c e=>by
     obtain ⟨v,q⟩:=I.cell x c (AA x c e);exact ⟨v,q.keeps DT⟩
    free:=hC
    freeC:=fun x c e=>I.freeC x c (AA x c e)
    pin:=fun p hp=>by
     have y3:p∈X.pn++pins:=by simpa [b9] using hp
     obtain ⟨a1,a2,a3,a4,a5⟩:=I.pin p y3;refine ⟨DT _ _ a1,a2,fun e=>?_,fun hm=>?_,a5⟩
     · have e':p.1=s.heap.objs.size:=e;exact absurd (Tw a1) (by rw [e'];exact U0 _)
     · rcases TF.mp (I.stkSub p.1 hm) with e | e
       · exact a3 e
       · exact a4 e
    hok:=I.hok.kept DT
    len:=by
     show (cσ js σ).length=N.length;unfold cσ;rw [S6];exact S.len }
theorem sf {prog:Tv} {w:TN} {A:Uh} {R:Result->Tj->Prop} {elt target iter:UH} {ifs:List UH} {scope:Xm} {pos:Xn} {it acc:Tc} {env:Env} (J:Nat->Tj->Prop)
 (turn:∀ n s,J n s->Tx (T6 prog w) A (Wr it) (fun r xT=>(r=none/\R (.ok .next) xT)∨∃ v,r=some v ∧
  Tx (T6 prog w) A (YC target it v) (fun _ yB=>Tx (T6 prog w) A (assign target env v) (fun _ zR =>
   Tx (T6 prog w) A (forIn ifs true fun c r=>if r=true then do let ok ← isTrue c env (VS c env);pure (Wb ok) else pure (Wb r)) (fun ok B9 =>
    (ok=false/\∃ m,m<n/\J m B9)∨(ok=true/\Tx (T6 prog w) A (VS elt env) (fun x Gs=>Tx (T6 prog w) A (call (.builtin "list.append") [acc,x]) (fun _ Gu=>∃ m,m<n/\J m Gu) (fun _ _=>False) Gs) (fun _ _=>False) B9))
    (fun _ _=>False) zR) (fun _ _=>False) yB) (fun _ _=>False) xT) (fun _ _=>False) s)
 {s:Tj} (n:Nat) (h:J n s):Xu (T6 prog w) A (.compLoop (.ListComp elt [⟨target,iter,ifs,0⟩] scope pos) 0 it acc env) R s:=by
 refine codeAny_loop rfl J (fun n s hJ=>?_) n h;show Tx _ A ((compTurn (.ListComp elt [⟨target,iter,ifs,0⟩] scope pos) 0 it acc env).onRaise _) _ _ s;refine wpAny_noted ?_;rw [compTurn_list];have up:∀ {α:Type} {m:Sem α} {Q:α->Tj->Prop} {E:Tc->Tj->Prop} {s:Tj},Tx (T6 prog w) A m Q (fun _ _=>False) s->Tx (T6 prog w) A m Q E s:=fun q=>VC q (fun _ _ z=>z) fun _ _ z=>z.elim;refine S7 (wpAny_standAt (S7 (VC (up (turn n s hJ)) (fun r xT yi=>?_) fun _ _ z=>z)));rcases yi with ⟨rfl,yi⟩ | ⟨v,rfl,yi⟩
 · exact Tg yi
 · refine S7 (VC (up yi) (fun _ yB yR=>?_) fun _ _ z=>z);refine S7 (VC (up yR) (fun _ zR Am=>?_) fun _ _ z=>z);refine S7 (VC (up Am) (fun ok B9 yD=>?_) fun _ _ z=>z);rcases yD with ⟨rfl,yD⟩ | ⟨rfl,yD⟩
   · exact Tg ⟨rfl,yD⟩
   · exact S7 (S7 (VC (up yD) (fun x Gs yE=>S7 (VC (up yE) (fun _ Gu Kb=>Tg (Tg ⟨rfl,Kb⟩)) fun _ _ z=>z)) fun _ _ z=>z))
theorem lA {elt tg iter:UH} {ifs:List UH} {sc:Xm} {pos:Xn} {N:List TY} {js:List (Option Nat)} {g:TG} {tt:TT} {te:TE} {cl:List (TY×Ta)} {fp:List Ta} {it:Ta} {tn:Nat->UM->Prop} {J:It} {n:Nat} {W:Nat->Hp->Prop} {fin:Hp->Prop}
 {R:Tc->Ta->Result->Tj->Prop} (hc:X.calm=true) (S:eT X sc N js) (I:Inv X pins σ H s) (T:Turn X.prog X.w X.K tg J fp it tn) (st:tn 0 s.heap) (hf:∀ b∈fp,jZ X pins H b)
 (AA:∀ x c,cl.lookup x=some c->X.env.cells.lookup x=some c) (AN:∀ n,(n,US)∈sc.names->∃ c,cl.lookup n=some c)
 (hg:∀ cl C s H fp pins,PG (b9 X N sc cl C s H fp pins) tg g) (gk:mF js g) (ht:∀ cl C s H fp pins,PTs (b9 X N sc cl C s H fp pins) ifs tt) (he:∀ cl C s H fp pins,PE (b9 X N sc cl C s H fp pins) elt te)
 (w0:W 0 (upd H s.heap.objs.size (.lst []))) (turn:fN js g tt te σ J s.heap.objs.size n W fin)
 (hR:∀ C H' s',C≠X.env.locals->s.heap.objs.size<C->(∃ m,s'.heap.Ns C m)->H' C=none->(∀ h' t',Vj C s'.heap h'->Inv X pins σ H' { s' with heap:=h',toks:=t' })->fin H'->R (.ref s.heap.objs.size) C (.ok .next) s') {E:Tc->Tj->Prop} :
 Tx (T6 X.prog X.w) X.A (newList []) (fun acc zR=>Tx (T6 X.prog X.w) X.A (newFunctionEnv sc X.env.globals cl [] X.env.qual none .none (some X.env)) (fun Gv B9 =>
  Xu (T6 X.prog X.w) X.A (.compStart (.ListComp elt [⟨tg,iter,ifs,0⟩] sc pos) 0 (.ref it) acc { Gv with scope:=relabel sc X.env }) (R acc Gv.locals) B9) E zR) E s:=by
 refine UD (wpAny_newFunctionEnv S.nocell (by intro y hy;simp at hy) (fun yi AO AQ=>?_) S.kind);dsimp only at AO AQ ⊢;have I3:Inv X pins σ (upd H s.heap.objs.size (.lst [])) { s with heap:=s.heap.push { cls:=.type "list",dict:=none,data:=.seq ([]:List Tc).toArray } }:=I.lnew (t':=s.toks) (its:=[]) .nil (by decide)
 have yf:∀ b∈fp,b<s.heap.objs.size:=fun b hb=>by
  obtain ⟨o,ho,_⟩:=T.obj _ _ st b hb;exact Tw ho
 have DU:∀ b o,s.heap.get? b=some o->(s.heap.push { cls:=.type "list",dict:=none,data:=.seq ([]:List Tc).toArray }).get? b=some o:=fun b o e=>Tf _ e;have hsz:(s.heap.push { cls:=.type "list",dict:=none,data:=.seq ([]:List Tc).toArray }).objs.size=s.heap.objs.size+1:=UK ..;generalize Np:({ s with heap:=s.heap.push { cls:=.type "list",dict:=none,data:=.seq ([]:List Tc).toArray } }:Tj)=s3 at I3;have Gw:s.heap.push { cls:=.type "list",dict:=none,data:=.seq ([]:List Tc).toArray }=s3.heap:=by rw [<- Np]
 rw [Gw] at AO AQ DU hsz;rw [Gw];have Kc:∀ t',({ s with heap:=yi,toks:=t' }:Tj)={ s3 with heap:=yi,toks:=t' }:=fun t'=>by rw [<- Np]
 rw [Kc];have DT:∀ b o,s3.heap.get? b=some o->yi.get? b=some o:=fun b o e=>AQ.extBut b o (T9 (Tw e)) (Tf _ e);have Kd:∀ b∈fp,jZ X pins (upd H s.heap.objs.size (.lst [])) b:=fun b hb=>⟨by rw [ak (T9 (yf b hb))];exact (hf b hb).1,(hf b hb).2⟩;have I4:=sL (t':=s.toks+([]:List (TY×Tc)).length) S I3 AA AN Kd (fun b hb=>by rw [hsz];exact Xg (yf b hb)) AO DT;generalize RW:upd H s.heap.objs.size (.lst [])=H3 at I3 I4 Kd w0;have yQ:tn 0 yi:=T.keep _ _ _ st fun b hb o e=>DT _ _ (DU _ _ e)
 have AI:∀ {H':Hp},(∀ b∈fp,H' b=none)->∀ b∈fp,jZ (b9 X N sc cl s3.heap.objs.size s3 H3 fp pins) [] H' b:=fun {H'} hn b hb=>by
  obtain ⟨f0,f1,f2,f3,f4,f5⟩:=hf b hb;refine ⟨hn b hb,fun e=>?_,fun hm=>?_,.inl hb,fun x c e=>f4 x c (AA x c e),fun p hp=>f5 p (by simpa [b9] using hp)⟩
  · have e':b=s3.heap.objs.size:=e;have h9:b<s.heap.objs.size:=yf b hb;rw [e',hsz] at h9;exact absurd h9 (XF.mpr (Nat.le_succ _))
  · rcases TF.mp (I.stkSub b hm) with e | e
    · exact f1 e
    · exact f2 e
 have loop:Xu (T6 X.prog X.w) X.A (.compLoop (.ListComp elt [⟨tg,iter,ifs,0⟩] sc pos) 0 (.ref it) (.ref s.heap.objs.size) (compEnvC sc cl s3.heap.objs.size X.env)) (R (.ref s.heap.objs.size) s3.heap.objs.size)
  { s3 with heap:=yi,toks:=s.toks+([]:List (TY×Tc)).length }:=by
  refine sf (fun k s'=>∃ i H',Inv (b9 X N sc cl s3.heap.objs.size s3 H3 fp pins) [] (cσ js σ) H' s'/\tn i s'.heap/\(∀ b∈fp,H' b=none)/\W i H'/\k=n - i) ?_ n ⟨0,H3,I4,yQ,fun b hb=>(Kd b hb).1,w0,rfl⟩;rintro k s5 ⟨i,H5,I5,Fz,Jg,w5,rfl⟩;rcases turn i H5 w5 with ⟨stop,qn⟩ | ⟨Bh,go,step⟩
  · refine thn (T.done (b9 X N sc cl s3.heap.objs.size s3 H3 fp pins) rfl rfl rfl hc i [] s5 (cσ js σ) H5 _ I5 (AI Jg) Fz stop) fun r s6 ⟨hr,I6⟩=>.inl ⟨hr,?_⟩;have I7:Inv X pins σ H5 s6:=I3.call' (ch:=fp) (I6.os.trans rfl) I6.base I6.hok I6.bare fun b hb=>⟨(hf b hb).2.2.2.1,(hf b hb).2.1,(hf b hb).2.2.2.2.1,(hf b hb).2.2.2.2.2⟩;have Nq:H5 s3.heap.objs.size=none:=I6.free;have Nr:s3.heap.objs.size≠X.env.locals:=WR I3.lt;obtain ⟨m6,Pf,_⟩:=I6.loc;refine hR s3.heap.objs.size H5 s6 Nr (by omega) ⟨m6,Pf⟩ Nq (fun h' t' sb=>?_) qn;refine I7.turned (it:=s3.heap.objs.size) (fun b o hb e=>sb.extBut b o hb e) Nq Nr (.inr I3.sz) (fun x c e z=>?_) fun p hp z=>?_
    · obtain ⟨v,q⟩:=I3.cell x c e;exact absurd q.lt (by rw [z];exact U0 _)
    · exact absurd (Tw (I3.pin p hp).1) (by rw [z];exact U0 _)
  · refine thn (T.item (b9 X N sc cl s3.heap.objs.size s3 H3 fp pins) rfl rfl rfl hc i [] s5 (cσ js σ) H5 _ I5 (AI Jg) Fz go) fun r s6 ⟨u,hr,h6⟩=>.inr ⟨u,hr,?_⟩;refine thn h6 fun _ s7 ⟨x,H7,I7,r7,y7,Ke,Pg⟩=>?_;have Ph:=I7.pinned (AI Pg) (T.obj _ _ Ke);refine thn (hg cl s3.heap.objs.size s3 H3 fp pins _ s7 (cσ js σ) H7 x u _ Ph r7 (gk σ (cσ js σ) x H7 _ (.refl _) (step x H7 y7))) fun _ s8 ⟨Kf,H8,I8,k8,q8⟩=>?_;refine thn (ht cl s3.heap.objs.size s3 H3 fp pins _ s8 Kf H8 _ I8 q8) fun ok s9 ⟨H9,I9,q9⟩=>?_
    have again:∀ {s':Tj} {xS:St} {H':Hp},Keep (cσ js σ) xS->Inv (b9 X N sc cl s3.heap.objs.size s3 H3 fp pins) ([]++ll fp s7.heap) xS H' s'->W (i+1) H'->∃ m,m<n - i/\∃ i H',Inv (b9 X N sc cl s3.heap.objs.size s3 H3 fp pins) [] (cσ js σ) H' s'/\tn i s'.heap/\(∀ b∈fp,H' b=none)/\W i H'/\m=n - i:=fun {s' xS H'} kp I' w'=>by
     refine ⟨n - (i+1),by omega,i+1,H',(I'.unpinned).weak kp.1 kp.2,T.keep _ _ _ Ke fun b hb o e=>(I'.pin (b,o) (Uj _ (Uj _ (fy hb e)))).1,fun b hb=>?_,w',rfl⟩;obtain ⟨o,e,d⟩:=T.obj _ _ Ke b hb;exact (I'.pin (b,o) (Uj _ (Uj _ (fy hb e)))).2.1
    cases ok with
    | false =>
      refine .inl ⟨rfl,again k8 I9 ?_⟩;have Nt:if false=true then _ else W (i+1) H9:=q9
      rw [if_neg TH] at Nt;exact Nt
    | true =>
      refine .inr ⟨rfl,?_⟩;rw [if_pos rfl] at q9;refine thn (he cl s3.heap.objs.size s3 H3 fp pins _ s9 Kf H9 _ I9 q9) fun vv yG ⟨v,yO,Pj,rv,ys,hD,Gx,Pk⟩=>?_;refine thn (aN _ yG Kf yO (.ref s.heap.objs.size) [v] (.ref s.heap.objs.size) [vv] (fun _ H'=>W (i+1) H') Pj rfl (.cons rv .nil) ⟨_,ys,v,rfl,rfl,hD,Gx,Pk⟩) fun _ zp ⟨_,zd,Pl,_,Pm⟩=>?_;exact again k8 Pl Pm
 exact codeAny_compStart_list loop (T.self X.A 0 _ _ _ yQ loop)
theorem cw {elt tg iter:UH} {ifs:List UH} {sc:Xm} {pos:Xn} {N:List TY} {js:List (Option Nat)} {wi:TI} {g:TG} {tt:TT} {te:TE} (hc:X.calm=true) (S:eT X sc N js) (hi:PI X tg iter wi)
 (hg:∀ cl C s H fp pins,PG (b9 X N sc cl C s H fp pins) tg g) (gk:mF js g) (ht:∀ cl C s H fp pins,PTs (b9 X N sc cl C s H fp pins) ifs tt) (he:∀ cl C s H fp pins,PE (b9 X N sc cl C s H fp pins) elt te)
 (hs:∀ x,foldedSetIterable iter X.env x=pure x:=by intro _;rfl):PE X (.ListComp elt [⟨tg,iter,ifs,0⟩] sc pos) (u9 js wi g tt te):=by
 intro pins s σ H Q I h;obtain ⟨cl,e1,e2,e3⟩:=kK (env:=X.env) (sc:=sc) fun n hn=>I.ok.has n (S.frees _ hn rfl);rw [eval_ListComp];refine wpAny_comprehension_free (use:=none) rfl hs e1 S.kind S.names (thn (hi pins s σ H _ I h) fun v s1 h1=>thn h1 fun Jf s2 h2=>?_);obtain ⟨it,fp,tn,J,H2,rfl,I2,T,AH,f2,R2⟩:=h2;obtain ⟨n,W,w0,turn⟩:=R2 s2.heap.objs.size I2.fresh;refine lA (R:=fun acc C=>compPost (T6 X.prog X.w) X.A X.xe none (EP X pins σ Q) acc C) hc S I2 T AH f2 e2 e3 hg gk ht he w0 turn fun C H' s' _ _ hn _ inv fi=>?_;obtain ⟨m,hm⟩:=hn;exact ⟨m,hm,fun h' sb=>⟨.ref s2.heap.objs.size,H',inv h' s'.toks sb,rfl,fi⟩⟩
theorem fo {i:Nat} {y:TY} {elt tg iter:UH} {ifs:List UH} {sc:Xm} {pos Gy py:Xn} {N:List TY} {js:List (Option Nat)} {wi:TI} {g:TG} {tt:TT} {te:TE} (hN:X.N.Nodup) (hy:X.N[i]?=some y) (Pn:Loc X.env.scope y) (hc:X.calm=true) (S:eT X sc N js) (hi:PI X tg iter wi)
 (hg:∀ cl C s H fp pins,PG (b9 X N sc cl C s H fp pins) tg g) (gk:mF js g) (ht:∀ cl C s H fp pins,PTs (b9 X N sc cl C s H fp pins) ifs tt) (he:∀ cl C s H fp pins,PE (b9 X N sc cl C s H fp pins) elt te)
 (Po:swapsWith (.ListComp elt [⟨tg,iter,ifs,0⟩] sc pos) (some (.Name y py)) Gy.line X.env=pure true:=by rfl)
 (hs:∀ x,foldedSetIterable iter X.env x=pure x:=by intro _;rfl) (hf:X.fn y=true∨X.env.scope.names.lookup y=some .local:=by first | exact .inl rfl | exact .inr rfl | assumption) :
 PS X (.Assign [.Name y py] (.ListComp elt [⟨tg,iter,ifs,0⟩] sc pos) Gy) (wk (u9 js wi g tt te) (aF i)):=by
 intro pins s σ H D I h;obtain ⟨cl,e1,e2,e3⟩:=kK (env:=X.env) (sc:=sc) fun n hn=>I.ok.has n (S.frees _ hn rfl);rw [exec_Assign_Name_used _ _ _ _ Po];refine S7 (wpAny_standAt (S7 ?_));show Tx _ X.A (do let _ ← comprehension (.ListComp elt [⟨tg,iter,ifs,0⟩] sc pos) sc X.env _ (newList []) false (VS iter X.env) (some (assign (.Name y py) X.env))) _ _ s;refine S7 (VC (wpAny_comprehension_free (use:=some (assign (.Name y py) X.env)) (Q:=fun _ s'=>SP X pins D .next s') rfl hs e1 S.kind S.names (thn (hi pins s σ H _ I h) fun v s1 h1=>thn h1 fun Jf s2 h2=>?_)) (fun _ s' hq=>Tg (Tg hq)) fun _ _ z=>z);obtain ⟨it,fp,tn,J,H2,rfl,I2,T,AH,f2,R2⟩:=h2;obtain ⟨n,W,w0,turn⟩:=R2 s2.heap.objs.size I2.fresh;refine lA (R:=fun acc C=>compPost (T6 X.prog X.w) X.A X.xe (some (assign (.Name y py) X.env)) (fun _ s'=>SP X pins D .next s') acc C) hc S I2 T AH f2 e2 e3 hg gk ht he w0 turn fun C H' s' Nu hC hn Pp inv fi=>?_;obtain ⟨m,hm⟩:=hn
 have I5:Inv X pins σ H' s':=by
  have q:=inv s'.heap s'.toks (.refl ..);exact q
 refine wpAny_assign_Name (mz (v:=.ref s2.heap.objs.size) I5 hN hy Pn rfl (fun s6 I6 ⟨a,sb,ha⟩=>?_) hf)
 have Pq:C≠a:=by
  rcases ha with ha | ha
  · rw [ha];exact Nu
  · intro z;obtain ⟨v,q⟩:=I2.cell y a ha;exact absurd (WS q.lt hC) (by rw [z];exact U0 _)
 refine ⟨m,hm.sameBut sb Pq,fun h' Pr=>⟨_,H',I6.turned (it:=C) (t':=s6.toks) (fun b o hb e=>Pr.extBut b o hb e) Pp Nu (.inr (Ve I2.sz (WT hC))) (fun x c e z=>?_) fun p hp z=>?_,fi⟩⟩
 · obtain ⟨v,q⟩:=I2.cell x c e;exact absurd (WS q.lt hC) (by rw [z];exact U0 _)
 · exact absurd (WS (Tw (I2.pin p hp).1) hC) (by rw [z];exact U0 _)
end
end L2
namespace L2
open PySem PySem.Spec PyProof.Rows
def jY {α:Type} (xs:List α) (lo hi:Option Int):List α:=(xs.drop (HT.sIx xs.length 0 lo)).take (HT.sIx xs.length xs.length hi - HT.sIx xs.length 0 lo)
def dW (z:TY) (lo hi:Option Int):TY:=⟨(jY z.cps.toList lo hi).toArray⟩
theorem tW {α:Type} (xs:List α) (a n:Nat):((T7 n).map fun (k:Nat)=>a+k).filterMap (xs[·]?)=(xs.drop a).take n:=by
 induction n with
 | zero=>simp
 | succ n ih =>
   rw [Yi,Tu,List.filterMap_append,ih,UN];congr 1;rw [List.getElem?_drop];cases h:xs[a+n]? <;> simp [h]
theorem rB (n d:Nat) (i:Int):max 0 (min (if i<0 then i+(n:Int) else i) (n:Int))=((HT.sIx n d (some i):Nat):Int):=by
 show max 0 (min (if i<0 then i+(n:Int) else i) (n:Int))=(((if i<0 then (i+(n:Int)).toNat else min i.toNat n):Nat):Int);by_cases h:i<0
 · rw [if_pos h,if_pos h];omega
 · rw [if_neg h,if_neg h];omega
theorem tR (A B:Int) (a b:Nat) (hA:A=(a:Int)) (hB:B=(b:Int)):sliceRange A B 1=(T7 (b - a)).map fun (k:Nat)=>a+k:=by
 subst hA;subst hB;unfold sliceRange;simp only [show (1:Int) > 0 by decide,if_true]
 have c:(if (a:Int)<(b:Int) then ((b:Int) - a+1 - 1) / 1 else 0).toNat=b - a:=by
  split
  · rw [YW];omega
  · omega
 rw [c];refine XB fun k _=>?_;omega
theorem qW (lo hi:Option Int) (n:Nat):X0 lo hi 1 n=(T7 (HT.sIx n n hi - HT.sIx n 0 lo)).map fun (k:Nat)=>HT.sIx n 0 lo+k:=by
 unfold X0;simp only [show (1:Int) > 0 by decide,if_true];cases lo <;> cases hi <;> refine tR _ _ _ _ ?_ ?_ <;> first | rfl | exact rB _ _ _
theorem oN (z:TY) (lo hi:Option Int):(dW z lo hi).length<=z.length:=by
 show (jY z.cps.toList lo hi).toArray.size<=z.cps.size;unfold jY;rw [Tq,Uc,UL,Ua];omega
theorem lU (x:TY) (t:Tok) (l u:Option (Int×Tok)) {Q:Tc->Tj->Prop} {s:Tj} (hz:x.length<=TB) (h:∀ t' k,Q (.str (dW x (l.map (·.1)) (u.map (·.1))) t') { s with toks:=k }):(sliceMade x t l u none).post Q s:=by
 have e:(YL x l u none).filterMap (x.cps[·]?)=jY x.cps.toList (l.map (·.1)) (u.map (·.1)):=by
  unfold YL jY;show (X0 (l.map (·.1)) (u.map (·.1)) 1 x.length).filterMap (x.cps[·]?)=_;rw [qW,show (x.cps[·]?)=(x.cps.toList[·]?) from funext fun i=>(WC ..).symm,tW,Ua];rfl
 unfold sliceMade;split
 · rename_i hc
   have hl:(YL x l u none).length=x.length:=by
    have:=(Vs _ _ ▸ hc).2;simpa using this
   have hw:dW x (l.map (·.1)) (u.map (·.1))=x:=by
    have e2:(jY x.cps.toList (l.map (·.1)) (u.map (·.1)))=x.cps.toList:=by
     have hp:YL x l u none=(T7 (HT.sIx x.length x.length (u.map (·.1)) - HT.sIx x.length 0 (l.map (·.1)))).map fun (k:Nat)=>HT.sIx x.length 0 (l.map (·.1))+k:=qW _ _ _;rw [hp,S6,T8] at hl;have b1:=HT.sIx_le x.length x.length (Td _) (u.map (·.1));have hx:x.cps.toList.length=x.length:=Ua;unfold jY;rw [hx,hl];have CN:HT.sIx x.length 0 (l.map (·.1))=0∨x.length=0:=by omega
     rcases CN with h0 | h0
     · rw [h0,VM,UT (by rw [hx];exact Td _)]
     · have:x.cps.toList=[]:=UZ.mp (by rw [hx];exact h0);rw [this];simp
    unfold dW;rw [e2]
   have:=h t s.toks;rw [hw] at this;exact this
 · show (⟨((YL x l u none).filterMap (x.cps[·]?)).toArray⟩:TY).length<=TB/\Q _ _;rw [e];exact ⟨Ve (oN x _ _) hz,h s.toks (s.toks+1)⟩
section
variable {X:Cx}
inductive vd (x:V) (lo:Option Int) (hi:Option Int) (H:Hp) (Q:VK):Prop
 | mk (z:_) (yd:x=.str z) (ye:z.length<=TB) (yj:Q (.str (dW z lo hi)) H):vd  x lo hi H Q
def xE:V->Option Int->Option Int->Hp->VK->Prop:=vd
theorem part_of {v:Tc} {o:Option Int} (h:Yz v o):∃ l:Option (Int×Tok),v=partValue l/\l.map (·.1)=o:=by
 cases h with
 | none=>exact ⟨none,rfl,rfl⟩
 | int i t=>exact ⟨some (i,t),rfl,rfl⟩
theorem qd:SlR X xE:=by
 intro pins s σ H x v vl vu lo hi sl Q I rx hs pl pu h;obtain ⟨z,rfl,hz,q⟩:=h;obtain ⟨t,rfl⟩:=rx;obtain ⟨l,rfl,rfl⟩:=part_of pl;obtain ⟨u,rfl,rfl⟩:=part_of pu;refine ⟨"str",_,F.slot_str_getitem.lookup,typeIs_str s z t,wpAny_getItem_str_slice (l:=l) (u:=u) (st:=none) ?_ rfl (lU z t l u hz fun t' k=>?_)⟩
 · obtain ⟨o,ho,hc,hd⟩:=hs;exact ⟨o,ho,hc,hd⟩
 · exact ⟨.str (dW z (l.map (·.1)) (u.map (·.1))),H,I.tok k,⟨_,rfl⟩,q⟩
theorem uf {T:String} {b:Bool} {t:Tc}:gR X (.builtin "isinstance") (fun xs H Q=>∃ x,xs=[x,.ty T]/\iP X.K H x t/\WJ X.K t (.type T)=some b/\Q (.bl b) H):=by
 intro pins s σ H xs us Q I r h;obtain ⟨x,rfl,ty,k,q⟩:=h;obtain ⟨u,w',rfl,r1,r2⟩:=vals2 r;cases r2;exact r6 I r1 ty k fun tk=>⟨.bl b,H,I.tok tk,rfl,q⟩
end
end L2
namespace PySem
namespace F
theorem bb_owner_rev:Manifest.owners.lookup (String.ofList ['d','e','s','r','e','v','e','r'].reverse)=some Manifest.sig_reversed:=by kernel_rfl
theorem bb_slot_rev_next:Slot "reversed" "__next__" "reversed.__next__" :=
 .of (owner:="reversed") (n:="__next__") (by rw [Vu,UQ];kernel_rfl) (by decide +kernel) (by decide +kernel) (by decide +kernel)
  (by first | exact .inl (by decide +kernel) | exact .inr (by decide +kernel)) (by rw [Wx];kernel_rfl)
theorem bb_entry_rev_next:entryFor table "reversed.__next__"=some V7.«reversed.__next__»:=entryFor_of_tree (by kernel_rfl)
theorem bb_args_rev_next (a:Tc):argsOk "reversed.__next__" ⟨[a],[]⟩:=by
 unfold argsOk;rw [signature?_of (id:="reversed.__next__") (n:=['_','_','t','x','e','n','_','_']) (o:=['d','e','s','r','e','v','e','r']) (by kernel_rfl) bb_owner_rev];kernel_rfl
theorem bb_slot_rev_iter:Slot "reversed" "__iter__" "reversed.__iter__" :=
 .of (owner:="reversed") (n:="__iter__") (by rw [Vu,UQ];kernel_rfl) (by decide +kernel) (by decide +kernel) (by decide +kernel)
  (by first | exact .inl (by decide +kernel) | exact .inr (by decide +kernel)) (by rw [Wx];kernel_rfl)
theorem bb_args_rev_iter (a:Tc):argsOk "reversed.__iter__" ⟨[a],[]⟩:=by
 unfold argsOk;rw [signature?_of (id:="reversed.__iter__") (n:=['_','_','r','e','t','i','_','_']) (o:=['d','e','s','r','e','v','e','r']) (by kernel_rfl) bb_owner_rev];kernel_rfl
theorem bb_entry_rev_iter:entryFor table "reversed.__iter__"=some V7.«dict_keyiterator.__iter__» :=
 entryFor_alias (id':="dict_keyiterator.__iter__") (by kernel_rfl) (by first | rfl | decide +kernel | (unfold String.splitOn;simp +decide [String.splitOnAux])) (by decide +kernel) (by kernel_rfl)
theorem bb_slot_rev_hint:Slot "reversed" "__length_hint__" "reversed.__length_hint__" :=
 .of (owner:="reversed") (n:="__length_hint__") (by rw [Vu,UQ];kernel_rfl) (by decide +kernel) (by decide +kernel) (by decide +kernel)
  (by first | exact .inl (by decide +kernel) | exact .inr (by decide +kernel)) (by rw [Wx];kernel_rfl)
theorem bb_entry_rev_hint:entryFor table "reversed.__length_hint__"=some V7.«reversed.__length_hint__»:=entryFor_of_tree (by kernel_rfl)
theorem bb_args_rev_hint (a:Tc):argsOk "reversed.__length_hint__" ⟨[a],[]⟩:=by
 unfold argsOk;rw [signature?_of (id:="reversed.__length_hint__") (n:=['_','_','t','n','i','h','_','h','t','g','n','e','l','_','_']) (o:=['d','e','s','r','e','v','e','r']) (by kernel_rfl) bb_owner_rev];kernel_rfl
theorem bb_nolen_rev:W0 (.type "reversed") "__len__"=pure none:=by rw [Vu,UQ];kernel_rfl
theorem bb_nolen_lri:W0 (.type "list_reverseiterator") "__len__"=pure none:=by rw [Vu,UQ];kernel_rfl
theorem bb_hint_lri:W0 (.type "list_reverseiterator") "__length_hint__"=pure (some (.builtin "list_reverseiterator.__length_hint__")):=by rw [Vu,UQ];kernel_rfl
theorem bb_tuple_norev:W0 (.type "tuple") "__reversed__"=pure none:=by rw [Vu,UQ];kernel_rfl
theorem bb_sub_rev_rev:isSubtype (.type "reversed") (.type "reversed")=pure true:=by rw [Wx];kernel_rfl
theorem bb_sub_tuple_dict:isSubtype (.type "tuple") (.type "dict")=pure false:=by rw [Wx];kernel_rfl
end F
end PySem
namespace PySem
open Sem (wp)
section
variable {prog:Tv} {w:TN} {A:Uh} {E:Tc->Tj->Prop} {s:Tj}
theorem bb_slot_rev_init:Slot "reversed" "__init__" "object.__init__" :=
 .of (owner:="object") (n:="__init__") (by rw [Vu,UQ];kernel_rfl) (by decide +kernel) (by decide +kernel) (by decide +kernel)
  (by first | exact .inl (by decide +kernel) | exact .inr (by decide +kernel)) (by rw [Wx];kernel_rfl)
theorem bb_called_rev:TypeCalled "reversed" "reversed.__new__" "object.__init__" :=
 ⟨by decide +kernel,by decide +kernel,⟨_,_,F.mro_reversed⟩,F.made_reversed,by decide +kernel,F.bb_sub_rev_rev,bb_slot_rev_init⟩
def revTup (t:Ta) (i:Int):VH:={ cls:=.type "reversed",data:=.fields #[.ref t,VR i] }
theorem bb_meets_rev_tuple (t:Ta) (items:Array Tc) (hz:(items.size:Int)<2 ^ 63) :
 Meets (V7.«reversed.__new__» ⟨[.type "reversed",.ref t],[]⟩) (fun _ R s=>Wv s.heap t items/\∀ tk,R (.ok (.ret (.ref s.heap.objs.size))) { s with heap:=s.heap.push (revTup t ((items.size:Int) - 1)),toks:=tk }):=by
 refine .of_wp fun prog w A R s h=>?_;obtain ⟨ht,h⟩:=h;unfold V7.«reversed.__new__»;refine S7 (WE (newClass_reversed _) ?_)
 try dsimp only
 refine S7 (WE (a:=()) (by first | rfl | kernel_rfl) ?_);refine S7 (WE (a:=()) (by first | rfl | kernel_rfl) ?_)
 try dsimp only
 refine S7 (U2 ht.typeIs F.bb_tuple_norev ?_)
 try dsimp only
 have RX:=F.bb_sub_tuple_dict;have RY:=Ug.lookup;have hT:s.TypeIs (.ref t) "tuple":=ht.typeIs
 wp_walk using PyProof.Rows.len_tuple ht hz,V4 hT
 exact ⟨_,rfl,h _⟩
theorem bb_call_rev_tuple {t:Ta} {items:Array Tc} {Q:Tc->Tj->Prop} (ht:Wv s.heap t items) (hz:(items.size:Int)<2 ^ 63)
 (h:∀ tk,Q (.ref s.heap.objs.size) { s with heap:=s.heap.push (revTup t ((items.size:Int) - 1)),toks:=tk }):Tx (T6 prog w) A (call (.type "reversed") [.ref t]) Q E s :=
 callType_new bb_called_rev (by decide) (F.typeCall_reversed_1 _) (F.newCall_reversed_1 _) (fun obj=>F.args_object_init_2 obj _) F.entry_reversed_new (bb_meets_rev_tuple t items hz)
  ⟨ht,fun tk=>⟨⟨_,Tt _ rfl,rfl⟩,h tk⟩⟩
def IsRevT (h:UM) (a t:Ta) (i:Int):Prop:=∃ o,h.get? a=some o/\o.cls=.type "reversed"/\o.data=.fields #[.ref t,VR i]
theorem IsRevT.typeIs {a t:Ta} {i:Int} (x:IsRevT s.heap a t i):s.TypeIs (.ref a) "reversed":=let ⟨o,ho,hc,_⟩:=x;⟨o,ho,hc⟩
theorem IsRevT.at {h h':UM} {a t:Ta} {i:Int} (x:IsRevT h a t i) (e:∀ o,h.get? a=some o->h'.get? a=some o):IsRevT h' a t i:=let ⟨o,ho,r⟩:=x;⟨o,e _ ho,r⟩
theorem bb_rev_iter {it t:Ta} {i:Int} {Q:Tc->Tj->Prop} (hit:IsRevT s.heap it t i) (h:Q (.ref it) s):Tx (T6 prog w) A (pyIter (.ref it)) Q E s:=by
 refine wpAny_pyIter_slot hit.typeIs F.bb_slot_rev_iter (UE F.bb_slot_rev_iter hit.typeIs F.bb_entry_rev_iter ?_ (F.bb_args_rev_iter _));show Tx _ _ (ret (.ref it)) _ _ s;exact Tg ⟨_,rfl,"reversed",_,hit.typeIs,F.bb_slot_rev_next.lookup,h⟩
theorem bb_rev_next {it t:Ta} {i:Nat} {items:Array Tc} {x:Tc} {Q:Option Tc->Tj->Prop} (hit:IsRevT s.heap it t (i:Int)) (ht:Wv s.heap t items) (hx:items[i]?=some x) (hz:(items.size:Int)<2 ^ 63)
 (hQ:∀ h' tk,IsRevT h' it t ((i:Int) - 1)->Vj it s.heap h'->Q (some x) { s with heap:=h',toks:=tk }):Tx (T6 prog w) A (Wr (.ref it)) Q E s:=by
 obtain ⟨o,ho,hc,hd⟩:=id hit;have hi:i<items.size:=(XO.mp hx).1;unfold Wr
 refine S7 (Wq (Uz (name:=Ti "__next__") hit.typeIs F.bb_slot_rev_next
  (UE F.bb_slot_rev_next hit.typeIs F.bb_entry_rev_next ?_ (F.bb_args_rev_next _))))
 unfold V7.«reversed.__next__»;refine S7 (WE (a:=(T5 it,[])) rfl ?_)
 try dsimp only
 refine S7 (Uo ho hd (x:=.ref t) rfl ?_);refine S7 (Uo ho hd (x:=VR (i:Int)) rfl ?_);show Tx _ _ (if (i:Int)<0 then _ else _) _ _ s;rw [if_neg (by omega)];refine S7 (U2 ht.typeIs Ug.lookup ?_)
 try dsimp only
 rw [if_neg (by decide)];refine S7 (m:=mkInt (i:Int)) (wpAny_mkInt ?_);refine S7 (Wq (PyProof.Rows.getItem_tuple (j:=i) (x:=x) ht (by omega) (by omega) ?_ hx ?_))
 · refine (L2.nW (n:=items.size) (i:=(i:Int)) (j:=i) ?_).1;unfold L2.ixN;rw [if_pos (by omega),if_pos (by omega)];simp
 · try dsimp only
   refine S7 (Uo ho hd (x:=VR (i:Int)) rfl ?_)
   try dsimp only
   refine S7 (WZ ho hd (by simp) ?_);refine Tg ⟨x,rfl,Tg (hQ _ _ ?_ (VE ..))⟩;exact ⟨_,Ud _ ho (XA (VN hd _)),(Obj.cls_mapFields ..).trans hc,by rw [VN hd];simp⟩
theorem bb_rev_end {it t:Ta} {Q:Option Tc->Tj->Prop} (hh:A.handled=none) (hit:IsRevT s.heap it t (-1))
 (hQ:∀ h' tk,YX it s.heap h'->Q none { s with heap:=h',toks:=tk }):Tx (T6 prog w) A (Wr (.ref it)) Q E s:=by
 obtain ⟨o,ho,hc,hd⟩:=id hit;unfold Wr
 refine S7 (Wq (Uz (name:=Ti "__next__") hit.typeIs F.bb_slot_rev_next
  (UE F.bb_slot_rev_next hit.typeIs F.bb_entry_rev_next ?_ (F.bb_args_rev_next _))))
 unfold V7.«reversed.__next__»;refine S7 (WE (a:=(T5 it,[])) rfl ?_)
 try dsimp only
 refine S7 (Uo ho hd (x:=.ref t) rfl ?_);refine S7 (Uo ho hd (x:=VR (-1)) rfl ?_);show Tx _ _ (if (-1:Int)<0 then _ else _) _ _ s;rw [if_pos (by decide)];refine S7 (Wd ?_);refine S7 ?_
 wp_delta
 refine S7 (WZ ho hd (by simp) ?_);have C0:=Ud (Obj.mapFields (·.setIfInBounds 1 (VR (-1)))) ho (XA (VN hd _));refine WZ C0 (VN hd _) (by simp) ?_;refine S7 ?_
 wp_delta
 refine S7 ?_;simp only [newExc,newTuple];refine S7 (UD ?_ (by size_fits));refine S7 (m:=Xs _ _) (WE (a:=UX) (by first | rfl | (simp only [Xs];rfl)) ?_);refine UD ?_ (by size_fits);simp only [raiseNew];refine S7 (wpAny_handled ?_)
 first | rw [show A.in1.handled=none from hh] | rw [hh]
 refine S7 (Tg (wpAny_throw ?_));refine S7 (V8 (T:="StopIteration") (b:=true) ⟨_,Tt _ rfl,rfl⟩ isSubtype_stop ?_);refine Tg (hQ _ _ ?_);refine Heap.ExtBut.push (Heap.ExtBut.push ?_ _) _;intro b o' hb e;rw [Uk _ _ (Vi hb),Uk _ _ (Vi hb)];exact e
theorem bb_walk_revT (hh:A.handled=none) (I t:Ta) (yk:t≠I) (items:Array Tc) (hz:(items.size:Int)<2 ^ 63) :
 Walks prog w A I [I,t] [I] items.size (fun i v=>items[items.size - 1 - i]?=some v) (fun i h=>i<=items.size/\IsRevT h I t ((items.size:Int) - 1 - (i:Int))/\Wv h t items) where
 sub:=fun b hb=>by simp at hb;simp [hb]
 frame:=fun _ _ _ x hk=>⟨x.1,x.2.1.at fun o e=>hk I (by simp) o e,by obtain ⟨o,e,r⟩:=x.2.2;exact ⟨o,hk t (by simp) o e,r⟩⟩
 item:=fun i s Q E hi x hQ=>by
  have e:(items.size:Int) - 1 - (i:Int)=((items.size - 1 - i:Nat):Int):=by omega
  have hit:=x.2.1;rw [e] at hit;have hx:items[items.size - 1 - i]?=some (items[items.size - 1 - i]'(by omega)):=VB (by omega);refine bb_rev_next hit x.2.2 hx hz fun h' tk C2 yX=>?_;have e2:((items.size - 1 - i:Nat):Int) - 1=(items.size:Int) - 1 - ((i+1:Nat):Int):=by omega
  rw [e2] at C2;exact hQ _ h' tk hx ⟨hi,C2,by obtain ⟨o,e,r⟩:=x.2.2;exact ⟨o,(yX.2 t yk).trans e,r⟩⟩ fun b o hb eo=>yX.extBut b o (fun h=>hb (by simp [h])) eo
 done:=fun s Q E x hQ=>by
  have e:(items.size:Int) - 1 - (items.size:Int)=-1:=by omega
  have hit:=x.2.1;rw [e] at hit;exact bb_rev_end hh hit fun h' tk Pu=>hQ h' tk fun b o hb eo=>Pu b o (fun h=>hb (by simp [h])) eo
 self:=fun _ _ _ _ x hQ=>bb_rev_iter x.2.1 hQ
def HintOk (prog:Tv) (w:TN) (A:Uh) (I:Ta) (St:Nat->UM->Prop):Prop :=
 ∀ (s:Tj) (Q:Bool->Tj->Prop) (E:Tc->Tj->Prop),St 0 s.heap->(∀ b tk,s.toks<=tk->Q b { s with toks:=tk })->Tx (T6 prog w) A (V5 (.ref I)) Q E s
theorem bb_hint_lri {I l:Ta} {items:Array Tc}:HintOk prog w A I (fun i h=>i<=items.size/\h.IsRevIter I l ((items.size:Int) - 1 - (i:Int))/\h.IsList l items):=by
 intro s Q E st h;unfold V5;refine S7 (U2 st.2.1.typeIs F.bb_nolen_lri ?_);show Tx _ A (specialOf (T5 I) (Ti "__length_hint__") >>= _) _ _ _;refine S7 (U2 st.2.1.typeIs F.bb_hint_lri ?_)
 (generalize hid:("list_reverseiterator.__length_hint__":String)=EB;(fail_if_success (clear hid EB));wp_delta;rw [show splitId EB=some ("list_reverseiterator","__length_hint__") from by subst hid;decide +kernel];subst hid)
 refine S7 (V8 (b:=true) st.2.1.typeIs (by rw [Wx];kernel_rfl) ?_);exact Tg (h _ _ (Td _))
theorem bb_len_hint {I t:Ta} {items:Array Tc} {Q:Tc->Tj->Prop} (hit:IsRevT s.heap I t ((items.size:Int) - 1)) (ht:Wv s.heap t items) (hz:(items.size:Int)<2 ^ 63)
 (h:∀ u tk,s.toks<=tk->Q (.int (items.size:Int) u) { s with toks:=tk }):Tx (T6 prog w) A (call (.builtin "reversed.__length_hint__") [.ref I]) Q E s:=by
 obtain ⟨o,ho,hc,hd⟩:=id hit;refine UE F.bb_slot_rev_hint hit.typeIs F.bb_entry_rev_hint ?_ (F.bb_args_rev_hint _);unfold V7.«reversed.__length_hint__»;refine S7 (WE (a:=T5 I) rfl ?_)
 try dsimp only
 refine S7 (Uo ho hd (x:=.ref t) rfl ?_);rw [if_neg (show ¬ ((T5 t == UX)=true) from TH)];refine S7 (PyProof.Rows.len_tuple ht hz ?_);refine S7 (m:=asInt? _) (Tg ?_)
 try dsimp only
 refine S7 (Uo ho hd (x:=VR ((items.size:Int) - 1)) rfl ?_);show Tx _ _ (if (items.size:Int)<((items.size:Int) - 1)+1 then _ else _) _ _ _;rw [if_neg (by omega)];have e:((items.size:Int) - 1)+1=(items.size:Int):=by omega
 rw [e];refine S7 (wpAny_mkInt (Tg ⟨_,rfl,h _ _ ?_⟩));show s.toks<=s.toks+1+1+1;omega
theorem bb_hint_rev {I t:Ta} {items:Array Tc} (hz:items.size<=TB):HintOk prog w A I (fun i h=>i<=items.size/\IsRevT h I t ((items.size:Int) - 1 - (i:Int))/\Wv h t items):=by
 intro s Q E st h;unfold V5;refine S7 (U2 st.2.1.typeIs F.bb_nolen_rev ?_);show Tx _ A (specialOf (T5 I) (Ti "__length_hint__") >>= _) _ _ _;refine S7 (U2 st.2.1.typeIs F.bb_slot_rev_hint.lookup ?_)
 (generalize hid:("reversed.__length_hint__":String)=EB;(fail_if_success (clear hid EB));wp_delta;rw [show splitId EB=some ("reversed","__length_hint__") from by subst hid;decide +kernel];subst hid)
 refine S7 (V8 (b:=true) st.2.1.typeIs F.bb_sub_rev_rev ?_)
 have Nv:(items.size:Int)<2 ^ 63:=by
  have:=L2.fk;omega
 rw [if_neg (by decide)]
 try dsimp only
 rw [if_neg (by decide +kernel)];refine S7 (Wd ?_);refine S7 (WE (F.bb_slot_rev_hint.bind _) ?_)
 try dsimp only
 have hit:=st.2.1;rw [show (items.size:Int) - 1 - ((0:Nat):Int)=(items.size:Int) - 1 by omega] at hit;refine S7 (Wq (bb_len_hint hit st.2.2 Nv fun u tk zS=>?_));have f1:Builtin.List.listFitsIndex (items.size:Int)=true:=fitsIndex_of (Int.natCast_nonneg _) Nv;have f2:VO (items.size:Int).toNat=false:=L2.kj (Ve (YT (Uw _)) hz);have f3:¬ (items.size:Int)<0:=Int.not_lt.mpr (Int.natCast_nonneg _);generalize (items.size:Int)=k at f1 f2 f3 ⊢;have fin:Tx (T6 prog w) A (pure (k != 0):Sem Bool) Q E { s with toks:=tk }:=Tg (h _ _ zS);simp only [asInt?,pure_bind,f1,f2,f3,Xp,UJ,if_false];exact fin
theorem bb_list_walk {T:String} {I:Ta} {fp wr:List Ta} {n:Nat} {P:Nat->Tc->Prop} {St:Nat->UM->Prop} {Q:Tc->Tj->Prop} (W:Walks prog w A.in1.in1 I fp wr n P St)
 (hT:∀ i (s:Tj),St i s.heap->s.TypeIs (.ref I) T) (h2:(VT T == VT "list")=false) (h3:(VT T == VT "tuple")=false) (hint:HintOk prog w A.in1.in1 I St)
 (yQ:St 0 s.heap) (Pw:∀ b∈fp,b<s.heap.objs.size) (hI:I∈fp) (hn:n<=TB)
 (hQ:∀ h' tk acc c,(∀ b o,b∉wr->s.heap.get? b=some o->h'.get? b=some o)->h'.get? s.heap.objs.size=some { cls:=.type "list",dict:=none,data:=.seq acc c,slots:=#[] }->ItemsOf P acc n->Q (.ref s.heap.objs.size) { s with heap:=h',toks:=tk }) :
 Tx (T6 prog w) A (call (.type "list") [.ref I]) Q E s:=by
 have FD:s.heap.objs.size∉fp:=fun hm=>U0 _ (Pw _ hm)
 refine YM (Q₁:=fun obj xT=>obj=.ref s.heap.objs.size/\xT={ s with heap:=s.heap.push { cls:=.type "list",data:=.seq #[] } }) F.called_list (F.typeCall_list_1 _) F.entry_list_init
  (code_list_new _ ⟨rfl,rfl⟩) fun obj xT yi=>?_
 obtain ⟨rfl,rfl⟩:=yi;have hS:(s.heap.push { cls:=.type "list",data:=.seq #[] }).get? s.heap.objs.size=some { cls:=.type "list",data:=.seq #[] }:=Tt _ rfl;have Kg:s.heap.objs.size≠I:=fun e=>FD (e ▸ hI);refine ⟨⟨_,hS,rfl⟩,F.args_list_init_2 _ _,?_⟩;show Tx _ A.in1.in1 (do let old ← V6 (.ref s.heap.objs.size);Yv (.ref s.heap.objs.size) (fun _=>#[]);letGo old.toList.reverse;Vx (.ref s.heap.objs.size) (.ref I) .none) _ _ _;refine S7 ?_;unfold V6;refine S7 (UU hS rfl (Tg ?_));refine S7 (Vh hS rfl ?_);have y8:=Ud (UG (fun _=>(#[]:Array Tc))) hS rfl;refine S7 (Yd ?_);generalize hH:(s.heap.push { cls:=.type "list",data:=.seq #[] }).update s.heap.objs.size (UG (fun _=>(#[]:Array Tc)))=H2 at y8 ⊢
 have old:∀ b o,s.heap.get? b=some o->H2.get? b=some o:=fun b o e=>by
  rw [<- hH,Uk _ _ (Vi (T9 (Tw e)))];exact Tf _ e
 obtain ⟨c2,C3⟩:∃ c,H2.get? s.heap.objs.size=some { cls:=.type "list",data:=.seq #[] c }:=⟨_,y8⟩;have AH:St 0 H2:=W.frame 0 _ _ yQ fun b _ o e=>old b o e;unfold Vx;refine S7 (V4 (hT 0 _ AH) ?_);have h1:VP (.ref s.heap.objs.size) (.ref I)=false:=by simp [VP,Kg]
 simp only [h1,h2,h3,YG,UJ,if_false];refine S7 (W.self 0 _ _ _ AH ?_);refine S7 (UW (hint _ _ _ AH fun b tk _=>?_))
 have key:∀ (h:UM) (c₁ tk:Nat),St 0 h->(∀ b o,b≠s.heap.objs.size->H2.get? b=some o->h.get? b=some o)->h.get? s.heap.objs.size=some { cls:=.type "list",data:=.seq #[] c₁ } →
  Xu (T6 prog w) A.in1 (.builtin "list.extend.loop" ⟨[.ref s.heap.objs.size,.ref I,.none],[]⟩) (wants (fun r yB=>r=.none/\Q (.ref s.heap.objs.size) yB) E) { s with heap:=h,toks:=tk }:=by
  intro h c₁ tk hs hk An;refine codeAny_extend_loopS W.toS hn _ FD .none n 0 _ #[] c₁ rfl (TZ _) hs An (ItemsOf.nil _) fun s' yS c' hm BO yc=>?_;rw [Moved.eq_with hm];refine ⟨rfl,hQ s'.heap s'.toks yS c' (fun b o hb e=>hm.heap b o (fun zq=>?_) (hk b o (T9 (Tw e)) (old b o e))) BO yc⟩;rcases TF.mp zq with e' | zq
  · exact absurd (Tw e) (by rw [e'];exact U0 _)
  · exact hb zq
 refine YA (fun _=>?_) (fun _=>Tg ⟨Wt U1 _,key _ c2 _ AH (fun b o _ e=>e) C3⟩);refine S7 (Wd ?_);refine S7 ?_;show Tx _ _ (X1 s.heap.objs.size (·.push .none) >>= fun _=>X1 s.heap.objs.size (·.pop)) _ _ _;refine S7 (Vh C3 rfl ?_);have y9:=Ud (UG (·.push UX)) C3 rfl;refine Vh (hz:=by seq_fits) y9 rfl ?_;have Ao:=Ud (UG (·.pop)) y9 rfl
 have Ap:∀ b o,b≠s.heap.objs.size->H2.get? b=some o->((H2.update s.heap.objs.size (UG (·.push UX))).update s.heap.objs.size (UG (·.pop))).get? b=some o :=
  fun b o hb e=>(Uk _ _ (Vi hb)).trans ((Uk _ _ (Vi hb)).trans e)
 exact Tg ⟨Wt U1 _,key _ _ _ (W.frame 0 _ _ AH fun b hb o e=>Ap b o (fun z=>FD (z ▸ hb)) e) Ap Ao⟩
end
end PySem
namespace L2
open PySem PySem.Spec PyProof.Rows
def SqB (b:Bool) (K:S8) (H:Hp) (a:Ta) (xs:List V):Prop:=if b=true then SqL K H a xs else SqT K H a xs
theorem SqB.l {K:S8} {H:Hp} {a:Ta} {xs:List V} (h:SqL K H a xs):SqB true K H a xs:=h
theorem sJ {ys:List V} {its:List Tc} {acc:Array Tc} (rv:Vals ys its) (yc:ItemsOf (fun i v=>its.toArray[its.toArray.size - 1 - i]?=some v) acc its.toArray.size):Vals ys.reverse acc.toList:=by
 have e:acc.toList=its.reverse:=by
  apply XS;intro i;have hs:acc.size=its.length:=by rw [yc.1,Tq]
  by_cases hi:i<acc.size
  · have h1:acc[i]?=some acc[i]:=VB hi;have h2:=yc.2 i _ h1;rw [Tq] at h2;rw [WC,h1,List.getElem?_reverse (by omega),<- h2];simp
  · rw [WC,Xh (by omega),Vk (by rw [UP];omega)]
 rw [e];exact rv.reverse
section
variable {X:Cx} {e:UH} {te:TE} {p p2 pos yt:Xn}
def uj (K:S8) (te:TE):TE:=fun σ H Q=>te σ H fun x H1=>∃ b a ys,x=.ref a/\SqB b K H1 a ys/\∀ l,H1 l=none->Q (.ref l) (upd H1 l (.lst ys.reverse))
theorem nC {pins:List (Ta×VH)} {σ:St} {H:Hp} {s:Tj} {Q:VK} {b:Bool} {a:Ta} {ys:List V} (hc:X.calm=true) (I:Inv X pins σ H s) (hq:SqB b X.K H a ys) (q:∀ l,H l=none->Q (.ref l) (upd H l (.lst ys.reverse))) :
 Tx (T6 X.prog X.w) X.A (call (.type "reversed") [.ref a]) (fun u s1=>Tx (T6 X.prog X.w) X.A (call (.type "list") [u]) (EP X pins σ Q) X.xe s1) X.xe s:=by
 have hn:=fk;have hh:X.A.in1.in1.handled=none:=I.ok.hd hc
 have fin:∀ {its:List Tc} {s1:Tj} {h':UM} {tk:Nat} {acc:Array Tc} {c:Nat},Vals ys its->ys.length<=TB->s1.heap.objs.size=s.heap.objs.size+1->s1.os=s.os->s1.gens=s.gens->s1.drawn=s.drawn->(∀ b o,s.heap.get? b=some o->s1.heap.get? b=some o) →
  (∀ b o,b∉[s.heap.objs.size]->s1.heap.get? b=some o->h'.get? b=some o)->h'.get? s1.heap.objs.size=some { cls:=.type "list",dict:=none,data:=.seq acc c,slots:=#[] }->ItemsOf (fun i v=>its.toArray[its.toArray.size - 1 - i]?=some v) acc its.toArray.size →
  EP X pins σ Q (.ref s1.heap.objs.size) { s1 with heap:=h',toks:=tk }:=fun {its s1 h' tk acc c} rv hz es eo eg ed k1 kp hS yc=>by
  have Kc:({ s1 with heap:=h',toks:=tk }:Tj)={ s with heap:=h',toks:=tk }:=by
   obtain ⟨a1,a2,a3,a4,a5⟩:=s1;have e1:a5=s.os:=eo;have e2:a2=s.gens:=eg;have e3:a3=s.drawn:=ed;subst e1;subst e2;subst e3;rfl
  have hp:s.heap.objs.size<=s1.heap.objs.size:=by rw [es];exact Nat.le_succ _
  refine ⟨.ref s1.heap.objs.size,upd H s1.heap.objs.size (.lst ys.reverse),?_,rfl,q _ (I.hok.fresh hp)⟩;rw [Kc];refine I.laid (t':=tk) (fun b o e=>kp b o (fun z=>?_) (k1 b o e)) hp ⟨by rw [UP];exact hz,acc.toList,c,sJ rv yc,hS⟩;exact absurd (Tw e) (by rw [TR.mp z];exact U0 _)
 cases b
 · have Kh:SqT X.K H a ys:=hq;obtain ⟨its,rv,p,hz⟩:=I.tuple Kh;have hl:=rv.length;refine bb_call_rev_tuple p (by rw [Tq];omega) fun tk=>?_;obtain ⟨oa,Aq,ca,da⟩:=id p;have yk:a≠s.heap.objs.size:=T9 (Tw Aq)
   refine bb_list_walk (T:="reversed") (bb_walk_revT hh s.heap.objs.size a yk its.toArray (by rw [Tq];omega)) (fun i s st=>st.2.1.typeIs) (by decide) (by decide) (bb_hint_rev (by rw [Tq];omega))
    ⟨TZ _,?_,⟨oa,Tf _ Aq,ca,da⟩⟩ (fun b hb=>?_) (by simp) (by rw [Tq];omega) fun h' tk acc c kp hS yc=>fin rv hz (UK ..) rfl rfl rfl (fun b o e=>Tf _ e) kp hS yc
   · rw [show (its.toArray.size:Int) - 1 - ((0:Nat):Int)=(its.toArray.size:Int) - 1 by omega];exact ⟨_,Tt _ rfl,rfl,rfl⟩
   · show b<(s.heap.push _).objs.size;rw [UK];rcases TF.mp hb with e | e
     · rw [e];exact Nat.lt_succ_self _
     · rw [TR.mp e];exact Xg (Tw Aq)
 · have Kh:SqL X.K H a ys:=hq;obtain ⟨its,rv,p,hz⟩:=I.list Kh;have hl:=rv.length;refine call_reversed_list p.isList ?_;obtain ⟨oa,Aq,ca,na,da⟩:=id p.isList;have yk:a≠s.heap.objs.size:=T9 (Tw Aq)
   refine bb_list_walk (T:="list_reverseiterator") (Walks.listRev hh s.heap.objs.size a yk its.toArray) (fun i s st=>st.2.1.typeIs) (by decide) (by decide) bb_hint_lri
    ⟨TZ _,?_,⟨oa,Tf _ Aq,ca,na,da⟩⟩ (fun b hb=>?_) (by simp) (by rw [Tq];omega) fun h' tk acc c kp hS yc=>fin rv hz (UK ..) rfl rfl rfl (fun b o e=>Tf _ e) kp hS yc
   · rw [show (its.toArray.size:Int) - 1 - ((0:Nat):Int)=(its.toArray.size:Int) - 1 by omega];exact ⟨_,Tt _ rfl,rfl,rfl⟩
   · show b<(s.heap.push _).objs.size;rw [UK];rcases TF.mp hb with e | e
     · rw [e];exact Nat.lt_succ_self _
     · rw [TR.mp e];exact Xg (Tw Aq)
theorem kF (hc:X.calm=true) (g1:Gl X "list") (m1:X.mg "list"=none) (g2:Gl X "reversed") (m2:X.mg "reversed"=none) (he:PE X e te)
 (h1:Uu [.Call (.Name "reversed" p2) [e] [] yt] X.env=[(false,VS (.Call (.Name "reversed" p2) [e] [] yt) X.env)]:=by rfl) (h2:Uu [e] X.env=[(false,VS e X.env)]:=by rfl) :
 PE X (.Call (.Name "list" p) [.Call (.Name "reversed" p2) [e] [] yt] [] pos) (uj X.K te):=by
 intro pins s σ H Q I h;refine U5 (db I g1 m1 boot_list (Ur ?_ h1 rfl));rw [h1];show Tx _ _ (spliced ((false,VS (.Call (.Name "reversed" p2) [e] [] yt) X.env)::[])) _ _ s;refine U6 ?_;refine U5 (db I g2 m2 boot_reversed (Ur ?_ h2 rfl));rw [h2];show Tx _ _ (spliced ((false,VS e X.env)::[])) _ _ s;refine U6 (thn (he pins s σ H _ I h) fun u s1 ⟨x,H1,I1,r1,b,a,ys,ex,hq,q⟩=>?_);subst ex;cases r1;refine VD ?_;refine thn (nC hc I1 hq q) fun v s2 h2=>VD ?_;exact h2
def Itv (K:S8) (a:Ta) (n:Nat):It:=⟨fun i H=>i<n/\∃ xs,SqL K H a xs/\xs.length=n,fun i H x H'=>H'=H/\∀ xs,SqL K H a xs->xs[n - 1 - i]?=some x,fun i _=>i=n⟩
theorem sX {P:Tv} {w:TN} {K:S8} {tg:UH} (a it:Ta) (n:Nat):Turn P w K tg (Itv K a n) [it] it (fun i h=>h.IsRevIter it a ((n:Int) - 1 - (i:Nat))) where
 mem:=by simp
 obj:=fun i h st b hb=>by
  have e:b=it:=by simpa using hb
  subst e;obtain ⟨o,e,c,d⟩:=st;exact ⟨o,e,fun v z=>by rw [d] at z;cases z⟩
 keep:=fun i h h' st k=>st.at fun o e=>k it (by simp) o e
 item:=by
  intro X hP hw hK hc i pins s σ H E I hf st hg;subst hP hw hK;obtain ⟨hi,xs,hq,hx⟩:=hg;obtain ⟨its,rv,p,hz⟩:=I.list hq;have hl:=rv.length;obtain ⟨x,C4⟩:∃ x,xs[n - 1 - i]?=some x:=⟨_,S9 (by omega)⟩;obtain ⟨u,hu,ru⟩:=rv.get C4;obtain ⟨f0,f1,f2,f3,f4,f5⟩:=hf it (by simp);have e1:(n:Int) - 1 - (i:Nat)=((n - 1 - i:Nat):Int):=by omega
  rw [e1] at st;refine wpAny_pyNext_rev_item st p.isList (x:=u) (by simpa using hu) fun h' BK sb=>?_;have I1:Inv X pins σ H { s with heap:=h' }:=I.turned (t':=s.toks) (fun b o hb e=>(sb.2 b hb).trans e) f0 f1 f3 f4 f5;have e2:((n - 1 - i:Nat):Int) - 1=(n:Int) - 1 - ((i+1:Nat):Int):=by omega
  rw [e2] at BK;obtain ⟨o,e,c,d⟩:=id BK;exact ⟨u,rfl,re (s:={ s with heap:=h' }) e c d (by decide) ⟨x,H,I1,ru,⟨rfl,fun ys hy=>by rw [I.list_inj hy hq];exact C4⟩,BK,fun b hb=>(hf b hb).1⟩⟩
 done:=by
  intro X hP hw hK hc i pins s σ H E I hf st hg;subst hP hw hK;have Ki:i=n:=hg;subst Ki;obtain ⟨f0,f1,f2,f3,f4,f5⟩:=hf it (by simp);rw [show (i:Int) - 1 - (i:Nat)=-1 by omega] at st;exact wpAny_pyNext_rev_end (I.ok.hd hc) st fun h' eb=>⟨rfl,I.turned (t':=s.toks) (fun b o hb e=>eb b o hb e) f0 f1 f3 f4 f5⟩
 self:=fun _ _ _ _ _ st h=>wpAny_pyIter_revIter st h
def xh (K:S8) (tl:TE):TI:=fun σ H R=>tl σ H fun x H1=>∃ a xs,x=.ref a/\SqL K H1 a xs/\R (Itv K a xs.length) H1
theorem vJ {tg:UH} (g2:Gl X "reversed") (m2:X.mg "reversed"=none) (he:PE X e te) (h2:Uu [e] X.env=[(false,VS e X.env)]:=by rfl):PI X tg (.Call (.Name "reversed" p2) [e] [] yt) (xh X.K te):=by
 intro pins s σ H R I h;refine U5 (db I g2 m2 boot_reversed (Ur ?_ h2 rfl));rw [h2];show Tx _ _ (spliced ((false,VS e X.env)::[])) _ _ s;refine U6 (thn (he pins s σ H _ I h) fun u s1 ⟨x,H1,I1,r1,a,ys,ex,hq,q⟩=>VD ?_);subst ex;cases r1;obtain ⟨its,rv,p,hz⟩:=I1.list hq;have hl:=rv.length;refine call_reversed_list p.isList ?_
 have hit:(s1.heap.push (revObj a ((its.toArray.size:Int) - 1))).IsRevIter s1.heap.objs.size a ((ys.length:Int) - 1 - ((0:Nat):Int)):=by
  rw [hl,show (its.length:Int) - 1 - ((0:Nat):Int)=(its.toArray.size:Int) - 1 by rw [Tq];omega];exact ⟨_,Tt _ rfl,rfl,rfl⟩
 refine wpAny_pyIter_revIter (s:={ s1 with heap:=s1.heap.push (revObj a ((its.toArray.size:Int) - 1)) }) hit ?_;refine ⟨s1.heap.objs.size,[s1.heap.objs.size],_,_,H1,rfl,I1.kept (t':=s1.toks) fun b o e=>Tf _ e,sX a _ ys.length,hit,fun b hb=>?_,q⟩;have e:b=s1.heap.objs.size:=by simpa using hb
 subst e;exact I1.fpOk (Td _) (I1.hok.fresh (Td _))
theorem uM {K:S8} {a:Ta} {xs:List V} {g:TG} {tb:TS} {D:Ends} {σ:St} {H:Hp} (Pv:Nat->St->Hp->Prop) (h0:Pv 0 σ H) (hl:∀ i σ H,i<=xs.length->Pv i σ H->SqL K H a xs)
 (hs:∀ i x σ H,i<xs.length->xs[xs.length - 1 - i]?=some x->Pv i σ H->g x σ H fun ym H2=>tb { D with nx:=Pv (i+1),ct:=Pv (i+1),bk:=D.nx } ym H2) (hd:∀ σ H,Pv xs.length σ H->D.nx σ H) :
 ∃ W:Nat->Nat->St->Hp->Prop,(∃ m,W 0 m σ H)/\∀ i m σ H,W i m σ H →
   ((Itv K a xs.length).stop i H/\D.nx σ H)∨((Itv K a xs.length).go i H/\∃ N:St->Hp->Prop,(∀ xS H',N xS H'->∃ m',m'<m/\W (i+1) m' xS H')/\∀ x H',(Itv K a xs.length).yld i H x H'->g x σ H' fun ym H2=>tb { D with nx:=N,ct:=N,bk:=D.nx } ym H2):=by
 refine ⟨fun i m σ H=>i<=xs.length/\m=xs.length - i/\Pv i σ H,⟨xs.length,TZ _,rfl,h0⟩,?_⟩;rintro i m σ H ⟨hi,rfl,p⟩;by_cases h:i=xs.length
 · left;exact ⟨h,hd σ H (by rw [<- h];exact p)⟩
 · right;have yA:i<xs.length:=by omega
   refine ⟨⟨yA,xs,hl i σ H hi p,rfl⟩,Pv (i+1),fun xS H' q=>⟨xs.length - (i+1),by omega,by omega,rfl,q⟩,?_⟩;rintro x H' ⟨rfl,hx⟩;exact hs i x σ H' yA (hx xs (hl i σ H' hi p)) p
end
end L2
namespace BB
open PySem L2
inductive Th where
 | knot (n:TY) (ks:List Th)
 | call (s k:Int)
def q:TY:=Ti "?"
def Th.kids:Th->List Th
 | .knot _ ks=>ks
 | .call _ _=>[]
mutual
def Th.size:Th->Nat
 | .knot _ ks=>aq ks+1
 | .call _ _=>1
def aq:List Th->Nat
 | []=>0
 | t::ts=>t.size+aq ts
end
mutual
def Th.tall:Th->Nat
 | .knot _ ks=>bD ks+1
 | .call _ _=>1
def bD:List Th->Nat
 | []=>0
 | t::ts=>max t.tall (bD ts)
end
mutual
/-- by places FE -/
def Th.walk:Th->List Th
 | .knot n ks=>.knot n ks::walks ks
 | .call s k=>[.call s k]
def walks:List Th->List Th
 | []=>[]
 | t::ts=>t.walk++walks ts
end
theorem Th.walk_eq (t:Th):t.walk=t::walks t.kids:=by
 cases t with
 | knot n ks=>rw [Th.walk];rfl
 | call s k=>rw [Th.walk];simp [Th.kids,walks]
theorem Th.size_eq (t:Th):t.size=aq t.kids+1:=by
 cases t with
 | knot n ks=>rw [Th.size];rfl
 | call s k=>rw [Th.size];simp [Th.kids,aq]
theorem Th.tall_eq (t:Th):t.tall=bD t.kids+1:=by
 cases t with
 | knot n ks=>rw [Th.tall];rfl
 | call s k=>rw [Th.tall];simp [Th.kids,bD]
theorem iQ:∀ a b:List Th,walks (a++b)=walks a++walks b
 | [],b=>by simp [walks]
 | t::a,b=>by rw [Vr,walks,walks,iQ a b,UB]
theorem bd:∀ a b:List Th,aq (a++b)=aq a+aq b
 | [],b=>by simp [aq]
 | t::a,b=>by rw [Vr,aq,aq,bd a b,XZ]
mutual
theorem Th.walk_len:∀ t:Th,t.walk.length=t.size
 | .knot n ks=>by rw [Th.walk,Th.size,To,jn ks]
 | .call s k=>by rw [Th.walk,Th.size];rfl
theorem jn:∀ ts:List Th,(walks ts).length=aq ts
 | []=>rfl
 | t::ts=>by rw [walks,aq,TC,t.walk_len,jn ts]
end
theorem Th.size_pos (t:Th):1<=t.size:=by rw [t.size_eq];omega
mutual
def At (H:Hp):Th->Ta->Prop
 | .knot n ks,a=>n≠q/\∃ as:List Ta,H a=some (.tup (.str n::as.map V.ref))/\Ats H ks as
 | .call s k,a=>H a=some (.tup [.str q,.int s,.int k])
def Ats (H:Hp):List Th->List Ta->Prop
 | [],as=>as=[]
 | t::ts,as=>∃ a r,as=a::r/\At H t a/\Ats H ts r
end
def KT (H H':Hp):Prop:=∀ b xs,H b=some (.tup xs)->H' b=some (.tup xs)
theorem KT.trans {H H1 H2:Hp} (a:KT H H1) (b:KT H1 H2):KT H H2:=fun c o h=>b c o (a c o h)
theorem Same.kt {H H':Hp} (h:L2.Same H H'):KT H H':=fun b xs e=>h b _ e
theorem dM {H:Hp} {l:Ta} {o:HO} (h:H l=none):KT H (upd H l o):=fun b xs e=>by rw [ak (aI e h)];exact e
theorem aT {H:Hp} {l:Ta} {o:HO} {xs:List V} (h:H l=some (.lst xs)):KT H (upd H l o):=fun b ys e=>by rw [ak (fJ e h (by intro z;cases z))];exact e
mutual
theorem At.mono {H H':Hp} (k:KT H H'):∀ {t:Th} {a:Ta},At H t a->At H' t a
 | .knot n ks,a,h=>by
   rw [At] at h ⊢;obtain ⟨h0,as,h1,h2⟩:=h;exact ⟨h0,as,k _ _ h1,Ats.mono k h2⟩
 | .call s c,a,h=>by
   rw [At] at h ⊢;exact k _ _ h
theorem Ats.mono {H H':Hp} (k:KT H H'):∀ {ts:List Th} {as:List Ta},Ats H ts as->Ats H' ts as
 | [],as,h=>by rw [Ats] at h ⊢;exact h
 | t::ts,as,h=>by
   rw [Ats] at h ⊢;obtain ⟨a,r,e,h1,h2⟩:=h;exact ⟨a,r,e,At.mono k h1,Ats.mono k h2⟩
end
theorem Ats.nil {H:Hp}:Ats H [] []:=by rw [Ats]
theorem Ats.cons {H:Hp} {t:Th} {ts:List Th} {a:Ta} {as:List Ta} (h1:At H t a) (h2:Ats H ts as):Ats H (t::ts) (a::as):=by rw [Ats];exact ⟨a,as,rfl,h1,h2⟩
theorem Ats.append {H:Hp}:∀ {ts us:List Th} {as bs:List Ta},Ats H ts as->Ats H us bs->Ats H (ts++us) (as++bs)
 | [],us,as,bs,h,g=>by rw [Ats] at h;subst h;exact g
 | t::ts,us,as,bs,h,g=>by
   rw [Ats] at h;obtain ⟨a,r,rfl,h1,h2⟩:=h;exact .cons h1 (h2.append g)
theorem Ats.length {H:Hp}:∀ {ts:List Th} {as:List Ta},Ats H ts as->as.length=ts.length
 | [],as,h=>by rw [Ats] at h;subst h;rfl
 | t::ts,as,h=>by
   rw [Ats] at h;obtain ⟨a,r,rfl,h1,h2⟩:=h;rw [To,To,h2.length]
theorem Ats.get {H:Hp}:∀ {ts:List Th} {as:List Ta} {i:Nat} {a:Ta},Ats H ts as->as[i]?=some a->∃ t,ts[i]?=some t/\At H t a
 | [],as,i,a,h,e=>by rw [Ats] at h;subst h;simp at e
 | t::ts,as,i,a,h,e=>by
   rw [Ats] at h;obtain ⟨b,r,rfl,h1,h2⟩:=h;cases i with
   | zero=>simp at e;subst e;exact ⟨t,rfl,h1⟩
   | succ i=>exact h2.get (i:=i) (by simpa using e)
theorem Ats.at {H:Hp}:∀ {ts:List Th} {as:List Ta} {i:Nat} {t:Th},Ats H ts as->ts[i]?=some t->∃ a,as[i]?=some a/\At H t a
 | [],as,i,a,h,e=>by simp at e
 | t::ts,as,i,a,h,e=>by
   rw [Ats] at h;obtain ⟨b,r,rfl,h1,h2⟩:=h;cases i with
   | zero=>simp at e;subst e;exact ⟨b,rfl,h1⟩
   | succ i=>exact h2.at (i:=i) (by simpa using e)
end BB
namespace BB
open PySem L2
def Th.nm:Th->TY
 | .knot n _=>n
 | .call _ _=>q
end BB
namespace BB
open PySem L2
def dl:TY:=Ti "abcdefghijklmnopqrstuvwxyz"
theorem pP:dl.cps.toList=(T7 26).map (97+·):=by decide +kernel
theorem jQ:dl.length=26:=by decide +kernel
theorem at_nonneg {α:Type} {xs:List α} {i:Int} {v:α} (h0:0<=i) (h:xs[i.toNat]?=some v):atI xs i=some v:=by
 have e:i=((i.toNat:Nat):Int):=by omega
 rw [e];exact ci h
theorem mx {i:Int} (h0:0<=i) (h1:i<26):atI dl.cps.toList i=some (97+i.toNat):=by
 refine at_nonneg h0 ?_;rw [pP,Tn,Ux (by omega)];rfl
def Low (x:TY):Prop:=∀ c∈x.cps.toList,97<=c/\c<=122
theorem nM {x:TY} (h:Low x) (lo hi:Option Int):Low (dW x lo hi):=by
 intro c hc;have zc:c∈jY x.cps.toList lo hi:=by simpa [dW] using hc
 exact h c (List.mem_of_mem_drop (List.mem_of_mem_take zc))
theorem mT {x y:TY} (hx:Low x) (hy:Low y):Low (x++y):=by
 intro c hc;have zc:c∈(x.cps++y.cps).toList:=hc;rw [WY,Ul] at zc;rcases zc with h | h
 · exact hx c h
 · exact hy c h
theorem j3 {c:Nat} (h1:97<=c) (h2:c<=122):Low ⟨#[c]⟩:=by
 intro d hd;have:d=c:=by simpa using hd
 omega
theorem qM {x:TY} (h:Low x):x≠q:=by
 intro e;subst e;have:=h 63 (by decide +kernel);omega
end BB
namespace L2
open PySem PySem.Spec PyProof.Rows
theorem Same.seqT {K:S8} {H H':Hp} {a:Ta} {xs:List V} (e:Same H H') (h:SqT K H a xs):SqT K H' a xs:=by
 rcases h with (h | ⟨o,h⟩) | h
 · exact .inl (.inl (e _ _ h))
 · exact .inl (.inr ⟨o,e _ _ h⟩)
 · exact .inr h
theorem ad {H:Hp} {p:Ta} (h:H p=none) (o:HO):Same H (upd H p o):=fun b u q=>by rw [ak (aI q h)];exact q
theorem aw {H H1:Hp} {l:Ta} {o:HO} (h:Same H H1) (n:H l=none):Same H (upd H1 l o):=fun b u e=>by rw [ak (aI e n)];exact h b u e
theorem uw {α:Type} {js:List (Option Nat)} {tt:TT} {te:TE} {σ:St} {J:It} {H:Hp} {xs:List V} {fin:Ta->Hp->Prop} (zs:List α) (p:α->Bool) (f:α->V) (hz:zs.length=xs.length) (hn:xs.length<=1000000)
 (BP:∀ i H2,Same H H2->i<xs.length->J.go i H2) (yY:∀ H2,Same H H2->J.stop xs.length H2) (zT:∀ (i:Nat) H2 x H3,Same H H2->i<xs.length->J.yld i H2 x H3->H3=H2/\xs[i]?=some x)
 (Gz:∀ (i:Nat) x z H2 (R:Bool->Hp->Prop),xs[i]?=some x->zs[i]?=some z->Same H H2->R (p z) H2->tt ((cσ js σ).set 0 (some x)) H2 R)
 (GA:∀ (i:Nat) x z H2 (R:VK),xs[i]?=some x->zs[i]?=some z->p z=true->Same H H2->R (f z) H2->te ((cσ js σ).set 0 (some x)) H2 R)
 (q:∀ D,H D=none->fin D (upd H D (.lst ((zs.filter p).map f)))) :
 ∀ D,H D=none->∃ (n:Nat) (W:Nat->Hp->Prop),W 0 (upd H D (.lst []))/\fN js (aF 0) tt te σ J D n W fun H'=>fin D H':=by
 intro D hD;refine ⟨xs.length,fun i H2=>i<=xs.length/\H2=upd H D (.lst (((zs.take i).filter p).map f)),⟨TZ _,by simp⟩,?_⟩;rintro i H2 ⟨hi,rfl⟩;have sm:∀ o,Same H (upd H D o):=fun o=>ad hD o;by_cases h:i=xs.length
 · left;subst h;refine ⟨yY _ (sm _),?_⟩;rw [<- hz,VG];exact q D hD
 · right;have yA:i<xs.length:=by omega
   refine ⟨yA,BP i _ (sm _) yA,fun x H1 hy=>?_⟩;obtain ⟨rfl,hx⟩:=zT i _ x H1 (sm _) yA hy;have Kj:i<zs.length:=by omega
   have e1:zs[i]?=some zs[i]:=S9 Kj
   have e2:(zs.take (i+1)).filter p=(zs.take i).filter p++(if p zs[i]=true then [zs[i]] else []):=by
    rw [UN,e1,Xb];show _++List.filter p [zs[i]]=_;rw [Vf,Yk]
   refine Gz i x zs[i] _ _ hx e1 (sm _) ?_
   have hlen:(((zs.take i).filter p).map f).length<=1000000:=by
    rw [S6];have:=V3 p (zs.take i);rw [Uc] at this;omega
   by_cases hp:p zs[i]=true
   · rw [if_pos hp];refine GA i x zs[i] _ _ hx e1 hp (sm _) ⟨_,ab,XG hlen (by decide),yA,?_⟩;rw [j0,e2,if_pos hp,Tu];rfl
   · rw [if_neg hp];refine ⟨yA,?_⟩;rw [e2,if_neg hp,Ui]
theorem oQ {α:Type} {K:S8} {a:Ta} {js:List (Option Nat)} {tt:TT} {te:TE} {σ:St} {H:Hp} {xs:List V} {fin:Ta->Hp->Prop} (zs:List α) (p:α->Bool) (f:α->V) (hS:SqT K H a xs) (hz:zs.length=xs.length) (hn:xs.length<=1000000)
 (Gz:∀ (i:Nat) x z H2 (R:Bool->Hp->Prop),xs[i]?=some x->zs[i]?=some z->Same H H2->R (p z) H2->tt ((cσ js σ).set 0 (some x)) H2 R)
 (GA:∀ (i:Nat) x z H2 (R:VK),xs[i]?=some x->zs[i]?=some z->p z=true->Same H H2->R (f z) H2->te ((cσ js σ).set 0 (some x)) H2 R)
 (q:∀ D,H D=none->fin D (upd H D (.lst ((zs.filter p).map f)))) :
 ∀ D,H D=none->∃ (n:Nat) (W:Nat->Hp->Prop),W 0 (upd H D (.lst []))/\fN js (aF 0) tt te σ (Itt K a) D n W fun H'=>fin D H' :=
 uw zs p f hz hn (fun i H2 s hi=>⟨xs,xs[i],s.seqT hS,S9 hi⟩) (fun H2 s=>⟨xs,s.seqT hS,Td _⟩) (fun i H2 x H3 s hi hy=>⟨hy.1,hy.2 xs (s.seqT hS)⟩) Gz GA q
end L2
namespace BB
open PySem L2
theorem at0 {α:Type} {x:α} {xs:List α}:atI (x::xs) 0=some x:=ci (j:=0) rfl
theorem at1 {α:Type} {x y:α} {xs:List α}:atI (x::y::xs) 1=some y:=ci (j:=1) rfl
theorem at2 {α:Type} {x y z:α} {xs:List α}:atI (x::y::z::xs) 2=some z:=ci (j:=2) rfl
theorem dA (x:V) (xs:List V):dJ (x::xs) (some 1) none=xs:=by
 unfold dJ;simp [HT.sIx]
theorem bL:∀ ts:List Th,ts.length<=aq ts
 | []=>TZ _
 | t::ts=>by
   have:=t.size_pos;have:=bL ts;rw [To,aq];omega
theorem mM (ts:List Th):aq ts.reverse=aq ts:=by
 induction ts with
 | nil=>rfl
 | cons x xs ih=>rw [UA,bd,ih,aq,aq,aq];omega
theorem aH {n:Nat} (h:n<=1000000):n<TB:=XG h (by decide)
theorem ai {n:Nat} (h:n<=1000000):n<=TB:=WT (aH h)
theorem int_at {ns:List Int} {k:Int} (h0:0<=k) (h:k<(ns.length:Int)):atI (ns.map V.int) k=some (.int (ns.getD k.toNat 0)):=by
 refine at_nonneg h0 ?_;have hk:k.toNat<ns.length:=by omega
 rw [Tn,S9 hk,List.getD_eq_getElem?_getD,S9 hk];rfl
end BB
namespace BB
open PySem L2
section
variable {α β:Type} {F G:α->β->Prop}
theorem P2.append:∀ {a c:List α} {b d:List β},T3 F a b->T3 F c d->T3 F (a++c) (b++d)
 | _,_,_,_,.nil,h=>h
 | _,_,_,_,.cons r t,h=>.cons r (P2.append t h)
theorem P2.get:∀ {a:List α} {b:List β} {i:Nat} {x:α},T3 F a b->a[i]?=some x->∃ y,b[i]?=some y/\F x y
 | _,_,_,_,.nil,e=>by simp at e
 | _,_,0,_,.cons r _,e=>by simp at e;subst e;exact ⟨_,rfl,r⟩
 | _,_,i+1,x,.cons _ t,e=>by
   obtain ⟨u,h1,h2⟩:=P2.get (i:=i) (x:=x) t (by simpa using e);exact ⟨u,by simpa using h1,h2⟩
theorem P2.get':∀ {a:List α} {b:List β} {i:Nat} {y:β},T3 F a b->b[i]?=some y->∃ x,a[i]?=some x/\F x y
 | _,_,_,_,.nil,e=>by simp at e
 | _,_,0,_,.cons r _,e=>by simp at e;subst e;exact ⟨_,rfl,r⟩
 | _,_,i+1,y,.cons _ t,e=>by
   obtain ⟨u,h1,h2⟩:=P2.get' (i:=i) (y:=y) t (by simpa using e);exact ⟨u,by simpa using h1,h2⟩
theorem P2.mp (f:∀ x y,F x y->G x y):∀ {a:List α} {b:List β},T3 F a b->T3 G a b
 | _,_,.nil=>.nil
 | _,_,.cons r t=>.cons (f _ _ r) (P2.mp f t)
end
def KAt (H:Hp) (k:TY×Int) (a:Ta):Prop:=H a=some (.tup [.str k.1,.int k.2])
def KsAt (H:Hp) (ks:List (TY×Int)) (as:List Ta):Prop:=T3 (KAt H) ks as
theorem KsAt.mono {H H':Hp} (k:KT H H') {ks:List (TY×Int)} {as:List Ta} (h:KsAt H ks as):KsAt H' ks as:=P2.mp (fun x y e=>k _ _ e) h
end BB
namespace L2
open PySem
theorem jf {t u:TS} {D:Ends} {σ:St} {H:Hp} (R:St->Hp->Prop) (h1:∀ k:St->Hp->Prop,(∀ xS H',R xS H'->k xS H')->t { D with nx:=k } σ H) (h2:∀ xS H',R xS H'->u D xS H'):vP t u D σ H:=h1 _ h2
theorem eZ {c:TT} {t u:TS} {D:Ends} {σ:St} {H:Hp} (R:Bool->Hp->Prop) (h1:∀ k:Bool->Hp->Prop,(∀ b H',R b H'->k b H')->c σ H k) (h2:∀ H',R true H'->t D σ H') (h3:∀ H',R false H'->u D σ H'):xf c t u D σ H :=
 h1 _ fun b H' r=>by
  cases b with
  | true=>rw [if_pos rfl];exact h2 H' r
  | false=>rw [if_neg TH];exact h3 H' r
end L2
namespace BB
open PySem L2
section
variable {ext:Th->List V} {H H':Hp} {t:Th} {a:Ta} {ts:List Th} {es:List Ta}
end
theorem filter_tt {α:Type} (xs:List α):xs.filter (fun _=>true)=xs:=by
 induction xs with
 | nil=>rfl
 | cons x xs ih=>rw [Vf,if_pos rfl,ih]
theorem bW:∀ {ts:List Th} {t:Th},t∈ts->t.tall<=bD ts
 | u::ts,t,h=>by
   rw [bD];rcases TF.mp h with rfl | h
   · omega
   · have:=bW h;omega
theorem jt {xs:List V} {n:Nat} (h:n<=xs.length):dJ xs (some (n:Int)) none=xs.drop n:=by
 unfold dJ;rw [HT.sIx_nat,HT.sIx_none,Xy h];exact UT (by rw [UL];exact Td _)
theorem take_snoc {α:Type} {xs:List α} {n:Nat} {x:α} (h:xs[n]?=some x):xs.take (n+1)=xs.take n++[x]:=by rw [UN,h];rfl
theorem aU {xs:List Ta} {i:Nat} {x:V} (h:(xs.map V.ref)[i]?=some x):∃ a,x=.ref a/\xs[i]?=some a:=by
 rw [Tn] at h;obtain ⟨a,h1,h2⟩:=T4.mp h;exact ⟨a,h2.symm,h1⟩
end BB
namespace PySem
open Sem (wp)
section
variable {prog:Tv} {w:TN} {A:Uh} {E:Tc->Tj->Prop} {s:Tj}
theorem bb_tupNext {cur tp:Ta} {i:Nat} {items:Array Tc} {x:Tc} {Q:Tc->Tj->Prop} (g:s.heap.IsTupleIter cur tp i) (gt:s.heap.IsTuple tp items) (hx:items[i]?=some x)
 (fin:∀ h',h'.IsTupleIter cur tp (i+1)->Vj cur s.heap h'->Q x { s with heap:=h' }):Tx (T6 prog w) A (Ut (.ref cur)) Q E s:=by
 obtain ⟨ob,e1,e2,e3⟩:=id g;obtain ⟨ot,e4,_,nt,e5⟩:=gt;unfold Ut;refine S7 (Uz (name:=Ti "__next__") g.typeIs W4 (UE W4 g.typeIs F.entry_tuple_iterator_next ?_ (F.args_tuple_iterator_next_1 _)));show Tx _ _ (field (.ref cur) 0 >>= _) _ _ s;refine S7 (Uo e1 e3 (x:=.ref tp) rfl ?_);show Tx _ _ (if (T5 tp == UX)=true then _ else _) _ _ s;rw [if_neg (show ¬ ((T5 tp == UX)=true) from TH)];show Tx _ _ (field (.ref cur) 1 >>= _) _ _ s;refine S7 (Uo e1 e3 (x:=.int i 0) rfl ?_);show Tx _ _ (seqItems? (.ref tp) >>= _) _ _ s;refine S7 (UU e4 e5 ?_);simp only [Uw,hx];refine S7 (WZ e1 e3 (by simp) (Tg ⟨x,rfl,Tg (fin _ ?_ (VE ..))⟩));exact ⟨_,Ud _ e1 (XA (VN e3 _)),(Obj.cls_mapFields ..).trans e2,by rw [VN e3];simp [VR]⟩
theorem bb_tupEnd {cur tp:Ta} {i:Nat} {items:Array Tc} {Q:Tc->Tj->Prop} (calm:A.handled=none) (g:s.heap.IsTupleIter cur tp i) (gt:s.heap.IsTuple tp items) (hx:items[i]?=none)
 (fin:∀ h' e,YX cur s.heap h'->(∃ o,h'.get? e=some o/\o.cls=.type "StopIteration")->E (.ref e) { s with heap:=h' }):Tx (T6 prog w) A (Ut (.ref cur)) Q E s:=by
 obtain ⟨ob,e1,e2,e3⟩:=id g;obtain ⟨ot,e4,_,nt,e5⟩:=gt;unfold Ut;refine S7 (Uz (name:=Ti "__next__") g.typeIs W4 (UE W4 g.typeIs F.entry_tuple_iterator_next ?_ (F.args_tuple_iterator_next_1 _)));show Tx _ _ (field (.ref cur) 0 >>= _) _ _ s;refine S7 (Uo e1 e3 (x:=.ref tp) rfl ?_);show Tx _ _ (if (T5 tp == UX)=true then _ else _) _ _ s;rw [if_neg (show ¬ ((T5 tp == UX)=true) from TH)];show Tx _ _ (field (.ref cur) 1 >>= _) _ _ s;refine S7 (Uo e1 e3 (x:=.int i 0) rfl ?_);show Tx _ _ (seqItems? (.ref tp) >>= _) _ _ s;refine S7 (UU e4 e5 ?_);simp only [Uw,hx];refine S7 (Wd (S7 (WZ e1 e3 (by simp) ?_)));show Tx _ _ (newExc (.type "StopIteration") [] >>= _) _ _ _;refine S7 ?_;simp only [newExc,newTuple];refine S7 (UD ?_ (by size_fits));refine S7 (m:=Xs _ _) (WE (a:=UX) (by first | rfl | (simp only [Xs];rfl)) ?_);refine UD ?_ (by size_fits);simp only [raiseNew];refine S7 (wpAny_handled ?_)
 first | rw [show A.in1.handled=none from calm] | rw [calm]
 refine S7 (Tg (wpAny_throw ?_));exact fin _ _ (((VE ..).extBut.push _).push _) ⟨_,Tt _ rfl,rfl⟩
end
theorem bb_drawsT {prog:Tv} {w:TN} {A:Uh} (calm:A.handled=none) (cur tp:Ta) (ne:tp≠cur) (items:Array Tc) :
 Draws prog w A cur [cur,tp] items.size (fun i v=>items[i]?=some v) (fun i h=>h.IsTupleIter cur tp i/\h.IsTuple tp items) where
 live:=fun _ _ st=>let ⟨o,e,_⟩:=st.1;⟨o,e⟩
 frame:=fun _ _ _ st k=>⟨let ⟨o,e,r⟩:=st.1;⟨o,k cur (by simp) o e,r⟩,let ⟨o,e,r⟩:=st.2;⟨o,k tp (by simp) o e,r⟩⟩
 item:=fun i s Q E hi st q=>by
  refine bb_tupNext st.1 st.2 (x:=items[i]) (by simp [hi]) fun h' g' sb=>?_;exact q _ h' s.toks (by simp [hi]) ⟨g',st.2.extBut sb.extBut ne⟩ sb
 done:=fun s Q E st e=>bb_tupEnd calm st.1 st.2 (by simp) e
theorem bb_meetsEnumT (tp:Ta) (items:Array Tc) (n:Nat) (Kk:Option Ta) (sl:Array (Option Tc)) :
 Meets (V7.«enumerate.__new__» ⟨[.type "enumerate",.ref tp],[]⟩) (fun _ R s=>s.heap.get? tp=some { cls:=.type "tuple",dict:=Kk,data:=.seq items n,slots:=sl } ∧
  R (.ok (.ret (.ref (s.heap.push { cls:=.type "tuple_iterator",data:=.fields #[.ref tp,.int 0 0] }).objs.size)))
    { s with heap:=(s.heap.push { cls:=.type "tuple_iterator",data:=.fields #[.ref tp,.int 0 0] }).push { cls:=.type "enumerate",data:=.fields #[.none,.bool false,.ref s.heap.objs.size,VR 0,.none,.none] } }) :=
 .of_wp fun prog w A R s h=>by
  obtain ⟨hp,g,d,tk,os⟩:=s;obtain ⟨gt,fin⟩:=h;have su:=sub_enumerate;have gT:Heap.IsTuple (Shared.heap ⟨hp,g,d,tk,os⟩) tp items:=⟨_,gt,rfl,n,rfl⟩
  wp_walk using VQ gt
  refine wpAny_stack_any fun st=>Tg ?_;split
  · rename_i c _ _ _ _ _
    cases (c == VT "enumerate")
    · wp_walk using VQ gt,WG gT
      exact ⟨_,rfl,fin⟩
    · wp_walk using VQ gt,WG gT
      exact ⟨_,rfl,fin⟩
  · wp_walk using VQ gt,WG gT
    exact ⟨_,rfl,fin⟩
section
variable {prog:Tv} {w:TN} {A:Uh} {E:Tc->Tj->Prop} {s:Tj}
theorem bb_callEnumT {tp:Ta} {items:Array Tc} {Q:Tc->Tj->Prop} (gT:s.heap.IsTuple tp items)
 (fin:∀ h',IsEnum h' (s.heap.objs.size+1) s.heap.objs.size 0 .none->h'.IsTupleIter s.heap.objs.size tp 0->h'.objs.size=s.heap.objs.size+2 →
  (∀ b o,s.heap.get? b=some o->h'.get? b=some o)->Q (.ref (s.heap.objs.size+1)) { s with heap:=h' }):Tx (T6 prog w) A (call (.type "enumerate") [.ref tp]) Q E s:=by
 obtain ⟨⟨c,Kk,dt,sl⟩,e1,e2,n,e3⟩:=gT;replace e2:c=.type "tuple":=e2;replace e3:dt=.seq items n:=e3;subst e2 e3;refine callType_new F.called_enumerate (by decide) (F.typeCall_enumerate_1 _) (F.newCall_enumerate_1 _) (fun obj=>F.args_object_init_2 obj _) F.entry_enumerate_new (bb_meetsEnumT tp items n Kk sl) ⟨e1,?_⟩;have z:(s.heap.push { cls:=.type "tuple_iterator",data:=.fields #[.ref tp,.int 0 0] }).objs.size=s.heap.objs.size+1:=UK ..;show _/\_;rw [z]
 have ge:IsEnum ((s.heap.push { cls:=.type "tuple_iterator",data:=.fields #[.ref tp,.int 0 0] }).push { cls:=.type "enumerate",data:=.fields #[.none,.bool false,.ref s.heap.objs.size,VR 0,.none,.none] }) (s.heap.objs.size+1) s.heap.objs.size 0 .none:=by
  have t:=Tt (s.heap.push { cls:=.type "tuple_iterator",data:=.fields #[.ref tp,.int 0 0] }) (o:={ cls:=.type "enumerate",data:=.fields #[.none,.bool false,.ref s.heap.objs.size,VR 0,.none,.none] }) rfl;rw [z] at t;exact t
 exact ⟨⟨_,ge,rfl⟩,fin _ ge ⟨_,Tf _ (Tt _ rfl),rfl,rfl⟩ (by rw [UK,z]) fun b o x=>Tf _ (Tf _ x)⟩
end
end PySem
namespace L2
open PySem PySem.Spec PyProof.Rows
theorem Inv.turnedL {X:Cx} {pins:List (Ta×VH)} {σ:St} {H:Hp} {s:Tj} {h':UM} {t':Nat} {fp:List Ta} (I:Inv X pins σ H s) (k:∀ b o,b∉fp->s.heap.get? b=some o->h'.get? b=some o) (hf:∀ b∈fp,jZ X pins H b) :
 Inv X pins σ H { s with heap:=h',toks:=t' }:=by
 have Ge:∀ b u,H b=some u->b∉fp:=fun b u e z=>by rw [(hf b z).1] at e;cases e
 refine I.step (g':=s.gens) (d':=s.drawn) (ch:=fp) (fun b hb=>?_) (fun b o _ _ hc e _=>k b o hc e) (fun b o _ _ hc e _=>⟨o.slots,k b o hc e⟩) (fun _ _ _ _ n=>n)
  (fun b o hc e=>⟨o,k b o hc e⟩) (fun _ _ e=>e) (fun _ _ _ e=>e) (fun b ps e=>⟨#[],by rw [e];simp⟩) (fun m hm=>?_) (fun b u e=>?_) I.bare
 · obtain ⟨f0,f1,f2,f3,f4,f5⟩:=hf b hb;exact ⟨f3,f1,f4,f5⟩
 · obtain ⟨o,es,ep,ho,r⟩:=hm;exact ⟨o,es,ep,k _ o (fun z=>(hf _ z).2.1 rfl) ho,r⟩
 · refine (I.hok b u e).stay (fun c v hc q=>k c v ?_ q) (fun _ q=>q) fun _ _ q=>q;rcases hc with z | z
   · rw [z];exact Ge b u e
   · exact Ge c _ z
def Ite (K:S8) (a:Ta):It:=⟨fun i H=>∃ xs x,SqT K H a xs/\xs[i]?=some x,fun i H x H'=>∃ p y,H p=none/\x=.ref p/\H'=upd H p (.tup [.int (i:Nat),y])/\∀ xs,SqT K H a xs->xs[i]?=some y,fun i H=>∃ xs,SqT K H a xs/\xs.length=i⟩
theorem se {P:Tv} {w:TN} {K:S8} {elts:List UH} {k1} {pos:Xn} (a e it:Ta):Turn P w K (.Tuple elts k1 pos) (Ite K a) [e,it] e (fun i h=>(∃ old,IsEnum h e it ((i:Nat):Int) old)/\h.IsTupleIter it a i) where
 mem:=by simp
 obj:=fun i h st b hb=>by
  obtain ⟨⟨old,he⟩,o,e1,e2,e3⟩:=st;rcases TF.mp hb with rfl | hb
  · exact ⟨_,he,fun v z=>by cases z⟩
  · have:b=it:=by simpa using hb
    subst this;exact ⟨o,e1,fun v z=>by rw [e3] at z;cases z⟩
 keep:=fun i h h' st k=>by
  obtain ⟨⟨old,he⟩,o,e1,e2⟩:=st;exact ⟨⟨old,k e (by simp) _ he⟩,o,k it (by simp) _ e1,e2⟩
 item:=by
  intro X hP hw hK hc i pins s σ H E I hf st hg;subst hP hw hK;obtain ⟨xs,x,hq,hx⟩:=hg;obtain ⟨its,rv,p,hz⟩:=I.tuple hq;obtain ⟨u,hu,ru⟩:=rv.get hx;obtain ⟨⟨old,he⟩,hi⟩:=st
  have EC:e≠it:=by
   rintro rfl;obtain ⟨o,e1,e2,_⟩:=hi;rw [he] at e1;cases e1;exact absurd (Vg e2) (by decide)
  have ED:a≠it:=by
   rintro rfl;obtain ⟨o,e1,e2,_⟩:=hi;obtain ⟨o',Af,Ae,_⟩:=p;rw [Af] at e1;cases e1;rw [Ae] at e2;exact absurd (Vg e2) (by decide)
  have Kl:a≠e:=by
   rintro rfl;obtain ⟨o',Af,Ae,_⟩:=p;rw [he] at Af;cases Af;exact absurd (Vg Ae) (by decide)
  have yf:i<its.toArray.size:=by
   have:=(Te.mp hu).1;simpa using this
  have Km:e<s.heap.objs.size:=Tw he;have zx:it<s.heap.objs.size:=by obtain ⟨o,e1,_⟩:=hi;exact Tw e1
  refine wpAny_pyNext_enum_itemD (bb_drawsT (A:=X.A.in1) (show X.A.in1.handled=none from I.ok.hd hc) it a ED its.toArray) he ⟨hi,p⟩ yf EC (by simp [EC,Kl.symm]) fun y h1 tk hy ho FF hT hsz hk=>?_
  have Kn:y=u:=by
   have:its[i]?=some y:=by simpa using hy
   rw [hu] at this;exact (TV this).symm
  subst Kn;refine ⟨_,rfl,wpAny_letOwnedTupleGo_enum ho fun h2 Ko Ca=>?_⟩;replace Ca:Vj e h1 h2:=Ca
  have yk:∀ b∈[e,it],b<s.heap.objs.size:=fun b hb=>by
   rcases TF.mp hb with rfl | hb
   · exact Km
   · have:b=it:=by simpa using hb
     subst this;exact zx
  have GB:H s.heap.objs.size=none:=I.hok.fresh (Td _)
  have IA:Inv X pins σ (upd H s.heap.objs.size (.tup [.int (i:Nat),x])) { s with heap:=s.heap.push { cls:=.type "tuple",data:=.seq #[.int (i:Nat) tk,y] },toks:=tk } :=
   I.laid (o:=.tup [.int (i:Nat),x]) (fun b ob q=>Tf _ q) (Td _) ⟨by show 2<=TB;decide,[.int (i:Nat) tk,y],0,.cons ⟨tk,rfl⟩ (.cons ru .nil),Tt _ rfl⟩
  refine ⟨.ref s.heap.objs.size,upd H s.heap.objs.size (.tup [.int (i:Nat),x]),?_,rfl,⟨_,x,GB,rfl,rfl,fun ys Gx=>by rw [I.tuple_inj Gx hq];exact hx⟩,⟨⟨y,by simpa using Ko⟩,?_⟩,fun b hb=>?_⟩
  · have IB:Inv X pins σ (upd H s.heap.objs.size (.tup [.int (i:Nat),x])) { s with heap:=h2,toks:=tk+1 }:=by
     refine Inv.turnedL (s:={ s with heap:=s.heap.push { cls:=.type "tuple",data:=.seq #[.int (i:Nat) tk,y] },toks:=tk }) (h':=h2) (fp:=[e,it]) (t':=tk+1) IA (fun b o hb q=>?_) fun b hb=>?_
     · have Bq:b≠e:=fun z=>hb (by simp [z]);have Kp:b≠it:=fun z=>hb (by simp [z]);rw [Ca.2 b Bq];by_cases yo:b=s.heap.objs.size
       · subst yo;rw [hT];have q':(s.heap.push { cls:=.type "tuple",data:=.seq #[.int (i:Nat) tk,y] }).get? s.heap.objs.size=some o:=q;rw [Tt _ rfl] at q';exact q'
       · have zy:b<(s.heap.push { cls:=.type "tuple",data:=.seq #[.int (i:Nat) tk,y] }).objs.size:=Tw q;rw [UK] at zy;refine hk b o Bq Kp ?_;have q':(s.heap.push { cls:=.type "tuple",data:=.seq #[.int (i:Nat) tk,y] }).get? b=some o:=q;rw [Heap.get?_push_ne _ _ _ yo] at q';exact q'
     · obtain ⟨f0,f1⟩:=hf b hb;exact ⟨by rw [ak (T9 (yk b hb))];exact f0,f1⟩
    exact IB
  · obtain ⟨o,e1,r⟩:=FF.1;exact ⟨o,(Ca.2 it (Vi EC)).trans e1,r⟩
  · rw [ak (T9 (yk b hb))];exact (hf b hb).1
 done:=by
  intro X hP hw hK hc i pins s σ H E I hf st hg;subst hP hw hK;obtain ⟨xs,hq,hx⟩:=hg;obtain ⟨its,rv,p,hz⟩:=I.tuple hq;obtain ⟨⟨old,he⟩,hi⟩:=st
  have ED:a≠it:=by
   rintro rfl;obtain ⟨o,e1,e2,_⟩:=hi;obtain ⟨o',Af,Ae,_⟩:=p;rw [Af] at e1;cases e1;rw [Ae] at e2;exact absurd (Vg e2) (by decide)
  have hn:its.toArray.size=i:=by
   have:=rv.length;rw [Tq];omega
  refine wpAny_pyNext_enum_endD (bb_drawsT (A:=X.A.in1) (show X.A.in1.handled=none from I.ok.hd hc) it a ED its.toArray) he (by rw [hn];exact ⟨hi,p⟩) fun h' eb=>⟨rfl,?_⟩;exact I.turnedL (fp:=[e,it]) (t':=s.toks) (fun b o hb q=>eb b o (fun z=>hb (by simp [z])) q) hf
 self:=fun _ _ _ _ _ st h=>by
  obtain ⟨⟨old,he⟩,_⟩:=st;exact Yc he h
section
variable {X:Cx} {e:UH} {te:TE} {p2 yt:Xn}
def wt (K:S8) (tl:TE):TI:=fun σ H R=>tl σ H fun x H1=>∃ a,x=.ref a/\(∃ xs,SqT K H1 a xs)/\R (Ite K a) H1
theorem nK {elts:List UH} {k1} {pos:Xn} (g2:Gl X "enumerate") (m2:X.mg "enumerate"=none) (he:PE X e te) (h2:Uu [e] X.env=[(false,VS e X.env)]:=by rfl):PI X (.Tuple elts k1 pos) (.Call (.Name "enumerate" p2) [e] [] yt) (wt X.K te):=by
 intro pins s σ H R I h;refine U5 (db I g2 m2 boot_enumerate (Ur ?_ h2 rfl));rw [h2];show Tx _ _ (spliced ((false,VS e X.env)::[])) _ _ s;refine U6 (thn (he pins s σ H _ I h) fun u s1 ⟨x,H1,I1,r1,a,ex,⟨xs,hq⟩,q⟩=>VD ?_);subst ex;cases r1;obtain ⟨its,rv,p,hz⟩:=I1.tuple hq;refine bb_callEnumT (show s1.heap.IsTuple a its.toArray from p) fun h' g1 g2 g3 g4=>?_;refine Yc (s:={ s1 with heap:=h' }) g1 ?_;refine ⟨s1.heap.objs.size+1,[s1.heap.objs.size+1,s1.heap.objs.size],_,_,H1,rfl,I1.kept (t':=s1.toks) g4,se a _ _,⟨⟨_,g1⟩,g2⟩,fun b hb=>?_,q⟩
 have zz:s1.heap.objs.size<=b:=by
  rcases TF.mp hb with rfl | hb
  · omega
  · have:b=s1.heap.objs.size:=by simpa using hb
    exact YT this.symm
 exact I1.fpOk zz (I1.hok.fresh zz)
inductive tf (K:S8) (x:V) (y:V) (H:Hp) (Q:VK):Prop
 | mk (a:_) (b:_) (xs:_) (ys:_) (yd:x=.ref a) (ye:y=.ref b) (yj:SqT K H a xs) (yq:SqT K H b ys) (yC:xs.length+ys.length<=TB) (zj:(xs=[]->Q (.ref b) H)) (Bi:(xs≠[]->ys=[]->Q (.ref a) H)) (Bt:(xs≠[]->ys≠[]->∀ p,H p=none->Q (.ref p) (upd H p (.tup (xs++ys))))):tf K x y H Q
def kb (K:S8):R2:=tf K
theorem de:OpR X (Xe .Add) (kb X.K):=by
 intro pins s σ H x y v u Q I rx ry h;obtain ⟨a,b,xs,ys,e1,e2,ha,hb,hz,q0,q1,q2⟩:=h;by_cases hx:xs=[]
 · subst e1 e2;cases rx;cases ry;obtain ⟨its,r1,p1,_⟩:=I.tuple ha;obtain ⟨xX,r2,p2,_⟩:=I.tuple hb;have hi:its=[]:=r1.nil_iff.mpr hx;obtain ⟨⟨cls,dd,data,sl⟩,ho,hc,n,hd⟩:=p1;obtain ⟨⟨Gj,FA,data2,FC⟩,C0,BL,n2,hd2⟩:=p2;simp only at hc hd BL hd2;subst hc hd BL hd2;exact concat_meets ⟨_,ho,rfl⟩ ⟨_,C0,rfl⟩ noFill_tuple_add seq_tuple_add X8 X5 (XX _ _) (tuple_addW0 a b its.toArray xX.toArray n n2 dd FA sl FC (by simp [hi])) ⟨ho,C0,⟨.ref b,H,I,rfl,q0 hx⟩⟩
 · exact uz pins s σ H x y v u Q I rx ry ⟨a,b,xs,ys,e1,e2,ha,hb,hx,hz,q1 hx,q2 hx⟩
end
end L2
namespace PySem
open Sem (wp)
abbrev tzH1 (h:UM) (l1:Ta):UM:=h.push { cls:=.type "tuple_iterator",data:=.fields #[.ref l1,.int 0 0] }
abbrev tzH2 (h:UM) (l1 l2:Ta):UM:=(tzH1 h l1).push { cls:=.type "tuple_iterator",data:=.fields #[.ref l2,.int 0 0] }
abbrev tzH3 (h:UM) (l1 l2:Ta):UM:=(tzH2 h l1 l2).push { cls:=.type "tuple",data:=.seq #[.ref h.objs.size,.ref (tzH1 h l1).objs.size] }
abbrev tzH4 (h:UM) (l1 l2:Ta):UM:=(tzH3 h l1 l2).push { cls:=.type "tuple",data:=.seq #[.none,.none] }
abbrev tzH5 (h:UM) (l1 l2:Ta):UM:=(tzH4 h l1 l2).push { cls:=.type "zip",data:=.fields #[.none,.bool false,.bool false,.ref (tzH2 h l1 l2).objs.size,.ref (tzH3 h l1 l2).objs.size] }
theorem IsTuple.push' {h:UM} {l:Ta} {xs:Array Tc} (x:h.IsTuple l xs) (o:VH):(h.push o).IsTuple l xs:=let ⟨ob,e,r⟩:=x;⟨ob,Tf _ e,r⟩
theorem bb_meets_zip (l1 l2:Ta) (xs ys:Array Tc) :
 Meets (V7.«zip.__new__» ⟨[.type "zip",.ref l1,.ref l2],[]⟩) (fun _ R s=>s.heap.IsTuple l1 xs/\s.heap.IsTuple l2 ys ∧
  R (.ok (.ret (.ref (tzH4 s.heap l1 l2).objs.size))) { s with heap:=tzH5 s.heap l1 l2 }) :=
 .of_wp fun prog w A R s h=>by
  obtain ⟨hp,g,d,tk,os⟩:=s;obtain ⟨ze,yN,h⟩:=h;have zf:=sub_zip;have Px:Heap.IsTuple (Shared.heap ⟨hp,g,d,tk,os⟩) l1 xs:=ze;have Py:Heap.IsTuple (Shared.heap ⟨hp.push { cls:=.type "tuple_iterator",data:=.fields #[.ref l1,.int 0 0] },g,d,tk,os⟩) l2 ys:=IsTuple.push' yN _
  wp_walk using WG Px,WG Py
  exact ⟨_,rfl,h⟩
section
variable {prog:Tv} {w:TN} {A:Uh} {E:Tc->Tj->Prop} {s:Tj}
theorem bb_call_zip {l1 l2:Ta} {xs ys:Array Tc} {Q:Tc->Tj->Prop} (ze:s.heap.IsTuple l1 xs) (yN:s.heap.IsTuple l2 ys)
 (h:∀ h',Yu h' (s.heap.objs.size+4) (s.heap.objs.size+2) (s.heap.objs.size+3) .none->VJ h' (s.heap.objs.size+2) (.ref s.heap.objs.size) (.ref (s.heap.objs.size+1)) →
  VJ h' (s.heap.objs.size+3) .none .none->h'.IsTupleIter s.heap.objs.size l1 0->h'.IsTupleIter (s.heap.objs.size+1) l2 0->h'.objs.size=s.heap.objs.size+5 →
  (∀ c o,s.heap.get? c=some o->h'.get? c=some o)->Q (.ref (s.heap.objs.size+4)) { s with heap:=h' }) :
 Tx (T6 prog w) A (call (.type "zip") [.ref l1,.ref l2]) Q E s:=by
 refine callType_new F.called_zip (by decide) (F.typeCall_zip_2 _ _) (F.newCall_zip_2 _ _) (fun obj=>F.args_object_init_3 obj _ _) F.entry_zip_new
  (bb_meets_zip l1 l2 xs ys) ⟨ze,yN,?_⟩
 have z1:(tzH1 s.heap l1).objs.size=s.heap.objs.size+1:=UK ..;have z2:(tzH2 s.heap l1 l2).objs.size=s.heap.objs.size+2:=by rw [UK,z1]
 have z3:(tzH3 s.heap l1 l2).objs.size=s.heap.objs.size+3:=by rw [UK,z2]
 have z4:(tzH4 s.heap l1 l2).objs.size=s.heap.objs.size+4:=by rw [UK,z3]
 have z5:(tzH5 s.heap l1 l2).objs.size=s.heap.objs.size+5:=by rw [UK,z4]
 have g5:(tzH5 s.heap l1 l2).get? (tzH4 s.heap l1 l2).objs.size=some _:=Tt _ rfl;have g4:(tzH5 s.heap l1 l2).get? (tzH3 s.heap l1 l2).objs.size=some _:=Tf _ (Tt _ rfl);have g3:(tzH5 s.heap l1 l2).get? (tzH2 s.heap l1 l2).objs.size=some _:=Tf _ (Tf _ (Tt _ rfl));have g2:(tzH5 s.heap l1 l2).get? (tzH1 s.heap l1).objs.size=some _:=Tf _ (Tf _ (Tf _ (Tt _ rfl)));have g1:(tzH5 s.heap l1 l2).get? s.heap.objs.size=some _:=Tf _ (Tf _ (Tf _ (Tf _ (Tt _ rfl))));show _/\_;rw [z2,z3,z4] at g5;rw [z1,z2] at g3;rw [z3] at g4;rw [z1] at g2;rw [z4]
 exact ⟨⟨_,g5,rfl⟩,h _ g5 g3 g4 ⟨_,g1,rfl,rfl⟩ ⟨_,g2,rfl,rfl⟩ z5 fun c o x =>
  Tf _ (Tf _ (Tf _ (Tf _ (Tf _ x))))⟩
structure ZSt (xs ys:Array Tc) (z TI TO i1 i2 l1 l2:Ta) (k:Nat) (h:UM):Prop where
 ap:YN z TI TO i1 i2 l1 l2
 zip:Yu h z TI TO .none∨∃ (T:Ta) (b:Bool) (x y:Tc),h.get? z=some { cls:=.type "zip",data:=.fields #[VR T,.bool b,.bool false,.ref TI,.ref TO] }/\VJ h T x y/\T≠TO
 hTI:VJ h TI (.ref i1) (.ref i2)
 hTO:∃ a b,VJ h TO a b
 h1:h.IsTupleIter i1 l1 k
 h2:h.IsTupleIter i2 l2 k
 t1:h.IsTuple l1 xs
 t2:h.IsTuple l2 ys
theorem ZSt.typeIs {xs ys:Array Tc} {z TI TO i1 i2 l1 l2:Ta} {k:Nat} (x:ZSt xs ys z TI TO i1 i2 l1 l2 k s.heap):s.TypeIs (.ref z) "zip":=by
 rcases x.zip with e | ⟨T,b,u,v,e,_⟩
 · exact ⟨_,e,rfl⟩
 · exact ⟨_,e,rfl⟩
theorem IsTuple.but {h h':UM} {c l:Ta} {xs:Array Tc} (x:h.IsTuple l xs) (e:YX c h h') (n:l≠c):h'.IsTuple l xs:=let ⟨ob,q,r⟩:=x;⟨ob,e _ _ n q,r⟩
theorem IsTupleIter.but {h h':UM} {c i l:Ta} {k:Nat} (x:h.IsTupleIter i l k) (e:YX c h h') (n:i≠c):h'.IsTupleIter i l k:=let ⟨ob,q,r⟩:=x;⟨ob,e _ _ n q,r⟩
theorem ZSt.frame {xs ys:Array Tc} {z TI TO i1 i2 l1 l2:Ta} {k:Nat} {h h':UM} (x:ZSt xs ys z TI TO i1 i2 l1 l2 k h)
 (e:∀ b o,o.cls≠.type "list"->h.get? b=some o->h'.get? b=some o):ZSt xs ys z TI TO i1 i2 l1 l2 k h':=by
 obtain ⟨D,hz,hTI,⟨a,b,hTO⟩,⟨o1,a1,a2,a3⟩,⟨o2,b1,b2,b3⟩,⟨o3,c1,c2,c3⟩,⟨o4,d1,d2,d3⟩⟩:=x;refine ⟨D,?_,e _ _ (by simp) hTI,⟨a,b,e _ _ (by simp) hTO⟩,⟨o1,e _ _ (by rw [a2];simp) a1,a2,a3⟩,⟨o2,e _ _ (by rw [b2];simp) b1,b2,b3⟩,⟨o3,e _ _ (by rw [c2];simp) c1,c2,c3⟩,⟨o4,e _ _ (by rw [d2];simp) d1,d2,d3⟩⟩;rcases hz with g | ⟨T,b,u,v,g,g2,g3⟩
 · exact .inl (e _ _ (by simp) g)
 · exact .inr ⟨T,b,u,v,e _ _ (by simp) g,e _ _ (by simp) g2,g3⟩
end
end PySem
namespace PySem
open Sem (wp)
section
variable {prog:Tv} {w:TN} {A:Uh} {E:Tc->Tj->Prop} {s:Tj}
theorem bb_zip_itemA {z TI TO i1 i2 l1 l2:Ta} {k:Nat} {xs ys:Array Tc} {x y a b:Tc} {Q:Tc->Tj->Prop} (D:YN z TI TO i1 i2 l1 l2)
 (hz:Yu s.heap z TI TO .none) (hTI:VJ s.heap TI (.ref i1) (.ref i2)) (hTO:VJ s.heap TO a b)
 (h1:s.heap.IsTupleIter i1 l1 k) (h2:s.heap.IsTupleIter i2 l2 k) (ze:s.heap.IsTuple l1 xs) (yN:s.heap.IsTuple l2 ys) (hx:xs[k]?=some x) (hy:ys[k]?=some y)
 (hQ:∀ h',Yu h' z TI TO (VR s.heap.objs.size)->VJ h' TO x y->h'.IsTupleIter i1 l1 (k+1)->h'.IsTupleIter i2 l2 (k+1)->VJ h' s.heap.objs.size x y->h'.objs.size=s.heap.objs.size+1 →
  (∀ c o,c≠z->c≠TO->c≠i1->c≠i2->s.heap.get? c=some o->h'.get? c=some o)->Q (.ref s.heap.objs.size) { s with heap:=h' }) :
 Tx (T6 prog w) A (V7.«zip.__next__» ⟨[.ref z],[]⟩) (fun fin s'=>∃ v,fin=.done (.ret v)/\Q v s') E s:=by
 show Tx _ _ (field (.ref z) 2 >>= _) _ _ _;refine S7 (Uo hz rfl (x:=.bool false) rfl ?_);show Tx _ _ (field (.ref z) 3 >>= _) _ _ _;refine S7 (Uo hz rfl (x:=.ref TI) rfl ?_);refine S7 (UU hTI rfl ?_);show Tx _ _ (UC (.ref z) >>= _) _ _ _;refine S7 ?_;unfold UC;refine S7 (Uo hz rfl (x:=.none) rfl (Tg ?_));simp only [if_true];refine S7 (Wd ?_);refine S7 (Uo hz rfl (x:=.ref TO) rfl ?_);refine S7 (Wc hz (by simp) fun yi yz xU=>?_);replace yz:Yu yi z TI TO .ellipsis:=yz;refine S7 ?_;simp only [List.zipIdx_cons,List.zipIdx_nil,W9,Yt];refine S7 (S7 (wpAny_onRaise ?_));show Tx _ _ (Ut (.ref i1) >>= _) _ _ _;refine S7 (bb_tupNext (IsTupleIter.but h1 xU.extBut D.i1z) (IsTuple.but ze xU.extBut D.l1z) hx fun yR Ar xZ=>Tg ?_);have zr:VJ yR TO a b:=xZ.extBut _ _ D.TOi1 (xU.extBut _ _ D.TOz hTO);refine S7 (UU zr rfl ?_);refine S7 (YK zr fun Am zU yx=>?_);replace zU:VJ Am TO x b:=zU;refine S7 (Yd (Tg ?_));refine S7 (S7 (wpAny_onRaise ?_));show Tx _ _ (Ut (.ref i2) >>= _) _ _ _
 refine S7 (bb_tupNext (IsTupleIter.but (IsTupleIter.but (IsTupleIter.but h2 xU.extBut D.i2z) xZ.extBut D.i12.symm) yx.extBut D.TOi2.symm)
  (IsTuple.but (IsTuple.but (IsTuple.but yN xU.extBut D.l2z) xZ.extBut D.l2i1) yx.extBut D.l2TO) hy fun yD Cb yu=>Tg ?_)
 have Cc:VJ yD TO x b:=yu.extBut _ _ D.TOi2 zU;refine S7 (UU Cc rfl ?_);refine S7 (YK Cc fun yE zV za=>?_);replace zV:VJ yE TO x y:=zV;refine S7 (Yd (Tg (Tg ?_)));refine S7 (UU zV rfl ?_);refine S7 (wpAny_newTuple ?_);have hsz:yE.objs.size=s.heap.objs.size:=by rw [za.1,yu.1,yx.1,xZ.1,xU.1]
 have DV:Yu yE z TI TO .ellipsis:=za.extBut _ _ D.TOz.symm (yu.extBut _ _ D.i2z.symm (yx.extBut _ _ D.TOz.symm (xZ.extBut _ _ D.i1z.symm yz)))
 have GC:∀ c o,c≠z->c≠TO->c≠i1->c≠i2->s.heap.get? c=some o->yE.get? c=some o:=fun c o c1 c2 c3 c4 e =>
  za.extBut _ _ c2 (yu.extBut _ _ c4 (yx.extBut _ _ c2 (xZ.extBut _ _ c3 (xU.extBut _ _ c1 e))))
 have GD:yE.IsTupleIter i1 l1 (k+1):=IsTupleIter.but (IsTupleIter.but (IsTupleIter.but Ar yx.extBut D.TOi1.symm) yu.extBut D.i12) za.extBut D.TOi1.symm;have GF:yE.IsTupleIter i2 l2 (k+1):=IsTupleIter.but Cb za.extBut D.TOi2.symm;have GG:z<yE.objs.size:=Tw DV;show Tx _ _ (Builtin.SmallTypes.ownedTupleHandOut (.ref z) (.ref yE.objs.size) >>= _) _ _ _;refine S7 ?_;unfold Builtin.SmallTypes.ownedTupleHandOut;have GH:Yu (yE.push { cls:=.type "tuple",data:=.seq #[x,y] }) z TI TO .ellipsis:=Tf _ DV;refine S7 (Wc GH (by simp) fun Kq Cd Ce=>?_);replace Cd:Yu Kq z TI TO (VR yE.objs.size):=Cd;refine Wc Cd (by simp) fun Cf Bj Cg=>?_;replace Bj:Yu Cf z TI TO (VR yE.objs.size):=Bj;have up:∀ c o,c≠z->yE.get? c=some o->Cf.get? c=some o:=fun c o c1 e=>Cg.extBut _ _ c1 (Ce.extBut _ _ c1 (Tf _ e));have DW:VJ Cf yE.objs.size x y:=Cg.extBut _ _ (WR GG) (Ce.extBut _ _ (WR GG) (Tt _ rfl));have Nw:Cf.objs.size=yE.objs.size+1:=by rw [Cg.1,Ce.1,UK]
 rw [hsz] at Bj DW Nw;refine Tg ⟨_,rfl,?_⟩;show Q (.ref yE.objs.size) _;rw [hsz];refine hQ Cf Bj (up _ _ D.TOz zV) ?_ ?_ DW Nw fun c o c1 c2 c3 c4 e=>up c o c1 (GC c o c1 c2 c3 c4 e)
 · obtain ⟨o,e,r⟩:=GD;exact ⟨o,up _ o D.i1z e,r⟩
 · obtain ⟨o,e,r⟩:=GF;exact ⟨o,up _ o D.i2z e,r⟩
theorem bb_loadIfAlive {a:Ta} {o:VH} {Q:Option VH->Tj->Prop} (hQ:∀ u,some o=some u->Q (some u) s) (h:s.heap.get? a=some o):Tx (T6 prog w) A (loadIfAlive a) Q E s:=by
 intro Γ p RZ;show Sem.wp _ _ (.loadIfAlive a .pure) _ _ _ _;rw [Sem.wp_loadIfAlive,h];exact hQ o rfl
theorem bb_notfree {z T:Ta} {b:Bool} {f2 TI TO u v:Tc} (hz:s.heap.get? z=some { cls:=.type "zip",data:=.fields #[VR T,.bool b,f2,TI,TO] }) (hT:VJ s.heap T u v) :
 Tx (T6 prog w) A (UC (.ref z)) (fun a s1=>a=false/\∃ yi,s1={ s with heap:=yi }/\yi.get? z=some { cls:=.type "zip",data:=.fields #[VR T,.bool true,f2,TI,TO] }/\Vj z s.heap yi) E s:=by
 unfold UC;refine S7 (Uo hz rfl (x:=VR T) rfl ?_);show Tx _ _ (loadIfAlive (T:Int).toNat >>= _) _ _ _;rw [Uw];refine S7 (bb_loadIfAlive (fun o (e:some _=some o)=>?_) hT);cases e;show Tx _ _ (if (some _:Option VH).isNone=true then _ else _) _ _ _;rw [if_neg (show ¬ ((some _:Option VH).isNone=true) from TH)];refine S7 (Uo hz rfl (x:=.bool b) rfl ?_);cases b with
 | true=>exact Tg ⟨rfl,s.heap,rfl,hz,rfl,fun _ _=>rfl⟩
 | false=>exact S7 (Wc hz (by simp) fun yi yz xU=>Tg ⟨rfl,yi,rfl,yz,xU⟩)
theorem bb_zip_itemB {z TI TO i1 i2 l1 l2 T:Ta} {k:Nat} {xs ys:Array Tc} {x y u v:Tc} {b:Bool} {Q:Tc->Tj->Prop} (D:YN z TI TO i1 i2 l1 l2)
 (hz:s.heap.get? z=some { cls:=.type "zip",data:=.fields #[VR T,.bool b,.bool false,.ref TI,.ref TO] }) (hT:VJ s.heap T u v) (hTI:VJ s.heap TI (.ref i1) (.ref i2))
 (h1:s.heap.IsTupleIter i1 l1 k) (h2:s.heap.IsTupleIter i2 l2 k) (ze:s.heap.IsTuple l1 xs) (yN:s.heap.IsTuple l2 ys) (hx:xs[k]?=some x) (hy:ys[k]?=some y)
 (hQ:∀ h',h'.get? z=some { cls:=.type "zip",data:=.fields #[VR T,.bool true,.bool false,.ref TI,.ref TO] }->h'.IsTupleIter i1 l1 (k+1)->h'.IsTupleIter i2 l2 (k+1)->VJ h' s.heap.objs.size x y->h'.objs.size=s.heap.objs.size+1 →
  (∀ c o,c≠z->c≠i1->c≠i2->s.heap.get? c=some o->h'.get? c=some o)->Q (.ref s.heap.objs.size) { s with heap:=h' }) :
 Tx (T6 prog w) A (V7.«zip.__next__» ⟨[.ref z],[]⟩) (fun fin s'=>∃ v,fin=.done (.ret v)/\Q v s') E s:=by
 show Tx _ _ (field (.ref z) 2 >>= _) _ _ _;refine S7 (Uo hz rfl (x:=.bool false) rfl ?_);show Tx _ _ (field (.ref z) 3 >>= _) _ _ _;refine S7 (Uo hz rfl (x:=.ref TI) rfl ?_);refine S7 (UU hTI rfl ?_);show Tx _ _ (UC (.ref z) >>= _) _ _ _;refine S7 (VC (bb_notfree hz hT) (fun a s1 ⟨e1,yi,e2,yz,xU⟩=>?_) fun _ _ x=>x);subst e1 e2;simp only [UJ,if_false];rw [<- Xc];refine S7 ?_;simp only [W9,Yt];refine S7 (S7 (UW ?_));show Tx _ _ (Ut (.ref i1) >>= _) _ _ _;refine S7 (bb_tupNext (IsTupleIter.but h1 xU.extBut D.i1z) (IsTuple.but ze xU.extBut D.l1z) hx fun yR Ar xZ=>Tg (Tg ?_));refine S7 (S7 (UW ?_));show Tx _ _ (Ut (.ref i2) >>= _) _ _ _;refine S7 (bb_tupNext (IsTupleIter.but (IsTupleIter.but h2 xU.extBut D.i2z) xZ.extBut D.i12.symm) (IsTuple.but (IsTuple.but yN xU.extBut D.l2z) xZ.extBut D.l2i1) hy fun yD Cb yu=>Tg (Tg (Tg ?_)));refine S7 (wpAny_newTuple (hsz:=by show 2<=TB;decide) (Tg ⟨_,rfl,?_⟩));have hsz:yD.objs.size=s.heap.objs.size:=by rw [yu.1,xZ.1,xU.1]
 show Q (.ref yD.objs.size) { s with heap:=yD.push { cls:=.type "tuple",data:=.seq #[x,y] } };have DX:VJ (yD.push { cls:=.type "tuple",data:=.seq #[x,y] }) yD.objs.size x y:=Tt _ rfl;have zG:(yD.push { cls:=.type "tuple",data:=.seq #[x,y] }).objs.size=yD.objs.size+1:=UK ..;have GI:=IsTupleIter.but Ar yu.extBut D.i12;rw [hsz] at DX zG;rw [hsz];refine hQ _ (Tf _ (yu.extBut _ _ D.i2z.symm (xZ.extBut _ _ D.i1z.symm yz))) ?_ ?_ DX zG fun c o c1 c3 c4 e=>Tf _ (yu.extBut _ _ c4 (xZ.extBut _ _ c3 (xU.extBut _ _ c1 e)))
 · obtain ⟨o,e,r⟩:=GI;exact ⟨o,Tf _ e,r⟩
 · obtain ⟨o,e,r⟩:=Cb;exact ⟨o,Tf _ e,r⟩
theorem bb_zip_end {z TI TO i1 i2 l1 l2:Ta} {k:Nat} {xs ys:Array Tc} {Q:Fin->Tj->Prop} (hh:A.handled=none)
 (S:ZSt xs ys z TI TO i1 i2 l1 l2 k s.heap) (zH:xs[k]?=none∨ys[k]?=none)
 (hE:∀ h' e,(∀ c o,c≠z->c≠TO->c≠i1->c≠i2->s.heap.get? c=some o->h'.get? c=some o)->(∃ o,h'.get? e=some o/\o.cls=.type "StopIteration")->E (.ref e) { s with heap:=h' }) :
 Tx (T6 prog w) A (V7.«zip.__next__» ⟨[.ref z],[]⟩) Q E s:=by
 obtain ⟨D,hz,hTI,⟨a,b,hTO⟩,h1,h2,ze,yN⟩:=S;rcases hz with hz | ⟨T,bb,u,v,hz,hT,Nx⟩
 · show Tx _ _ (field (.ref z) 2 >>= _) _ _ _;refine S7 (Uo hz rfl (x:=.bool false) rfl ?_);show Tx _ _ (field (.ref z) 3 >>= _) _ _ _;refine S7 (Uo hz rfl (x:=.ref TI) rfl ?_);refine S7 (UU hTI rfl ?_);show Tx _ _ (UC (.ref z) >>= _) _ _ _;refine S7 ?_;unfold UC;refine S7 (Uo hz rfl (x:=.none) rfl (Tg ?_));simp only [if_true];refine S7 (Wd ?_);refine S7 (Uo hz rfl (x:=.ref TO) rfl ?_);refine S7 (Wc hz (by simp) fun yi yz xU=>?_);replace yz:Yu yi z TI TO .ellipsis:=yz;refine S7 ?_;simp only [List.zipIdx_cons,List.zipIdx_nil,W9,Yt];refine S7 (S7 (wpAny_onRaise ?_));show Tx _ _ (Ut (.ref i1) >>= _) _ _ _;cases hx:xs[k]? with
   | none =>
     refine S7 (bb_tupEnd hh (IsTupleIter.but h1 xU.extBut D.i1z) (IsTuple.but ze xU.extBut D.l1z) hx fun yR e xZ he=>?_);obtain ⟨oe,EE,GJ⟩:=he;have DY:Yu yR z TI TO .ellipsis:=xZ _ _ D.i1z.symm yz;have Kr:e≠z:=fun x=>by subst x;rw [DY] at EE;cases EE;simp at GJ
     refine Wc DY (by simp) fun Am _ yx=>hE Am e (fun c o c1 _ c3 _ x=>yx.extBut _ _ c1 (xZ _ _ c3 (xU.extBut _ _ c1 x))) ⟨oe,yx.extBut _ _ Kr EE,GJ⟩
   | some x =>
     have hy:ys[k]?=none:=by rcases zH with h | h;rw [hx] at h;cases h;exact h
     refine S7 (bb_tupNext (IsTupleIter.but h1 xU.extBut D.i1z) (IsTuple.but ze xU.extBut D.l1z) hx fun yR Ar xZ=>Tg ?_);have zr:VJ yR TO a b:=xZ.extBut _ _ D.TOi1 (xU.extBut _ _ D.TOz hTO);refine S7 (UU zr rfl ?_);refine S7 (YK zr fun Am zU yx=>?_);refine S7 (Yd (Tg ?_));refine S7 (S7 (wpAny_onRaise ?_));show Tx _ _ (Ut (.ref i2) >>= _) _ _ _
     refine S7 (bb_tupEnd hh (IsTupleIter.but (IsTupleIter.but (IsTupleIter.but h2 xU.extBut D.i2z) xZ.extBut D.i12.symm) yx.extBut D.TOi2.symm)
      (IsTuple.but (IsTuple.but (IsTuple.but yN xU.extBut D.l2z) xZ.extBut D.l2i1) yx.extBut D.l2TO) hy fun yD e yu he=>?_)
     obtain ⟨oe,EE,GJ⟩:=he;have DZ:Yu yD z TI TO .ellipsis:=yu _ _ D.i2z.symm (yx.extBut _ _ D.TOz.symm (xZ.extBut _ _ D.i1z.symm yz));have Kr:e≠z:=fun x=>by subst x;rw [DZ] at EE;cases EE;simp at GJ
     refine Wc DZ (by simp) fun yE _ za=>hE yE e (fun c o c1 c2 c3 c4 x=>za.extBut _ _ c1 (yu _ _ c4 (yx.extBut _ _ c2 (xZ.extBut _ _ c3 (xU.extBut _ _ c1 x))))) ⟨oe,za.extBut _ _ Kr EE,GJ⟩
 · show Tx _ _ (field (.ref z) 2 >>= _) _ _ _;refine S7 (Uo hz rfl (x:=.bool false) rfl ?_);show Tx _ _ (field (.ref z) 3 >>= _) _ _ _;refine S7 (Uo hz rfl (x:=.ref TI) rfl ?_);refine S7 (UU hTI rfl ?_);show Tx _ _ (UC (.ref z) >>= _) _ _ _;refine S7 (VC (bb_notfree hz hT) (fun a s1 ⟨e1,yi,e2,yz,xU⟩=>?_) fun _ _ x=>x);subst e1 e2;simp only [UJ,if_false];rw [<- Xc];refine S7 ?_;simp only [W9,Yt];refine S7 (S7 (UW ?_));show Tx _ _ (Ut (.ref i1) >>= _) _ _ _;cases hx:xs[k]? with
   | none =>
     refine S7 (bb_tupEnd hh (IsTupleIter.but h1 xU.extBut D.i1z) (IsTuple.but ze xU.extBut D.l1z) hx fun yR e xZ he=>?_);exact hE yR e (fun c o c1 _ c3 _ x=>xZ _ _ c3 (xU.extBut _ _ c1 x)) he
   | some x =>
     have hy:ys[k]?=none:=by rcases zH with h | h;rw [hx] at h;cases h;exact h
     refine S7 (bb_tupNext (IsTupleIter.but h1 xU.extBut D.i1z) (IsTuple.but ze xU.extBut D.l1z) hx fun yR Ar xZ=>Tg (Tg ?_));refine S7 (S7 (UW ?_));show Tx _ _ (Ut (.ref i2) >>= _) _ _ _;refine S7 (bb_tupEnd hh (IsTupleIter.but (IsTupleIter.but h2 xU.extBut D.i2z) xZ.extBut D.i12.symm) (IsTuple.but (IsTuple.but yN xU.extBut D.l2z) xZ.extBut D.l2i1) hy fun yD e yu he=>?_);exact hE yD e (fun c o c1 _ c3 c4 x=>yu _ _ c4 (xZ.extBut _ _ c3 (xU.extBut _ _ c1 x))) he
theorem bb_zip_next {z TI TO i1 i2 l1 l2:Ta} {k:Nat} {xs ys:Array Tc} {x y:Tc} {Q:Option Tc->Tj->Prop} (S:ZSt xs ys z TI TO i1 i2 l1 l2 k s.heap) (hx:xs[k]?=some x) (hy:ys[k]?=some y)
 (hQ:∀ h',ZSt xs ys z TI TO i1 i2 l1 l2 (k+1) h'->VJ h' s.heap.objs.size x y->h'.objs.size=s.heap.objs.size+1 →
  (∀ c o,c∉[z,TO,i1,i2]->s.heap.get? c=some o->h'.get? c=some o)->Q (some (.ref s.heap.objs.size)) { s with heap:=h' }) :
 Tx (T6 prog w) A (Wr (.ref z)) Q E s:=by
 have hT:=S.typeIs;obtain ⟨D,hz,hTI,⟨a,b,hTO⟩,h1,h2,ze,yN⟩:=S;have n1:s.heap.objs.size≠TO:=WR (Tw hTO);unfold Wr;refine S7 (Wq (Uz (name:=Ti "__next__") hT WM (UE WM hT F.entry_zip_next ?_ (F.args_zip_next_1 _))));rcases hz with hz | ⟨T,bb,u,v,hz,DX,Nx⟩
 · refine bb_zip_itemA D hz hTI hTO h1 h2 ze yN hx hy fun h' a1 a2 a3 a4 a5 a6 a7=>Tg ?_;refine hQ h' ⟨D,.inr ⟨_,_,_,_,a1,a5,n1⟩,a7 _ _ D.TIz D.TITO D.TIi1 D.TIi2 hTI,⟨_,_,a2⟩,a3,a4,?_,?_⟩ a5 a6 fun c o hc e=>a7 c o (fun q=>hc (by simp [q])) (fun q=>hc (by simp [q])) (fun q=>hc (by simp [q])) (fun q=>hc (by simp [q])) e
   · obtain ⟨o,e,r⟩:=ze;exact ⟨o,a7 _ _ D.l1z D.l1TO D.l1i1 D.l1i2 e,r⟩
   · obtain ⟨o,e,r⟩:=yN;exact ⟨o,a7 _ _ D.l2z D.l2TO D.l2i1 D.l2i2 e,r⟩
 · refine bb_zip_itemB D hz DX hTI h1 h2 ze yN hx hy fun h' a1 a3 a4 a5 a6 a7=>Tg ?_;have Pz:T≠z:=by rintro rfl;exact absurd (Vg (congrArg Obj.cls (TV (hz.symm.trans DX)))) (by decide)
   have Ks:T≠i1:=by rintro rfl;obtain ⟨o,e,c,_⟩:=h1;have e2:=TV (DX.symm.trans e);rw [<- e2] at c;exact absurd (Vg c) (by decide)
   have Kt:T≠i2:=by rintro rfl;obtain ⟨o,e,c,_⟩:=h2;have e2:=TV (DX.symm.trans e);rw [<- e2] at c;exact absurd (Vg c) (by decide)
   refine hQ h' ⟨D,.inr ⟨T,true,u,v,a1,a7 _ _ Pz Ks Kt DX,Nx⟩,a7 _ _ D.TIz D.TIi1 D.TIi2 hTI,⟨a,b,a7 _ _ D.TOz D.TOi1 D.TOi2 hTO⟩,a3,a4,?_,?_⟩ a5 a6 fun c o hc e=>a7 c o (fun q=>hc (by simp [q])) (fun q=>hc (by simp [q])) (fun q=>hc (by simp [q])) e
   · obtain ⟨o,e,r⟩:=ze;exact ⟨o,a7 _ _ D.l1z D.l1i1 D.l1i2 e,r⟩
   · obtain ⟨o,e,r⟩:=yN;exact ⟨o,a7 _ _ D.l2z D.l2i1 D.l2i2 e,r⟩
theorem bb_zip_done {z TI TO i1 i2 l1 l2:Ta} {k:Nat} {xs ys:Array Tc} {Q:Option Tc->Tj->Prop} (hh:A.handled=none) (S:ZSt xs ys z TI TO i1 i2 l1 l2 k s.heap) (zH:xs[k]?=none∨ys[k]?=none)
 (hQ:∀ h',(∀ c o,c∉[z,TO,i1,i2]->s.heap.get? c=some o->h'.get? c=some o)->Q none { s with heap:=h' }):Tx (T6 prog w) A (Wr (.ref z)) Q E s:=by
 have hT:=S.typeIs;unfold Wr
 refine S7 (Wq (Uz (name:=Ti "__next__") hT WM
  (UE WM hT F.entry_zip_next (bb_zip_end hh S zH fun h' e hk he=>?_) (F.args_zip_next_1 _))))
 obtain ⟨o,ho,hc⟩:=he;refine S7 (V8 (T:="StopIteration") (b:=true) ⟨o,ho,hc⟩ isSubtype_stop ?_);exact Tg (hQ _ fun c o hc=>hk c o (fun q=>hc (by simp [q])) (fun q=>hc (by simp [q])) (fun q=>hc (by simp [q])) (fun q=>hc (by simp [q])))
theorem bb_zip_iter {z TI TO i1 i2 l1 l2:Ta} {k:Nat} {xs ys:Array Tc} {Q:Tc->Tj->Prop} (S:ZSt xs ys z TI TO i1 i2 l1 l2 k s.heap) (h:Q (.ref z) s):Tx (T6 prog w) A (pyIter (.ref z)) Q E s:=by
 have hT:=S.typeIs;refine wpAny_pyIter_slot hT F.slot_zip_iter (UE F.slot_zip_iter hT F.entry_zip_iter ?_ (F.args_zip_iter_1 _));show Tx _ _ (ret (.ref z)) _ _ s;exact Tg ⟨_,rfl,"zip",_,hT,WM.lookup,h⟩
end
end PySem
namespace PySem
open Sem (wp)
namespace F
theorem bb_nolen_zip:W0 (.type "zip") "__len__"=pure none:=by rw [Vu,UQ];kernel_rfl
theorem bb_nohint_zip:W0 (.type "zip") "__length_hint__"=pure none:=by rw [Vu,UQ];kernel_rfl
end F
def ZIt (xs ys:Array Tc) (n0:Nat) (h:UM) (acc:Array Tc) (k:Nat):Prop:=acc.size=k/\∀ (j:Nat) (v:Tc),acc[j]?=some v->∃ (T:Ta) (x y:Tc),v=T5 T/\n0<=T/\VJ h T x y/\xs[j]?=some x/\ys[j]?=some y
section
variable {prog:Tv} {w:TN} {A:Uh} {R:Result->Tj->Prop}
theorem bb_zip_loop {z TI TO i1 i2 l1 l2 S:Ta} {xs ys:Array Tc} {n n0:Nat} (hh:A.in1.handled=none) (hn:n=min xs.size ys.size) (hz:n<=TB) (Jj:S∉[z,TO,i1,i2]) (hf:∀ c∈[z,TO,i1,i2],c<n0) (res:Tc) :
 ∀ (k i:Nat) (s:Tj) (acc:Array Tc) (c:Nat),n - i=k->i<=n->ZSt xs ys z TI TO i1 i2 l1 l2 i s.heap->n0<=s.heap.objs.size->s.heap.get? S=some { cls:=.type "list",dict:=none,data:=.seq acc c,slots:=#[] }->ZIt xs ys n0 s.heap acc i →
 (∀ h' yS c',(∀ b o,b≠S->b∉[z,TO,i1,i2]->s.heap.get? b=some o->h'.get? b=some o)->h'.get? S=some { cls:=.type "list",dict:=none,data:=.seq yS c',slots:=#[] }->ZIt xs ys n0 h' yS n->R (.ok (.ret res)) { s with heap:=h' }) →
 Xu (T6 prog w) A (.builtin "list.extend.loop" ⟨[.ref S,.ref z,res],[]⟩) R s:=by
 intro k;have D0:∀ {T:Ta},n0<=T->T∉[z,TO,i1,i2]:=fun h m=>absurd (hf _ m) (XF.mpr h);induction k with
 | zero =>
   intro i s acc c hk hi yQ h0 hS yc hR;have Bh:i=n:=by omega
   subst Bh;refine Xi XT ?_;rw [Wo U1 _];show Tx _ A.in1 (Wr (.ref z) >>= _) _ _ s
   have zH:xs[i]?=none∨ys[i]?=none:=by
    rcases Nat.le_total xs.size ys.size with h | h
    · exact .inl (Xh (by omega))
    · exact .inr (Xh (by omega))
   refine S7 (bb_zip_done hh yQ zH fun h' zg=>Tg ?_);refine hR h' acc c (fun b o _ hb e=>zg b o hb e) (zg _ _ Jj hS) ⟨yc.1,fun j v hv=>?_⟩;obtain ⟨T,x,y,e1,e2,e3,e4⟩:=yc.2 j v hv;exact ⟨T,x,y,e1,e2,zg _ _ (D0 e2) e3,e4⟩
 | succ k ih =>
   intro i s acc c hk hi yQ h0 hS yc hR;have yf:i<n:=by omega
   refine Xi XT ?_;rw [Wo U1 _];show Tx _ A.in1 (Wr (.ref z) >>= _) _ _ s;have hx:xs[i]?=some xs[i]:=VB (by omega);have hy:ys[i]?=some ys[i]:=VB (by omega);refine S7 (bb_zip_next yQ hx hy fun h' Ku hT hsz zg=>?_);have BO:=zg S _ Jj hS;have Kv:S<s.heap.objs.size:=Tw hS;show Tx _ A.in1 (X1 S (·.push (.ref s.heap.objs.size)) >>= _) _ _ _;refine S7 ?_;have Ap:∀ b o,b≠S->h'.get? b=some o->(h'.update S (UG (·.push (T5 s.heap.objs.size)))).get? b=some o:=fun b o hb e=>(Uk _ _ (Vi hb)).trans e
   refine Vh BO rfl (Tg ⟨Wt U1 _,ih (i+1) _ (acc.push (.ref s.heap.objs.size)) _ (by omega) yf (Ku.frame fun b o ho e=>Ap b o (fun z=>?_) e) ?_ (Ud _ BO rfl) ?_ fun Kw yS c' EF EG Ci=>?_⟩)
    (by rw [yc.1];omega) (by show (acc.push _).size<=TB+1;rw [Array.size_push,yc.1];omega)
   · rw [z,BO] at e;cases e;exact ho rfl
   · show n0<=(h'.update S _).objs.size;rw [XC];omega
   · refine ⟨by rw [Array.size_push,yc.1],fun j v hv=>?_⟩;rw [Array.getElem?_push] at hv;split at hv
     · rename_i e
       rw [yc.1] at e;cases hv;subst e;exact ⟨_,_,_,rfl,h0,Ap _ _ (WR Kv) hT,hx,hy⟩
     · obtain ⟨T,x,y,e1,e2,e3,e4⟩:=yc.2 j v hv
       have PB:T≠S:=by
        rintro rfl;exact absurd (Vg (congrArg Obj.cls (TV (e3.symm.trans hS)))) (by decide)
       exact ⟨T,x,y,e1,e2,Ap _ _ PB (zg _ _ (D0 e2) e3),e4⟩
   · exact hR Kw yS c' (fun b o hb yo e=>EF b o hb yo (Ap b o hb (zg b o yo e))) EG Ci
end
section
variable {prog:Tv} {w:TN} {A:Uh} {E:Tc->Tj->Prop} {s:Tj}
theorem bb_list_zip {z TI TO i1 i2 l1 l2:Ta} {xs ys:Array Tc} {n n0:Nat} {Q:Tc->Tj->Prop} (hh:A.in1.in1.handled=none) (yQ:ZSt xs ys z TI TO i1 i2 l1 l2 0 s.heap) (hn:n=min xs.size ys.size) (hz:n<=TB) (h0:n0<=s.heap.objs.size) (hf:∀ c∈[z,TO,i1,i2],c<n0)
 (hQ:∀ h' acc c,(∀ b o,b∉[z,TO,i1,i2]->s.heap.get? b=some o->h'.get? b=some o)->h'.get? s.heap.objs.size=some { cls:=.type "list",dict:=none,data:=.seq acc c,slots:=#[] }->ZIt xs ys n0 h' acc n->Q (.ref s.heap.objs.size) { s with heap:=h' }) :
 Tx (T6 prog w) A (call (.type "list") [.ref z]) Q E s:=by
 have FD:s.heap.objs.size∉[z,TO,i1,i2]:=fun hm=>absurd (hf _ hm) (XF.mpr h0);have Kg:s.heap.objs.size≠z:=fun e=>FD (by simp [e])
 refine YM (Q₁:=fun obj xT=>obj=.ref s.heap.objs.size/\xT={ s with heap:=s.heap.push { cls:=.type "list",data:=.seq #[] } }) F.called_list (F.typeCall_list_1 _) F.entry_list_init
  (code_list_new _ ⟨rfl,rfl⟩) fun obj xT yi=>?_
 obtain ⟨rfl,rfl⟩:=yi;have hS:(s.heap.push { cls:=.type "list",data:=.seq #[] }).get? s.heap.objs.size=some { cls:=.type "list",data:=.seq #[] }:=Tt _ rfl;refine ⟨⟨_,hS,rfl⟩,F.args_list_init_2 _ _,?_⟩;show Tx _ A.in1.in1 (do let old ← V6 (.ref s.heap.objs.size);Yv (.ref s.heap.objs.size) (fun _=>#[]);letGo old.toList.reverse;Vx (.ref s.heap.objs.size) (.ref z) .none) _ _ _;refine S7 ?_;unfold V6;refine S7 (UU hS rfl (Tg ?_));refine S7 (Vh hS rfl ?_);have y8:=Ud (UG (fun _=>(#[]:Array Tc))) hS rfl;refine S7 (Yd ?_);have Bu:((s.heap.push { cls:=.type "list",data:=.seq #[] }).update s.heap.objs.size (UG (fun _=>(#[]:Array Tc)))).objs.size=s.heap.objs.size+1:=by rw [XC,UK]
 generalize hH:(s.heap.push { cls:=.type "list",data:=.seq #[] }).update s.heap.objs.size (UG (fun _=>(#[]:Array Tc)))=H2 at y8 Bu ⊢
 have old:∀ b o,s.heap.get? b=some o->H2.get? b=some o:=fun b o e=>by
  rw [<- hH,Uk _ _ (Vi (T9 (Tw e)))];exact Tf _ e
 obtain ⟨c2,C3⟩:∃ c,H2.get? s.heap.objs.size=some { cls:=.type "list",data:=.seq #[] c }:=⟨_,y8⟩;have AH:ZSt xs ys z TI TO i1 i2 l1 l2 0 H2:=yQ.frame fun b o _ e=>old b o e;have GK:({ s with heap:=H2 }:Tj).TypeIs (.ref z) "zip":=AH.typeIs;unfold Vx;refine S7 (V4 GK ?_);have h1:VP (.ref s.heap.objs.size) (.ref z)=false:=by simp [VP,Kg]
 have h2:(VT "zip" == VT "list")=false:=by decide
 have h3:(VT "zip" == VT "tuple")=false:=by decide
 simp only [h1,h2,h3,YG,UJ,if_false];refine S7 (bb_zip_iter AH ?_);refine S7 (UW ?_);unfold V5;refine S7 (U2 GK F.bb_nolen_zip ?_);show Tx _ _ (specialOf (T5 z) (Ti "__length_hint__") >>= _) _ _ _;refine S7 (U2 GK F.bb_nohint_zip ?_);refine Tg ?_
 have key:∀ (h:UM) (c₁:Nat),ZSt xs ys z TI TO i1 i2 l1 l2 0 h->n0<=h.objs.size->(∀ b o,b≠s.heap.objs.size->H2.get? b=some o->h.get? b=some o)->h.get? s.heap.objs.size=some { cls:=.type "list",data:=.seq #[] c₁ } →
  Xu (T6 prog w) A.in1 (.builtin "list.extend.loop" ⟨[.ref s.heap.objs.size,.ref z,.none],[]⟩) (wants (fun r yB=>r=.none/\Q (.ref s.heap.objs.size) yB) E) { s with heap:=h }:=by
  intro h c₁ hs CN hk An;refine bb_zip_loop hh hn hz FD hf .none n 0 _ #[] c₁ rfl (TZ _) hs CN An ⟨rfl,fun j v e=>by simp at e⟩ fun h' yS c' hm BO yc=>?_;exact ⟨rfl,hQ h' yS c' (fun b o hb e=>hm b o (T9 (Tw e)) hb (hk b o (T9 (Tw e)) (old b o e))) BO yc⟩
 show Tx _ _ (rule "list.extend.makes-room" >>= fun _=>Builtin.List.listTouch (.ref s.heap.objs.size) >>= fun _=>again (.builtin "list.extend.loop" ⟨[.ref s.heap.objs.size,.ref z,.none],[]⟩)) _ _ _;refine S7 (Wd ?_);refine S7 ?_;show Tx _ _ (X1 s.heap.objs.size (·.push .none) >>= fun _=>X1 s.heap.objs.size (·.pop)) _ _ _;refine S7 (Vh C3 rfl ?_);have y9:=Ud (UG (·.push UX)) C3 rfl;refine Vh (hz:=by seq_fits) y9 rfl ?_;have Ao:=Ud (UG (·.pop)) y9 rfl
 have Ap:∀ b o,b≠s.heap.objs.size->H2.get? b=some o->((H2.update s.heap.objs.size (UG (·.push UX))).update s.heap.objs.size (UG (·.pop))).get? b=some o :=
  fun b o hb e=>(Uk _ _ (Vi hb)).trans ((Uk _ _ (Vi hb)).trans e)
 refine Tg ⟨Wt U1 _,key _ _ (AH.frame fun b o ho e=>Ap b o (fun q=>?_) e) ?_ Ap Ao⟩
 · rw [q,C3] at e;cases e;exact ho rfl
 · rw [XC,XC];show n0<=H2.objs.size;omega
end
end PySem
namespace L2
open PySem PySem.Spec PyProof.Rows
theorem Inv.laidAll {X:Cx} {pins:List (Ta×VH)} {σ:St} {H H':Hp} {s:Tj} {h':UM} {t':Nat} (I:Inv X pins σ H s) (k:∀ b u,s.heap.get? b=some u->h'.get? b=some u)
 (old:∀ b,b<s.heap.objs.size->H' b=H b) (new:∀ b u,s.heap.objs.size<=b->H' b=some u->ObjOk X.prog X.w H' h' b u):Inv X pins σ H' { s with heap:=h',toks:=t' }:=by
 have sm:∀ b u,H b=some u->H' b=some u:=fun b u e=>by rw [old b (I.hok.lt e)];exact e
 refine I.un ⟨fun b u q _ _ _=>k b u q,fun b u q _ _ _=>⟨u.slots,k b u q⟩,fun b u q n _=>by rw [old b (Tw q)];exact n,fun b u q _=>⟨u,k b u q⟩,fun b xs q=>sm _ _ q,fun b u xs q=>sm _ _ q,fun b ps q=>⟨#[],by rw [sm _ _ q];simp⟩⟩ fun b u q=>?_;by_cases hb:b<s.heap.objs.size
 · rw [old b hb] at q;exact (I.hok b u q).stay (fun c v _ e=>k c v e) (fun c e=>sm _ _ e) fun c xs e=>sm _ _ e
 · exact new b u (XF.mp hb) q
def lP (H:Hp):List Ta->List (V×V)->Hp
 | t::ts,p::ps=>upd (lP H ts ps) t (.tup [p.1,p.2])
 | _,_=>H
theorem j8 {H:Hp} {b:Ta}:∀ {ts:List Ta} {ps:List (V×V)},b∉ts->lP H ts ps b=H b
 | [],_,_=>rfl
 | _::_,[],_=>rfl
 | t::ts,p::ps,h=>by
   rw [lP,ak (fun e=>h (by simp [e]))];exact j8 fun m=>h (TQ _ m)
theorem oH {H:Hp}:∀ {ts:List Ta} {ps:List (V×V)} {b:Ta} {u:HO},lP H ts ps b=some u->H b=some u∨∃ (j:Nat) (p:V×V),ts[j]?=some b/\ps[j]?=some p/\u=.tup [p.1,p.2]
 | [],_,_,_,h=>.inl h
 | _::_,[],_,_,h=>.inl h
 | t::ts,p::ps,b,u,h=>by
   rw [lP] at h;by_cases e:b=t
   · subst e;rw [ab] at h;exact .inr ⟨0,p,rfl,rfl,(TV h).symm⟩
   · rw [ak e] at h;rcases oH h with q | ⟨j,p',q1,q2,q3⟩
     · exact .inl q
     · exact .inr ⟨j+1,p',by simpa using q1,by simpa using q2,q3⟩
theorem pA {H:Hp}:∀ {ts:List Ta} {ps:List (V×V)} {t:Ta},ts.length=ps.length->t∈ts->∃ (i:Nat) (p:V×V),ts[i]?=some t/\ps[i]?=some p/\lP H ts ps t=some (.tup [p.1,p.2])
 | [],_,_,_,h=>nomatch h
 | _::_,[],_,hl,_=>by simp at hl
 | u::ts,p::ps,t,hl,h=>by
   by_cases e:t=u
   · subst e;exact ⟨0,p,rfl,rfl,by rw [lP,ab]⟩
   · obtain ⟨i,p',q1,q2,q3⟩:=pA (H:=H) (ts:=ts) (ps:=ps) (t:=t) (by simpa using hl) (by
      rcases TF.mp h with h | h
      · exact absurd h e
      · exact h)
     exact ⟨i+1,p',by simpa using q1,by simpa using q2,by rw [lP,ak e];exact q3⟩
theorem jk {α β:Type} {F:α->β->Prop}:∀ {ps:List α} {ts:List β},ps.length=ts.length->(∀ (j:Nat) p t,ps[j]?=some p->ts[j]?=some t->F p t)->T3 F ps ts
 | [],[],_,_=>.nil
 | [],_::_,h,_=>by simp at h
 | _::_,[],h,_=>by simp at h
 | p::ps,t::ts,h,f=>.cons (f 0 p t rfl rfl) (jk (by simpa using h) fun j p' t' e1 e2=>f (j+1) p' t' (by simpa using e1) (by simpa using e2))
theorem qP {P:Nat->Ta->Prop}:∀ {vs:List Tc} (n:Nat),(∀ (j:Nat) v,vs[j]?=some v->∃ T,v=T5 T/\P (n+j) T)->∃ ts:List Ta,vs=ts.map T5/\∀ (j:Nat) T,ts[j]?=some T->P (n+j) T
 | [],n,_=>⟨[],rfl,fun j T h=>by simp at h⟩
 | v::vs,n,h=>by
   obtain ⟨T,e1,e2⟩:=h 0 v rfl
   obtain ⟨ts,q1,q2⟩:=qP (P:=P) (vs:=vs) (n+1) fun j v' hv=>by
    have:=h (j+1) v' (by simpa using hv);rw [show n+1+j=n+(j+1) by omega];exact this
   refine ⟨T::ts,by rw [e1,q1];rfl,fun j T' hT=>?_⟩;cases j with
   | zero=>simp at hT;subst hT;exact e2
   | succ j =>
     have:=q2 j T' (by simpa using hT);rw [show n+1+j=n+(j+1) by omega] at this;exact this
theorem we {α β:Type} {xs:List α} {ys:List β} {j:Nat} {p:α×β} (h:(xs.zip ys)[j]?=some p):xs[j]?=some p.1/\ys[j]?=some p.2:=by
 rw [Vz] at h;exact h
def tu (K:S8) (t:TA):TE:=fun σ H Q=>t σ H fun vs H2=>∃ a b xs ys,vs=[.ref a,.ref b]/\SqT K H2 a xs/\SqT K H2 b ys ∧
 ∀ (l:Ta) (ts:List Ta) (H':Hp),Same H2 H'->H2 l=none->H' l=some (.lst (ts.map V.ref))->T3 (fun (p:V×V) t=>H' t=some (.tup [p.1,p.2])) (xs.zip ys) ts->Q (.ref l) H'
section
variable {X:Cx} {e1 e2:UH} {t:TA} {p p2 pos yt:Xn}
theorem qt (hc:X.calm=true) (g1:Gl X "list") (m1:X.mg "list"=none) (g2:Gl X "zip") (m2:X.mg "zip"=none) (ha:PA X [e1,e2] t)
 (h1:Uu [.Call (.Name "zip" p2) [e1,e2] [] yt] X.env=[(false,VS (.Call (.Name "zip" p2) [e1,e2] [] yt) X.env)]:=by rfl) (h2:Uu [e1,e2] X.env=(false,VS e1 X.env)::Uu [e2] X.env:=by rfl) (h3:(Xv yt (Uu [e2] X.env)).any (·.1)=false:=by rfl) :
 PE X (.Call (.Name "list" p) [.Call (.Name "zip" p2) [e1,e2] [] yt] [] pos) (tu X.K t):=by
 intro pins s σ H Q I h;refine U5 (db I g1 m1 boot_list (Ur ?_ h1 rfl));rw [h1];show Tx _ _ (spliced ((false,VS (.Call (.Name "zip" p2) [e1,e2] [] yt) X.env)::[])) _ _ s;refine U6 ?_;refine U5 (db I g2 m2 boot_zip ?_);refine Ur (thn (ha yt pins s σ H _ I h) fun us s2 ⟨vs,H2,I2,r,a,b,xs,ys,ev,D1,D2,q⟩=>?_) h2 h3;subst ev;obtain ⟨u1,u2,rfl,r1,r2⟩:=vals2 r;cases r1;cases r2;obtain ⟨ia,EH,pa,FG⟩:=I2.tuple D1;obtain ⟨ib,EI,pb,Kx⟩:=I2.tuple D2;have Ag:=EH.length;have PD:=EI.length;have zI:a<s2.heap.objs.size:=by obtain ⟨o,e,_⟩:=pa;exact Tw e
 have zy:b<s2.heap.objs.size:=by obtain ⟨o,e,_⟩:=pb;exact Tw e
 have hh:X.A.in1.in1.handled=none:=I2.ok.hd hc;refine bb_call_zip (show s2.heap.IsTuple a ia.toArray from pa) (show s2.heap.IsTuple b ib.toArray from pb) fun h' z1 z2 z3 z4 z5 z6 z7=>VD ?_;have D:YN (s2.heap.objs.size+4) (s2.heap.objs.size+2) (s2.heap.objs.size+3) s2.heap.objs.size (s2.heap.objs.size+1) a b:=zipApart_new zI zy
 have st:ZSt ia.toArray ib.toArray (s2.heap.objs.size+4) (s2.heap.objs.size+2) (s2.heap.objs.size+3) s2.heap.objs.size (s2.heap.objs.size+1) a b 0 h':=by
  refine ⟨D,.inl z1,z2,⟨_,_,z3⟩,z4,z5,?_,?_⟩
  · obtain ⟨o,e,r⟩:=pa;exact ⟨o,z7 _ _ e,r⟩
  · obtain ⟨o,e,r⟩:=pb;exact ⟨o,z7 _ _ e,r⟩
 have hf:∀ c∈[s2.heap.objs.size+4,s2.heap.objs.size+3,s2.heap.objs.size,s2.heap.objs.size+1],s2.heap.objs.size<=c/\c<h'.objs.size:=fun c hc=>by
  simp at hc;rw [z6];have zc:(c:Nat)=s2.heap.objs.size+4∨(c:Nat)=s2.heap.objs.size+3∨(c:Nat)=s2.heap.objs.size∨(c:Nat)=s2.heap.objs.size+1:=hc;constructor
  · show (s2.heap.objs.size:Nat)<=(c:Nat);omega
  · show (c:Nat)<s2.heap.objs.size+5;omega
 refine bb_list_zip (s:={ s2 with heap:=h' }) hh st rfl (by rw [Tq,Tq];omega) (Td _) (fun c hc=>(hf c hc).2) fun h2 acc c kp hS yc=>?_;replace hS:h2.get? h'.objs.size=some { cls:=.type "list",dict:=none,data:=.seq acc c,slots:=#[] }:=hS;have EJ:∀ b o,s2.heap.get? b=some o->h2.get? b=some o:=fun b o e=>kp b o (fun m=>absurd (Tw e) (XF.mpr (hf b m).1)) (z7 b o e);obtain ⟨hsz,hit⟩:=yc
 obtain ⟨ts,et,ht⟩:=qP (P:=fun j T=>h'.objs.size<=T/\∃ x y,VJ h2 T x y/\ia.toArray[j]?=some x/\ib.toArray[j]?=some y) (vs:=acc.toList) 0 (fun j v hv=>by
  obtain ⟨T,x,y,g1,g2,g3,g4,g5⟩:=hit j v (by simpa using hv);rw [Nat.zero_add];exact ⟨T,g1,g2,x,y,g3,g4,g5⟩)
 simp only [Nat.zero_add] at ht
 have yy:ts.length=(xs.zip ys).length:=by
  have e:=congrArg Wf et;rw [S6,Ua,hsz,Tq,Tq] at e;rw [Wz];omega
 have rel:∀ (j:Nat) (p:V×V) (T:Ta),(xs.zip ys)[j]?=some p->ts[j]?=some T->∃ x y,VJ h2 T x y/\RelV p.1 x/\RelV p.2 y:=fun j p T hp hT=>by
  obtain ⟨_,x,y,g3,g4,g5⟩:=ht j T hT;obtain ⟨zW,zX⟩:=we hp;obtain ⟨x',k1,k2⟩:=EH.get zW;obtain ⟨y',k3,k4⟩:=EI.get zX
  have e1:x'=x:=by
   have:ia[j]?=some x:=by simpa using g4
   rw [k1] at this;exact TV this
  have e2:y'=y:=by
   have:ib[j]?=some y:=by simpa using g5
   rw [k3] at this;exact TV this
  subst e1 e2;exact ⟨_,_,g3,k2,k4⟩
 have same:∀ (i j:Nat) (p p':V×V) (T:Ta),(xs.zip ys)[i]?=some p->(xs.zip ys)[j]?=some p'->ts[i]?=some T->ts[j]?=some T->p=p':=fun i j p p' T h1 h2 h3 h4=>by
  obtain ⟨x,y,g1,g2,g3⟩:=rel i p T h1 h3;obtain ⟨x',y',k1,k2,k3⟩:=rel j p' T h2 h4;have e:=TV (g1.symm.trans k1);have ed:=congrArg Obj.data e;injection ed with PF _;have el:=congrArg YY PF;have ex:x=x':=(YF el).1;have ey:y=y':=(YF (YF el).2).1;subst ex ey;obtain ⟨p1,p2⟩:=p;obtain ⟨q1,q2⟩:=p';have f1:p1=q1:=g2.inj k2;have f2:p2=q2:=g3.inj k3;rw [f1,f2]
 have GL:h'.objs.size∉ts:=fun m=>by
  obtain ⟨j,hj⟩:=List.getElem?_of_mem m;obtain ⟨_,x,y,g3,_⟩:=ht j _ hj;exact absurd (Vg (congrArg Obj.cls (TV (g3.symm.trans hS)))) (by decide)
 have GN:s2.heap.objs.size<h'.objs.size:=by rw [z6];omega
 have GO:∀ T∈ts,h'.objs.size<=T:=fun T m=>by
  obtain ⟨j,hj⟩:=List.getElem?_of_mem m;exact (ht j _ hj).1
 have D3:∀ b,s2.heap.objs.size<=b->H2 b=none:=fun b hb=>I2.hok.fresh hb;have yN:H2 h'.objs.size=none:=D3 _ (WT GN)
 have PH:∀ (j:Nat) (p:V×V) (T:Ta),(xs.zip ys)[j]?=some p->ts[j]?=some T->lP H2 ts (xs.zip ys) T=some (.tup [p.1,p.2]):=fun j p T hp hT=>by
  obtain ⟨i,p',k1,k2,k3⟩:=pA (H:=H2) yy (Tb hT);rw [k3,same i j p' p T k2 hp k1 hT]
 have I3:Inv X pins σ (upd (lP H2 ts (xs.zip ys)) h'.objs.size (.lst (ts.map V.ref))) { s2 with heap:=h2,toks:=s2.toks }:=by
  refine I2.laidAll EJ (fun b hb=>?_) fun b u hb hu=>?_
  · rw [ak (T9 (WS hb GN)),j8];exact fun m=>absurd (WS hb GN) (XF.mpr (GO b m))
  · by_cases e:b=h'.objs.size
    · subst e;rw [ab] at hu;cases hu;refine ⟨by rw [S6,yy,Wz];omega,ts.map T5,c,?_,by rw [<- et];exact hS⟩
      exact jk (by simp) fun j p t e1 e2=>by
       rw [Tn] at e1 e2;cases q:ts[j]? with
       | none=>rw [q] at e1;cases e1
       | some T=>rw [q] at e1 e2;cases e1;cases e2;rfl
    · rw [ak e] at hu;rcases oH hu with q | ⟨j,p,q1,q2,q3⟩
      · rw [D3 b hb] at q;cases q
      · subst q3;obtain ⟨x,y,g1,g2,g3⟩:=rel j p b q2 q1;exact ⟨by show 2<=TB;decide,[x,y],0,.cons g2 (.cons g3 .nil),g1⟩
 refine ⟨.ref h'.objs.size,_,I3,rfl,q h'.objs.size ts _ (fun b o e=>?_) yN ab ?_⟩
 · have hb:=I2.hok.lt e;rw [ak (T9 (WS hb GN)),j8]
   · exact e
   · exact fun m=>absurd (WS hb GN) (XF.mpr (GO b m))
 · refine jk yy.symm fun j p T hp hT=>?_;rw [ak (show T≠h'.objs.size from fun e=>GL (by rw [<- e];exact Tb hT))];exact PH j p T hp hT
end
end L2
namespace L2
open PySem PySem.Spec PyProof.Rows
section
variable {κ:Type} [DecidableEq κ]
def aV (f':List (κ×V)) (k:κ):Option V:=(f'.find? fun kv=>decide (kv.1=k)).map (·.2)
def putK (f':List (κ×V)) (k:κ) (v:V):List (κ×V) :=
 if (f'.any fun kv=>decide (kv.1=k))=true then f'.map (fun kv=>if kv.1=k then (kv.1,v) else kv) else f'++[(k,v)]
theorem bN {p:κ×V} {r:List (κ×V)} {k:κ} (e:p.1=k):aV (p::r) k=some p.2:=by simp [aV,Wa,e]
theorem bO {p:κ×V} {r:List (κ×V)} {k:κ} (e:¬ p.1=k):aV (p::r) k=aV r k:=by simp [aV,Wa,e]
theorem dB (k:κ):∀ f':List (κ×V),(f'.any fun kv=>decide (kv.1=k))=(aV f' k).isSome
 | []=>rfl
 | p::r=>by
   rw [List.any_cons];by_cases e:p.1=k
   · simp only [bN e,decide_eq_true e,Bool.true_or,Option.isSome_some]
   · rw [bO e,decide_eq_false e,W7];exact dB k r
theorem oy (k j:κ) (y:V):∀ f':List (κ×V),aV (f'.map fun kv=>if kv.1=k then (kv.1,y) else kv) j=(aV f' j).map fun x=>if j=k then y else x
 | []=>rfl
 | p::r=>by
   have ih:=oy k j y r;rw [Up];by_cases h:p.1=k
   · rw [if_pos h];by_cases e:p.1=j
     · rw [bN (p:=(p.1,y)) e,bN e,Xx,if_pos (e.symm.trans h)]
     · rw [bO (p:=(p.1,y)) e,bO e,ih]
   · rw [if_neg h];by_cases e:p.1=j
     · rw [bN (p:=p) e,bN e,Xx,if_neg (fun z=>h (e.trans z))]
     · rw [bO (p:=p) e,bO e,ih]
theorem mR (k j:κ) (y:V):∀ f':List (κ×V),aV f' k=none->aV (f'++[(k,y)]) j=if j=k then some y else aV f' j
 | [],_=>by
   by_cases e:k=j
   · rw [if_pos e.symm];exact bN (p:=(k,y)) e
   · rw [if_neg (fun z=>e z.symm)];exact bO (p:=(k,y)) e
 | p::r,hn=>by
   rw [Vr];have hk:¬ p.1=k:=fun z=>by rw [bN z] at hn;cases hn
   rw [bO hk] at hn;have ih:=mR k j y r hn;by_cases e:p.1=j
   · rw [bN e,bN e,if_neg (fun z=>hk (e.trans z))]
   · rw [bO e,bO e,ih]
theorem i5 (f':List (κ×V)) (k j:κ) (y:V):aV (putK f' k y) j=if j=k then some y else aV f' j:=by
 unfold putK;by_cases a:(f'.any fun kv=>decide (kv.1=k))=true
 · rw [if_pos a,oy];rw [dB] at a;by_cases e:j=k
   · obtain ⟨x,hx⟩:=W3.mp a;rw [if_pos e,e,hx,Xx,if_pos rfl]
   · rw [if_neg e];cases aV f' j with
     | none=>rfl
     | some x=>rw [Xx,if_neg e]
 · rw [if_neg a];refine mR k j y f' ?_;rw [dB] at a;cases q:aV f' k with
   | none=>rfl
   | some x=>rw [q] at a;exact (a rfl).elim
theorem bY (f':List (κ×V)) (k:κ) (v:V):(putK f' k v).length<=f'.length+1:=by
 unfold putK;split
 · rw [S6];omega
 · rw [TC,To,V9];omega
theorem kO {f':List (κ×V)} {k:κ} (v:V) (h:aV f' k=none):putK f' k v=f'++[(k,v)]:=by
 unfold putK;rw [dB,h];exact if_neg (by decide)
theorem RelO.isSome_eq {o:Option V} {u:Option Tc} (r:RelO o u):o.isSome=u.isSome:=by
 cases o with
 | none=>cases u with
   | none=>rfl
   | some _=>exact (show False from r).elim
 | some _=>cases u with
   | none=>exact (show False from r).elim
   | some _=>rfl
theorem RelO.getD {o:Option V} {u:Option Tc} {d:V} {d':Tc} (r:RelO o u) (rd:RelV d d'):RelV (o.getD d) (u.getD d'):=by
 cases o with
 | none=>cases u with
   | none=>exact rd
   | some _=>exact (show False from r).elim
 | some _=>cases u with
   | none=>exact (show False from r).elim
   | some _=>exact r
theorem KV.val {f':List (κ×V)} {vs:List (κ×Tc)} (r:KV f' vs) (k:κ):RelO (aV f' k) (valueAt vs k):=by
 unfold KV at r;induction r with
 | nil=>exact VF
 | @cons p q ps qs h t ih =>
   obtain ⟨h1,h2⟩:=h;by_cases e:p.1=k
   · have e':q.1=k:=h1.symm.trans e;have b:valueAt (q::qs) k=some q.2:=by simp [valueAt,Wa,e']
     rw [bN e,b];exact h2
   · have e':¬ q.1=k:=fun z=>e (h1.trans z);have b:valueAt (q::qs) k=valueAt qs k:=by simp [valueAt,Wa,e']
     rw [bO e,b];exact ih
theorem KV.any {f':List (κ×V)} {vs:List (κ×Tc)} (r:KV f' vs) (k:κ):(f'.any fun kv=>decide (kv.1=k))=vs.any fun kv=>decide (kv.1=k):=by
 unfold KV at r;induction r with
 | nil=>rfl
 | cons h t ih=>rw [List.any_cons,List.any_cons,ih,h.1]
theorem KV.repl {f':List (κ×V)} {vs:List (κ×Tc)} (r:KV f' vs) (k:κ) {y:V} {u:Tc} (ry:RelV y u) :
 KV (f'.map fun kv=>if kv.1=k then (kv.1,y) else kv) (vs.map fun kv=>if kv.1=k then (kv.1,u) else kv):=by
 unfold KV at r ⊢;induction r with
 | nil=>exact .nil
 | @cons p q ps qs h t ih =>
   rw [Up,Up];refine .cons ?_ ih;obtain ⟨h1,h2⟩:=h;by_cases e:p.1=k
   · rw [if_pos e,if_pos (h1.symm.trans e)];exact ⟨h1,ry⟩
   · rw [if_neg e,if_neg (fun z=>e (h1.trans z))];exact ⟨h1,h2⟩
theorem KV.put {f':List (κ×V)} {vs:List (κ×Tc)} (r:KV f' vs) (k:κ) {y:V} {u:Tc} (ry:RelV y u):KV (putK f' k y) (stored vs k u):=by
 unfold putK stored;rw [r.any k];by_cases e:(vs.any fun kv=>decide (kv.1=k))=true
 · rw [if_pos e,if_pos e];exact r.repl k ry
 · rw [if_neg e,if_neg e];exact Paired.snoc r ⟨rfl,ry⟩
theorem KV.length {f':List (κ×V)} {vs:List (κ×Tc)} (r:KV f' vs):f'.length=vs.length:=Tp r
end
theorem ko {P:Tv} {w:TN} {k:Key} {u:Tc} (r:RelV (kV k) u):(aE P w).is k u=true:=by
 cases k with
 | inl i=>obtain ⟨t,e⟩:=(show ∃ t,u=Value.int i t from r);subst e;exact oo P w i t
 | inr x=>obtain ⟨t,e⟩:=(show ∃ t,u=Value.str x t from r);subst e;exact pi P w x t
theorem mm {P:Tv} {w:TN}:∀ {ks:List Key} {us:List Tc},Vals (ks.map kV) us->ItemsAre (aE P w) ks us
 | [],_,r=>by rw [VI] at r;cases r;exact .nil
 | k::ks,_,r=>by
   rw [Up] at r;cases r with
   | cons h t=>exact .cons (ko h) (mm t)
abbrev KTd (H:Hp):List (List Key×V)->List (List Key×Ta×Tc)->Prop:=T3 fun p q=>p.1=q.1/\H q.2.1=some (.tup (p.1.map kV))/\RelV p.2 q.2.2
theorem KTd.val {H:Hp} {f':List (List Key×V)} {xs:List (List Key×Ta×Tc)} (r:KTd H f' xs) (k:List Key):RelO (aV f' k) ((W2 xs k).map (·.2)):=by
 induction r with
 | nil=>exact VF
 | @cons p q ps qs h t ih =>
   obtain ⟨h1,_,h2⟩:=h;by_cases e:p.1=k
   · have e':q.1=k:=h1.symm.trans e;have b:W2 (q::qs) k=some q.2:=by simp [W2,Wa,e']
     rw [bN e,b];exact h2
   · have e':¬ q.1=k:=fun z=>e (h1.trans z);have b:W2 (q::qs) k=W2 qs k:=by simp [W2,Wa,e']
     rw [bO e,b];exact ih
theorem KTd.repl {H:Hp} {f':List (List Key×V)} {xs:List (List Key×Ta×Tc)} (r:KTd H f' xs) (k:List Key) {y:V} {u:Tc} (ry:RelV y u) :
 KTd H (f'.map fun kv=>if kv.1=k then (kv.1,y) else kv) (xs.map (putAt k u)):=by
 induction r with
 | nil=>exact .nil
 | @cons p q ps qs h t ih =>
   rw [Up,Up];refine .cons ?_ ih;obtain ⟨h1,h2,h3⟩:=h;unfold putAt;by_cases e:p.1=k
   · rw [if_pos e,if_pos (h1.symm.trans e)];exact ⟨h1,h2,ry⟩
   · rw [if_neg e,if_neg (fun z=>e (h1.trans z))];exact ⟨h1,h2,h3⟩
theorem KTd.put {H:Hp} {f':List (List Key×V)} {xs:List (List Key×Ta×Tc)} (r:KTd H f' xs) (k:List Key) {b:Ta} {y:V} {u:Tc} (hb:H b=some (.tup (k.map kV))) (ry:RelV y u) :
 KTd H (putK f' k y) (Yg xs k b u):=by
 have e:(f'.any fun kv=>decide (kv.1=k))=(W2 xs k).isSome:=by
  rw [dB,(r.val k).isSome_eq,YQ]
 unfold putK Yg;rw [e];by_cases q:(W2 xs k).isSome=true
 · rw [if_pos q,if_pos q];exact r.repl k ry
 · rw [if_neg q,if_neg q];exact Paired.snoc r ⟨rfl,hb,ry⟩
theorem KTd.keeps {H H':Hp} {f':List (List Key×V)} {xs:List (List Key×Ta×Tc)} (r:KTd H f' xs) (ht:∀ b ys,H b=some (.tup ys)->H' b=some (.tup ys)):KTd H' f' xs :=
 T3.mapP r fun _ _ z=>⟨z.1,ht _ _ z.2.1,z.2.2⟩
section
variable {P:Tv} {w:TN} {H:Hp} {h:UM} {a:Ta}
theorem vx {u:HO} (ok:HOk P w H h) (e:Rd H a u):ObjOk P w H h a u:=e.ok ok
theorem me {f':List (Key×V)} (ok:HOk P w H h) (e:Rd H a (.dK f')):f'.length<=TB/\(a == Vn)=false/\∃ vs,KV f' vs/\h.DictOf (aE P w) a vs :=
 show ObjOk P w H h a (.dK f') from vx ok e
theorem vB {f':List (Key×V)} (ok:HOk P w H h) (e:H a=some (.dK f')):f'.length<=TB/\(a == Vn)=false/\∃ vs,KV f' vs/\h.DictOf (aE P w) a vs:=me ok (.inl e)
theorem iH {ks:List Key} (ok:HOk P w H h) (e:H a=some (.tup (ks.map kV))):(Yo (aE P w)).is h ks a:=by
 obtain ⟨_,its,n,r,h1⟩:=(show ObjOk P w H h a (.tup (ks.map kV)) from ok a _ e);exact ⟨_,its.toArray,n,h1,rfl,rfl,by simpa using mm r⟩
theorem mr {f':List (List Key×V)} (ok:HOk P w H h) (e:Rd H a (.dT f')):f'.length<=TB/\(a == Vn)=false ∧
 ∃ xs,KTd H f' xs/\h.DictOfH (Yo (aE P w)) a xs:=by
 obtain ⟨z,y,xs,r,o,es,ep,h1,h2,h3,h4,h5⟩:=(show ObjOk P w H h a (.dT f') from vx ok e);refine ⟨z,y,xs,r,o,es,ep,h1,h2,h3,h4,fun x hx=>?_,h5⟩
 have all:∀ {l:List (List Key×V)} {m:List (List Key×Ta×Tc)},KTd H l m->∀ x∈m,(Yo (aE P w)).is h x.1 x.2.1:=by
  intro l m q;induction q with
  | nil=>intro x hx;exact nomatch hx
  | @cons p q ps qs hq t ih =>
    intro x hx;rcases TF.mp hx with e | hx
    · subst e;exact iH ok (by rw [<- hq.1];exact hq.2.1)
    · exact ih x hx
 exact all r x hx
theorem ve {f':List (List Key×V)} (ok:HOk P w H h) (e:H a=some (.dT f')):f'.length<=TB/\(a == Vn)=false ∧
 ∃ xs,KTd H f' xs/\h.DictOfH (Yo (aE P w)) a xs:=mr ok (.inl e)
end
def DGet (H:Hp) (a:Ta) (y:V) (r:Option V):Prop :=
 (∃ f' k,Rd H a (.dK f')/\y=kV k/\r=aV f' k)∨∃ f' k b,Rd H a (.dT f')/\y=.ref b/\H b=some (.tup (k.map kV))/\r=aV f' k
def DPut (H:Hp) (a:Ta) (y v:V) (H':Hp):Prop :=
 (∃ f' k,H a=some (.dK f')/\y=kV k/\f'.length<TB/\H'=upd H a (.dK (putK f' k v))) ∨
 ∃ f' k b,H a=some (.dT f')/\y=.ref b/\H b=some (.tup (k.map kV))/\f'.length<TB/\H'=upd H a (.dT (putK f' k v))
theorem DGet.k {H:Hp} {a:Ta} {f':List (Key×V)} {k:Key} (e:H a=some (.dK f')):DGet H a (kV k) (aV f' k):=.inl ⟨f',k,.inl e,rfl,rfl⟩
theorem DGet.t {H:Hp} {a b:Ta} {f':List (List Key×V)} {k:List Key} (e:H a=some (.dT f')) (eb:H b=some (.tup (k.map kV))):DGet H a (.ref b) (aV f' k):=.inr ⟨f',k,b,.inl e,rfl,eb,rfl⟩
theorem DPut.t {H:Hp} {a b:Ta} {f':List (List Key×V)} {k:List Key} {v:V} (e:H a=some (.dT f')) (eb:H b=some (.tup (k.map kV))) (hl:f'.length<TB) :
 DPut H a (.ref b) v (upd H a (.dT (putK f' k v))):=.inr ⟨f',k,b,e,rfl,eb,hl,rfl⟩
section
variable {X:Cx} {pins:List (Ta×VH)} {σ:St} {H:Hp} {s:Tj} {a:Ta} {y v:V} {u r:Tc} {o:Option V} {A:Uh} {E:Tc->Tj->Prop}
theorem Inv.big (I:Inv X pins σ H s):Vn<s.heap.objs.size:=by
 have h:Ue<s.heap.objs.size:=(I.mod.glob.keeps I.bk).lt;exact WS (by decide) h
theorem rG {Q:Tc->Tj->Prop} (hu:A.units+1<Vc) (I:Inv X pins σ H s) (g:DGet H a y (some v)) (ry:RelV y u) (h:∀ w' s',Inv X pins σ H s'->RelV v w'->Q w' s') :
 Tx (T6 X.prog X.w) A (Xr (.ref a) u) Q E s:=by
 rcases g with ⟨f',k,e,ey,l⟩ | ⟨f',k,b,e,ey,eb,l⟩
 · subst ey;obtain ⟨z,hd,vs,rel,dd⟩:=me I.hok e;obtain ⟨w',hw,Br⟩:=RelO.some_of (v:=v) (o:=valueAt vs k) (by rw [l];exact rel.val k);exact wpAny_getItem_of (ko ry) dd.mapOf hw (h w' _ (I.tok _) Br)
 · subst ey;cases (show u=T5 b from ry);obtain ⟨z,hd,xs,rel,dd⟩:=mr I.hok e;obtain ⟨w',hw,Br⟩:=RelO.some_of (v:=v) (o:=(W2 xs k).map (·.2)) (by rw [l];exact rel.val k);obtain ⟨p,hp,zX⟩:=T4.mp hw;refine wpAny_getItem_heap (Xj hu) (iH I.hok eb) dd hp ?_;rw [zX];exact h w' _ (I.tok _) Br
theorem xJ {Q:Tc->Tj->Prop} (hu:A.units+1<Vc) (I:Inv X pins σ H s) (g:DGet H a y o) (ry:RelV y u) (h:∀ s',Inv X pins σ H s'->Q (.bool o.isSome) s') :
 Tx (T6 X.prog X.w) A (WN .In u (.ref a)) Q E s:=by
 rcases g with ⟨f',k,e,ey,l⟩ | ⟨f',k,b,e,ey,eb,l⟩
 · subst ey;obtain ⟨z,hd,vs,rel,dd⟩:=me I.hok e;refine wpAny_in_of (ko ry) hd dd.mapOf ?_;rw [<- (rel.val k).isSome_eq,<- l];exact h _ (I.tok _)
 · subst ey;cases (show u=T5 b from ry);obtain ⟨z,hd,xs,rel,dd⟩:=mr I.hok e;refine wpAny_in_heap (Xj hu) (iH I.hok eb) hd dd ?_;have q:=(rel.val k).isSome_eq;rw [YQ] at q;rw [<- q,<- l];exact h _ (I.tok _)
theorem gL {h':UM} {t':Nat} {ob:HO} (I:Inv X pins σ H s) (mu:Mut (H a)) (hs:Vj a s.heap h') (he:∃ q,h'.get? a=some q) (new:ObjOk X.prog X.w (upd H a ob) h' a ob) :
 Inv X pins σ (upd H a ob) { s with heap:=h',toks:=t' } :=
 I.write (x:=a) (e:=a) mu (.inl rfl) (fun b q hb z=>(hs.2 b hb).trans z) he new
theorem uk {P:Tv} {w:TN} {H':Hp} {h':UM} {f':List (Key×V)} {vs:List (Key×Tc)} (z:f'.length<=TB) (hd:(a == Vn)=false) (rel:KV f' vs) (dd:h'.DictOf (aE P w) a vs) :
 ObjOk P w H' h' a (.dK f'):=⟨z,hd,vs,rel,dd⟩
theorem rR {H':Hp} {Q:Unit->Tj->Prop} (hu:A.units+1<Vc) (I:Inv X pins σ H s) (g:DPut H a y v H') (ry:RelV y u) (rv:RelV v r) (h:∀ s',Inv X pins σ H' s'->Q () s') :
 Tx (T6 X.prog X.w) A (setItem (.ref a) u r) Q E s:=by
 rcases g with ⟨f',k,e,ey,l,eH⟩ | ⟨f',k,b,e,ey,eb,l,eH⟩
 · subst ey eH;obtain ⟨z,hd,vs,rel,dd⟩:=vB I.hok e;have hz:vs.length<=TB:=by rw [<- rel.length];exact z
   have hl:(putK f' k v).length<=TB:=by have:=bY f' k v;omega
   refine wpAny_setItem_pairs (hsz:=hz) (ko ry) dd fun h' Bv hs=>h _ ?_;have he:∃ q,h'.get? a=some q:=let ⟨q,_,_,hq,_⟩:=Bv;⟨q,hq⟩
   exact gL I (by rw [e];exact VF) hs he (uk hl hd (rel.put k rv) Bv)
 · subst ey eH;cases (show u=T5 b from ry);obtain ⟨z,hd,xs,rel,dd⟩:=ve I.hok e;have hz:xs.length<=TB:=by rw [<- Tp rel];exact z
   have hl:(putK f' k v).length<=TB:=by have:=bY f' k v;omega
   refine wpAny_setItem_heap (hsz:=hz) (Xj hu) (iH I.hok eb) dd fun h' Bv hs=>h _ ?_;obtain ⟨q,es,ep,hq,h2,h3,h4,_,h5⟩:=Bv;refine gL I (by rw [e];exact VF) hs ⟨q,hq⟩ ⟨hl,hd,_,(rel.put k eb rv).keeps fun c ys ec=>?_,q,es,ep,hq,h2,h3,h4,h5⟩;rw [ak (fJ ec e (fun z=>nomatch z))];exact ec
end
section
variable {X:Cx} {pins:List (Ta×VH)} {σ:St} {H:Hp} {s:Tj} {a:Ta} {f':List (Key×V)} {k:Key} {u:Tc} {A:Uh} {E:Tc->Tj->Prop}
end
def v5 (i:UH):Prop:=∀ ov iv,subscripted i false ov iv=operate [ov,iv] (Xr ov iv)
theorem rn {prog:Tv} {w:TN} {A:Uh} {E:Tc->Tj->Prop} {s:Tj} {env:Env} {value slice:UH} {pos:Xn} {T id:String} {Q:Tc->Tj->Prop}
 (hl:W0 (.type T) "__getitem__"=pure (some (.builtin id))) (hs:v5 slice)
 (h:Tx (T6 prog w) A (VS value env) (fun o xT=>Tx (T6 prog w) A (VS slice env) (fun i yB=>yB.TypeIs o T/\Tx (T6 prog w) A (Xr o i) Q E yB) E xT) E s) :
 Tx (T6 prog w) A (VS (.Subscript value slice pos) env) Q E s:=by
 refine Subscript_ (VC h (fun o xT yi=>VC yi (fun i yB yR=>?_) fun _ _ x=>x) fun _ _ x=>x);obtain ⟨hT,yR⟩:=yR;unfold subscriptTail;refine S7 ?_;rw [getitemInPython_of_ne hT.not_modules];refine S7 (U2 hT hl ?_)
 have fin:Tx (T6 prog w) A (subscripted slice false o i) (fun r zR=>Tx (T6 prog w) A (letTemporaryGo value o r >>= fun _=>pure r) Q E zR) E yB:=by
  rw [hs o i];exact wpAny_operating (VC yR (fun r zR Am=>S7 (wpAny_letTemporaryGo (Tg Am))) fun _ _ x=>x)
 first
  | exact Tg (S7 fin)
  | exact S7 (Tg (S7 fin))
  | exact S7 fin
theorem o8 {X:Cx} {pins:List (Ta×VH)} {σ:St} {H:Hp} {s:Tj} {a:Ta} {y:V} {o:Option V} (I:Inv X pins σ H s) (g:DGet H a y o):s.TypeIs (.ref a) "dict":=by
 rcases g with ⟨f',k,e,_,_⟩ | ⟨f',k,b,e,_,_,_⟩
 · obtain ⟨_,_,vs,_,dd⟩:=me I.hok e;exact dd.typeIs
 · obtain ⟨_,_,xs,_,dd⟩:=mr I.hok e;exact dd.typeIs
def wV (td ty:TE):TE:=fun σ H Q=>td σ H fun x H1=>ty σ H1 fun y H2=>∃ a v,x=.ref a/\DGet H2 a y (some v)/\Q v H2
def xz (ty td:TE):TE:=fun σ H Q=>ty σ H fun y H1=>td σ H1 fun x H2=>∃ a o,x=.ref a/\DGet H2 a y o/\Q (.bl o.isSome) H2
def wu (td ty tv:TE):TS:=fun D σ H=>tv σ H fun v H1=>td σ H1 fun x H2=>ty σ H2 fun y H3=>∃ a H4,x=.ref a/\DPut H3 a y v H4/\D.nx σ H4
section
variable {X:Cx} {o i e value:UH} {pos pos' J5:Xn} {td ty tv:TE}
theorem m5 (hu:X.A.units+1<Vc) (ho:PE X o td) (hi:PE X i ty) (hs:v5 i):PE X (.Subscript o i pos) (wV td ty):=by
 intro pins s σ H Q I h;refine rn PySem.F.slot_dict_getitem.lookup hs (thn (ho pins s σ H _ I h) fun u s1 ⟨x,H1,I1,rx,q1⟩=>thn (hi pins s1 σ H1 _ I1 q1) fun iv s2 ⟨y,H2,I2,ry,a,v,ex,g,q2⟩=>?_);subst ex;obtain rfl:u=T5 a:=rx;exact ⟨o8 I2 g,rG hu I2 g ry fun w' s3 I3 Br=>⟨v,H2,I3,Br,q2⟩⟩
theorem wd (hu:X.A.units+1<Vc) (hi:PE X i ty) (ho:PE X o td):PC X .In i o (xz ty td):=by
 intro pins s σ H Q I h;refine thn (hi pins s σ H _ I h) fun iv s1 ⟨y,H1,I1,ry,q1⟩=>thn (ho pins s1 σ H1 _ I1 q1) fun u s2 ⟨x,H2,I2,rx,a,ov,ex,g,q2⟩=>?_;subst ex;obtain rfl:u=T5 a:=rx;exact xJ hu I2 g ry fun s3 I3=>⟨.bl ov.isSome,H2,I3,rfl,q2⟩
theorem uF (hu:X.A.units+1<Vc) (ho:PE X o td) (hi:PE X i ty) (hv:PE X value tv) (hs:swapsWith value (some (.Subscript o i pos')) pos.line X.env=pure false) :
 PS X (.Assign [.Subscript o i pos'] value pos) (wu td ty tv):=by
 intro pins s σ H D I h;refine wpAny_Assign_Subscript (thn (hv pins s σ H _ I h) fun r s1 ⟨v,H1,I1,rv,q1⟩=>thn (ho pins s1 σ H1 _ I1 q1) fun u s2 ⟨x,H2,I2,rx,q2⟩=>thn (hi pins s2 σ H2 _ I2 q2) fun iv s3 ⟨y,H3,I3,ry,a,H4,ex,g,q3⟩=>?_) hs;subst ex;obtain rfl:u=T5 a:=rx;exact rR hu I3 g ry rv fun s4 I4=>⟨σ,H4,I4,q3⟩
end
theorem oC {P:Tv} {w:TN} {H:Hp} (h:UM) (hb:Vn<h.objs.size):ObjOk P w H (h.push { cls:=.type "dict",data:=.dict #[] }) h.objs.size (.dK []) :=
 ⟨TZ _,beq_eq_false_iff_ne.mpr (Vi (T9 hb)),[],.nil,Heap.DictOf.new h⟩
theorem oW {P:Tv} {w:TN} {H:Hp} (h:UM) (hb:Vn<h.objs.size):ObjOk P w H (h.push { cls:=.type "dict",data:=.dict #[] }) h.objs.size (.dT []) :=
 ⟨TZ _,beq_eq_false_iff_ne.mpr (Vi (T9 hb)),[],.nil,_,#[],0,Tt _ rfl,⟨rfl,rfl,rfl⟩,rfl,rfl,XI⟩
def wa:TE:=fun _ H Q=>∀ p,H p=none->Q (.ref p) (upd H p (.dK []))
def vS:TE:=fun _ H Q=>∀ p,H p=none->Q (.ref p) (upd H p (.dT []))
section
variable {X:Cx} {pos:Xn}
theorem tM:PE X (.Dict [] [] pos) wa:=fun pins s σ H Q I h =>
 wpAny_Dict_empty ⟨.ref s.heap.objs.size,_,I.laid (a:=s.heap.objs.size) (o:=.dK []) (t':=s.toks) (fun _ _ q=>Tf _ q) (Td _) (oC s.heap I.big),rfl,h _ (I.hok.fresh (Td _))⟩
theorem tN:PE X (.Dict [] [] pos) vS:=fun pins s σ H Q I h =>
 wpAny_Dict_empty ⟨.ref s.heap.objs.size,_,I.laid (a:=s.heap.objs.size) (o:=.dT []) (t':=s.toks) (fun _ _ q=>Tf _ q) (Td _) (oW s.heap I.big),rfl,h _ (I.hok.fresh (Td _))⟩
end
def pS:List (TE×TE)->St->Hp->(List (V×V)->Hp->Prop)->Prop
 | [],_,H,Q=>Q [] H
 | (tk,tv)::r,σ,H,Q=>tk σ H fun x H1=>tv σ H1 fun y H2=>pS r σ H2 fun ps H3=>Q ((x,y)::ps) H3
abbrev VV:List (V×V)->List (Tc×Tc)->Prop:=T3 fun p q=>RelV p.1 q.1/\RelV p.2 q.2
def PPs (X:Cx) (pos:Xn) (keys:List (Option UH)) (values:List UH) (C5:List (TE×TE)):Prop :=
 ∀ (pins:List (Ta×VH)) (s:Tj) (σ:St) (H:Hp) (Q:List (V×V)->Hp->Prop),Inv X pins σ H s->pS C5 σ H Q →
   Tx (T6 X.prog X.w) X.A (evalPairs (pairTrees keys values X.env pos)) (fun vs s'=>∃ ps H',Inv X pins σ H' s'/\VV ps vs/\Q ps H') X.xe s
theorem rf {X:Cx} {pos:Xn}:PPs X pos [] [] []:=fun pins s σ H Q I h=>pairTrees_nil_walk ⟨[],H,I,.nil,h⟩
theorem ox {X:Cx} {pos:Xn} {k v:UH} {ks:List (Option UH)} {vs:List UH} {tk tv:TE} {C5:List (TE×TE)} (hk:PE X k tk) (hv:PE X v tv) (hr:PPs X pos ks vs C5) :
 PPs X pos (some k::ks) (v::vs) ((tk,tv)::C5):=fun pins s σ H Q I h =>
 pairTrees_cons_walk (thn (hk pins s σ H _ I h) fun u s1 ⟨x,H1,I1,rx,q1⟩=>thn (hv pins s1 σ H1 _ I1 q1) fun w2 s2 ⟨y,H2,I2,ry,q2⟩ =>
  thn (hr pins s2 σ H2 _ I2 q2) fun ws s3 ⟨ps,H3,I3,rel,q3⟩=>⟨(x,y)::ps,H3,I3,.cons ⟨rx,ry⟩ rel,q3⟩)
def jw (f' more:List (Key×V)):List (Key×V):=more.foldl (fun acc kv=>putK acc kv.1 kv.2) f'
theorem KV.merge:∀ {more:List (Key×V)} {rs:List (Key×Tc)} {f':List (Key×V)} {vs:List (Key×Tc)},KV more rs->KV f' vs->KV (jw f' more) (merged vs rs):=by
 intro more rs f' vs r;unfold KV at r;induction r generalizing f' vs with
 | nil=>intro q;exact q
 | @cons p q ps qs h t ih =>
   intro r0
   have e:KV (putK f' p.1 p.2) (stored vs q.1 q.2):=by
    have:=r0.put p.1 h.2;rw [<- h.1];exact this
   exact ih e
theorem g8:∀ (more f':List (Key×V)),(jw f' more).length<=f'.length+more.length
 | [],f'=>by show f'.length<=f'.length+0;omega
 | p::r,f'=>by
   have h1:=g8 r (putK f' p.1 p.2);have h2:=bY f' p.1 p.2;show (jw (putK f' p.1 p.2) r).length<=_;rw [To];omega
theorem kU {P:Tv} {w:TN}:∀ {f':List (Key×V)} {ws:List (Tc×Tc)},VV (f'.map fun kv=>(kV kv.1,kv.2)) ws->∃ rs,Carries (aE P w) ws rs/\KV f' rs
 | [],_,r=>by rw [VI] at r;cases r;exact ⟨[],VF,.nil⟩
 | p::f',_,r=>by
   rw [Up] at r;cases r with
   | @cons a b as bs h t =>
     obtain ⟨rs,c,q⟩:=kU (P:=P) (w:=w) t;obtain ⟨b1,b2⟩:=b;exact ⟨(p.1,b2)::rs,⟨ko h.1,rfl,c⟩,.cons ⟨rfl,h.2⟩ q⟩
def w8 (C5:List (TE×TE)):TE:=fun σ H Q=>∀ p,H p=none->pS C5 σ (upd H p (.dK [])) fun ps H2=>H2 p=some (.dK [])/\∃ f':List (Key×V),ps=f'.map (fun kv=>(kV kv.1,kv.2))/\f'.length<=15/\Q (.ref p) (upd H2 p (.dK (jw [] f')))
theorem rh {X:Cx} {pos:Xn} {keys:List (Option UH)} {values:List UH} {C5:List (TE×TE)} (h:PPs X pos keys values C5) (xY:keys.all (·.isSome)=true) (hl:keys.length=values.length) (h0:keys≠[])
 (PJ:keys.length<=15):PE X (.Dict keys values pos) (w8 C5):=by
 intro pins s σ H Q I q;have hn:=I.hok.fresh (Td s.heap.objs.size);have I1:=I.laid (a:=s.heap.objs.size) (o:=.dK []) (h':=s.heap.push { cls:=.type "dict",data:=.dict #[] }) (t':=s.toks) (fun _ _ q=>Tf _ q) (Td _) (oC s.heap I.big);refine wpAny_Dict_walk (knd:=aE X.prog X.w) xY hl h0 PJ (thn (h pins _ σ _ _ I1 (q _ hn)) fun ws s2 ⟨ps,H2,I2,rel,e,f',ep,lk,q2⟩=>?_);subst ep;obtain ⟨rs,c,rk⟩:=kU (P:=X.prog) (w:=X.w) rel;obtain ⟨z,hd,R1,r0,dd⟩:=vB I2.hok e;cases r0;refine ⟨rs,c,dd,fun h' Bv hs=>⟨.ref s.heap.objs.size,_,?_,rfl,q2⟩⟩
 have hz:(jw [] f').length<=TB:=by
  have h1:=g8 f' [];rw [V9] at h1;rw [Xl];omega
 have he:∃ q,h'.get? s.heap.objs.size=some q:=let ⟨q,_,_,hq,_⟩:=Bv;⟨q,hq⟩
 exact gL I2 (by rw [e];exact VF) hs he (uk hz hd (rk.merge .nil) Bv)
structure M2 (X:Cx) (o:UH) (m:TY) (apos:Xn) (e f:UH) (yh:Xn):Prop where
 base:attributeBase o m X.env (VS o X.env)=VS o X.env
 few:((Xv yh (Uu [e,f] X.env)).all (fun x=>!x.1) && (backToKw yh (keywordEach [] X.env)).all (fun x=>x.1.isSome)
  && decide (([e,f]:List UH).length+([]:List Keyword).length+(if ([]:List Keyword).isEmpty then 0 else 1)<30))=true
 line:(apos.endLine == yh.line)=true
 trees:Xv yh (Uu [e,f] X.env)=[(false,VS e X.env),(false,VS f X.env)]
def IsD (H:Hp) (a:Ta):Prop:=(∃ f',Rd H a (.dK f'))∨∃ f',Rd H a (.dT f')
theorem vF {X:Cx} {pins:List (Ta×VH)} {σ:St} {H:Hp} {s:Tj} {a:Ta} (I:Inv X pins σ H s) (d:IsD H a) :
 s.TypeIs (.ref a) "dict"/\(∀ b,T5 a=.ref b->∃ ob,s.heap.get? b=some ob/\ob.dict=none)/\(a == Vn)=false:=by
 rcases d with ⟨f',e⟩ | ⟨f',e⟩
 · obtain ⟨_,hd,vs,_,dd⟩:=me I.hok e;refine ⟨dd.typeIs,fun b q=>?_,hd⟩;cases q;obtain ⟨ob,_,_,h1,h2,_⟩:=dd;exact ⟨ob,h1,h2.2.1⟩
 · obtain ⟨_,hd,xs,_,dd⟩:=mr I.hok e;refine ⟨dd.typeIs,fun b q=>?_,hd⟩;cases q;obtain ⟨ob,_,_,h1,h2,_⟩:=dd;exact ⟨ob,h1,h2.2.1⟩
section
variable {X:Cx} {pins:List (Ta×VH)} {σ:St} {H:Hp} {s:Tj} {a:Ta} {y d:V} {u r:Tc} {o:Option V} {A:Uh} {E:Tc->Tj->Prop}
theorem wj {Q:Tc->Tj->Prop} (hu:A.units+1<Vc) (I:Inv X pins σ H s) (g:DGet H a y o) (ry:RelV y u) (rd:RelV d r) (h:∀ w' s',Inv X pins σ H s'->RelV (o.getD d) w'->Q w' s') :
 Tx (T6 X.prog X.w) A (call (.builtin "dict.get") [.ref a,u,r]) Q E s:=by
 rcases g with ⟨f',k,e,ey,l⟩ | ⟨f',k,b,e,ey,eb,l⟩
 · subst ey;obtain ⟨z,hd,vs,rel,dd⟩:=me I.hok e;refine call_meetsIn WA dd.typeIs X9 (X6 _ _ _) (meets_dict_get_default (aE X.prog X.w) a (ko ry) hd r) ⟨_,dd.mapOf,h _ _ (I.tok _) ?_⟩;rw [l];exact (rel.val k).getD rd
 · subst ey;cases (show u=T5 b from ry);obtain ⟨z,hd,xs,rel,dd⟩:=mr I.hok e;refine call_meetsIn WA dd.typeIs X9 (X6 _ _ _) (meetsH_dict_get_default (Yo (aE X.prog X.w)) a b hd r) ⟨Xj hu,k,xs,iH I.hok eb,dd,h _ _ (I.tok _) ?_⟩;rw [l];exact (rel.val k).getD rd
end
def tL (td ty tx:TE):TE:=fun σ H Q=>td σ H fun x H1=>∃ a,x=.ref a/\IsD H1 a/\ty σ H1 fun y H2=>tx σ H2 fun z H3=>∃ o,DGet H3 a y o/\Q (o.getD z) H3
section
variable {X:Cx} {o e f:UH} {apos yh:Xn} {td ty tx:TE}
theorem tE (hu:X.A.units+1<Vc) (ho:PE X o td) (he:PE X e ty) (hf:PE X f tx) (m:M2 X o "get" apos e f yh):PE X (.Call (.Attribute o "get" apos) [e,f] [] yh) (tL td ty tx):=by
 intro pins s σ H Q I h;refine wpAny_Call_method m.base m.few m.line X4 WA PySem.F.type_dict_get (thn (ho pins s σ H _ I h) fun u s1 ⟨x,H1,I1,rx,a,ex,d,q1⟩=>?_);subst ex;obtain rfl:u=T5 a:=rx;obtain ⟨t1,t2,_⟩:=vF I1 d;refine ⟨t1,t2,?_⟩;rw [m.trees]
 refine WH rfl (XM (U6 (thn (he pins s1 σ H1 _ I1 q1) fun iv s2 ⟨y,H2,I2,ry,q2⟩ =>
  U6 (thn (hf pins s2 σ H2 _ I2 q2) fun fv s3 ⟨z,H3,I3,rz,ov,g,q3⟩=>VD ?_))))
 exact wj hu I3 g ry rz fun w' s4 I4 Br=>⟨_,H3,I4,Br,q3⟩
end
section
variable {X:Cx} {pins:List (Ta×VH)} {σ:St} {H:Hp} {s:Tj} {a:Ta} {f':List (Key×V)} {A:Uh} {E:Tc->Tj->Prop}
end
section
variable {X:Cx} {pins:List (Ta×VH)} {σ:St} {H:Hp} {s:Tj} {a:Ta} {y:V} {u:Tc} {A:Uh} {E:Tc->Tj->Prop}
end
end L2
namespace L2
open PySem PySem.Spec PyProof.Rows
inductive u7 (K:S8) (T:String) (xs:List V) (H:Hp) (Q:VK):Prop
 | mk (x:_) (b:_) (t:_) (yd:xs=[x,.ty T]) (ye:iP K H x t) (yj:WJ K t (.type T)=some b) (yq:Q (.bl b) H):u7 K T xs H Q
def wM (K:S8) (T:String):List V->Hp->VK->Prop:=u7 K T
theorem cE {X:Cx} {T:String}:gR X (.builtin "isinstance") (wM X.K T):=by
 intro pins s σ H xs us Q I r h;obtain ⟨x,b,t,e,ty,k,q⟩:=h;exact uf (T:=T) (b:=b) (t:=t) pins s σ H xs us Q I r ⟨x,e,ty,k,q⟩
theorem ud {α:Type} {js:List (Option Nat)} {g:TG} {tt:TT} {te:TE} {σ:St} {J:It} {H:Hp} {xs:List V} {fin:Ta->Hp->Prop} (zs:List α) (p:α->Bool) (f:α->V) (hz:zs.length=xs.length) (hn:xs.length<=1000000)
 (BP:∀ i H2,Same H H2->i<xs.length->J.go i H2) (yY:∀ H2,Same H H2->J.stop xs.length H2) (zT:∀ (i:Nat) H2 x H3,Same H H2->i<xs.length->J.yld i H2 x H3->H3=H2/\xs[i]?=some x)
 (hb:∀ (i:Nat) x z H2 (R:VK) (R0:Hp->Prop),xs[i]?=some x->zs[i]?=some z->Same H H2->(p z=true->R (f z) H2)->(p z=false->R0 H2)->g x (cσ js σ) H2 fun ym H3=>tt ym H3 fun b H4=>if b=true then te ym H4 R else R0 H4)
 (q:∀ D,H D=none->fin D (upd H D (.lst ((zs.filter p).map f)))) :
 ∀ D,H D=none->∃ (n:Nat) (W:Nat->Hp->Prop),W 0 (upd H D (.lst []))/\fN js g tt te σ J D n W fun H'=>fin D H':=by
 intro D hD;refine ⟨xs.length,fun i H2=>i<=xs.length/\H2=upd H D (.lst (((zs.take i).filter p).map f)),⟨TZ _,by simp⟩,?_⟩;rintro i H2 ⟨hi,rfl⟩;have sm:∀ o,Same H (upd H D o):=fun o=>ad hD o;by_cases h:i=xs.length
 · left;subst h;refine ⟨yY _ (sm _),?_⟩;rw [<- hz,VG];exact q D hD
 · right;have yA:i<xs.length:=by omega
   refine ⟨yA,BP i _ (sm _) yA,fun x H1 hy=>?_⟩;obtain ⟨rfl,hx⟩:=zT i _ x H1 (sm _) yA hy;have Kj:i<zs.length:=by omega
   have e1:zs[i]?=some zs[i]:=S9 Kj
   have e2:(zs.take (i+1)).filter p=(zs.take i).filter p++(if p zs[i]=true then [zs[i]] else []):=by
    rw [UN,e1,Xb];show _++List.filter p [zs[i]]=_;rw [Vf,Yk]
   have hlen:(((zs.take i).filter p).map f).length<=1000000:=by
    rw [S6];have:=V3 p (zs.take i);rw [Uc] at this;omega
   refine hb i x zs[i] _ _ _ hx e1 (sm _) (fun hp=>⟨_,ab,XG hlen (by decide),yA,?_⟩) (fun hp=>⟨yA,?_⟩)
   · rw [j0,e2,if_pos hp,Tu];rfl
   · rw [e2,if_neg (by rw [hp];exact TH),Ui]
theorem ig {α:Type} {K:S8} {a:Ta} {js:List (Option Nat)} {g:TG} {tt:TT} {te:TE} {σ:St} {H:Hp} {xs:List V} {fin:Ta->Hp->Prop} (zs:List α) (p:α->Bool) (f:α->V) (hS:SqL K H a xs) (hz:zs.length=xs.length) (hn:xs.length<=1000000)
 (hb:∀ (i:Nat) x z H2 (R:VK) (R0:Hp->Prop),xs[i]?=some x->zs[i]?=some z->Same H H2->(p z=true->R (f z) H2)->(p z=false->R0 H2)->g x (cσ js σ) H2 fun ym H3=>tt ym H3 fun b H4=>if b=true then te ym H4 R else R0 H4)
 (q:∀ D,H D=none->fin D (upd H D (.lst ((zs.filter p).map f)))) :
 ∀ D,H D=none->∃ (n:Nat) (W:Nat->Hp->Prop),W 0 (upd H D (.lst []))/\fN js g tt te σ (Itl K a) D n W fun H'=>fin D H' :=
 ud zs p f hz hn (fun i H2 s hi=>⟨xs,xs[i],s.seq hS,S9 hi⟩) (fun H2 s=>⟨xs,s.seq hS,Td _⟩) (fun i H2 x H3 s hi hy=>⟨hy.1,hy.2 xs (s.seq hS)⟩) hb q
variable {K:S8}
theorem pV:WJ K (.type "tuple") (.type "tuple")=some true:=rfl
theorem tJ:WJ K (.type "str") (.type "str")=some true:=rfl
theorem pH:WJ K (.type "list") (.type "list")=some true:=rfl
end L2
namespace BB
open PySem L2
set_option genInjectivity true in
inductive Dv where
 | int (i:Int)
 | str (x:TY)
 | tup (ds:List Dv)
mutual
def Dv.deep:Dv->Nat
 | .int _=>0
 | .str _=>0
 | .tup ds=>cS ds+1
def cS:List Dv->Nat
 | []=>0
 | d::ds=>max d.deep (cS ds)
end
mutual
def Dv.tot:Dv->Nat
 | .int _=>1
 | .str _=>1
 | .tup ds=>uK ds+1
def uK:List Dv->Nat
 | []=>0
 | d::ds=>d.tot+uK ds
end
mutual
def DAt (H:Hp):Dv->V->Prop
 | .int i,v=>v=.int i
 | .str x,v=>v=.str x
 | .tup ds,v=>∃ a vs,v=.ref a/\H a=some (.tup vs)/\DAts H ds vs
def DAts (H:Hp):List Dv->List V->Prop
 | [],vs=>vs=[]
 | d::ds,vs=>∃ v r,vs=v::r/\DAt H d v/\DAts H ds r
end
theorem DAts.nil {H:Hp}:DAts H [] []:=by rw [DAts]
theorem DAts.cons {H:Hp} {d:Dv} {ds:List Dv} {v:V} {vs:List V} (h1:DAt H d v) (h2:DAts H ds vs):DAts H (d::ds) (v::vs):=by rw [DAts];exact ⟨v,vs,rfl,h1,h2⟩
theorem DAts.length {H:Hp}:∀ {ds:List Dv} {vs:List V},DAts H ds vs->vs.length=ds.length
 | [],vs,h=>by rw [DAts] at h;subst h;rfl
 | d::ds,vs,h=>by
   rw [DAts] at h;obtain ⟨v,r,rfl,h1,h2⟩:=h;rw [To,To,h2.length]
theorem DAts.at {H:Hp}:∀ {ds:List Dv} {vs:List V} {i:Nat} {d:Dv},DAts H ds vs->ds[i]?=some d->∃ v,vs[i]?=some v/\DAt H d v
 | [],vs,i,d,h,e=>by simp at e
 | d0::ds,vs,i,d,h,e=>by
   rw [DAts] at h;obtain ⟨v,r,rfl,h1,h2⟩:=h;cases i with
   | zero=>simp at e;subst e;exact ⟨v,rfl,h1⟩
   | succ i =>
     obtain ⟨u,g1,g2⟩:=h2.at (i:=i) (by simpa using e);exact ⟨u,by simpa using g1,g2⟩
theorem fe:∀ {ds:List Dv} {i:Nat} {d:Dv},ds[i]?=some d->d.deep<=cS ds
 | [],i,d,e=>by simp at e
 | d0::ds,i,d,e=>by
   rw [cS];cases i with
   | zero=>simp at e;subst e;omega
   | succ i =>
     have:=fe (ds:=ds) (i:=i) (by simpa using e);omega
theorem nN:∀ {ds:List Dv} {i:Nat} {d:Dv},ds[i]?=some d->d.tot<=uK ds
 | [],i,d,e=>by simp at e
 | d0::ds,i,d,e=>by
   rw [uK];cases i with
   | zero=>simp at e;subst e;omega
   | succ i =>
     have:=nN (ds:=ds) (i:=i) (by simpa using e);omega
theorem Dv.tot_pos (d:Dv):1<=d.tot:=by
 cases d with
 | int i=>rw [Dv.tot];omega
 | str x=>rw [Dv.tot];omega
 | tup ds=>rw [Dv.tot];omega
mutual
def Th.dv:Th->Dv
 | .knot n ks=>.tup (.str n::dvs ks)
 | .call s k=>.tup [.str q,.int s,.int k]
def dvs:List Th->List Dv
 | []=>[]
 | t::ts=>t.dv::dvs ts
end
mutual
theorem At.dv {H:Hp}:∀ {t:Th} {a:Ta},At H t a->DAt H t.dv (.ref a)
 | .knot n ks,a,h=>by
   rw [At] at h;obtain ⟨_,as,h1,h2⟩:=h;rw [Th.dv,DAt];exact ⟨a,_,rfl,h1,.cons (by rw [DAt]) (Ats.dvs h2)⟩
 | .call s k,a,h=>by
   rw [At] at h;rw [Th.dv,DAt];exact ⟨a,_,rfl,h,.cons (by rw [DAt]) (.cons (by rw [DAt]) (.cons (by rw [DAt]) .nil))⟩
theorem Ats.dvs {H:Hp}:∀ {ts:List Th} {as:List Ta},Ats H ts as->DAts H (dvs ts) (as.map V.ref)
 | [],as,h=>by rw [Ats] at h;subst h;rw [BB.dvs];exact .nil
 | t::ts,as,h=>by
   rw [Ats] at h;obtain ⟨a,r,rfl,h1,h2⟩:=h;rw [BB.dvs,Up];exact .cons (At.dv h1) (Ats.dvs h2)
end
mutual
theorem Th.dv_deep:∀ t:Th,t.dv.deep<=t.tall
 | .knot n ks=>by
   have:=iM ks;rw [Th.dv,Dv.deep,cS,Dv.deep,Th.tall];omega
 | .call s k=>by rw [Th.dv,Th.tall];simp [Dv.deep,cS]
theorem iM:∀ ts:List Th,cS (dvs ts)<=bD ts
 | []=>by rw [dvs,cS];exact TZ _
 | t::ts=>by
   have:=t.dv_deep;have:=iM ts;rw [dvs,cS,bD];omega
end
theorem lK {K:S8} {H:Hp} {a b:Ta} {xs ys:List V} {Q:VK} (ha:H a=some (.tup xs)) (hb:H b=some (.tup ys)) (hz:xs.length+ys.length<=1000000) (q:∀ p H',L2.Same H H'->H' p=some (.tup (xs++ys))->Q (.ref p) H'):kb K (.ref a) (.ref b) H Q:=by
 refine ⟨a,b,xs,ys,rfl,rfl,SqT.of ha,SqT.of hb,ai hz,fun e=>?_,fun _ e=>?_,fun _ _ p hp=>?_⟩
 · exact q b H (.refl _) (by rw [e];exact hb)
 · exact q a H (.refl _) (by rw [e,Ui];exact ha)
 · exact q p _ (ad hp _) ab
mutual
/-- all Ny with Nz places,a knot ahead of its kids -/
def Th.pl (pre:List Int):Th->List (List Int×Th)
 | .knot n ks=>(pre,.knot n ks)::pls pre 0 ks
 | .call s k=>[(pre,.call s k)]
def pls (pre:List Int) (i:Int):List Th->List (List Int×Th)
 | []=>[]
 | t::ts=>t.pl (pre++[i])++pls pre (i+1) ts
end
theorem Th.pl_eq (pre:List Int) (t:Th):t.pl pre=(pre,t)::pls pre 0 t.kids:=by
 cases t with
 | knot n ks=>rw [Th.pl];rfl
 | call s k=>rw [Th.pl];simp [Th.kids,pls]
mutual
theorem Th.pl_len (pre:List Int):∀ t:Th,(t.pl pre).length=t.size
 | .knot n ks=>by rw [Th.pl,Th.size,To,qZ pre 0 ks]
 | .call s k=>by rw [Th.pl,Th.size];rfl
theorem qZ (pre:List Int) (i:Int):∀ ts:List Th,(pls pre i ts).length=aq ts
 | []=>by rw [pls,aq];rfl
 | t::ts=>by rw [pls,aq,TC,Th.pl_len _ t,qZ pre (i+1) ts]
end
def szP:List (List Int×Th)->Nat
 | []=>0
 | p::ps=>p.2.size+szP ps
def plP:List (List Int×Th)->List (List Int×Th)
 | []=>[]
 | p::ps=>p.2.pl p.1++plP ps
theorem cD:∀ a b,szP (a++b)=szP a+szP b
 | [],b=>by simp [szP]
 | p::a,b=>by rw [Vr,szP,szP,cD a b,XZ]
theorem j1 (a:List (List Int×Th)):szP a.reverse=szP a:=by
 induction a with
 | nil=>rfl
 | cons x xs ih=>rw [UA,cD,ih,szP,szP,szP];omega
theorem lb:∀ a b,plP (a++b)=plP a++plP b
 | [],b=>by simp [plP]
 | p::a,b=>by rw [Vr,plP,plP,lb a b,UB]
theorem rq:∀ a,(plP a).length=szP a
 | []=>rfl
 | p::a=>by rw [plP,szP,TC,Th.pl_len,rq a]
theorem nO:∀ a,a.length<=szP a
 | []=>TZ _
 | p::a=>by
   have:=p.2.size_pos;have:=nO a;rw [To,szP];omega
def cR (pre:List Int) (i:Int):List Th->List (List Int×Th)
 | []=>[]
 | t::ts=>(pre++[i],t)::cR pre (i+1) ts
theorem f8 (pre:List Int) (i:Int):∀ ts,(cR pre i ts).length=ts.length
 | []=>rfl
 | t::ts=>by rw [cR,To,To,f8 pre (i+1) ts]
theorem oZ (pre:List Int) (i:Int):∀ ts,plP (cR pre i ts)=pls pre i ts
 | []=>by rw [cR,plP,pls]
 | t::ts=>by rw [cR,plP,pls,oZ pre (i+1) ts]
theorem iT (pre:List Int) (i:Int):∀ ts,szP (cR pre i ts)=aq ts
 | []=>by rw [cR,szP,aq]
 | t::ts=>by rw [cR,szP,aq,iT pre (i+1) ts]
theorem kw (pre:List Int):∀ (i:Int) (ts:List Th) (j:Nat) (t:Th),ts[j]?=some t->(cR pre i ts)[j]?=some (pre++[i+j],t)
 | i,[],j,t,e=>by simp at e
 | i,u::ts,0,t,e=>by simp at e;subst e;rw [cR];simp
 | i,u::ts,j+1,t,e=>by
   rw [cR,Uy,kw pre (i+1) ts j t (by simpa using e)];have:i+1+(j:Int)=i+((j+1:Nat):Int):=by omega
   rw [this]
theorem kI (pre:List Int):∀ (i:Int) (ts:List Th) (p:List Int×Th),p∈cR pre i ts->p.1.length=pre.length+1/\p.2∈ts
 | i,[],p,h=>by rw [cR] at h;cases h
 | i,u::ts,p,h=>by
   rw [cR] at h;rcases TF.mp h with rfl | h
   · exact ⟨by simp,T1 ..⟩
   · have:=kI pre (i+1) ts p h;exact ⟨this.1,TQ _ this.2⟩
theorem P2.reverse {α β:Type} {F:α->β->Prop}:∀ {a:List α} {b:List β},T3 F a b->T3 F a.reverse b.reverse
 | _,_,.nil=>.nil
 | _,_,.cons r t=>by
   rw [UA,UA];exact P2.append (P2.reverse t) (.cons r .nil)
theorem P2.snoc_inv {α β:Type} {F:α->β->Prop} {a:List α} {b:List β} {y:β} (h:T3 F a (b++[y])):∃ us x,a=us++[x]/\T3 F us b/\F x y:=by
 have r:=P2.reverse h;rw [UY,List.reverse_singleton,List.singleton_append] at r;cases e:a.reverse with
 | nil=>rw [e] at r;cases r
 | cons x us =>
   rw [e] at r;cases r with
   | cons h1 h2 =>
     refine ⟨us.reverse,x,?_,?_,h1⟩
     · rw [<- UA,<- e,Vq]
     · have:=P2.reverse h2;rw [Vq] at this;exact this
theorem nz {t u:Th} (h:u∈t.kids):u.tall+1<=t.tall:=by
 have:=bW h;rw [t.tall_eq];omega
def Th.sub:Th->List Int->Option Th
 | t,[]=>some t
 | t,i::r=>if 0<=i then (match t.kids[i.toNat]? with | some u=>u.sub r | none=>none) else none
termination_by _ p=>p.length
theorem iU (t:Th):t.sub []=some t:=by rw [Th.sub]
theorem n8 {t u:Th} {i:Int} {r:List Int} (h0:0<=i) (h:t.kids[i.toNat]?=some u):t.sub (i::r)=u.sub r:=by rw [Th.sub,if_pos h0,h]
mutual
theorem ui:∀ (t:Th) (pre p:List Int) (u:Th),(p,u)∈t.pl pre->∃ r,p=pre++r/\t.sub r=some u/\r.length+u.tall<=t.tall/\u.size<=t.size
 | .knot n ks,pre,p,u,h=>by
   rw [Th.pl] at h;rcases TF.mp h with e | h
   · cases e;exact ⟨[],by simp,iU _,by simp,Td _⟩
   · obtain ⟨j,v,r,h1,rfl,h3,h4,h5,h6,h7⟩:=rA ks pre 0 p u h;refine ⟨(0+(j:Int))::r,by simp,?_,?_,?_⟩
     · rw [n8 (u:=v) (by omega) (by rw [show (0+(j:Int)).toNat=j by omega];exact h1)];exact h3
     · rw [Th.tall,To];omega
     · rw [Th.size];omega
 | .call s k,pre,p,u,h=>by
   rw [Th.pl] at h;have e:(p,u)=(pre,Th.call s k):=by simpa using h
   cases e;exact ⟨[],by simp,iU _,by simp,Td _⟩
theorem rA:∀ (ts:List Th) (pre:List Int) (i:Int) (p:List Int) (u:Th),(p,u)∈pls pre i ts->∃ (j:Nat) (v:Th) (r:List Int),ts[j]?=some v/\p=pre++(i+(j:Int))::r/\v.sub r=some u/\r.length+u.tall<=v.tall/\v.tall<=bD ts/\u.size<=v.size/\v.size<=aq ts
 | [],pre,i,p,u,h=>by rw [pls] at h;cases h
 | t::ts,pre,i,p,u,h=>by
   rw [pls] at h;rcases Ul.mp h with h | h
   · obtain ⟨r,rfl,h1,h2,h3⟩:=ui t (pre++[i]) p u h;exact ⟨0,t,r,rfl,by simp,h1,h2,by rw [bD];omega,h3,by rw [aq];omega⟩
   · obtain ⟨j,v,r,h1,rfl,h3,h4,h5,h6,h7⟩:=rA ts pre (i+1) p u h;refine ⟨j+1,v,r,by simpa using h1,?_,h3,h4,by rw [bD];omega,h6,by rw [aq];omega⟩;have:i+1+(j:Int)=i+((j+1:Nat):Int):=by omega
     rw [this]
end
theorem aQ:∀ {ts:List Th} {t:Th},t∈ts->t.size<=aq ts
 | u::ts,t,h=>by
   rw [aq];rcases TF.mp h with rfl | h
   · omega
   · have:=aQ h;omega
end BB
namespace BB
open PySem L2
section
variable {ext:Th->List V} {H H':Hp} {t:Th} {a:Ta} {ts:List Th} {es:List Ta}
end
def Th.isCall:Th->Bool
 | .knot _ _=>false
 | .call _ _=>true
def nw:List Int×Th->Option (List Int×Int×Int)
 | (_,.knot _ _)=>none
 | (p,.call s k)=>some (p,s,k)
def callsOf (ps:List (List Int×Th)):List (List Int×Int×Int):=ps.filterMap nw
theorem dE (a b:List (List Int×Th)):callsOf (a++b)=callsOf a++callsOf b:=List.filterMap_append
theorem jG (a:List (List Int×Th)):(callsOf a).length<=a.length:=List.length_filterMap_le _ _
def CAt (H:Hp) (c:List Int×Int×Int) (a:Ta):Prop:=∃ pa ca,H a=some (.tup [.ref pa,.ref ca])/\H pa=some (.tup (c.1.map V.int))/\H ca=some (.tup [.int c.2.1,.int c.2.2])
def CsAt (H:Hp) (cs:List (List Int×Int×Int)) (as:List Ta):Prop:=T3 (CAt H) cs as
theorem CAt.mono {H H':Hp} (k:KT H H') {c:List Int×Int×Int} {a:Ta} (h:CAt H c a):CAt H' c a:=by
 obtain ⟨pa,ca,h1,h2,h3⟩:=h;exact ⟨pa,ca,k _ _ h1,k _ _ h2,k _ _ h3⟩
theorem CsAt.mono {H H':Hp} (k:KT H H') {cs:List (List Int×Int×Int)} {as:List Ta} (h:CsAt H cs as):CsAt H' cs as:=P2.mp (fun _ _ e=>CAt.mono k e) h
end BB
namespace BB
open PySem PySem.Spec PyProof.Rows L2
mutual
theorem DAt.inj {H:Hp}:∀ {d e:Dv} {v:V},DAt H d v->DAt H e v->d=e
 | .int i,.int j,v,h,g=>by rw [DAt] at h;rw [DAt] at g;rw [h] at g;cases g;rfl
 | .int i,.str y,v,h,g=>by rw [DAt] at h;rw [DAt] at g;rw [h] at g;cases g
 | .int i,.tup es,v,h,g=>by rw [DAt] at h;rw [DAt] at g;obtain ⟨a,vs,e,_⟩:=g;rw [h] at e;cases e
 | .str x,.int j,v,h,g=>by rw [DAt] at h;rw [DAt] at g;rw [h] at g;cases g
 | .str x,.str y,v,h,g=>by rw [DAt] at h;rw [DAt] at g;rw [h] at g;cases g;rfl
 | .str x,.tup es,v,h,g=>by rw [DAt] at h;rw [DAt] at g;obtain ⟨a,vs,e,_⟩:=g;rw [h] at e;cases e
 | .tup ds,.int j,v,h,g=>by rw [DAt] at h;rw [DAt] at g;obtain ⟨a,vs,e,_⟩:=h;rw [e] at g;cases g
 | .tup ds,.str y,v,h,g=>by rw [DAt] at h;rw [DAt] at g;obtain ⟨a,vs,e,_⟩:=h;rw [e] at g;cases g
 | .tup ds,.tup es,v,h,g=>by
   rw [DAt] at h;rw [DAt] at g;obtain ⟨a,vs,e1,h1,h2⟩:=h;obtain ⟨b,ws,e2,g1,g2⟩:=g;rw [e1] at e2;cases e2;rw [h1] at g1;cases g1;rw [DAts.inj h2 g2]
theorem DAts.inj {H:Hp}:∀ {ds es:List Dv} {vs:List V},DAts H ds vs->DAts H es vs->ds=es
 | [],[],vs,h,g=>rfl
 | [],e::es,vs,h,g=>by rw [DAts] at h;rw [DAts] at g;obtain ⟨v,r,z,_⟩:=g;rw [h] at z;cases z
 | d::ds,[],vs,h,g=>by rw [DAts] at h;rw [DAts] at g;obtain ⟨v,r,z,_⟩:=h;rw [g] at z;cases z
 | d::ds,e::es,vs,h,g=>by
   rw [DAts] at h;rw [DAts] at g;obtain ⟨v,r,z,h1,h2⟩:=h;obtain ⟨v',r',z',g1,g2⟩:=g;rw [z] at z';cases z';rw [DAt.inj h1 g1,DAts.inj h2 g2]
end
end BB
namespace L2
open PySem PySem.Spec PySem.SeqAt PyProof.Rows BB
open Classical in
theorem ue {X:Cx} {pins:List (Ta×VH)} {σ:St} {H:Hp} {s:Tj} (I:Inv X pins σ H s) {ds es:List Dv} {a b:Ta} {vs ws:List V} {A:Uh} (ha:SqT X.K H a vs) (hb:SqT X.K H b ws) (BQ:DAts H ds vs) (yL:DAts H es ws) (hu:A.units<Vc)
 (ih:∀ (j:Nat) (d e:Dv) (x y:V) (u v:Tc),ds[j]?=some d->DAt H d x->DAt H e y->RelV x u->RelV y v->EqAt A.in1 s u v (decide (d=e))):RcAt A s (.ref a) (.ref b) (decide (Dv.tup ds=Dv.tup es)):=by
 obtain ⟨its,r1,p1,_⟩:=I.tuple ha;obtain ⟨xX,r2,p2,_⟩:=I.tuple hb;have l1:its.length=ds.length:=by rw [<- r1.length,BQ.length]
 have l2:xX.length=es.length:=by rw [<- r2.length,yL.length]
 have Cj:RcAt A s (.ref a) (.ref b) ((T7 (min its.toArray.size xX.toArray.size)).all (fun j=>decide (ds[j]?=es[j]?)) && its.toArray.size == xX.toArray.size):=by
  refine RcAt.tuples (show s.heap.IsTuple a its.toArray from p1) (show s.heap.IsTuple b xX.toArray from p2) hu fun j h1 h2=>?_;have Bw:j<ds.length:=by rw [<- l1];simpa using h1
  have AR:j<es.length:=by rw [<- l2];simpa using h2
  have e1:ds[j]?=some ds[j]:=S9 Bw;have e2:es[j]?=some es[j]:=S9 AR;obtain ⟨x',C4,dx⟩:=BQ.at e1;obtain ⟨y',AL,dy⟩:=yL.at e2;obtain ⟨u',zA,C6⟩:=r1.get C4;obtain ⟨v',yM,AS⟩:=r2.get AL;have e3:decide (ds[j]?=es[j]?)=decide (ds[j]=es[j]):=by rw [e1,e2];simp
  have e4:its.toArray[j]=u':=by
   rw [S9 (by rw [l1];exact Bw)] at zA;simpa using zA
  have e5:xX.toArray[j]=v':=by
   rw [S9 (by rw [l2];exact AR)] at yM;simpa using yM
  rw [e3,e4,e5];exact ih j ds[j] es[j] x' y' u' v' e1 dx dy C6 AS
 have e:decide (Dv.tup ds=Dv.tup es)=((T7 (min its.toArray.size xX.toArray.size)).all (fun j=>decide (ds[j]?=es[j]?)) && its.toArray.size == xX.toArray.size):=by
  rw [Tq,Tq,l1,l2];by_cases h:ds=es
  · subst h;rw [decide_eq_true rfl];symm;simp
  · rw [decide_eq_false (fun z=>h (Dv.tup.inj z))];symm;by_cases hl:ds.length=es.length
    · rw [hl,Yb]
      have:¬ ((T7 es.length).all (fun j=>decide (ds[j]?=es[j]?)))=true:=by
       intro z;apply h;apply XS;intro j;by_cases hj:j<es.length
       · have:=Wn.mp z j (VZ.mpr hj);exact of_decide_eq_true this
       · rw [Vk (by omega),Vk (by omega)]
      rw [Vw.mpr this];rfl
    · have:(ds.length == es.length)=false:=by simpa using hl
      rw [this,XN]
 rw [e];exact Cj
open Classical in
theorem nQ {X:Cx} {pins:List (Ta×VH)} {σ:St} {H:Hp} {s:Tj} (I:Inv X pins σ H s):∀ (n:Nat) (d e:Dv),d.tot<=n->∀ (x y:V) (u v:Tc) (A:Uh),DAt H d x->DAt H e y->RelV x u->RelV y v->A.units+d.deep<Vc->EqAt A s u v (decide (d=e))
 | 0,d,e,hn,x,y,u,v,A,hd,he,ru,rv,hu=>by have:=d.tot_pos;omega
 | n+1,.int i,.int j,hn,x,y,u,v,A,hd,he,ru,rv,hu=>by
   rw [DAt] at hd;rw [DAt] at he;subst hd he;obtain ⟨t,rfl⟩:=ru;obtain ⟨t',rfl⟩:=rv
   have e:decide (Dv.int i=Dv.int j)=(i == j):=by
    by_cases h:i=j
    · subst h;simp
    · rw [decide_eq_false (fun z=>h (Dv.int.inj z))];simp [h]
   rw [e];exact EqAt.int_int i t j t'
 | n+1,.int i,.str b,hn,x,y,u,v,A,hd,he,ru,rv,hu=>by
   rw [DAt] at hd;rw [DAt] at he;subst hd he;obtain ⟨t,rfl⟩:=ru;obtain ⟨t',rfl⟩:=rv;rw [decide_eq_false (fun z=>by cases z)];exact EqAt.int_str i t b t'
 | n+1,.int i,.tup es,hn,x,y,u,v,A,hd,he,ru,rv,hu=>by
   rw [DAt] at hd;rw [DAt] at he;obtain ⟨a,vs,rfl,ha,_⟩:=he;subst hd;obtain ⟨t,rfl⟩:=ru;cases rv;obtain ⟨its,_,p,_⟩:=I.tuple (SqT.of (K:=X.K) ha);rw [decide_eq_false (fun z=>by cases z)];exact EqAt.int_tuple i t (show s.heap.IsTuple a its.toArray from p) (by omega)
 | n+1,.str b,.int j,hn,x,y,u,v,A,hd,he,ru,rv,hu=>by
   rw [DAt] at hd;rw [DAt] at he;subst hd he;obtain ⟨t,rfl⟩:=ru;obtain ⟨t',rfl⟩:=rv;rw [decide_eq_false (fun z=>by cases z)];exact EqAt.str_int b t j t'
 | n+1,.str b,.str c,hn,x,y,u,v,A,hd,he,ru,rv,hu=>by
   rw [DAt] at hd;rw [DAt] at he;subst hd he;obtain ⟨t,rfl⟩:=ru;obtain ⟨t',rfl⟩:=rv
   have e:decide (Dv.str b=Dv.str c)=(b == c):=by
    by_cases h:b=c
    · subst h;simp
    · rw [decide_eq_false (fun z=>h (Dv.str.inj z))];simp [h]
   rw [e];exact EqAt.str_str b t c t'
 | n+1,.str b,.tup es,hn,x,y,u,v,A,hd,he,ru,rv,hu=>by
   rw [DAt] at hd;rw [DAt] at he;obtain ⟨a,vs,rfl,ha,_⟩:=he;subst hd;obtain ⟨t,rfl⟩:=ru;cases rv;obtain ⟨its,_,p,_⟩:=I.tuple (SqT.of (K:=X.K) ha);rw [decide_eq_false (fun z=>by cases z)];exact EqAt.str_tuple b t (show s.heap.IsTuple a its.toArray from p) (by omega)
 | n+1,.tup ds,.int j,hn,x,y,u,v,A,hd,he,ru,rv,hu=>by
   rw [DAt] at hd;rw [DAt] at he;obtain ⟨a,vs,rfl,ha,_⟩:=hd;subst he;cases ru;obtain ⟨t,rfl⟩:=rv;obtain ⟨its,_,p,_⟩:=I.tuple (SqT.of (K:=X.K) ha);rw [decide_eq_false (fun z=>by cases z)];exact EqAt.tuple_int j t (show s.heap.IsTuple a its.toArray from p) (by omega)
 | n+1,.tup ds,.str b,hn,x,y,u,v,A,hd,he,ru,rv,hu=>by
   rw [DAt] at hd;rw [DAt] at he;obtain ⟨a,vs,rfl,ha,_⟩:=hd;subst he;cases ru;obtain ⟨t,rfl⟩:=rv;obtain ⟨its,_,p,_⟩:=I.tuple (SqT.of (K:=X.K) ha);rw [decide_eq_false (fun z=>by cases z)];exact EqAt.tuple_str b t (show s.heap.IsTuple a its.toArray from p) (by omega)
 | n+1,.tup ds,.tup es,hn,x,y,u,v,A,hd,he,ru,rv,hu=>by
   have BR:=hd;have Ky:=he;rw [DAt] at hd;rw [DAt] at he;obtain ⟨a,vs,rfl,ha,BQ⟩:=hd;obtain ⟨b,ws,rfl,hb,yL⟩:=he;cases ru;cases rv;by_cases zJ:a=b
   · subst zJ;rw [decide_eq_true (DAt.inj BR Ky)];exact EqAt.same _
   rw [Dv.tot] at hn;rw [Dv.deep] at hu;refine EqAt.of_refs zJ (ue I (SqT.of ha) (SqT.of hb) BQ yL (by omega) fun j d e x' y' u' v' e1 dx dy C6 AS=>?_);have q1:=nN e1;have q2:=fe e1;refine nQ I n d e (by omega) x' y' u' v' A.in1 dx dy C6 AS ?_;show A.units+1+_<Vc;omega
def uI (K:S8) (B:Nat):R2:=fun x y H Q=>∃ b ws d es,y=.ref b/\SqT K H b ws/\DAt H d x/\DAts H es ws/\cS es<=B/\∀ r:Bool,(r=true↔d∉es)->Q (.bl r) H
open Classical in
theorem mO {X:Cx} {B:Nat} (hu:X.A.units+B+2<Vc):OpR X (WN .NotIn) (uI X.K B):=by
 intro pins s σ H x y v u Q I rx ry h;obtain ⟨b,ws,d,es,rfl,hb,hd,yL,hB,q⟩:=h;cases ry;obtain ⟨its,r1,p1,_⟩:=I.tuple hb
 have key:∀ (j:Nat) (z:Tc),its[j]?=some z->∃ e y',es[j]?=some e/\DAt H e y'/\RelV y' z:=by
  intro j z hz;have hj:j<its.length:=(Te.mp hz).1;have l1:=r1.length;have l2:=yL.length;have FH:j<es.length:=by omega
  obtain ⟨y',AL,dy⟩:=yL.at (S9 FH);obtain ⟨v',yM,AS⟩:=r1.get AL;rw [hz] at yM;cases yM;exact ⟨_,y',S9 FH,dy,AS⟩
 have uniq:∀ (z:Tc) (e e':Dv) (y' Ck:V),DAt H e y'->RelV y' z->DAt H e' Ck->RelV Ck z->e=e':=by
  intro z e e' y' Ck h1 h2 h3 h4;have:=h2.inj h4;subst this;exact h1.inj h3
 refine notIn_tupleAt (fun z=>decide (∃ y',DAt H d y'/\RelV y' z)) (show s.heap.IsTuple b its.toArray from p1) (fun z hz=>?_) ⟨.bl _,H,I,rfl,q _ ?_⟩
 · obtain ⟨j,hj⟩:=TJ.mp (show z∈its by simpa using hz);obtain ⟨e,y',he,dy,ry⟩:=key j z hj;have hq:=fe he
   have e3:decide (∃ y',DAt H d y'/\RelV y' z)=decide (e=d):=by
    by_cases h:e=d
    · rw [decide_eq_true h,decide_eq_true ⟨y',h ▸ dy,ry⟩]
    · rw [decide_eq_false h,decide_eq_false];rintro ⟨Ck,h1,h2⟩;exact h (uniq z e d y' Ck dy ry h1 h2)
   rw [e3];refine nQ I _ e d (Td _) y' x z v X.A.in1 dy hd ry rx ?_;show X.A.units+1+_<Vc;omega
 · rw [Bool.not_eq_true',<- Bool.not_eq_true];refine not_congr ?_;constructor
   · intro z;obtain ⟨v',h1,h2⟩:=Array.any_eq_true'.mp z;obtain ⟨j,hj⟩:=TJ.mp (show v'∈its by simpa using h1);obtain ⟨e,y',he,dy,ry⟩:=key j v' hj;obtain ⟨Ck,h3,h4⟩:=of_decide_eq_true h2;rw [<- uniq v' e d y' Ck dy ry h3 h4];exact Tb he
   · intro z;obtain ⟨j,hj⟩:=TJ.mp z;obtain ⟨y',AL,dy⟩:=yL.at hj;obtain ⟨v',yM,AS⟩:=r1.get AL;refine Array.any_eq_true'.mpr ⟨v',?_,decide_eq_true ⟨y',dy,AS⟩⟩;have:=Tb yM;simpa using this
end L2
namespace BB
open PySem L2
def Th.put:Th->List Int->Th->Th
 | _,[],o=>o
 | t,i::r,o=>match t.kids[i.toNat]? with
   | some u=>.knot t.nm (t.kids.set i.toNat (u.put r o))
   | none=>o
termination_by _ p=>p.length
theorem ny (t o:Th):t.put [] o=o:=by rw [Th.put]
theorem lF {t u o:Th} {i:Int} {r:List Int} (h:t.kids[i.toNat]?=some u):t.put (i::r) o=.knot t.nm (t.kids.set i.toNat (u.put r o)):=by rw [Th.put,h]
theorem nJ {t u:Th} {i:Int} {r:List Int} (h:t.sub (i::r)=some u):0<=i/\∃ w,t.kids[i.toNat]?=some w/\w.sub r=some u:=by
 rw [Th.sub] at h;split at h
 · rename_i h0
   split at h
   · rename_i w hw
     exact ⟨h0,w,hw,h⟩
   · cases h
 · cases h
theorem mE:∀ {ks:List Th} {i:Nat} {w x:Th},ks[i]?=some w->aq (ks.set i x)+w.size=aq ks+x.size
 | [],i,w,x,h=>by simp at h
 | k::ks,0,w,x,h=>by
   simp at h;subst h;rw [List.set_cons_zero,aq,aq];omega
 | k::ks,i+1,w,x,h=>by
   have:=mE (ks:=ks) (i:=i) (w:=w) (x:=x) (by simpa using h);rw [List.set_cons_succ,aq,aq];omega
theorem px:∀ (p:List Int) (t u o:Th),t.sub p=some u->(t.put p o).size+u.size=t.size+o.size
 | [],t,u,o,h=>by
   rw [iU] at h;cases h;rw [ny];omega
 | i::r,t,u,o,h=>by
   obtain ⟨h0,w,hw,hs⟩:=nJ h;have h1:=px r w u o hs;have h2:=mE (x:=w.put r o) hw;rw [lF hw,Th.size,t.size_eq];omega
theorem Ats.set {H:Hp}:∀ {ts:List Th} {as:List Ta} (i:Nat) {x:Th} {a:Ta},Ats H ts as->At H x a->Ats H (ts.set i x) (as.set i a)
 | [],as,i,x,a,h,g=>by rw [Ats] at h;subst h;exact .nil
 | t::ts,as,i,x,a,h,g=>by
   rw [Ats] at h;obtain ⟨b,r,rfl,h1,h2⟩:=h;cases i with
   | zero=>exact .cons g h2
   | succ i=>exact .cons h1 (Ats.set i h2 g)
end BB
namespace PySem
theorem bb_extendT (l:Ta) (items:Array Tc) (n:Nat) (b:Ta) (zt:Array Tc) (n2:Nat) (dd:Option Ta) (sl:Array (Option Tc)) (g0:¬(!items.isEmpty && VO (items.size+zt.size))=true) (g1:items.size<=TB) (g2:items.size+zt.size<=TB+1) :
 Meets (V7.«list.extend» ⟨[.ref l,.ref b],[]⟩) (fun _ R s=>s.heap.get? l=some { cls:=.type "list",dict:=none,data:=.seq items n,slots:=#[] }/\s.heap.get? b=some { cls:=.type "tuple",dict:=dd,data:=.seq zt n2,slots:=sl }/\R (.ok (.ret UX)) { s with heap:=s.heap.update l (UG fun x=>x++zt),toks:=s.toks }) :=
 .of_wp fun prog w A R s h=>by
  obtain ⟨hp,g,d,tk,os⟩:=s;obtain ⟨hl,hb,h⟩:=h;have f1:=AutoSeq1.idx_int;have f2:=AutoSeq1.sub_tuple_tuple;have f3:=AutoSeq1.sub_list_list;have f4:=AutoSeq1.sub_tuple_list;have f5:=AutoSeq1.sub_list_tuple;have z2:(items++zt).size<=TB+1:=by rw [Array.size_append];exact g2
  wp_walk using (Vh hl rfl (hz:=g1) (_hz':=z2)),VQ hl,VQ hb
  exact ⟨_,rfl,h⟩
end PySem
namespace L2
open PySem PySem.Spec PyProof.Rows
section
variable {X:Cx}
def tH (K:S8):V->List V->Hp->VK->Prop:=fun x vs H Q=>∃ l b xs zs,x=.ref l/\vs=[.ref b]/\H l=some (.lst xs)/\SqT K H b zs/\xs.length+zs.length<=TB/\Q .non (upd H l (.lst (xs++zs)))
theorem pQ:MtM X "list.extend" (tH X.K):=by
 intro pins s σ H x vs v us Q I rx rv h;obtain ⟨l,b,xs,zs,rfl,rfl,hH,hB,hz,q⟩:=h;cases rx;obtain ⟨u,rfl,ru⟩:=rv.one;cases ru;obtain ⟨z,its,n,r,hl,e⟩:=I.lstM hH;obtain ⟨xX,r2,p2,_⟩:=I.tuple hB;have yN:=r2.length;obtain ⟨⟨Gj,FA,data2,FC⟩,e2,BL,n2,hd2⟩:=p2;simp only at BL hd2;subst BL hd2;have hsz:its.toArray.size+xX.toArray.size<=TB:=by rw [Tq,Tq];omega
 have B8:¬ (!its.toArray.isEmpty && VO (its.toArray.size+xX.toArray.size))=true:=by
  rw [kj hsz,XN];exact TH
 refine X2 F.slot_list_extend ⟨_,e,rfl⟩ F.entry_list_extend (F.args_list_extend_2 _ _)
  (bb_extendT l its.toArray n b xX.toArray n2 FA FC B8 (by rw [Tq];omega) (by omega)) ⟨e,e2,?_⟩
 refine ⟨.non,_,I.lset (its':=its++xX) hH e (by simp) (r.append r2) ?_,rfl,q⟩;rw [TC];omega
theorem sw {bs:List Bool} {its:List Tc} (r:Vals (bs.map V.bl) its) {i:Nat} {v:Tc} (h:its[i]?=some v):∃ b,bs[i]?=some b/\v=.bool b:=by
 have hl:=r.length;have hi:i<its.length:=(Te.mp h).1;rw [S6] at hl;obtain ⟨u,hu,ru⟩:=r.get (i:=i) (x:=.bl bs[i]) (by rw [Tn,S9 (by omega)];rfl);rw [h] at hu;cases hu;cases ru;exact ⟨_,S9 (by omega),rfl⟩
def xi (K:S8):List V->Hp->VK->Prop:=fun xs H Q=>∃ (p:Ta) (bs:List Bool),xs=[.ref p]/\SqL K H p (bs.map V.bl)/\Q (.bl (bs.all id)) H
theorem pf (hc:X.calm=true):gR X (.builtin "all") (xi X.K):=by
 intro pins s σ H xs us Q I r h;obtain ⟨p,bs,rfl,hl,q⟩:=h;obtain ⟨u,rfl,rx⟩:=vals1 r;cases rx;obtain ⟨its,rv,pl,_⟩:=I.list hl;have hlen:=rv.length;rw [S6] at hlen;have yf:p<s.heap.objs.size:=by obtain ⟨_,_,e,_⟩:=pl;exact Tw e
 refine call_all_walk (wpAny_pyIter_list pl.isList ?_);refine ⟨s.heap.objs.size,[s.heap.objs.size,p],[s.heap.objs.size],its.toArray.size,_,_,fun i=>(bs[i]?).getD true,rfl,Walks.list (A:=X.A.in1) (I.ok.hd hc) _ p (T9 yf) its.toArray,⟨⟨_,Tt _ rfl,rfl,rfl⟩,pl.isList.push _⟩,fun i v s' Q' E' hP hQ=>?_,fun h' tk hk=>?_⟩
 · obtain ⟨b,e,rfl⟩:=sw rv (i:=i) (v:=v) (by simpa using hP);simp only [e,Option.getD_some] at hQ;exact WU hQ
 · have e:((T7 its.toArray.size).all fun i=>(bs[i]?).getD true)=bs.all id:=by
    rw [Tq,<- hlen];exact LSm.range_all bs
   rw [e];exact ⟨.bl (bs.all id),H,I.kept (LSm.kept_iter hk),rfl,q⟩
end
end L2
namespace BB
open PySem L2
def kDv (k:TY×Int):Dv:=.tup [.str k.1,.int k.2]
theorem sR {H:Hp}:∀ {ks:List (TY×Int)} {as:List Ta},T3 (KAt H) ks as->DAts H (ks.map kDv) (as.map V.ref)
 | _,_,.nil=>.nil
 | _,_,.cons r h=>by
   rw [Up,Up];refine .cons ?_ (sR h);rw [kDv,DAt];exact ⟨_,_,rfl,r,.cons (by rw [DAt]) (.cons (by rw [DAt]) .nil)⟩
theorem kQ:∀ ks:List (TY×Int),cS (ks.map kDv)<=1
 | []=>by rw [VI,cS];exact TZ _
 | k::ks=>by
   have:=kQ ks;rw [Up,cS,kDv];simp only [Dv.deep,cS];omega
def star:TY:=Ti "*"
theorem oP {x:TY} (h:Low x):x≠star:=by
 intro e;subst e;have:=h 42 (by decide +kernel);omega
open Classical in
def Th.isHole:Th->Bool
 | .knot n ks=>decide (n=star/\ks=[])
 | .call _ _=>false
def Th.isKnot (t:Th):Bool:=!t.isCall && !t.isHole
theorem qT {k:Nat} {A:Uh} (hr:L2.Room k A):A.units+50+2<Vc:=by
 have:=hr.units;omega
end BB
namespace PySem
open Sem (wp)
namespace F
theorem bb_entry_upd:entryFor table "dict.update.loop"=some V7.«dict.update.loop»:=entryFor_of_tree (by kernel_rfl)
theorem bb_plain_upd:plainId "dict.update.loop"=true:=by decide +kernel
end F
section
variable {prog:Tv} {w:TN} {A:Uh} {E:Tc->Tj->Prop} {s:Tj} {a:Ta} {xs:Array Tc} {k:Nat}
end
end PySem
namespace L2
open PySem PySem.Spec PyProof.Rows BB
section
variable {X:Cx}
end
end L2
namespace BB
open PySem L2
end BB
namespace HT
open PySem PySem.Spec PyProof.Rows
section
variable {prog:Tv} {w:TN} {A:Uh} {E:Tc->Tj->Prop} {s:Tj}
theorem getItem_tuple_whole {t sl:Ta} {items:Array Tc} {vl vu:Tc} {lo hi:Option Int} {Q:Tc->Tj->Prop} (ht:IsTup s.heap t items) (hs:s.heap.IsSliceOf sl vl vu .none) (pl:Yz vl lo) (pu:Yz vu hi)
 (hw:sIx items.size 0 lo=0/\sIx items.size items.size hi=items.size) (h:Q (.ref t) s):Tx (T6 prog w) A (Xr (.ref t) (.ref sl)) Q E s:=by
 obtain ⟨os,Ai,BM,Ad⟩:=id hs;have Gk:s.TypeIs (.ref sl) "slice":=⟨os,Ai,BM⟩;have hT:s.TypeIs (.ref t) "tuple":=ht.typeIs;unfold Xr
 try with_reducible refine UW ?_
 first | refine S7 (Tg ?_) | skip
 refine S7 (wpAny_sequenceKey ht.typeIs (by decide) ?_)
 refine S7 (Uz (name:=Ti "__getitem__") ht.typeIs Ug
  (UE Ug ht.typeIs entry_tuple_getitem ?_ (args_tuple_getitem _ _)))
 show Tx _ _ (W5 (.ref t) >>= _) _ _ s;refine S7 (tupleItemsOf_ ht ?_);refine S7 (V4 Gk ?_);rw [if_pos (by decide)];refine S7 (sliceApplied_gen hs pl pu ?_)
 have Kz:(((sIx items.size 0 lo:Nat):Int) == 0 && (1:Int) == 1 && (sIx items.size items.size hi - sIx items.size 0 lo) == items.size)=true:=by
  rw [hw.1,hw.2];simp
 show Tx _ _ (if (((sIx items.size 0 lo:Nat):Int) == 0 && (1:Int) == 1 && (sIx items.size items.size hi - sIx items.size 0 lo) == items.size)=true then _ else _) _ _ s;rw [if_pos Kz];refine S7 (m:=Builtin.Tuple.tupleIsExact _) ?_;unfold Builtin.Tuple.tupleIsExact;refine S7 (V4 hT (Tg ?_));rw [if_pos (by decide)];exact S7 (Wd (Tg ⟨_,rfl,Tg h⟩))
end
end HT
namespace L2
open PySem PySem.Spec PyProof.Rows
end L2
namespace PySem
open Sem (wp)
section
variable {prog:Tv} {w:TN} {A:Uh} {E:Tc->Tj->Prop} {s:Tj} {it d:Ta} {i ep:Nat} {od:VH} {es:Array DictEntry}
theorem bb_keyNext {en:DictEntry} {Q:Option Tc->Tj->Prop} (g:s.heap.IsKeyIter it d i es.size ep) (g1:s.heap.get? d=some od) (g2:od.data=.dict es ep) (hx:es[i]?=some en)
 (fin:∀ h',h'.IsKeyIter it d (i+1) es.size ep->Vj it s.heap h'->Q (some en.key) { s with heap:=h' }):Tx (T6 prog w) A (Wr (.ref it)) Q E s:=by
 obtain ⟨o,q1,q2,q3⟩:=id g;unfold Wr;refine S7 (Wq (Uz (name:=Ti "__next__") g.typeIs VX (UE VX g.typeIs F.entry_dict_keyiterator_next ?_ (F.args_dict_keyiterator_next_1 _))));refine S7 (Tg ?_);refine S7 ?_;refine S7 ?_
 first | refine S7 (WD g.typeIs (Tg ?_)) | refine S7 (Xd g.typeIs (Tg ?_))
 refine S7 (wpAny_fieldsOf q1 q3 ?_);have own:Builtin.Dict_items.ownsTuple "dict_keyiterator"=false:=by decide
 simp only [own,UJ,if_false];show Tx _ _ (if (T5 d == UX)=true then _ else _) _ _ s;rw [if_neg (show ¬ ((T5 d == UX)=true) from TH)];refine S7 (Tg ?_);refine S7 (Ye g1 g2 ?_);rw [if_neg (by simp)];refine S7 (Tg ?_);refine S7 (wpAny_dictEpoch g1 g2 ?_);rw [if_neg (by simp)];refine Tg ?_;have lt:i<es.size:=(XO.mp hx).1;have ee:es[i]=en:=(XO.mp hx).2;simp only [show ¬ ((i:Int)<0) from by omega,if_false,Uw,VB lt];refine S7 ?_
 first | refine S7 (WD g.typeIs (Tg ?_)) | refine S7 (Xd g.typeIs (Tg ?_))
 refine S7 (wpAny_isOneOf_keyiter g.typeIs ?_);show Tx _ _ (setField (.ref it) 1 (VR ((i:Int)+1)) >>= _) _ _ s;refine S7 (WZ q1 q3 (by simp) ?_);have g':(s.heap.update it (Obj.mapFields (·.setIfInBounds 1 (VR ((i:Int)+1))))).IsKeyIter it d (i+1) es.size ep:=⟨_,Ud _ q1 (XA (VN q3 _)),(Obj.cls_mapFields ..).trans q2,by rw [VN q3];simp [VR]⟩;refine S7 (UW ?_);refine S7 (wpAny_isOneOf_keyiter (s:={ s with heap:=s.heap.update it (Obj.mapFields (·.setIfInBounds 1 (VR ((i:Int)+1)))) }) g'.typeIs ?_);show Tx _ _ (pure es[i].key) _ _ _;rw [ee];exact Tg (Tg ⟨_,rfl,Tg (fin _ g' (VE ..))⟩)
theorem bb_keyEnd {Q:Option Tc->Tj->Prop} (calm:A.handled=none) (g:s.heap.IsKeyIter it d i es.size ep) (g1:s.heap.get? d=some od) (g2:od.data=.dict es ep) (hx:es.size<=i)
 (fin:∀ h',YX it s.heap h'->Q none { s with heap:=h' }):Tx (T6 prog w) A (Wr (.ref it)) Q E s:=by
 obtain ⟨o,q1,q2,q3⟩:=id g;unfold Wr;refine S7 (Wq (Uz (name:=Ti "__next__") g.typeIs VX (UE VX g.typeIs F.entry_dict_keyiterator_next ?_ (F.args_dict_keyiterator_next_1 _))));refine S7 (Tg ?_);refine S7 ?_;refine S7 ?_
 first | refine S7 (WD g.typeIs (Tg ?_)) | refine S7 (Xd g.typeIs (Tg ?_))
 refine S7 (wpAny_fieldsOf q1 q3 ?_);have own:Builtin.Dict_items.ownsTuple "dict_keyiterator"=false:=by decide
 simp only [own,UJ,if_false];show Tx _ _ (if (T5 d == UX)=true then _ else _) _ _ s;rw [if_neg (show ¬ ((T5 d == UX)=true) from TH)];refine S7 (Tg ?_);refine S7 (Ye g1 g2 ?_);rw [if_neg (by simp)];refine S7 (Tg ?_);refine S7 (wpAny_dictEpoch g1 g2 ?_);rw [if_neg (by simp)];refine Tg ?_;simp only [show ¬ ((i:Int)<0) from by omega,if_false,Uw,Xh hx];refine S7 ?_
 first | refine S7 (WD g.typeIs (Tg ?_)) | refine S7 (Xd g.typeIs (Tg ?_))
 show Tx _ _ (setField (.ref it) 0 .none >>= _) _ _ s;refine S7 (WZ q1 q3 (by simp) ?_);show Tx _ _ (newExc (.type "StopIteration") [] >>= _) _ _ _;refine S7 ?_;simp only [newExc,newTuple];refine S7 (UD ?_ (by size_fits));refine S7 (m:=Xs _ _) (WE (a:=UX) (by first | rfl | (simp only [Xs];rfl)) ?_);refine UD ?_ (by size_fits);simp only [raiseNew];refine S7 (wpAny_handled ?_)
 first | rw [show A.in1.handled=none from calm] | rw [calm]
 refine S7 (Tg (wpAny_throw ?_));refine S7 (V8 (T:="StopIteration") (b:=true) ⟨_,Tt _ rfl,rfl⟩ isSubtype_stop ?_);exact Tg (fin _ (((VE ..).extBut.push _).push _))
theorem bb_keyIter {Q:Tc->Tj->Prop} (ns:(d == Vn)=false) (g1:s.heap.get? d=some od) (gc:od.cls=.type "dict") (g2:od.data=.dict es ep)
 (fin:Q (.ref s.heap.objs.size) { s with heap:=s.heap.push { cls:=.type "dict_keyiterator",data:=.fields #[.ref d,.int 0 0,.int es.size 0,.int ep 0] } }):Tx (T6 prog w) A (pyIter (.ref d)) Q E s:=by
 have gT:s.TypeIs (.ref d) "dict":=⟨_,g1,gc⟩;refine wpAny_pyIter_slot gT F.slot_dict_iter (UE F.slot_dict_iter gT F.entry_dict_iter ?_ (F.args_dict_iter_1 _));unfold V7.«dict.__iter__»;refine S7 ?_;unfold Builtin.Dict.dictSlotNone;refine S7 (YH gT ?_);show Tx _ _ (pure (T5 d)) _ _ s;refine Tg ?_;show Tx _ _ (Builtin.Dict.showsAll d >>= _) _ _ s;unfold Builtin.Dict.showsAll;rw [if_neg (by rw [ns];exact TH)];refine S7 (Tg ?_);refine S7 (Ye g1 g2 ?_);refine S7 (wpAny_dictEpoch g1 g2 ?_);refine S7 (UD (Tg ⟨_,rfl,"dict_keyiterator",_,⟨_,Tt _ rfl,rfl⟩,VX.lookup,?_⟩));simpa [VR] using fin
end
end PySem
namespace L2
open PySem PySem.Spec PyProof.Rows
section
variable {X:Cx} {e:UH} {te:TE}
end
end L2
namespace BB
open PySem L2
inductive Top where
 | nm (n:TY) (m:Nat)
 | th (t:Th)
def bl:List Top->List Th
 | []=>[]
 | .nm n m::S=>.knot n ((bl S).take m)::(bl S).drop m
 | .th t::S=>t::bl S
def TopsOk:List Top->Prop
 | []=>True
 | .nm _ m::S=>m<=(bl S).length/\TopsOk S
 | .th _::S=>TopsOk S
theorem TopsOk.drop:∀ {l:List Top} (i:Nat),TopsOk l->TopsOk (l.drop i)
 | l,0,h=>by rw [VM];exact h
 | [],i+1,h=>by rw [List.drop_nil];exact h
 | .nm n m::S,i+1,h=>by
   rw [TopsOk] at h;rw [Yy];exact TopsOk.drop i h.2
 | .th t::S,i+1,h=>by
   rw [TopsOk] at h;rw [Yy];exact TopsOk.drop i h
theorem qg:∀ l:List Top,(bl l).length<=l.length
 | []=>Td _
 | .nm n m::S=>by
   have:=qg S;rw [bl,To,To,UL];omega
 | .th t::S=>by
   have:=qg S;rw [bl,To,To];omega
mutual
def Th.fill (f:Int->Int->Th):Th->Th
 | .knot n ks=>.knot n (fills f ks)
 | .call s k=>f s k
def fills (f:Int->Int->Th):List Th->List Th
 | []=>[]
 | t::ts=>t.fill f::fills f ts
end
theorem gG (f:Int->Int->Th):∀ ts:List Th,(fills f ts).length=ts.length
 | []=>by rw [fills]
 | t::ts=>by rw [fills,To,To,gG f ts]
mutual
theorem rg:∀ t:Th,t.fill Th.call=t
 | .knot n ks=>by rw [Th.fill,oz ks]
 | .call s k=>by rw [Th.fill]
theorem oz:∀ ts:List Th,fills Th.call ts=ts
 | []=>by rw [fills]
 | t::ts=>by rw [fills,rg t,oz ts]
end
def dX (f:Int->Int->Th):Th->Top
 | .knot n ks=>.nm n ks.length
 | .call s k=>.th (f s k)
theorem lG (f:Int->Int->Th):∀ (n:Nat) (ts:List Th),aq ts<=n->∀ S,bl ((walks ts).map (dX f)++S)=fills f ts++bl S/\(TopsOk S->TopsOk ((walks ts).map (dX f)++S))
 | _,[],_,S=>by rw [walks,fills];exact ⟨rfl,fun h=>h⟩
 | 0,t::ts,hn,S=>by
   have:=t.size_pos;rw [aq] at hn;omega
 | n+1,t::ts,hn,S=>by
   have hs:=t.size_eq;rw [aq] at hn;have h2:=lG f n ts (by omega) S;have e:(walks (t::ts)).map (dX f)++S=dX f t::((walks t.kids).map (dX f)++((walks ts).map (dX f)++S)):=by rw [walks,t.walk_eq];simp
   have h1:=lG f n t.kids (by omega) ((walks ts).map (dX f)++S);rw [e];cases t with
   | knot nm ks =>
     simp only [Th.kids] at h1 ⊢;refine ⟨?_,fun hS=>?_⟩
     · show bl (.nm nm ks.length::_)=_;rw [bl,h1.1,h2.1,<- gG f ks,List.take_left,List.drop_left,fills,Th.fill];rfl
     · show TopsOk (.nm nm ks.length::_);rw [TopsOk];refine ⟨?_,h1.2 (h2.2 hS)⟩;rw [h1.1,TC,gG];exact VU _ _
   | call s k =>
     simp only [Th.kids,walks,VI,Vy] at h1 ⊢;refine ⟨?_,fun hS=>?_⟩
     · show bl (.th (f s k)::_)=_;rw [bl,h2.1,fills,Th.fill];rfl
     · show TopsOk (.th (f s k)::_);rw [TopsOk];exact h2.2 hS
theorem qQ (f:Int->Int->Th) (t:Th):bl (t.walk.map (dX f))=[t.fill f]/\TopsOk (t.walk.map (dX f)):=by
 have h:=lG f _ [t] (Td _) [];have e:walks [t]=t.walk:=by simp [walks]
 rw [e,Ui] at h;refine ⟨?_,h.2 (by rw [TopsOk];trivial)⟩;rw [h.1,fills,fills,bl];rfl
theorem qX (x:V) (xs:List V):dJ (x::xs) none (some 1)=[x]:=by
 unfold dJ;rw [show (some (1:Int))=some ((1:Nat):Int) from rfl,HT.sIx_nat,HT.sIx_none,To,Xy (by omega)];rfl
end BB
namespace PySem
open Sem (wp)
end PySem
namespace L2
open PySem PySem.Spec PyProof.Rows BB
end L2
namespace BB
open PySem L2
theorem oV {k:Nat} {A:Uh} (hr:L2.Room k A):A.units+150+2<Vc:=by
 have:=hr.un;omega
def hole:Th:=.knot star []
def Th.name:Th->TY
 | .knot n _=>n
 | .call _ _=>q
def aG:Th->Th->Bool
 | .knot n ks,.knot m us=>!(Th.knot n ks).isHole && decide (n=m) && decide (ks.length=us.length)
 | _,_=>false
mutual
def Th.sbs:Th->Th->List (Th×Th)
 | .knot n ks,r=>(.knot n ks,r)::(if aG (.knot n ks) r=true then sg ks r.kids else [])
 | .call s k,r=>[(.call s k,r)]
def sg:List Th->List Th->List (Th×Th)
 | [],_=>[]
 | k::ks,us=>match us with
   | []=>[]
   | u::us=>k.sbs u++sg ks us
end
def wks:List (Th×Th)->List (Th×Th)
 | []=>[]
 | p::ps=>p.1.sbs p.2++wks ps
theorem lv:∀ a b:List (Th×Th),wks (a++b)=wks a++wks b
 | [],b=>rfl
 | p::a,b=>by rw [Vr,wks,wks,lv a b,UB]
theorem rb:∀ ks us:List Th,wks (ks.zip us)=sg ks us
 | [],_=>by rw [XQ,wks,sg]
 | k::ks,[]=>by rw [XH,wks,sg]
 | k::ks,u::us=>by rw [Ww,wks,sg,rb ks us]
theorem Th.sbs_eq (l r:Th):l.sbs r=(l,r)::(if aG l r=true then wks (l.kids.zip r.kids) else []):=by
 cases l with
 | knot n ks=>rw [Th.sbs,rb];rfl
 | call s k =>
   rw [Th.sbs];have:aG (.call s k) r=false:=by cases r <;> rfl
   rw [this];rfl
def szL:List (Th×Th)->Nat
 | []=>0
 | p::ps=>p.1.size+szL ps
theorem dG:∀ a b,szL (a++b)=szL a+szL b
 | [],b=>by simp [szL]
 | p::a,b=>by rw [Vr,szL,szL,dG a b,XZ]
theorem qY (a:List (Th×Th)):szL a.reverse=szL a:=by
 induction a with
 | nil=>rfl
 | cons x xs ih=>rw [UA,dG,ih,szL,szL,szL];omega
theorem iS:∀ ks us:List Th,szL (ks.zip us)<=aq ks
 | [],_=>by rw [XQ,szL];exact TZ _
 | k::ks,[]=>by rw [XH,szL];exact TZ _
 | k::ks,u::us=>by
   have:=iS ks us;rw [Ww,szL,aq];show k.size+_<=_;omega
theorem nq:∀ a:List (Th×Th),a.length<=szL a
 | []=>TZ _
 | p::a=>by
   have:=p.1.size_pos;have:=nq a;rw [To,szL];omega
theorem np:∀ (n:Nat) (ps:List (Th×Th)),szL ps<=n->(wks ps).length<=szL ps
 | _,[],_=>TZ _
 | 0,p::ps,h=>by
   have:=p.1.size_pos;rw [szL] at h;omega
 | n+1,p::ps,h=>by
   have hs:=p.1.size_eq;have hz:=iS p.1.kids p.2.kids;rw [szL] at h;have h1:=np n ps (by omega);have h2:=np n (p.1.kids.zip p.2.kids) (by omega);rw [wks,Th.sbs_eq,szL,TC,To];split
   · omega
   · rw [V9];omega
theorem uQ (l r:Th):(l.sbs r).length<=l.size:=by
 have:=np _ [(l,r)] (Td _);rw [wks,wks,Ui,szL,szL] at this;exact this
theorem nA:∀ (n:Nat) (ps:List (Th×Th)),szL ps<=n->∀ x∈wks ps,∃ p∈ps,x.1.tall<=p.1.tall/\x.2.tall<=p.2.tall/\x.1.size<=p.1.size/\x.2.size<=p.2.size
 | _,[],_,x,h=>nomatch h
 | 0,p::ps,h,x,_=>by
   have:=p.1.size_pos;rw [szL] at h;omega
 | n+1,p::ps,h,x,hx=>by
   have hs:=p.1.size_eq;have hz:=iS p.1.kids p.2.kids;rw [szL] at h;rw [wks,Th.sbs_eq,Ul] at hx;rcases hx with hx | hx
   · rcases TF.mp hx with rfl | hx
     · exact ⟨p,T1 ..,Td _,Td _,Td _,Td _⟩
     · split at hx
       · obtain ⟨y,hy,h1,h2,h3,h4⟩:=nA n _ (by omega) x hx;have m1:y.1∈p.1.kids:=(Wy hy).1;have m2:y.2∈p.2.kids:=(Wy hy).2;have t1:=bW m1;have t2:=bW m2;have z1:=aQ m1;have z2:=aQ m2;have e1:=p.1.tall_eq;have e2:=p.2.tall_eq;have e4:=p.2.size_eq;exact ⟨p,T1 ..,by omega,by omega,by omega,by omega⟩
       · cases hx
   · obtain ⟨y,hy,r⟩:=nA n ps (by omega) x hx;exact ⟨y,TQ _ hy,r⟩
theorem uC {l r:Th} {x:Th×Th} (h:x∈l.sbs r):x.1.tall<=l.tall/\x.2.tall<=r.tall/\x.1.size<=l.size/\x.2.size<=r.size:=by
 obtain ⟨p,hp,r⟩:=nA _ [(l,r)] (Td _) x (by rw [wks,wks,Ui];exact h);rw [TR] at hp;subst hp;exact r
mutual
def Th.lies:Th->Th->Bool
 | .knot n ks,r=>(Th.knot n ks).isHole || (aG (.knot n ks) r && cf ks r.kids)
 | .call _ _,_=>false
def cf:List Th->List Th->Bool
 | [],_=>true
 | k::ks,us=>match us with
   | []=>true
   | u::us=>k.lies u && cf ks us
end
theorem iJ {l r:Th} (h:l.isHole=true):aG l r=false:=by
 cases l with
 | knot n ks =>
   cases r with
   | knot m us =>
     show (!(Th.knot n ks).isHole && decide (n=m) && decide (ks.length=us.length))=false;rw [h];rfl
   | call s k=>rfl
 | call s k=>cases h
mutual
def Th.noCall:Th->Prop
 | .knot _ ks=>cC ks
 | .call _ _=>False
def cC:List Th->Prop
 | []=>True
 | t::ts=>t.noCall/\cC ts
end
theorem dh:∀ {ts:List Th} {t:Th},cC ts->t∈ts->t.noCall
 | [],_,_,h=>nomatch h
 | u::ts,t,hn,h=>by
   rw [cC] at hn;rcases TF.mp h with rfl | h
   · exact hn.1
   · exact dh hn.2 h
end BB
namespace BB
open PySem L2
def Th.wid:Th->Nat
 | .knot _ ks=>ks.length
 | .call _ _=>2
theorem bM {l r:Th} (h:aG l r=true):∃ n ks us,l=.knot n ks/\r=.knot n us/\ks.length=us.length/\l.isHole=false:=by
 cases l with
 | knot n ks =>
   cases r with
   | knot m us =>
     have h':(!(Th.knot n ks).isHole && decide (n=m) && decide (ks.length=us.length))=true:=h;simp only [Vs,decide_eq_true_eq,Bool.not_eq_true'] at h';obtain ⟨⟨h1,h2⟩,h3⟩:=h';subst h2;exact ⟨n,ks,us,rfl,rfl,h3,h1⟩
   | call s k=>cases h
 | call s k=>cases r <;> cases h
theorem tV (l r:Th) (S:List (Th×Th)):wks ((l,r)::S)=(l,r)::((if aG l r=true then wks (l.kids.zip r.kids) else [])++wks S):=by
 rw [wks,Th.sbs_eq];rfl
end BB
namespace BB
open PySem L2
theorem jA:hole.noCall:=by rw [hole,Th.noCall,cC];trivial
theorem jL:hole.isHole=true:=by
 show decide (star=star/\([]:List Th)=[])=true;exact decide_eq_true ⟨rfl,rfl⟩
theorem mK:hole.tall=1:=by rw [hole,Th.tall,bD]
theorem eY:hole.size=1:=by rw [hole,Th.size,aq]
theorem uX:star≠q:=by decide
end BB
namespace L2
open PySem PySem.Spec PySem.SeqAt PyProof.Rows BB
end L2
namespace BB
open PySem L2
theorem ir {k u:Th} {ks us:List Th}:cf (k::ks) (u::us)=(k.lies u && cf ks us):=by rw [cf]
theorem pick {α β γ:Type} {F:α->β->Prop} {G:α->β->γ->Prop} (h:∀ x a,F x a->∃ c,G x a c):∀ {xs:List α} {as:List β},T3 F xs as->∃ cs:List γ,cs.length=as.length/\∀ (i:Nat) x a c,xs[i]?=some x->as[i]?=some a->cs[i]?=some c->G x a c
 | _,_,.nil=>⟨[],rfl,fun i x a c e=>by simp at e⟩
 | _,_,.cons r t=>by
   obtain ⟨c,hc⟩:=h _ _ r;obtain ⟨cs,h1,h2⟩:=pick h t;refine ⟨c::cs,by rw [To,To,h1],fun i x a c' e1 e2 e3=>?_⟩;cases i with
   | zero=>simp at e1 e2 e3;subst e1 e2 e3;exact hc
   | succ i=>exact h2 i x a c' (by simpa using e1) (by simpa using e2) (by simpa using e3)
theorem qS {α γ:Type} {R:α->γ->Prop} (p:α->Bool):∀ {xs:List α} {cs:List γ},xs.length=cs.length->(∀ (i:Nat) x c,xs[i]?=some x->cs[i]?=some c->R x c)->T3 R (xs.filter p) (((xs.zip cs).filter fun z=>p z.1).map (·.2))
 | [],[],_,_=>.nil
 | [],_::_,h,_=>by simp at h
 | _::_,[],h,_=>by simp at h
 | x::xs,c::cs,h,r=>by
   rw [Ww,Vf,Vf];have ih:=qS p (xs:=xs) (cs:=cs) (R:=R) (by simpa using h) fun i x' c' e1 e2=>r (i+1) x' c' (by simpa using e1) (by simpa using e2);by_cases e:p x=true
   · rw [if_pos e,if_pos e];exact .cons (r 0 x c rfl rfl) ih
   · rw [if_neg e,if_neg e];exact ih
theorem P2.mapl {α β γ:Type} {R:β->γ->Prop} (f:α->β):∀ {xs:List α} {cs:List γ},T3 (fun x c=>R (f x) c) xs cs->T3 R (xs.map f) cs
 | _,_,.nil=>.nil
 | _,_,.cons r h=>.cons r (P2.mapl f h)
end BB
namespace BB
open PySem L2
def TK (K:S8) (H:Hp) (a:Ta) (xs:List V):Prop:=H a=some (.tup xs)∨∃ (o:VH) (its:Array Tc) (n:Nat),K.lookup a=some o/\o.cls=.type "tuple"/\o.data=.seq its n/\its.size<=TB/\Vals xs its.toList
theorem TK.of {K:S8} {H:Hp} {a:Ta} {xs:List V} (h:H a=some (.tup xs)):TK K H a xs:=.inl h
theorem TK.sq {K:S8} {H:Hp} {a:Ta} {xs:List V} (h:TK K H a xs):SqT K H a xs:=by
 rcases h with h | h
 · exact SqT.of h
 · exact .inr h
theorem TK.mono {K:S8} {H H':Hp} {a:Ta} {xs:List V} (h:TK K H a xs) (k:KT H H'):TK K H' a xs:=by
 rcases h with h | h
 · exact .inl (k _ _ h)
 · exact .inr h
mutual
def AtK (K:S8) (H:Hp):Th->Ta->Prop
 | .knot n ks,a=>n≠q/\∃ as:List Ta,TK K H a (.str n::as.map V.ref)/\AtsK K H ks as
 | .call s k,a=>TK K H a [.str q,.int s,.int k]
def AtsK (K:S8) (H:Hp):List Th->List Ta->Prop
 | [],as=>as=[]
 | t::ts,as=>∃ a r,as=a::r/\AtK K H t a/\AtsK K H ts r
end
mutual
theorem AtK.mono {K:S8} {H H':Hp} (k:KT H H'):∀ {t:Th} {a:Ta},AtK K H t a->AtK K H' t a
 | .knot n ks,a,h=>by
   rw [AtK] at h ⊢;obtain ⟨h0,as,h1,h2⟩:=h;exact ⟨h0,as,h1.mono k,AtsK.mono k h2⟩
 | .call s c,a,h=>by
   rw [AtK] at h ⊢;exact h.mono k
theorem AtsK.mono {K:S8} {H H':Hp} (k:KT H H'):∀ {ts:List Th} {as:List Ta},AtsK K H ts as->AtsK K H' ts as
 | [],as,h=>by rw [AtsK] at h ⊢;exact h
 | t::ts,as,h=>by
   rw [AtsK] at h ⊢;obtain ⟨a,r,e,h1,h2⟩:=h;exact ⟨a,r,e,AtK.mono k h1,AtsK.mono k h2⟩
end
theorem AtsK.nil {K:S8} {H:Hp}:AtsK K H [] []:=by rw [AtsK]
theorem AtsK.cons {K:S8} {H:Hp} {t:Th} {ts:List Th} {a:Ta} {as:List Ta} (h1:AtK K H t a) (h2:AtsK K H ts as):AtsK K H (t::ts) (a::as):=by rw [AtsK];exact ⟨a,as,rfl,h1,h2⟩
theorem AtsK.append {K:S8} {H:Hp}:∀ {ts us:List Th} {as bs:List Ta},AtsK K H ts as->AtsK K H us bs->AtsK K H (ts++us) (as++bs)
 | [],us,as,bs,h,g=>by rw [AtsK] at h;subst h;exact g
 | t::ts,us,as,bs,h,g=>by
   rw [AtsK] at h;obtain ⟨a,r,rfl,h1,h2⟩:=h;exact .cons h1 (h2.append g)
theorem AtsK.length {K:S8} {H:Hp}:∀ {ts:List Th} {as:List Ta},AtsK K H ts as->as.length=ts.length
 | [],as,h=>by rw [AtsK] at h;subst h;rfl
 | t::ts,as,h=>by
   rw [AtsK] at h;obtain ⟨a,r,rfl,h1,h2⟩:=h;rw [To,To,h2.length]
theorem AtsK.reverse {K:S8} {H:Hp}:∀ {ts:List Th} {as:List Ta},AtsK K H ts as->AtsK K H ts.reverse as.reverse
 | [],as,h=>by rw [AtsK] at h;subst h;exact .nil
 | t::ts,as,h=>by
   rw [AtsK] at h;obtain ⟨a,r,rfl,h1,h2⟩:=h;rw [UA,UA];exact h2.reverse.append (.cons h1 .nil)
theorem AtsK.get {K:S8} {H:Hp}:∀ {ts:List Th} {as:List Ta} {i:Nat} {a:Ta},AtsK K H ts as->as[i]?=some a->∃ t,ts[i]?=some t/\AtK K H t a
 | [],as,i,a,h,e=>by rw [AtsK] at h;subst h;simp at e
 | t::ts,as,i,a,h,e=>by
   rw [AtsK] at h;obtain ⟨b,r,rfl,h1,h2⟩:=h;cases i with
   | zero=>simp at e;subst e;exact ⟨t,rfl,h1⟩
   | succ i=>exact h2.get (i:=i) (by simpa using e)
theorem AtsK.at {K:S8} {H:Hp}:∀ {ts:List Th} {as:List Ta} {i:Nat} {t:Th},AtsK K H ts as->ts[i]?=some t->∃ a,as[i]?=some a/\AtK K H t a
 | [],as,i,a,h,e=>by simp at e
 | t::ts,as,i,a,h,e=>by
   rw [AtsK] at h;obtain ⟨b,r,rfl,h1,h2⟩:=h;cases i with
   | zero=>simp at e;subst e;exact ⟨b,rfl,h1⟩
   | succ i=>exact h2.at (i:=i) (by simpa using e)
theorem AtsK.snoc_inv {K:S8} {H:Hp} {ts:List Th} {as:List Ta} {a:Ta} (h:AtsK K H ts (as++[a])):∃ us t,ts=us++[t]/\AtsK K H us as/\AtK K H t a:=by
 have r:=h.reverse;rw [UY,List.reverse_singleton,List.singleton_append] at r;cases e:ts.reverse with
 | nil=>rw [e,AtsK] at r;cases r
 | cons t us =>
   rw [e,AtsK] at r;obtain ⟨b,z,e1,h1,h2⟩:=r;cases e1;refine ⟨us.reverse,t,?_,?_,h1⟩
   · rw [<- UA,<- e,Vq]
   · have:=h2.reverse;rw [Vq] at this;exact this
mutual
def DAtK (K:S8) (H:Hp):Dv->V->Prop
 | .int i,v=>v=.int i
 | .str x,v=>v=.str x
 | .tup ds,v=>∃ a vs,v=.ref a/\TK K H a vs/\DAtsK K H ds vs
def DAtsK (K:S8) (H:Hp):List Dv->List V->Prop
 | [],vs=>vs=[]
 | d::ds,vs=>∃ v r,vs=v::r/\DAtK K H d v/\DAtsK K H ds r
end
theorem DAtsK.nil {K:S8} {H:Hp}:DAtsK K H [] []:=by rw [DAtsK]
theorem DAtsK.cons {K:S8} {H:Hp} {d:Dv} {ds:List Dv} {v:V} {vs:List V} (h1:DAtK K H d v) (h2:DAtsK K H ds vs):DAtsK K H (d::ds) (v::vs):=by rw [DAtsK];exact ⟨v,vs,rfl,h1,h2⟩
theorem DAtsK.length {K:S8} {H:Hp}:∀ {ds:List Dv} {vs:List V},DAtsK K H ds vs->vs.length=ds.length
 | [],vs,h=>by rw [DAtsK] at h;subst h;rfl
 | d::ds,vs,h=>by
   rw [DAtsK] at h;obtain ⟨v,r,rfl,h1,h2⟩:=h;rw [To,To,h2.length]
theorem DAtsK.at {K:S8} {H:Hp}:∀ {ds:List Dv} {vs:List V} {i:Nat} {d:Dv},DAtsK K H ds vs->ds[i]?=some d->∃ v,vs[i]?=some v/\DAtK K H d v
 | [],vs,i,d,h,e=>by simp at e
 | d0::ds,vs,i,d,h,e=>by
   rw [DAtsK] at h;obtain ⟨v,r,rfl,h1,h2⟩:=h;cases i with
   | zero=>simp at e;subst e;exact ⟨v,rfl,h1⟩
   | succ i =>
     obtain ⟨u,g1,g2⟩:=h2.at (i:=i) (by simpa using e);exact ⟨u,by simpa using g1,g2⟩
mutual
theorem AtK.dv {K:S8} {H:Hp}:∀ {t:Th} {a:Ta},AtK K H t a->DAtK K H t.dv (.ref a)
 | .knot n ks,a,h=>by
   rw [AtK] at h;obtain ⟨_,as,h1,h2⟩:=h;rw [Th.dv,DAtK];exact ⟨a,_,rfl,h1,.cons (by rw [DAtK]) (AtsK.dvs h2)⟩
 | .call s k,a,h=>by
   rw [AtK] at h;rw [Th.dv,DAtK];exact ⟨a,_,rfl,h,.cons (by rw [DAtK]) (.cons (by rw [DAtK]) (.cons (by rw [DAtK]) .nil))⟩
theorem AtsK.dvs {K:S8} {H:Hp}:∀ {ts:List Th} {as:List Ta},AtsK K H ts as->DAtsK K H (dvs ts) (as.map V.ref)
 | [],as,h=>by rw [AtsK] at h;subst h;rw [BB.dvs];exact .nil
 | t::ts,as,h=>by
   rw [AtsK] at h;obtain ⟨a,r,rfl,h1,h2⟩:=h;rw [BB.dvs,Up];exact .cons (AtK.dv h1) (AtsK.dvs h2)
end
mutual
theorem At.k {K:S8} {H:Hp}:∀ {t:Th} {a:Ta},At H t a->AtK K H t a
 | .knot n ks,a,h=>by
   rw [At] at h;rw [AtK];obtain ⟨h0,as,h1,h2⟩:=h;exact ⟨h0,as,.of h1,Ats.k h2⟩
 | .call s c,a,h=>by
   rw [At] at h;rw [AtK];exact .of h
theorem Ats.k {K:S8} {H:Hp}:∀ {ts:List Th} {as:List Ta},Ats H ts as->AtsK K H ts as
 | [],as,h=>by rw [Ats] at h;rw [AtsK];exact h
 | t::ts,as,h=>by
   rw [Ats] at h;rw [AtsK];obtain ⟨a,r,e,h1,h2⟩:=h;exact ⟨a,r,e,At.k h1,Ats.k h2⟩
end
theorem AtK.row {K:S8} {H:Hp} {t:Th} {a:Ta} (h:AtK K H t a):∃ r,TK K H a (.str t.name::r)/\r.length=t.wid:=by
 cases t with
 | knot n ks =>
   rw [AtK] at h;obtain ⟨_,as,h1,h2⟩:=h;exact ⟨_,h1,by rw [S6,h2.length];rfl⟩
 | call s k =>
   rw [AtK] at h;exact ⟨_,h,rfl⟩
theorem oR {K:S8} {H:Hp} {l:Th} {x:Ta} (h:AtK K H l x) (r:Th):aG l r=(l.isKnot && (decide (l.name=r.name) && decide (l.wid=r.wid))):=by
 cases l with
 | knot n ks =>
   rw [AtK] at h;cases r with
   | knot m us =>
     show (!(Th.knot n ks).isHole && decide (n=m) && decide (ks.length=us.length))=(!false && !(Th.knot n ks).isHole && (decide (n=m) && decide (ks.length=us.length)));rw [Bool.and_assoc];rfl
   | call s k =>
     show false=(_ && (decide (n=q) && _));rw [decide_eq_false h.1];simp
 | call s k=>cases r <;> rfl
theorem xm {K:S8} {H:Hp} {a b:Ta} {xs ys:List V} {Q:VK} (ha:TK K H a xs) (hb:TK K H b ys) (hz:xs.length+ys.length<=1000000) (q:∀ p H',L2.Same H H'->TK K H' p (xs++ys)->Q (.ref p) H'):kb K (.ref a) (.ref b) H Q:=by
 refine ⟨a,b,xs,ys,rfl,rfl,ha.sq,hb.sq,ai hz,fun e=>?_,fun _ e=>?_,fun _ _ p hp=>?_⟩
 · exact q b H (.refl _) (by rw [e];exact hb)
 · exact q a H (.refl _) (by rw [e,Ui];exact ha)
 · exact q p _ (ad hp _) (.of ab)
def PPK (K:S8) (H:Hp) (p:Th×Th) (a:Ta):Prop:=∃ x y,H a=some (.tup [.ref x,.ref y])/\AtK K H p.1 x/\AtK K H p.2 y
theorem PPK.mono {K:S8} {H H':Hp} (k:KT H H') {p:Th×Th} {a:Ta} (h:PPK K H p a):PPK K H' p a:=by
 obtain ⟨x,y,h1,h2,h3⟩:=h;exact ⟨x,y,k _ _ h1,h2.mono k,h3.mono k⟩
theorem du {K:S8} {H H':Hp} (k:KT H H') {ps:List (Th×Th)} {as:List Ta} (h:T3 (PPK K H) ps as):T3 (PPK K H') ps as:=P2.mp (fun _ _ e=>PPK.mono k e) h
theorem pB {K:S8} {H:Hp}:∀ {ks us:List Th} {as bs ts:List Ta},AtsK K H ks as->AtsK K H us bs->T3 (fun (p:V×V) t=>H t=some (.tup [p.1,p.2])) ((as.map V.ref).zip (bs.map V.ref)) ts->T3 (PPK K H) (ks.zip us) ts
 | [],us,as,bs,ts,h1,h2,h=>by
   rw [AtsK] at h1;subst h1;rw [VI,XQ] at h;cases h;rw [XQ];exact .nil
 | k::ks,[],as,bs,ts,h1,h2,h=>by
   rw [AtsK] at h2;subst h2;rw [VI,XH] at h;cases h;rw [XH];exact .nil
 | k::ks,u::us,as,bs,ts,h1,h2,h=>by
   rw [AtsK] at h1 h2;obtain ⟨a,ar,rfl,a1,a2⟩:=h1;obtain ⟨b,br,rfl,b1,b2⟩:=h2;rw [Up,Up,Ww] at h;cases h with
   | cons r h =>
     rw [Ww];exact .cons ⟨a,b,r,a1,b1⟩ (pB a2 b2 h)
def TopAtK (K:S8) (H:Hp):Top->Ta->Prop
 | .nm n m,a=>∃ ta,H a=some (.tup [.ref ta,.int (m:Nat)])/\n≠q/\TK K H ta [.str n]
 | .th t,a=>∃ ta,H a=some (.tup [.ref ta,.int 0])/\AtK K H t ta
theorem TopAtK.mono {K:S8} {H H':Hp} (k:KT H H'):∀ {x:Top} {a:Ta},TopAtK K H x a->TopAtK K H' x a
 | .nm n m,a,h=>by
   obtain ⟨ta,h1,h2,h3⟩:=h;exact ⟨ta,k _ _ h1,h2,h3.mono k⟩
 | .th t,a,h=>by
   obtain ⟨ta,h1,h2⟩:=h;exact ⟨ta,k _ _ h1,h2.mono k⟩
theorem dH {K:S8} {H H':Hp} (k:KT H H') {l:List Top} {as:List Ta} (h:T3 (TopAtK K H) l as):T3 (TopAtK K H') l as:=P2.mp (fun _ _ e=>TopAtK.mono k e) h
theorem AtK.whole {K:S8} {H:Hp} {t:Th} {a:Ta} (h:AtK K H t a):∃ xs,TK K H a xs/\xs.length<=t.size+2/\∀ (H':Hp) (p:Ta),KT H H'->TK K H' p xs->AtK K H' t p:=by
 cases t with
 | knot n ks =>
   rw [AtK] at h;obtain ⟨h0,as,h1,h2⟩:=h;refine ⟨_,h1,?_,fun H' p kt hp=>?_⟩
   · have:=h2.length;have:=bL ks;rw [To,S6,Th.size];omega
   · rw [AtK];exact ⟨h0,as,hp,h2.mono kt⟩
 | call s k =>
   rw [AtK] at h;refine ⟨_,h,by rw [Th.size];exact Td _,fun H' p kt hp=>?_⟩;rw [AtK];exact hp
theorem tZ {K:S8} {H:Hp} {a:Ta} (h:TK K H a [.str star]):AtK K H hole a:=by
 rw [hole,AtK];exact ⟨uX,[],h,by rw [AtsK]⟩
mutual
theorem DAtK.inj {X:Cx} {pins:List (Ta×VH)} {σ:St} {H:Hp} {s:Tj} (I:Inv X pins σ H s):∀ {d e:Dv} {v:V},DAtK X.K H d v->DAtK X.K H e v->d=e
 | .int i,.int j,v,h,g=>by rw [DAtK] at h;rw [DAtK] at g;rw [h] at g;cases g;rfl
 | .int i,.str y,v,h,g=>by rw [DAtK] at h;rw [DAtK] at g;rw [h] at g;cases g
 | .int i,.tup es,v,h,g=>by rw [DAtK] at h;rw [DAtK] at g;obtain ⟨a,vs,e,_⟩:=g;rw [h] at e;cases e
 | .str x,.int j,v,h,g=>by rw [DAtK] at h;rw [DAtK] at g;rw [h] at g;cases g
 | .str x,.str y,v,h,g=>by rw [DAtK] at h;rw [DAtK] at g;rw [h] at g;cases g;rfl
 | .str x,.tup es,v,h,g=>by rw [DAtK] at h;rw [DAtK] at g;obtain ⟨a,vs,e,_⟩:=g;rw [h] at e;cases e
 | .tup ds,.int j,v,h,g=>by rw [DAtK] at h;rw [DAtK] at g;obtain ⟨a,vs,e,_⟩:=h;rw [e] at g;cases g
 | .tup ds,.str y,v,h,g=>by rw [DAtK] at h;rw [DAtK] at g;obtain ⟨a,vs,e,_⟩:=h;rw [e] at g;cases g
 | .tup ds,.tup es,v,h,g=>by
   rw [DAtK] at h;rw [DAtK] at g;obtain ⟨a,vs,e1,h1,h2⟩:=h;obtain ⟨b,ws,e2,g1,g2⟩:=g;rw [e1] at e2;cases e2;have e3:=I.tuple_inj h1.sq g1.sq;subst e3;rw [DAtsK.inj I h2 g2]
theorem DAtsK.inj {X:Cx} {pins:List (Ta×VH)} {σ:St} {H:Hp} {s:Tj} (I:Inv X pins σ H s):∀ {ds es:List Dv} {vs:List V},DAtsK X.K H ds vs->DAtsK X.K H es vs->ds=es
 | [],[],vs,h,g=>rfl
 | [],e::es,vs,h,g=>by rw [DAtsK] at h;rw [DAtsK] at g;obtain ⟨v,r,z,_⟩:=g;rw [h] at z;cases z
 | d::ds,[],vs,h,g=>by rw [DAtsK] at h;rw [DAtsK] at g;obtain ⟨v,r,z,_⟩:=h;rw [g] at z;cases z
 | d::ds,e::es,vs,h,g=>by
   rw [DAtsK] at h;rw [DAtsK] at g;obtain ⟨v,r,z,h1,h2⟩:=h;obtain ⟨v',r',z',g1,g2⟩:=g;rw [z] at z';cases z';rw [DAtK.inj I h1 g1,DAtsK.inj I h2 g2]
end
end BB
namespace L2
open PySem PySem.Spec PySem.SeqAt PyProof.Rows BB
open Classical in
theorem mh {X:Cx} {pins:List (Ta×VH)} {σ:St} {H:Hp} {s:Tj} (I:Inv X pins σ H s) {ds es:List Dv} {a b:Ta} {vs ws:List V} {A:Uh} (ha:SqT X.K H a vs) (hb:SqT X.K H b ws) (BQ:DAtsK X.K H ds vs) (yL:DAtsK X.K H es ws) (hu:A.units<Vc)
 (ih:∀ (j:Nat) (d e:Dv) (x y:V) (u v:Tc),ds[j]?=some d->DAtK X.K H d x->DAtK X.K H e y->RelV x u->RelV y v->EqAt A.in1 s u v (decide (d=e))):RcAt A s (.ref a) (.ref b) (decide (Dv.tup ds=Dv.tup es)):=by
 obtain ⟨its,r1,p1,_⟩:=I.tuple ha;obtain ⟨xX,r2,p2,_⟩:=I.tuple hb;have l1:its.length=ds.length:=by rw [<- r1.length,BQ.length]
 have l2:xX.length=es.length:=by rw [<- r2.length,yL.length]
 have Cj:RcAt A s (.ref a) (.ref b) ((T7 (min its.toArray.size xX.toArray.size)).all (fun j=>decide (ds[j]?=es[j]?)) && its.toArray.size == xX.toArray.size):=by
  refine RcAt.tuples (show s.heap.IsTuple a its.toArray from p1) (show s.heap.IsTuple b xX.toArray from p2) hu fun j h1 h2=>?_;have Bw:j<ds.length:=by rw [<- l1];simpa using h1
  have AR:j<es.length:=by rw [<- l2];simpa using h2
  have e1:ds[j]?=some ds[j]:=S9 Bw;have e2:es[j]?=some es[j]:=S9 AR;obtain ⟨x',C4,dx⟩:=BQ.at e1;obtain ⟨y',AL,dy⟩:=yL.at e2;obtain ⟨u',zA,C6⟩:=r1.get C4;obtain ⟨v',yM,AS⟩:=r2.get AL;have e3:decide (ds[j]?=es[j]?)=decide (ds[j]=es[j]):=by rw [e1,e2];simp
  have e4:its.toArray[j]=u':=by
   rw [S9 (by rw [l1];exact Bw)] at zA;simpa using zA
  have e5:xX.toArray[j]=v':=by
   rw [S9 (by rw [l2];exact AR)] at yM;simpa using yM
  rw [e3,e4,e5];exact ih j ds[j] es[j] x' y' u' v' e1 dx dy C6 AS
 have e:decide (Dv.tup ds=Dv.tup es)=((T7 (min its.toArray.size xX.toArray.size)).all (fun j=>decide (ds[j]?=es[j]?)) && its.toArray.size == xX.toArray.size):=by
  rw [Tq,Tq,l1,l2];by_cases h:ds=es
  · subst h;rw [decide_eq_true rfl];symm;simp
  · rw [decide_eq_false (fun z=>h (Dv.tup.inj z))];symm;by_cases hl:ds.length=es.length
    · rw [hl,Yb]
      have:¬ ((T7 es.length).all (fun j=>decide (ds[j]?=es[j]?)))=true:=by
       intro z;apply h;apply XS;intro j;by_cases hj:j<es.length
       · have:=Wn.mp z j (VZ.mpr hj);exact of_decide_eq_true this
       · rw [Vk (by omega),Vk (by omega)]
      rw [Vw.mpr this];rfl
    · have:(ds.length == es.length)=false:=by simpa using hl
      rw [this,XN]
 rw [e];exact Cj
open Classical in
theorem o7 {X:Cx} {pins:List (Ta×VH)} {σ:St} {H:Hp} {s:Tj} (I:Inv X pins σ H s):∀ (n:Nat) (d e:Dv),d.tot<=n->∀ (x y:V) (u v:Tc) (A:Uh),DAtK X.K H d x->DAtK X.K H e y->RelV x u->RelV y v->A.units+d.deep<Vc->EqAt A s u v (decide (d=e))
 | 0,d,e,hn,x,y,u,v,A,hd,he,ru,rv,hu=>by have:=d.tot_pos;omega
 | n+1,.int i,.int j,hn,x,y,u,v,A,hd,he,ru,rv,hu=>by
   rw [DAtK] at hd;rw [DAtK] at he;subst hd he;obtain ⟨t,rfl⟩:=ru;obtain ⟨t',rfl⟩:=rv
   have e:decide (Dv.int i=Dv.int j)=(i == j):=by
    by_cases h:i=j
    · subst h;simp
    · rw [decide_eq_false (fun z=>h (Dv.int.inj z))];simp [h]
   rw [e];exact EqAt.int_int i t j t'
 | n+1,.int i,.str b,hn,x,y,u,v,A,hd,he,ru,rv,hu=>by
   rw [DAtK] at hd;rw [DAtK] at he;subst hd he;obtain ⟨t,rfl⟩:=ru;obtain ⟨t',rfl⟩:=rv;rw [decide_eq_false (fun z=>by cases z)];exact EqAt.int_str i t b t'
 | n+1,.int i,.tup es,hn,x,y,u,v,A,hd,he,ru,rv,hu=>by
   rw [DAtK] at hd;rw [DAtK] at he;obtain ⟨a,vs,rfl,ha,_⟩:=he;subst hd;obtain ⟨t,rfl⟩:=ru;cases rv;obtain ⟨its,_,p,_⟩:=I.tuple (ha.sq);rw [decide_eq_false (fun z=>by cases z)];exact EqAt.int_tuple i t (show s.heap.IsTuple a its.toArray from p) (by omega)
 | n+1,.str b,.int j,hn,x,y,u,v,A,hd,he,ru,rv,hu=>by
   rw [DAtK] at hd;rw [DAtK] at he;subst hd he;obtain ⟨t,rfl⟩:=ru;obtain ⟨t',rfl⟩:=rv;rw [decide_eq_false (fun z=>by cases z)];exact EqAt.str_int b t j t'
 | n+1,.str b,.str c,hn,x,y,u,v,A,hd,he,ru,rv,hu=>by
   rw [DAtK] at hd;rw [DAtK] at he;subst hd he;obtain ⟨t,rfl⟩:=ru;obtain ⟨t',rfl⟩:=rv
   have e:decide (Dv.str b=Dv.str c)=(b == c):=by
    by_cases h:b=c
    · subst h;simp
    · rw [decide_eq_false (fun z=>h (Dv.str.inj z))];simp [h]
   rw [e];exact EqAt.str_str b t c t'
 | n+1,.str b,.tup es,hn,x,y,u,v,A,hd,he,ru,rv,hu=>by
   rw [DAtK] at hd;rw [DAtK] at he;obtain ⟨a,vs,rfl,ha,_⟩:=he;subst hd;obtain ⟨t,rfl⟩:=ru;cases rv;obtain ⟨its,_,p,_⟩:=I.tuple (ha.sq);rw [decide_eq_false (fun z=>by cases z)];exact EqAt.str_tuple b t (show s.heap.IsTuple a its.toArray from p) (by omega)
 | n+1,.tup ds,.int j,hn,x,y,u,v,A,hd,he,ru,rv,hu=>by
   rw [DAtK] at hd;rw [DAtK] at he;obtain ⟨a,vs,rfl,ha,_⟩:=hd;subst he;cases ru;obtain ⟨t,rfl⟩:=rv;obtain ⟨its,_,p,_⟩:=I.tuple (ha.sq);rw [decide_eq_false (fun z=>by cases z)];exact EqAt.tuple_int j t (show s.heap.IsTuple a its.toArray from p) (by omega)
 | n+1,.tup ds,.str b,hn,x,y,u,v,A,hd,he,ru,rv,hu=>by
   rw [DAtK] at hd;rw [DAtK] at he;obtain ⟨a,vs,rfl,ha,_⟩:=hd;subst he;cases ru;obtain ⟨t,rfl⟩:=rv;obtain ⟨its,_,p,_⟩:=I.tuple (ha.sq);rw [decide_eq_false (fun z=>by cases z)];exact EqAt.tuple_str b t (show s.heap.IsTuple a its.toArray from p) (by omega)
 | n+1,.tup ds,.tup es,hn,x,y,u,v,A,hd,he,ru,rv,hu=>by
   have BR:=hd;have Ky:=he;rw [DAtK] at hd;rw [DAtK] at he;obtain ⟨a,vs,rfl,ha,BQ⟩:=hd;obtain ⟨b,ws,rfl,hb,yL⟩:=he;cases ru;cases rv;by_cases zJ:a=b
   · subst zJ;rw [decide_eq_true (DAtK.inj I BR Ky)];exact EqAt.same _
   rw [Dv.tot] at hn;rw [Dv.deep] at hu;refine EqAt.of_refs zJ (mh I ha.sq hb.sq BQ yL (by omega) fun j d e x' y' u' v' e1 dx dy C6 AS=>?_);have q1:=nN e1;have q2:=fe e1;refine o7 I n d e (by omega) x' y' u' v' A.in1 dx dy C6 AS ?_;show A.units+1+_<Vc;omega
def vE (K:S8) (B:Nat):R2:=fun x y H Q=>∃ a b vs ws ds es,x=.ref a/\y=.ref b/\SqT K H a vs/\SqT K H b ws/\DAtsK K H ds vs/\DAtsK K H es ws/\cS ds<=B/\∀ b:Bool,(b=true↔ds=es)->Q (.bl b) H
open Classical in
theorem uL {X:Cx} {B:Nat} (hu:X.A.units+B+2<Vc):OpR X (WN .Eq) (vE X.K B):=by
 intro pins s σ H x y v u Q I rx ry h;obtain ⟨a,b,vs,ws,ds,es,rfl,rfl,ha,hb,BQ,yL,hB,q⟩:=h;cases rx;cases ry
 have r:RcAt X.A s (.ref a) (.ref b) (decide (Dv.tup ds=Dv.tup es)):=mh I ha hb BQ yL (by omega) fun j d e x' y' u' v' e1 dx dy C6 AS=>by
  have q2:=fe e1;refine o7 I _ d e (Td _) x' y' u' v' X.A.in1 dx dy C6 AS ?_;show X.A.units+1+_<Vc;omega
 refine r X.prog X.w X.xe _ ⟨.bl (decide (Dv.tup ds=Dv.tup es)),H,I,rfl,q _ ?_⟩;constructor
 · intro z;exact Dv.tup.inj (of_decide_eq_true z)
 · intro z;rw [z];exact decide_eq_true rfl
def xR (K:S8):V->Option Int->Option Int->Hp->VK->Prop:=fun x lo hi H Q=>∃ a xs,x=.ref a/\TK K H a xs/\∀ p H',Same H H'->TK K H' p (dJ xs lo hi)->Q (.ref p) H'
theorem qv {X:Cx}:SlR X (xR X.K):=by
 intro pins s σ H x v vl vu lo hi sl Q I rx hs pl pu h;obtain ⟨a,xs,rfl,ha,q⟩:=h;by_cases hw:HT.sIx xs.length 0 lo=0/\HT.sIx xs.length xs.length hi=xs.length
 · obtain ⟨its,r,p1,hz⟩:=I.tuple ha.sq;have hl:=r.length;cases rx
   have e:dJ xs lo hi=xs:=by
    unfold dJ;rw [hw.1,hw.2,VM,YR,VG]
   refine ⟨"tuple",_,Ug.lookup,p1.typeIs,HT.getItem_tuple_whole p1 hs pl pu (by rw [Tq,<- hl];exact hw) ⟨.ref a,H,I,rfl,q a H (.refl _) (by rw [e];exact ha)⟩⟩
 · exact eO pins s σ H _ v vl vu lo hi sl Q I rx hs pl pu ⟨a,xs,rfl,ha.sq,hw,fun p hp=>q p _ (ad hp _) (.of ab)⟩
end L2
namespace BB
open PySem L2
mutual
def Th.com:Th->Th->Th
 | .knot n ks,r=>if aG (.knot n ks) r=true then .knot n (dq ks r.kids) else hole
 | .call _ _,_=>hole
def dq:List Th->List Th->List Th
 | [],_=>[]
 | k::ks,us=>match us with
   | []=>[]
   | u::us=>k.com u::dq ks us
end
theorem o5:∀ ks us:List Th,dq ks us=(ks.zip us).map fun p=>p.1.com p.2
 | [],_=>by rw [dq];rfl
 | k::ks,[]=>by rw [dq];rfl
 | k::ks,u::us=>by rw [dq,o5 ks us];rfl
theorem ij (l r:Th):l.com r=if aG l r=true then .knot l.name ((l.kids.zip r.kids).map fun p=>p.1.com p.2) else hole:=by
 cases l with
 | knot n ks=>rw [Th.com,o5];rfl
 | call s k =>
   rw [Th.com];have:aG (.call s k) r=false:=by cases r <;> rfl
   rw [this];rfl
def topC (p:Th×Th):Top:=if aG p.1 p.2=true then .nm p.1.name p.1.kids.length else .th hole
theorem pX:∀ (n:Nat) (ps:List (Th×Th)),szL ps<=n->∀ S,bl ((wks ps).map topC++S)=ps.map (fun p=>p.1.com p.2)++bl S/\(TopsOk S->TopsOk ((wks ps).map topC++S))
 | _,[],_,S=>⟨rfl,fun h=>h⟩
 | 0,p::ps,h,S=>by
   have:=p.1.size_pos;rw [szL] at h;omega
 | n+1,p::ps,h,S=>by
   have hs:=p.1.size_eq;have hz:=iS p.1.kids p.2.kids;rw [szL] at h;have i2:=pX n ps (by omega) S;rw [wks,Th.sbs_eq,Tu,UB,Up,Vr];have hc:(p::ps).map (fun p=>p.1.com p.2)=p.1.com p.2::ps.map (fun p=>p.1.com p.2):=rfl;by_cases yQ:aG p.1 p.2=true
   · have i1:=pX n (p.1.kids.zip p.2.kids) (by omega) ((wks ps).map topC++S);obtain ⟨nm,ks,us,e1,e2,e3,_⟩:=bM yQ
     have hl:((p.1.kids.zip p.2.kids).map fun p=>p.1.com p.2).length=p.1.kids.length:=by
      rw [S6,Wz,e1,e2];simp only [Th.kids];omega
     have ht:topC (p.1,p.2)=.nm p.1.name p.1.kids.length:=by unfold topC;rw [if_pos yQ]
     rw [if_pos yQ,ht];refine ⟨?_,fun hS=>?_⟩
     · rw [bl,i1.1,i2.1,hc,ij,if_pos yQ,<- hl,List.take_left,List.drop_left];rfl
     · rw [TopsOk];exact ⟨by rw [i1.1,TC,hl];exact VU _ _,i1.2 (i2.2 hS)⟩
   · have ht:topC (p.1,p.2)=.th hole:=by unfold topC;rw [if_neg yQ]
     rw [if_neg yQ,ht,VI,Vy];refine ⟨?_,fun hS=>?_⟩
     · rw [bl,i2.1,hc,ij,if_neg yQ];rfl
     · rw [TopsOk];exact i2.2 hS
theorem v6 (l r:Th):bl ((l.sbs r).map topC)=[l.com r]/\TopsOk ((l.sbs r).map topC):=by
 have h:=pX _ [(l,r)] (Td _) [];rw [wks,wks,Ui,Ui] at h;refine ⟨?_,h.2 (by rw [TopsOk];trivial)⟩;rw [h.1,bl];rfl
theorem cP (l r:Th):aG l r=aG r l:=by
 cases l with
 | knot n ks =>
   cases r with
   | knot m us =>
     show (!decide (n=star/\ks=[]) && decide (n=m) && decide (ks.length=us.length))=(!decide (m=star/\us=[]) && decide (m=n) && decide (us.length=ks.length));by_cases h1:n=m
     · subst h1;by_cases h2:ks.length=us.length
       · have h3:(n=star/\ks=[])↔(n=star/\us=[]):=by
          constructor
          · rintro ⟨a,b⟩;rw [b] at h2;exact ⟨a,UZ.mp h2.symm⟩
          · rintro ⟨a,b⟩;rw [b] at h2;exact ⟨a,UZ.mp h2⟩
         rw [decide_eq_decide.mpr h3,h2]
       · have AR:¬ us.length=ks.length:=fun e=>h2 e.symm;simp [h2,AR]
     · have Bw:¬ m=n:=fun e=>h1 e.symm;simp [h1,Bw]
   | call s k=>rfl
 | call s k=>cases r <;> rfl
mutual
theorem oG:∀ l r:Th,(l.com r).size<=l.size/\(l.com r).tall<=l.tall
 | .knot n ks,r=>by
   have h:=l7 ks r.kids;rw [Th.com];split
   · rw [Th.size,Th.size,Th.tall,Th.tall];omega
   · have:=(Th.knot n ks).size_pos;have:=(Th.knot n ks).tall_eq;rw [eY,mK];omega
 | .call s k,r=>by rw [Th.com,eY,mK,Th.size,Th.tall];omega
theorem l7:∀ ks us:List Th,aq (dq ks us)<=aq ks/\bD (dq ks us)<=bD ks
 | [],us=>by rw [dq,aq,bD];exact ⟨Td _,Td _⟩
 | k::ks,[]=>by rw [dq,aq,bD];exact ⟨TZ _,TZ _⟩
 | k::ks,u::us=>by
   have h1:=oG k u;have h2:=l7 ks us;rw [dq,aq,aq,bD,bD];omega
end
mutual
theorem lI:∀ l r:Th,(l.com r).noCall
 | .knot n ks,r=>by
   rw [Th.com];split
   · rw [Th.noCall];exact jO ks r.kids
   · exact jA
 | .call s k,r=>by rw [Th.com];exact jA
theorem jO:∀ ks us:List Th,cC (dq ks us)
 | [],us=>by rw [dq,cC];trivial
 | k::ks,[]=>by rw [dq,cC];trivial
 | k::ks,u::us=>by rw [dq,cC];exact ⟨lI k u,jO ks us⟩
end
end BB
namespace BB
open PySem L2
theorem TK.const {K:S8} {H:Hp} {a:Ta} {xs:List V} (h:∀ H:Hp,SqT K H a xs):TK K H a xs:=by
 rcases h (fun _=>none) with (h | ⟨o,h⟩) | h
 · cases h
 · cases h
 · exact .inr h
theorem uJ {K:S8} {H:Hp} {t:Th} {a h0:Ta} {Q:VK} (hA:AtK K H t a) (e0:TK K H h0 [.str star]) (yy:t.tall<=150) (k:Q (.bl t.isHole) H):vE K 150 (.ref a) (.ref h0) H Q:=by
 cases t with
 | knot n ks =>
   rw [AtK] at hA;obtain ⟨hn,as,h1,h2⟩:=hA;rw [Th.tall] at yy;have hd:=iM ks;refine ⟨a,h0,_,_,.str n::dvs ks,[.str star],rfl,rfl,h1.sq,e0.sq,.cons (by rw [DAtK]) h2.dvs,.cons (by rw [DAtK]) .nil,by rw [cS,Dv.deep];omega,fun b hb=>?_⟩
   have e:b=(Th.knot n ks).isHole:=by
    rw [Xa,hb];show _↔decide (n=star/\ks=[])=true;rw [decide_eq_true_iff];constructor
    · intro z;have z1:=YF z;refine ⟨Dv.str.inj z1.1,?_⟩;cases ks with
      | nil=>rfl
      | cons x xs=>rw [dvs] at z1;cases z1.2
    · rintro ⟨z1,z2⟩;rw [z1,z2,dvs]
   rw [e];exact k
 | call sn kn =>
   rw [AtK] at hA;refine ⟨a,h0,_,_,[.str q,.int sn,.int kn],[.str star],rfl,rfl,hA.sq,e0.sq,.cons (by rw [DAtK]) (.cons (by rw [DAtK]) (.cons (by rw [DAtK]) .nil)),.cons (by rw [DAtK]) .nil,by simp [cS,Dv.deep],fun b hb=>?_⟩
   have e:b=(Th.call sn kn).isHole:=by
    show b=false;cases b with
    | false=>rfl
    | true=>exact absurd (hb.mp rfl) (by simp)
   rw [e];exact k
end BB
namespace L2
open PySem PySem.Spec PyProof.Rows BB
def wT (K:S8) (T:String):List V->Hp->VK->Prop:=fun xs H Q=>wM K T xs H Q∨∃ a ys b,xs=[.ref a,.ty T]/\SqT K H a ys/\WJ K (.type "tuple") (.type T)=some b/\Q (.bl b) H
theorem sE {X:Cx} {T:String}:gR X (.builtin "isinstance") (wT X.K T):=by
 intro pins s σ H xs us Q I r h;rcases h with h | ⟨a,ys,b,rfl,hq,e,q⟩
 · exact cE pins s σ H xs us Q I r h
 · obtain ⟨u1,u2,rfl,r1,r2⟩:=vals2 r;cases r1;cases r2;obtain ⟨its,rv,⟨o,h1,h2,_⟩,hz⟩:=I.tuple hq;exact Va PySem.W.kitx_tuple I.kIn ⟨o,h1,h2⟩ e (fun z=>nomatch z) fun tk=>⟨.bl b,H,I.tok _,rfl,q⟩
end L2
namespace BB
open PySem L2
theorem iu {f:Th} (h:f.isHole=false):f.lies hole=false:=by
 cases f with
 | knot n ks =>
   rw [Th.lies,h]
   have:aG (.knot n ks) hole=false:=by
    rw [cP];exact iJ jL
   rw [this];rfl
 | call s k=>rw [Th.lies]
theorem eA {f a b:Th} (h1:aG f a=true) (h2:aG f b=true):aG a b=true:=by
 obtain ⟨n,ks,us,rfl,rfl,e3,hh⟩:=bM h1;obtain ⟨n',R4,vs,e1,rfl,e4,_⟩:=bM h2;cases e1
 have hn:(Th.knot n us).isHole=false:=by
  cases hz:(Th.knot n us).isHole with
  | false=>rfl
  | true =>
    rw [cP,iJ hz] at h1;cases h1
 show (!(Th.knot n us).isHole && decide (n=n) && decide (us.length=vs.length))=true;rw [hn];have:us.length=vs.length:=by omega
 simp [this]
theorem lV {f a b:Th} (h:aG a b=true):aG f a=aG f b:=by
 cases h1:aG f a with
 | true =>
   cases h2:aG f b with
   | true=>rfl
   | false =>
     have:=eA (f:=a) (a:=f) (b:=b) (by rw [cP];exact h1) h;rw [h2] at this;cases this
 | false =>
   cases h2:aG f b with
   | false=>rfl
   | true =>
     have:=eA (f:=b) (a:=f) (b:=a) (by rw [cP];exact h2) (by rw [cP];exact h);rw [h1] at this;cases this
theorem pq {n:TY} {us vs:List Th} (f:Th) (h:us.length=vs.length):aG f (.knot n us)=aG f (.knot n vs):=by
 cases f with
 | knot m ks=>show (_ && _ && decide (ks.length=us.length))=(_ && _ && decide (ks.length=vs.length));rw [h]
 | call s k=>rfl
theorem oI:∀ ks us:List Th,(dq ks us).length=min ks.length us.length
 | [],us=>by rw [dq];simp
 | k::ks,[]=>by rw [dq];simp
 | k::ks,u::us=>by rw [dq,To,oI ks us,To,To];omega
mutual
theorem oS:∀ f a b:Th,f.lies (a.com b)=(f.lies a && f.lies b)
 | .call s k,a,b=>by rw [Th.lies,Th.lies,Th.lies];rfl
 | .knot n ks,a,b=>by
   cases hh:(Th.knot n ks).isHole with
   | true =>
     rw [Th.lies,Th.lies,Th.lies,hh];rfl
   | false =>
     by_cases zJ:aG a b=true
     · obtain ⟨m,us,vs,rfl,rfl,e3,_⟩:=bM zJ;have hc:(Th.knot m us).com (.knot m vs)=.knot m (dq us vs):=by rw [Th.com,if_pos zJ];rfl
       have hl:(dq us vs).length=us.length:=by rw [oI];omega
       rw [hc,Th.lies,Th.lies,Th.lies,hh,W7,W7,W7,pq (.knot n ks) hl,<- lV (f:=.knot n ks) zJ];cases hs:aG (.knot n ks) (.knot m us) with
       | false=>rfl
       | true =>
         show (true && cf ks (dq us vs))=((true && cf ks us) && (true && cf ks vs));rw [Bool.true_and,Bool.true_and,Bool.true_and];obtain ⟨_,_,_,e1,e2,e4,_⟩:=bM hs;cases e1;cases e2;exact lC ks us vs e4 (by omega)
     · have hc:a.com b=hole:=by rw [ij,if_neg zJ]
       rw [hc,iu hh];cases h1:(Th.knot n ks).lies a with
       | false=>rfl
       | true =>
         cases h2:(Th.knot n ks).lies b with
         | false=>rfl
         | true =>
           rw [Th.lies,hh,W7,Vs] at h1 h2;exact absurd (eA h1.1 h2.1) zJ
theorem lC:∀ ks us vs:List Th,ks.length=us.length->ks.length=vs.length->cf ks (dq us vs)=(cf ks us && cf ks vs)
 | [],us,vs,_,_=>by rw [cf,cf,cf];rfl
 | k::ks,[],vs,h,_=>by simp at h
 | k::ks,u::us,[],_,h=>by simp at h
 | k::ks,u::us,v::vs,h1,h2=>by
   rw [dq,ir,ir,ir,oS k u v,lC ks us vs (by simpa using h1) (by simpa using h2)];cases k.lies u <;> cases k.lies v <;> cases cf ks us <;> cases cf ks vs <;> rfl
end
end BB
namespace BB
open PySem L2
def PAtK (K:S8) (H:Hp) (p:List Int×Th) (a:Ta):Prop:=∃ pa ta,H a=some (.tup [.ref pa,.ref ta])/\H pa=some (.tup (p.1.map V.int))/\AtK K H p.2 ta
def PsAtK (K:S8) (H:Hp) (ps:List (List Int×Th)) (as:List Ta):Prop:=T3 (PAtK K H) ps as
theorem PAtK.mono {K:S8} {H H':Hp} (k:KT H H') {p:List Int×Th} {a:Ta} (h:PAtK K H p a):PAtK K H' p a:=by
 obtain ⟨pa,ta,h1,h2,h3⟩:=h;exact ⟨pa,ta,k _ _ h1,k _ _ h2,h3.mono k⟩
theorem PsAtK.mono {K:S8} {H H':Hp} (k:KT H H') {ps:List (List Int×Th)} {as:List Ta} (h:PsAtK K H ps as):PsAtK K H' ps as:=P2.mp (fun _ _ e=>PAtK.mono k e) h
theorem uV {xs:List V} {n:Nat} (h:n<=xs.length):dJ xs none (some (n:Int))=xs.take n:=by
 unfold dJ;rw [HT.sIx_none,HT.sIx_nat,Xy h,VM,YR]
end BB
namespace L2
open PySem PySem.Spec PySem.Calls PyProof.Rows PySem.W
section
variable {prog:Tv} {w:TN} {A:Uh} {E:Tc->Tj->Prop} {h:UM} {g:Array GenState} {d:Drawn} {t:Nat} {os:XY} {a C:Ta} {o:VH} {K:Frag}
end
end L2
namespace L2
open PySem PySem.Spec PySem.Calls PyProof.Rows PySem.W
section
variable {P:Tv} {w:TN} {K:S8} {mg:TY->Option Tc} {base:UM} {N:List TY} {qual:TY} {scope:Xm} {f:Ta} {cd:Tc} {A:Uh} {outer:List Env} {s:Tj} {H:Hp} {E:XK}
end
end L2
namespace L2
open PySem PySem.Spec PySem.Calls PyProof.Rows PySem.W
section
variable {X:Cx} {pins:List (Ta×VH)} {σ:St} {H:Hp} {s:Tj}
end
end L2
namespace L2
open PySem PySem.Spec PySem.Calls PyProof.Rows PySem.W
section
variable {P:Tv} {w:TN} {K:S8} {mg:TY->Option Tc} {base:UM}
end
end L2
namespace L2
open PySem PySem.Spec PySem.Calls PyProof.Rows PySem.SeqAt
theorem f6 {k:Nat} {A:Uh} (hr:Room k A):A.units+2<Vc:=by
 have:=hr.units;omega
end L2
namespace L2
open PySem PySem.Spec PySem.Calls PyProof.Rows
end L2
namespace BB
open PySem
end BB
namespace L2
open PySem PySem.Spec PySem.Calls PyProof.Rows BB
section
variable {prog:Tv} {w:TN} {A:Uh} {R:Result->Tj->Prop}
end
end L2
namespace PySem
section
variable {prog:Tv} {w:TN} {A:Uh} {E:Tc->Tj->Prop} {s:Tj}
end
end PySem
namespace L2
open PySem PySem.Spec PySem.Calls PyProof.Rows BB
end L2
namespace L2
open PySem PySem.Spec PySem.Calls PyProof.Rows BB
section
variable {X:Cx}
end
end L2
namespace BB
open PySem L2
theorem nP {α:Type} {js:List (Option Nat)} {g:TG} {tt:TT} {te:TE} {σ:St} {J:It} {H:Hp} {xs:List V} {fin:Ta->Hp->Prop} (zs:List α) (f:α->V) (hz:zs.length=xs.length) (hn:xs.length<=1000000)
 (BP:∀ i H2,L2.Same H H2->i<xs.length->J.go i H2) (yY:∀ H2,L2.Same H H2->J.stop xs.length H2) (zT:∀ (i:Nat) H2 x H3,L2.Same H H2->i<xs.length->J.yld i H2 x H3->H3=H2/\xs[i]?=some x)
 (hb:∀ (i:Nat) x z H2 (R:VK) (W':Hp->Prop),xs[i]?=some x->zs[i]?=some z->L2.Same H H2->(∀ H3,L2.Same H2 H3->R (f z) H3)->g x (cσ js σ) H2 fun ym H3=>tt ym H3 fun b H4=>if b=true then te ym H4 R else W' H4)
 (zh:∀ D H',H D=none->L2.Same H H'->H' D=some (.lst (zs.map f))->fin D H') :
 ∀ D,H D=none->∃ (n:Nat) (W:Nat->Hp->Prop),W 0 (upd H D (.lst []))/\fN js g tt te σ J D n W fun H'=>fin D H':=by
 intro D hD;refine ⟨xs.length,fun i H'=>i<=xs.length/\L2.Same H H'/\H' D=some (.lst ((zs.take i).map f)),⟨TZ _,ad hD _,by rw [ab];rfl⟩,?_⟩;rintro i H' ⟨hi,s1,e1⟩;by_cases yf:i<xs.length
 · refine .inr ⟨yf,BP i H' s1 yf,fun v H1 hy=>?_⟩;obtain ⟨e,hx⟩:=zT i H' v H1 s1 yf hy;subst e;obtain ⟨z,zG⟩:∃ z,zs[i]?=some z:=⟨_,S9 (by omega)⟩;refine hb i v z _ _ _ hx zG s1 fun H3 s3=>⟨_,s3 _ _ e1,?_,yf,aw (s1.trans s3) hD,?_⟩
   · rw [S6,Uc];have:TB=16777216:=Xl;omega
   · rw [ab,take_snoc zG,Tu];rfl
 · have yA:i=xs.length:=by omega
   subst yA;refine .inl ⟨yY _ s1,zh D H' hD s1 ?_⟩;rw [e1,UT (by omega)]
theorem oq {α:Type} {K:S8} {a:Ta} {js:List (Option Nat)} {g:TG} {tt:TT} {te:TE} {σ:St} {H:Hp} {xs:List V} {fin:Ta->Hp->Prop} (zs:List α) (f:α->V) (hS:SqT K H a xs) (hz:zs.length=xs.length) (hn:xs.length<=1000000)
 (hb:∀ (i:Nat) x z H2 (R:VK) (W':Hp->Prop),xs[i]?=some x->zs[i]?=some z->L2.Same H H2->(∀ H3,L2.Same H2 H3->R (f z) H3)->g x (cσ js σ) H2 fun ym H3=>tt ym H3 fun b H4=>if b=true then te ym H4 R else W' H4)
 (zh:∀ D H',H D=none->L2.Same H H'->H' D=some (.lst (zs.map f))->fin D H') :
 ∀ D,H D=none->∃ (n:Nat) (W:Nat->Hp->Prop),W 0 (upd H D (.lst []))/\fN js g tt te σ (Itt K a) D n W fun H'=>fin D H' :=
 nP zs f hz hn (fun i H2 s hi=>⟨xs,xs[i],s.seqT hS,S9 hi⟩) (fun H2 s=>⟨xs,s.seqT hS,Td _⟩) (fun i H2 x H3 s hi hy=>⟨hy.1,hy.2 xs (s.seqT hS)⟩) hb zh
theorem nB {α:Type} {K:S8} {a:Ta} {js:List (Option Nat)} {g:TG} {tt:TT} {te:TE} {σ:St} {H:Hp} {xs:List V} {fin:Ta->Hp->Prop} (zs:List α) (f:α->V) (hS:SqL K H a xs) (hz:zs.length=xs.length) (hn:xs.length<=1000000)
 (hb:∀ (i:Nat) x z H2 (R:VK) (W':Hp->Prop),xs[i]?=some x->zs[i]?=some z->L2.Same H H2->(∀ H3,L2.Same H2 H3->R (f z) H3)->g x (cσ js σ) H2 fun ym H3=>tt ym H3 fun b H4=>if b=true then te ym H4 R else W' H4)
 (zh:∀ D H',H D=none->L2.Same H H'->H' D=some (.lst (zs.map f))->fin D H') :
 ∀ D,H D=none->∃ (n:Nat) (W:Nat->Hp->Prop),W 0 (upd H D (.lst []))/\fN js g tt te σ (Itl K a) D n W fun H'=>fin D H' :=
 nP zs f hz hn (fun i H2 s hi=>⟨xs,xs[i],s.seq hS,S9 hi⟩) (fun H2 s=>⟨xs,s.seq hS,Td _⟩) (fun i H2 x H3 s hi hy=>⟨hy.1,hy.2 xs (s.seq hS)⟩) hb zh
end BB
namespace HT
open PySem PySem.Spec PyProof.Rows
section
variable {prog:Tv} {w:TN} {A:Uh} {E:Tc->Tj->Prop} {s:Tj}
theorem adjust_back (n:Nat):Wi none none (-1) (n:Int)=((n:Int) - 1,-1):=rfl
theorem places_back (n:Nat):U4 ((n:Int) - 1) (-1) (-1)=n:=by
 unfold U4;have h1:¬ ((-1:Int) > 0):=by omega
 simp only [h1,if_false];by_cases h:n=0
 · subst h;decide
 · have h2:((n:Int) - 1) > -1:=by omega
   simp only [h2,if_true];rw [show (- -1:Int)=1 by decide,YW];omega
theorem pick_back (xs:Array Tc):((T7 xs.size).filterMap fun (m:Nat)=>xs[(((xs.size:Nat):Int) - 1+(m:Int) * (-1)).toNat]?).toArray=xs.toList.reverse.toArray:=by
 congr 1
 have e:∀ m∈T7 xs.size,xs[(((xs.size:Nat):Int) - 1+(m:Int) * (-1)).toNat]?=xs.toList.reverse[m]?:=by
  intro m hm;have D4:=VZ.mp hm;rw [List.getElem?_reverse (by rw [Ua];exact D4),WC,Ua];congr 1;omega
 have f:∀ (l:List Nat) (f g:Nat->Option Tc),(∀ m∈l,f m=g m)->l.filterMap f=l.filterMap g:=by
  intro l f g;induction l with
  | nil=>intro _;rfl
  | cons y ys ih =>
    intro h;rw [WX,WX,h y (by simp),ih (fun m hm=>h m (by simp [hm]))]
 rw [f _ _ _ e]
 have gl:∀ (ys:List Tc),(T7 ys.length).filterMap (fun m=>ys[m]?)=ys:=by
  intro ys;have:=pick_run ys.toArray 0 ys.length;simp only [YJ] at this
  have e3:((fun x=>ys.toArray[x]?) ∘ fun x=>0+x)=fun m=>ys[m]?:=by
   funext m;simp
  rw [e3] at this;rw [this];simp
 have:=gl xs.toList.reverse;rw [UP,Ua] at this;exact this
theorem sliceApplied_back {sl:Ta} {n:Nat} {t:Tok} {Q:Int×Int×Nat->Tj->Prop} (hs:s.heap.IsSliceOf sl .none .none (.int (-1) t))
 (h:Q ((n:Int) - 1,-1,n) s):Tx (T6 prog w) A (W6 (.ref sl) (pure (n:Int))) Q E s:=by
 obtain ⟨os,Ai,BM,Ad⟩:=id hs;unfold W6 Builtin.Slice.sliceFields;refine S7 (S7 (Uo Ai Ad (x:=.none) rfl (S7 (Uo Ai Ad (x:=.none) rfl (S7 (Uo Ai Ad (x:=.int (-1) t) rfl (Tg ?_)))))));refine S7 (slicePart_int ?_);show Tx _ _ (if ((-1:Int) == 0)=true then _ else _) _ _ s;rw [if_neg (by decide)];refine S7 (slicePart_none (S7 (slicePart_none (S7 (Tg ?_)))));show Tx _ _ (match Wi none none (-1) (n:Int) with | (lo,hi)=>pure (lo,(-1:Int),U4 lo hi (-1))) _ _ s;rw [adjust_back n];show Tx _ _ (pure ((n:Int) - 1,(-1:Int),U4 ((n:Int) - 1) (-1) (-1))) _ _ s;rw [places_back];exact Tg h
theorem getItem_tuple_back {t sl:Ta} {items:Array Tc} {tk:Tok} {Q:Tc->Tj->Prop} (ht:IsTup s.heap t items) (hs:s.heap.IsSliceOf sl .none .none (.int (-1) tk))
 (h:Q (.ref s.heap.objs.size) { s with heap:=s.heap.push { cls:=.type "tuple",data:=.seq items.toList.reverse.toArray } })
 (hsz:items.size<=TB):Tx (T6 prog w) A (Xr (.ref t) (.ref sl)) Q E s:=by
 have yW:sizeOk (.seq items.toList.reverse.toArray):=by
  show items.toList.reverse.toArray.size<=TB;rw [Tq,UP,Ua];exact hsz
 obtain ⟨os,Ai,BM,Ad⟩:=id hs;have Gk:s.TypeIs (.ref sl) "slice":=⟨os,Ai,BM⟩;unfold Xr
 try with_reducible refine UW ?_
 first | refine S7 (Tg ?_) | skip
 refine S7 (wpAny_sequenceKey ht.typeIs (by decide) ?_)
 refine S7 (Uz (name:=Ti "__getitem__") ht.typeIs Ug
  (UE Ug ht.typeIs entry_tuple_getitem ?_ (args_tuple_getitem _ _)))
 show Tx _ _ (W5 (.ref t) >>= _) _ _ s;refine S7 (tupleItemsOf_ ht ?_);refine S7 (V4 Gk ?_);rw [if_pos (by decide)];refine S7 (sliceApplied_back hs ?_)
 have AJ:¬ ((((items.size:Nat):Int) - 1 == 0 && (-1:Int) == 1 && items.size == items.size)=true):=by
  simp
 show Tx _ _ (if (((items.size:Nat):Int) - 1 == 0 && (-1:Int) == 1 && items.size == items.size)=true then _ else _) _ _ s;rw [if_neg AJ,pick_back]
 first
  | exact S7 (m:=U8 _) (UD (Tg ⟨_,rfl,Tg h⟩) yW)
  | exact S7 (m:=U8 _) (UD (S7 (Tg (Tg ⟨_,rfl,Tg h⟩))) yW)
  | exact S7 (S7 (m:=U8 _) (UD (Tg (Tg ⟨_,rfl,Tg h⟩)) yW))
  | exact S7 (S7 (m:=U8 _) (UD (Tg ⟨_,rfl,Tg h⟩) yW))
end
end HT
namespace L2
open PySem PySem.Spec PyProof.Rows
section
variable {X:Cx} {e:UH} {te:TE} {pos p2 p3 p4:Xn}
def BkR (X:Cx) (r:V->Hp->VK->Prop):Prop :=
 ∀ (pins:List (Ta×VH)) (s:Tj) (σ:St) (H:Hp) (x:V) (v:Tc) (t:Tok) (sl:Ta) (Q:VK),Inv X pins σ H s->RelV x v->s.heap.IsSliceOf sl .none .none (.int (-1) t)->r x H Q →
   ∃ T id,W0 (.type T) "__getitem__"=pure (some (.builtin id))/\s.TypeIs v T/\Tx (T6 X.prog X.w) X.A (Xr v (.ref sl)) (EP X pins σ Q) X.xe s
def tBk (r:V->Hp->VK->Prop) (te:TE):TE:=fun σ H Q=>te σ H fun x H1=>r x H1 Q
theorem qy {r:V->Hp->VK->Prop} (hr:BkR X r) (he:PE X e te):PE X (.Subscript e (.Slice none none (some (.UnaryOp .USub (.Constant (.int 1) 0 p3) p4)) p2) pos) (tBk r te):=by
 intro pins s σ H Q I h;refine Subscript_ (thn (he pins s σ H _ I h) fun v s1 ⟨x,H1,I1,r1,q1⟩=>?_);refine wpAny_Slice ?_;rw [evalPart_none];refine Tg ?_;refine Tg ?_;have PK:PO X (some (.UnaryOp .USub (.Constant (.int 1) 0 p3) p4)) (vp (tUn (rU fun i=>.int (-i)) (tC (.int 1)))):=bB (wZ vT af);refine thn (PK pins s1 σ H1 (fun o H'=>o=some (-1)/\r x H' Q) I1 ⟨1,rfl,_,rfl,rfl,q1⟩) fun vs s2 ⟨o,H2,I2,ps,ho,q2⟩=>?_;subst ho;cases ps with
 | int i t =>
   have I4:Inv X pins σ H2 { s2 with heap:=s2.heap.push { cls:=.type "slice",data:=.fields #[.none,.none,.int (-1) t] } }:=I2.kept (t':=s2.toks) fun b ob q=>Tf _ q;obtain ⟨T,id,hT,ht,hg⟩:=hr pins { s2 with heap:=s2.heap.push { cls:=.type "slice",data:=.fields #[.none,.none,.int (-1) t] } } σ H2 x v t s2.heap.objs.size Q I4 r1 (Heap.IsSliceOf.new ..) q2;show Tx (T6 X.prog X.w) X.A (subscriptTail e (.Slice none none (some (.UnaryOp .USub (.Constant (.int 1) 0 p3) p4)) p2) v (.ref s2.heap.objs.size)) (EP X pins σ Q) X.xe { s2 with heap:=s2.heap.push { cls:=.type "slice",data:=.fields #[.none,.none,.int (-1) t] } };exact tail_any (ops:=[v,.ref s2.heap.objs.size]) ht hT hg (by with_unfolding_all rfl)
def xK (K:S8):V->Hp->VK->Prop:=fun x H Q=>∃ a xs,x=.ref a/\SqT K H a xs/\∀ p,H p=none->Q (.ref p) (upd H p (.tup xs.reverse))
def xI (K:S8):V->Hp->VK->Prop:=fun x H Q=>∃ a xs,x=.ref a/\SqL K H a xs/\∀ p,H p=none->Q (.ref p) (upd H p (.lst xs.reverse))
theorem Vals.rev {xs:List V} {us:List Tc} (r:Vals xs us):Vals xs.reverse us.reverse:=by
 induction r with
 | nil=>exact .nil
 | cons r1 r2 ih=>rw [UA,UA];exact ih.append (.cons r1 .nil)
theorem vO:BkR X (xK X.K):=by
 intro pins s σ H x v t sl Q I rx hs h;obtain ⟨a,xs,rfl,hx,q⟩:=h;cases rx;obtain ⟨its,r,ht,hz⟩:=I.tuple hx;have hlen:its.toArray.size=xs.length:=by rw [Tq];exact r.length.symm
 refine ⟨"tuple",_,Ug.lookup,ht.typeIs,?_⟩;refine HT.getItem_tuple_back ht hs ?_ (by rw [hlen];exact hz);refine ⟨.ref s.heap.objs.size,_,I.laid (t':=s.toks) (o:=.tup xs.reverse) (fun b ob q=>Tf _ q) (Td _) ?_,rfl,q _ (I.hok.fresh (Td _))⟩;exact ⟨by rw [UP];exact hz,_,0,r.rev,Tt _ rfl⟩
theorem lu (its:List Tc):slicePick its.toArray none none (some (-1))=its.reverse.toArray:=by
 unfold slicePick;have e:Xk none none (some (-1)) its.toArray.size=((its.toArray.size:Int) - 1,-1,-1):=rfl;rw [e];unfold sliceRange;have h1:¬ ((-1:Int) > 0):=by omega
 simp only [h1,if_false]
 have hc:(if ((its.toArray.size:Nat):Int) - 1 > -1 then (((its.toArray.size:Nat):Int) - 1 - -1 - -1 - 1) / (- -1) else 0).toNat=its.toArray.size:=by
  by_cases h:its.toArray.size=0
  · rw [h];decide
  · rw [if_pos (by omega),show (- -1:Int)=1 by decide,YW];omega
 rw [hc,YJ];have:=HT.pick_back its.toArray;rw [<- this];congr 1;congr 1;funext m;show its.toArray[(((its.toArray.size:Nat):Int) - 1+-1 * (m:Int)).toNat]?=_;rw [Int.mul_comm]
theorem ut:BkR X (xI X.K):=by
 intro pins s σ H x v t sl Q I rx hs h;obtain ⟨a,xs,rfl,hx,q⟩:=h;cases rx;obtain ⟨its,r,ht,hz⟩:=I.list hx;have hlen:=r.length;refine ⟨"list",_,slot_list_getitem.lookup,ht.isList.typeIs,?_⟩;refine wpAny_getItem_list_slice ht.isList hs .none .none (.int _ _) (by simp) ?_ (by rw [Tq] <;> omega);rw [lu];refine ⟨.ref s.heap.objs.size,_,I.laid (t':=s.toks) (o:=.lst xs.reverse) (fun b ob q=>Tf _ q) (Td _) ?_,rfl,q _ (I.hok.fresh (Td _))⟩;exact ⟨by rw [UP];exact hz,_,0,r.rev,Tt _ rfl⟩
end
end L2
namespace L2
open PySem PySem.Spec PySem.Calls PyProof.Rows
section
variable {X:Cx}
end
end L2
namespace L2
open PySem PySem.Spec PySem.Calls PyProof.Rows
section
variable {X:Cx}
def isStr (z:TY):Tc->Bool
 | .str y _=>y == z
 | _=>false
def uo (K:S8):V->List V->Hp->VK->Prop:=fun x vs H Q=>∃ (l:Ta) (zs:List TY) (z:TY) (j:Nat),x=.ref l/\vs=[.str z]/\SqL K H l (zs.map V.str)/\zs[j]?=some z/\(∀ i,i<j->zs[i]?≠some z)/\zs.length<=100000/\Q (.int (j:Nat)) H
theorem mv:MtM X "list.index" (uo X.K):=by
 intro pins s σ H x vs v us Q I rx rv h;obtain ⟨l,zs,z,j,rfl,rfl,hS,hj,AJ,hz,q⟩:=h;cases rx;obtain ⟨u,rfl,t,rfl⟩:=rv.one;obtain ⟨its,r,pl,_⟩:=I.list hS;have hlen:=r.length;rw [S6] at hlen;obtain ⟨⟨cls,dd,data,sl⟩,ho,hc,n,hd⟩:=pl.isList;simp only at hc hd;subst hc hd;have AU:j<zs.length:=(Te.mp hj).1
 have get:∀ m,m<zs.length->∃ y t',its[m]?=some (.str y t')/\zs[m]?=some y:=fun m hm=>by
  obtain ⟨v,hv,rv⟩:=r.get (i:=m) (x:=.str zs[m]) (by rw [Tn,S9 hm];rfl);obtain ⟨t',rfl⟩:=rv;exact ⟨_,t',hv,S9 hm⟩
 refine X2 Wk ⟨_,ho,rfl⟩ PySem.F.entry_list_index (PySem.F.args_list_index_2 _ _)
  (SeqAt.list_indexAt l its.toArray n dd sl (.str z t) (isStr z) j (by rw [Tq];omega) (by omega) ?_ ?_) ⟨ho,fun y hy=>?_,⟨.int (j:Nat),H,I.tok _,⟨_,rfl⟩,q⟩⟩
 · obtain ⟨y,t',h1,h2⟩:=get j AU;rw [hj] at h2;cases h2
   have h3:its.toArray[j]'(by rw [Tq];omega)=.str z t':=by
    rw [S9 (by omega)] at h1;simpa using h1
   rw [h3];show (z == z)=true;simp
 · intro m hm yf;obtain ⟨y,t',h1,h2⟩:=get m (by omega)
   have h3:its.toArray[m]'hm=.str y t':=by
    rw [S9 (by omega)] at h1;simpa using h1
   rw [h3];show (y == z)=false;refine Vw.mpr fun e=>AJ m yf ?_;rw [h2,beq_iff_eq.mp e]
 · have AL:y∈its:=by simpa using hy
   obtain ⟨m,hm,rfl⟩:=List.getElem_of_mem AL;obtain ⟨y,t',h1,h2⟩:=get m (by omega);rw [S9 hm] at h1;have h3:=TV h1;rw [h3];exact SeqAt.EqAt.str_str _ _ _ _
end
end L2
namespace BB
open PySem L2
structure bV (ks:List (TY×Int)):Prop where
 ne:1<=ks.length
 le:ks.length<=8
 low:∀ k∈ks,Low k.1/\k.1.length<=8
 num:∀ k∈ks,0<=k.2/\k.2<=3
 zero:∃ k∈ks,k.2=0
 nd:∀ (i j:Nat) (k l:TY×Int),ks[i]?=some k->ks[j]?=some l->k.1=l.1->i=j
mutual
/-- a pattern over kinds,its calls of so many states and kids -/
def Th.FitS (ks:List (TY×Int)) (S C:Int):Th->Prop
 | .knot n ts=>(n,(ts.length:Int))∈ks/\FitSs ks S C ts
 | .call s k=>0<=s/\s<S/\0<=k/\k<C
def FitSs (ks:List (TY×Int)) (S C:Int):List Th->Prop
 | []=>True
 | t::ts=>t.FitS ks S C/\FitSs ks S C ts
end
theorem FitSs.of {ks:List (TY×Int)} {S C:Int}:∀ {ts:List Th},(∀ t∈ts,t.FitS ks S C)->FitSs ks S C ts
 | [],_=>by rw [FitSs];trivial
 | t::ts,h=>by
   rw [FitSs];exact ⟨h t (T1 ..),FitSs.of fun u hu=>h u (TQ _ hu)⟩
theorem mI {ts:List Th} {n:Nat} (h:∀ t∈ts,t.tall<=n):bD ts<=n:=by
 induction ts with
 | nil=>rw [bD];exact TZ _
 | cons t ts ih =>
   rw [bD];have h1:=h t (T1 ..);have h2:=ih fun u hu=>h u (TQ _ hu);omega
def SameB (l:Ta) (H H':Hp):Prop:=∀ b o,b≠l->H b=some o->H' b=some o
theorem SameB.refl {l:Ta} {H:Hp}:SameB l H H:=fun _ _ _ e=>e
theorem SameB.trans {l:Ta} {A B C:Hp} (h:SameB l A B) (k:SameB l B C):SameB l A C:=fun b o hb e=>k b o hb (h b o hb e)
theorem SameB.of {l:Ta} {H H':Hp} (h:L2.Same H H'):SameB l H H':=fun b o _ e=>h b o e
theorem SameB.set {l:Ta} {H:Hp} {o:HO}:SameB l H (upd H l o):=fun b o hb e=>by rw [ak hb];exact e
theorem SameB.kt {l:Ta} {H H':Hp} {xs:List V} (h:SameB l H H') (e:H l=some (.lst xs)):KT H H':=fun b ys eb=>h b _ (fJ eb e (by intro z;cases z)) eb
def RowAt (H:Hp) (row:List Th) (a:Ta):Prop:=∃ as:List Ta,H a=some (.tup (as.map V.ref))/\Ats H row as
theorem RowAt.mono {H H':Hp} (k:KT H H') {row:List Th} {a:Ta} (h:RowAt H row a):RowAt H' row a:=by
 obtain ⟨as,h1,h2⟩:=h;exact ⟨as,k _ _ h1,h2.mono k⟩
structure BookAt (H:Hp) (ins outs:List (TY×Int)) (head:Th) (rows:List (List Th)) (r ia oa ha ra:Ta) (ya yp yK:List Ta):Prop where
 bk:H r=some (.tup [.ref ia,.ref oa,.ref ha,.ref ra])
 inE:H ia=some (.tup (ya.map V.ref))
 inK:KsAt H ins ya
 outE:H oa=some (.tup (yp.map V.ref))
 outK:KsAt H outs yp
 hd:At H head ha
 rl:H ra=some (.tup (yK.map V.ref))
 rw:T3 (RowAt H) rows yK
theorem BookAt.mono {H H':Hp} (k:KT H H') {ins outs:List (TY×Int)} {head:Th} {rows:List (List Th)} {r ia oa ha ra:Ta} {ya yp yK:List Ta} (b:BookAt H ins outs head rows r ia oa ha ra ya yp yK):BookAt H' ins outs head rows r ia oa ha ra ya yp yK :=
 ⟨k _ _ b.bk,k _ _ b.inE,b.inK.mono k,k _ _ b.outE,b.outK.mono k,b.hd.mono k,k _ _ b.rl,P2.mp (fun _ _ e=>e.mono k) b.rw⟩
theorem eP {z:TY} {n:Nat} (h:n<=z.length):(dW z none (some (n:Int))).cps.toList=z.cps.toList.take n/\(dW z none (some (n:Int))).length=n:=by
 have hz:z.cps.toList.length=z.length:=Ua
 have e:(dW z none (some (n:Int))).cps.toList=z.cps.toList.take n:=by
  show (jY z.cps.toList none (some (n:Int))).toArray.toList=_;rw [List.toList_toArray];unfold jY;rw [HT.sIx_nat,HT.sIx_none,hz,Xy h];simp
 refine ⟨e,?_⟩;show (dW z none (some (n:Int))).cps.size=n;rw [<- Ua,e,Uc,hz];omega
end BB
namespace BB
open PySem L2
theorem gI {ks:List (TY×Int)} {S C:Int}:∀ {ts:List Th},FitSs ks S C ts->∀ t∈ts,t.FitS ks S C
 | [],_,t,ht=>by cases ht
 | a::ts,h,t,ht=>by
   rw [FitSs] at h;rcases TF.mp ht with rfl | ht
   · exact h.1
   · exact gI h.2 t ht
def Bk (H:Hp) (ins outs:List (TY×Int)) (head:Th) (rows:List (List Th)) (r:Ta):Prop:=∃ ia oa ha ra ya yp yK,BookAt H ins outs head rows r ia oa ha ra ya yp yK
theorem Bk.mono {H H':Hp} (k:KT H H') {ins outs:List (TY×Int)} {head:Th} {rows:List (List Th)} {r:Ta} (b:Bk H ins outs head rows r):Bk H' ins outs head rows r:=by
 obtain ⟨ia,oa,ha,ra,ya,yp,yK,b⟩:=b;exact ⟨ia,oa,ha,ra,ya,yp,yK,b.mono k⟩
end BB
namespace L2
open PySem PySem.Spec PySem.Calls PyProof.Rows PySem.SeqAt
end L2
namespace BB
open PySem L2
end BB
namespace L2
open PySem PySem.Spec PyProof.Rows
section
variable {X:Cx} {e:UH} {te:TE} {p p2 pos yt:Xn}
end
end L2
namespace BB
open PySem L2
theorem iX {α:Type} {F:Hp->α->Ta->Prop} {js:List (Option Nat)} {g:TG} {tt:TT} {te:TE} {σ:St} {J:It} {H:Hp} {xs:List V} {fin:Ta->Hp->Prop} (zs:List α) (hF:∀ H1 H2 z p,KT H1 H2->F H1 z p->F H2 z p) (hz:zs.length=xs.length) (hn:xs.length<=1000000)
 (BP:∀ i H2,L2.Same H H2->i<xs.length->J.go i H2) (yY:∀ H2,L2.Same H H2->J.stop xs.length H2) (zT:∀ (i:Nat) H2 x H3,L2.Same H H2->i<xs.length->J.yld i H2 x H3->H3=H2/\xs[i]?=some x)
 (hb:∀ (i:Nat) x z H2 (R:VK) (W':Hp->Prop),xs[i]?=some x->zs[i]?=some z->L2.Same H H2->(∀ H3 p,L2.Same H2 H3->F H3 z p->R (.ref p) H3)->g x (cσ js σ) H2 fun ym H3=>tt ym H3 fun b H4=>if b=true then te ym H4 R else W' H4)
 (zh:∀ D H' as,H D=none->L2.Same H H'->H' D=some (.lst (as.map V.ref))->T3 (F H') zs as->fin D H') :
 ∀ D,H D=none->∃ (n:Nat) (W:Nat->Hp->Prop),W 0 (upd H D (.lst []))/\fN js g tt te σ J D n W fun H'=>fin D H':=by
 intro D hD;refine ⟨xs.length,fun i H'=>i<=xs.length/\L2.Same H H'/\∃ as:List Ta,H' D=some (.lst (as.map V.ref))/\T3 (F H') (zs.take i) as,⟨TZ _,ad hD _,[],by rw [ab];rfl,.nil⟩,?_⟩;rintro i H' ⟨hi,s1,as,e1,hp⟩;by_cases yf:i<xs.length
 · refine .inr ⟨yf,BP i H' s1 yf,fun v H1 hy=>?_⟩;obtain ⟨e,hx⟩:=zT i H' v H1 s1 yf hy;subst e;obtain ⟨z,zG⟩:∃ z,zs[i]?=some z:=⟨_,S9 (by omega)⟩;have hl:(zs.take i).length=as.length:=Tp hp;rw [Uc] at hl;refine hb i v z _ _ _ hx zG s1 fun H3 p s3 KA=>⟨_,s3 _ _ e1,?_,yf,aw (s1.trans s3) hD,as++[p],?_,?_⟩
   · rw [S6];have:TB=16777216:=Xl;omega
   · rw [ab,Tu];rfl
   · have kt:KT H3 (upd H3 D (.lst (as.map V.ref++[.ref p]))):=aT (s3 _ _ e1);rw [take_snoc zG];exact P2.append (P2.mp (fun x y e=>hF _ _ _ _ ((Same.kt s3).trans kt) e) hp) (.cons (hF _ _ _ _ kt KA) .nil)
 · have yA:i=xs.length:=by omega
   subst yA;refine .inl ⟨yY _ s1,zh D H' as hD s1 e1 ?_⟩;rw [UT (by omega)] at hp;exact hp
end BB
namespace L2
open PySem PySem.Spec PyProof.Rows
end L2
namespace L2
open PySem
theorem us1 {α:Type}:∀ {us:List α},us.length=1->∃ a,us=[a]
 | [a],_=>⟨a,rfl⟩
theorem us2 {α:Type}:∀ {us:List α},us.length=2->∃ a b,us=[a,b]
 | [a,b],_=>⟨a,b,rfl⟩
theorem us3 {α:Type}:∀ {us:List α},us.length=3->∃ a b c,us=[a,b,c]
 | [a,b,c],_=>⟨a,b,c,rfl⟩
theorem us4 {α:Type}:∀ {us:List α},us.length=4->∃ a b c d,us=[a,b,c,d]
 | [a,b,c,d],_=>⟨a,b,c,d,rfl⟩
end L2
namespace PySem
open Sem (wp)
section
variable {prog:Tv} {w:TN} {K:Type} [DecidableEq K] {knd:HeapKind prog w K} {A:Uh} {E:Tc->Tj->Prop} {s:Tj}
end
end PySem
namespace L2
open PySem PySem.Spec PyProof.Rows BB
end L2
namespace BB
open PySem L2
theorem vH:(Ti "*")≠q:=by decide +kernel
end BB
namespace PySem
open Sem (wp)
section
variable {prog:Tv} {w:TN} {A:Uh} {E:Tc->Tj->Prop} {s:Tj} {I:Ta} {fp wr:List Ta} {G:Array GenState->Array GenState->Prop} {n:Nat} {P:Nat->Tc->Prop} {St:Nat->Tj->Prop}
end
end PySem
namespace L2
open PySem PySem.Spec PyProof.Rows
section
variable {X:Cx} {o e:UH} {to te:TE} {p2 yt apos yh:Xn}
end
end L2
namespace PySem
open Sem (wp)
namespace F
theorem bb_list_nokeys:W0 (.type "list") "keys"=pure none:=by rw [Vu,UQ];kernel_rfl
end F
section
variable {prog:Tv} {w:TN} {A:Uh} {E:Tc->Tj->Prop} {s:Tj} {a:Ta} {xs:Array Tc} {k:Nat}
theorem bb_nokeysL {Q:Option Tc->Tj->Prop} (hA:A.handled=none) (hx:s.heap.get? a=some { cls:=.type "list",data:=.seq xs k })
 (q:∀ h' tk,(∀ b o,s.heap.get? b=some o->h'.get? b=some o)->Q none { s with heap:=h',toks:=tk }):Tx (T6 prog w) A (getAttr? (.ref a) "keys") Q E s:=by
 obtain ⟨hp,g,d,tk,os⟩:=s;have gT:∀ z,(⟨hp,g,d,z,os⟩:Tj).TypeIs (.ref a) "list":=fun _=>⟨_,hx,rfl⟩;have g1:=sub_AttributeError;have g3:=Yn.lookup;have g4:=Yn.bind (.ref a);have g5:=am_list_getattr_none;unfold getAttr? getAttrBy? getAttrBy
 repeat (any_goals (first | assumption | exact gT _ | ((with_reducible show Tx _ _ (call (Value.builtin "list.__getattribute__") _ _) _ _ _);refine X2 Yn (gT _) am_entry_list_getattribute (F.args_list_getattribute_2 _ _) (meets_getattribute_miss_list a xs k #[] "keys" _ F.bb_list_nokeys (by decide +kernel) (by decide)) ⟨hx,hA,fun h' PL e C4=>?_⟩) | wp_step))
 obtain ⟨t',u',he⟩:=C4.there;show Tx _ _ (getattributeRaised _ _ _ _ _ _ _) _ _ _;unfold getattributeRaised
 repeat (any_goals (first | assumption | wp_step))
 exact q h' PL C4.keeps
end
end PySem
namespace L2
open PySem PySem.Spec PyProof.Rows
def cj:List (List Key×V)->List (List Key×V)->List (List Key×V)
 | f',[]=>f'
 | f',p::ps=>cj (putK f' p.1 p.2) ps
def PrA (H:Hp) (pr:List Key×V) (pa:Ta):Prop:=∃ ka,H pa=some (.tup [.ref ka,pr.2])/\H ka=some (.tup (pr.1.map kV))
section
variable {X:Cx} {pins:List (Ta×VH)} {σ:St}
theorem rS {H:Hp} {s:Tj} {a b:Ta} {v:V} {r:Tc} {k:List Key} {f':List (List Key×V)} {A:Uh} {E:Tc->Tj->Prop} {Q:Unit->Tj->Prop} (hu:(Yo (aE X.prog X.w)).room A) (I:Inv X pins σ H s) (e:H a=some (.dT f')) (eb:H b=some (.tup (k.map kV))) (l:f'.length<TB) (rv:RelV v r) (h:∀ h' tk,Vj a s.heap h'->Inv X pins σ (upd H a (.dT (putK f' k v))) { s with heap:=h',toks:=tk }->Q () { s with heap:=h',toks:=tk }) :
 Tx (T6 X.prog X.w) A (dictSet a (.ref b) r) Q E s:=by
 obtain ⟨z,hd,xs,rel,dd⟩:=ve I.hok e;have hz:xs.length<=TB:=by rw [<- Tp rel];exact z
 have hl:(putK f' k v).length<=TB:=by have:=bY f' k v;omega
 refine wpAny_dictSet_heap (hsz:=hz) hu (iH I.hok eb) dd fun h' Bv hs=>h _ _ hs ?_;obtain ⟨q,es,ep,hq,h2,h3,h4,_,h5⟩:=Bv;refine gL I (by rw [e];exact VF) hs ⟨q,hq⟩ ⟨hl,hd,_,(rel.put k eb rv).keeps fun c ys ec=>?_,q,es,ep,hq,h2,h3,h4,h5⟩;rw [ak (fJ ec e (fun z=>nomatch z))];exact ec
theorem qi {A:Uh} {d it l:Ta} {prs:List (List Key×V)} {ps:List Ta} {R:Result->Tj->Prop} (hh:A.handled=none) (hu:A.units+8<Vc) (hn:prs.length<=10000) :
 ∀ (m i:Nat) (s:Tj) (tk:Tok) (H:Hp) (f':List (List Key×V)),prs.length - i=m->i<=prs.length->Inv X pins σ H s->H d=some (.dT f')->f'.length<=i->jZ X pins H it->s.heap.IsListIter it l i->H l=some (.lst (ps.map V.ref))->T3 (PrA H) prs ps →
   (∀ s',Inv X pins σ (upd H d (.dT (cj f' (prs.drop i)))) s'->R (.ok (.ret .none)) s') →
   Xu (T6 X.prog X.w) A (.builtin "dict.update.loop" ⟨[.ref d,.ref it,.int i tk,.none],[]⟩) R s:=by
 intro m;induction m with
 | zero =>
   intro i s tk H f' hk hi I ed y4 hf hit el yH hR;have Bh:i=prs.length:=by omega
   subst Bh;obtain ⟨its,rv,p,hz⟩:=I.list (SqL.of (K:=X.K) el);have yV:prs.length=ps.length:=Tp yH;have hl:=rv.length;rw [S6] at hl;obtain ⟨f0,f1,f2,f3,f4,f5⟩:=hf;refine Xi PySem.F.bb_entry_upd ?_;rw [Wo PySem.F.bb_plain_upd _];show Tx _ A.in1 (Wr (.ref it) >>= _) _ _ s;refine S7 (wpAny_pyNext_list_end hh hit p.isList (by simp;omega) fun h' eb=>?_);refine S7 (Tg (Tg ?_));refine hR _ ?_;rw [List.drop_length]
   have e0:upd H d (.dT (cj f' []))=H:=by
    funext b;by_cases hb:b=d
    · rw [hb,ab,ed];rfl
    · rw [ak hb]
   rw [e0];exact I.turned (t':=s.toks) (fun b o hb e=>eb b o hb e) f0 f1 f3 f4 f5
 | succ m ih =>
   intro i s tk H f' hk hi I ed y4 hf hit el yH hR;have yf:i<prs.length:=by omega
   have yV:prs.length=ps.length:=Tp yH;obtain ⟨its,rv,p,hz⟩:=I.list (SqL.of (K:=X.K) el);have hl:=rv.length;rw [S6] at hl;obtain ⟨pa,D5,ka,zY,FI⟩:=BB.P2.get yH (S9 yf);have hx:(ps.map V.ref)[i]?=some (.ref pa):=by rw [Tn,D5];rfl
   obtain ⟨u,PM,ru⟩:=rv.get hx;cases ru;obtain ⟨f0,f1,f2,f3,f4,f5⟩:=id hf;refine Xi PySem.F.bb_entry_upd ?_;rw [Wo PySem.F.bb_plain_upd _];show Tx _ A.in1 (Wr (.ref it) >>= _) _ _ s;refine S7 (wpAny_pyNext_list_item hit p.isList (x:=.ref pa) (by simpa using PM) fun h1 KC PN=>?_);have I1:Inv X pins σ H { s with heap:=h1 }:=I.turned (t':=s.toks) (fun b o hb e=>(PN.2 b hb).trans e) f0 f1 f3 f4 f5;obtain ⟨_,xX,n2,PQ,e2⟩:=(show ObjOk X.prog X.w H h1 pa (.tup [.ref ka,(prs[i]).2]) from I1.hok pa _ zY)
   obtain ⟨vv,rfl,PR⟩:∃ vv,xX=[.ref ka,vv]/\RelV (prs[i]).2 vv:=by
    cases PQ with
    | cons a b =>
      cases b with
      | cons c d =>
        cases d;cases a;exact ⟨_,rfl,c⟩
   have PU:(⟨h1,s.gens,s.drawn,s.toks,s.os⟩:Tj).TypeIs (.ref pa) "tuple":=⟨_,e2,rfl⟩;refine S7 (UW ?_);refine S7 (wpAny_tryCatch ?_);unfold Builtin.Dict.pairItems;refine S7 (V4 PU ?_);rw [if_pos (by decide)];refine S7 (UU e2 rfl (Tg ?_));show Tx _ _ (holding [.ref ka,vv] (dictSet d (.ref ka) vv)) _ _ _;refine UW (rS (k:=(prs[i]).1) ?_ I1 ed FI (by have:=fk;rw [Xl];omega) PR fun h2 R5 Ca I2=>?_)
   · exact Xj (by omega)
   refine Tg ⟨Wt PySem.F.bb_plain_upd _,?_⟩
   have GP:VR ((i:Int)+1)=.int ((i+1:Nat):Int) 0:=by
    show Value.int ((i:Int)+1) 0=_;rw [show ((i+1:Nat):Int)=(i:Int)+1 by omega]
   rw [GP];have Jk:it≠d:=fun z=>by rw [z,ed] at f0;cases f0
   refine ih (i+1) _ 0 _ (putK f' (prs[i]).1 (prs[i]).2) (by omega) yf I2 ab (by have:=bY f' (prs[i]).1 (prs[i]).2;omega) ⟨by rw [ak Jk];exact f0,f1,f2,f3,f4,f5⟩ ?_ ?_ ?_ fun s' I'=>hR s' ?_
   · obtain ⟨o,g1,r⟩:=KC;exact ⟨o,(Ca.2 it Jk).trans g1,r⟩
   · rw [ak (fJ el ed (fun z=>nomatch z))];exact el
   · refine BB.P2.mp (fun x y e=>?_) yH;obtain ⟨Cm,g1,g2⟩:=e;exact ⟨Cm,by rw [ak (fJ g1 ed (fun z=>nomatch z))];exact g1,by rw [ak (fJ g2 ed (fun z=>nomatch z))];exact g2⟩
   · rw [j0] at I';rw [WV yf];exact I'
def v7:List V->Hp->VK->Prop:=fun xs H Q=>∃ (l:Ta) (ps:List Ta) (prs:List (List Key×V)),xs=[.ref l]/\H l=some (.lst (ps.map V.ref))/\T3 (PrA H) prs ps/\prs.length<=10000/\∀ d,H d=none->Q (.ref d) (upd H d (.dT (cj [] prs)))
theorem lw (hu:X.A.units+12<Vc) (hc:X.calm=true):gR X (.type "dict") v7:=by
 intro pins s σ H xs us Q I r h;obtain ⟨l,ps,prs,rfl,el,yH,hn,q⟩:=h;obtain ⟨u,rfl,rx⟩:=vals1 r;cases rx;obtain ⟨z,its,n,rv,e⟩:=(show ObjOk X.prog X.w H s.heap l (.lst (ps.map V.ref)) from I.hok l _ el);refine YM (Q₁:=fun obj xT=>obj=.ref s.heap.objs.size/\xT={ s with heap:=s.heap.push { cls:=.type "dict",data:=.dict #[] } }) PySem.F.kt_called_dict (PySem.F.kt_typeCall_dict_1 _) PySem.F.entry_dict_init (kt_code_dict_new _ ⟨rfl,rfl⟩) ?_;rintro obj xT ⟨rfl,rfl⟩;have gn:(s.heap.push { cls:=.type "dict",data:=.dict #[] }).DictOf (aE X.prog X.w) s.heap.objs.size []:=Heap.DictOf.new s.heap;have gt:(s.heap.push { cls:=.type "dict",data:=.dict #[] }).get? l=some { cls:=.type "list",data:=.seq its.toArray n }:=Tf _ e;refine ⟨gn.typeIs,PySem.F.args_dict_init_2 _ _,?_⟩;have BR:=I.hok.fresh (Td s.heap.objs.size);have I1:Inv X pins σ (upd H s.heap.objs.size (.dT [])) { s with heap:=s.heap.push { cls:=.type "dict",data:=.dict #[] } }:=I.laid (a:=s.heap.objs.size) (o:=.dT []) (t':=s.toks) (fun _ _ q=>Tf _ q) (Td _) (oW s.heap I.big);unfold V7.«dict.__init__»;refine S7 ?_;unfold Builtin.Dict.selfAndRest;refine S7 (YH gn.typeIs ?_);show Tx _ _ (pure (s.heap.objs.size,[T5 l])) _ _ _;refine Tg ?_;show Tx _ _ (Builtin.Dict.updateFrom "dict.__init__" s.heap.objs.size (.ref l) [] .none) _ _ _;unfold Builtin.Dict.updateFrom;refine S7 (V4 (T:="list") ⟨_,gt,rfl⟩ ?_);rw [if_pos (by decide)];refine S7 (bb_nokeysL (A:=X.A.in1.in1) (I.ok.hd hc) gt fun h1 FJ k1=>?_);have I2:Inv X pins σ (upd H s.heap.objs.size (.dT [])) { s with heap:=h1,toks:=FJ }:=I1.kept (t':=FJ) fun b o e=>k1 b o e;simp only [Option.isNone_none,if_true];refine S7 (Wd ?_);obtain ⟨od,es,ep,PV,R6⟩:=id gn;have yf:s.heap.objs.size<h1.objs.size:=Tw (k1 _ _ PV);refine S7 (wpAny_pyIter_list (l:=l) (items:=its.toArray) ⟨_,k1 _ _ gt,rfl,n,rfl⟩ ?_);refine Tg ⟨Wt PySem.F.bb_plain_upd _,?_⟩;have EK:l≠s.heap.objs.size:=aI el BR
 have KD:T3 (PrA (upd H s.heap.objs.size (.dT []))) prs ps:=BB.P2.mp (fun x y e=>by
  obtain ⟨ka,g1,g2⟩:=e;exact ⟨ka,by rw [ak (aI g1 BR)];exact g1,by rw [ak (aI g2 BR)];exact g2⟩) yH
 have PX:(upd H s.heap.objs.size (.dT [])) h1.objs.size=none:=I2.hok.fresh (Td _);refine qi (A:=X.A.in1) (d:=s.heap.objs.size) (it:=h1.objs.size) (l:=l) (prs:=prs) (ps:=ps) (I.ok.hd hc) (by show X.A.units+1+8<Vc;omega) hn prs.length 0 _ 0 (upd H s.heap.objs.size (.dT [])) [] (YR _) (TZ _) (I2.kept (t':=FJ) fun b o e=>Tf _ e) ab (Td _) (I2.fpOk (Td _) PX) ⟨_,Tt _ rfl,rfl,rfl⟩ (by rw [ak EK];exact el) KD fun s' I'=>?_;rw [j0,VM] at I';exact ⟨rfl,.ref s.heap.objs.size,_,I',rfl,q _ BR⟩
end
end L2
namespace BB
open PySem L2
theorem uE {k:Nat} {A:Uh} (hr:L2.Room k A):A.units+12<Vc:=by
 have:=hr.units;omega
theorem jN {R:List Key->V->Prop}:∀ (prs f':List (List Key×V)),(∀ k v,aV f' k=some v->R k v)->(∀ p∈prs,R p.1 p.2) →
 (∀ k v,aV (cj f' prs) k=some v->R k v)/\(∀ k,((∃ v,aV f' k=some v)∨∃ p∈prs,p.1=k)->∃ v,aV (cj f' prs) k=some v)
 | [],f',h1,_=>⟨h1,fun k h=>by
   rcases h with h | ⟨p,hp,_⟩
   · exact h
   · cases hp⟩
 | p::prs,f',h1,h2=>by
   have ih:=jN (R:=R) prs (putK f' p.1 p.2) (fun k v hv=>by
    rw [i5] at hv;by_cases e:k=p.1
    · rw [if_pos e] at hv;cases hv;rw [e];exact h2 p (T1 ..)
    · rw [if_neg e] at hv;exact h1 k v hv) (fun x hx=>h2 x (TQ _ hx))
   refine ⟨ih.1,fun k h=>ih.2 k ?_⟩;by_cases e:k=p.1
   · left;exact ⟨p.2,by rw [i5,if_pos e]⟩
   · rcases h with ⟨v,hv⟩ | ⟨x,hx,NA⟩
     · left;exact ⟨v,by rw [i5,if_neg e];exact hv⟩
     · rcases TF.mp hx with rfl | hx
       · exact absurd NA.symm e
       · exact .inr ⟨x,hx,NA⟩
end BB
namespace PySem
section
variable {prog:Tv} {w:TN} {A:Uh} {E:Tc->Tj->Prop} {s:Tj}
theorem bb_zip_next0 {z TI TO i1 i2 l1 l2:Ta} {k:Nat} {xs ys:Array Tc} {x y a b:Tc} {Q:Option Tc->Tj->Prop} (D:YN z TI TO i1 i2 l1 l2)
 (hz:Yu s.heap z TI TO .none) (hTI:VJ s.heap TI (.ref i1) (.ref i2)) (hTO:VJ s.heap TO a b)
 (h1:s.heap.IsTupleIter i1 l1 k) (h2:s.heap.IsTupleIter i2 l2 k) (ze:s.heap.IsTuple l1 xs) (yN:s.heap.IsTuple l2 ys) (hx:xs[k]?=some x) (hy:ys[k]?=some y)
 (hQ:∀ h',Yu h' z TI TO (VR s.heap.objs.size)->VJ h' TO x y->h'.IsTupleIter i1 l1 (k+1)->h'.IsTupleIter i2 l2 (k+1)->VJ h' s.heap.objs.size x y->h'.objs.size=s.heap.objs.size+1 →
  (∀ c o,c≠z->c≠TO->c≠i1->c≠i2->s.heap.get? c=some o->h'.get? c=some o)->Q (some (.ref s.heap.objs.size)) { s with heap:=h' }) :
 Tx (T6 prog w) A (Wr (.ref z)) Q E s:=by
 have hT:s.TypeIs (.ref z) "zip":=⟨_,hz,rfl⟩;unfold Wr;refine S7 (Wq (Uz (name:=Ti "__next__") hT WM (UE WM hT F.entry_zip_next ?_ (F.args_zip_next_1 _))));exact bb_zip_itemA D hz hTI hTO h1 h2 ze yN hx hy fun h' a1 a2 a3 a4 a5 a6 a7=>Tg (hQ h' a1 a2 a3 a4 a5 a6 a7)
end
end PySem
namespace L2
open PySem PySem.Spec PyProof.Rows
def Itz (K:S8) (a b:Ta):It:=⟨fun i H=>∃ xs ys x y,SqT K H a xs/\SqT K H b ys/\xs[i]?=some x/\ys[i]?=some y,fun i H v H'=>∃ p x y,H p=none/\v=.ref p/\H'=upd H p (.tup [x,y])/\(∀ xs,SqT K H a xs->xs[i]?=some x)/\(∀ ys,SqT K H b ys->ys[i]?=some y),fun i H=>∃ xs ys,SqT K H a xs/\SqT K H b ys/\(xs.length<=i∨ys.length<=i)⟩
structure ZTn (z TI TO i1 i2 a b:Ta) (i:Nat) (h:UM):Prop where
 ap:YN z TI TO i1 i2 a b
 zip:Yu h z TI TO .none
 hTI:VJ h TI (.ref i1) (.ref i2)
 hTO:∃ u v,VJ h TO u v
 h1:h.IsTupleIter i1 a i
 h2:h.IsTupleIter i2 b i
theorem sZ {P:Tv} {w:TN} {K:S8} {elts:List UH} {k1} {pos:Xn} (a b z TI TO i1 i2:Ta):Turn P w K (.Tuple elts k1 pos) (Itz K a b) [z,TI,TO,i1,i2] z (ZTn z TI TO i1 i2 a b) where
 mem:=by simp
 obj:=fun i h st c hc=>by
  obtain ⟨D,hz,hTI,⟨u,v,hTO⟩,⟨o1,a1,a2,a3⟩,⟨o2,b1,b2,b3⟩⟩:=st;simp only [TF,Wm,or_false] at hc;rcases hc with rfl | rfl | rfl | rfl | rfl
  · exact ⟨_,hz,fun v z=>by cases z⟩
  · exact ⟨_,hTI,fun v z=>by cases z⟩
  · exact ⟨_,hTO,fun v z=>by cases z⟩
  · exact ⟨o1,a1,fun v z=>by rw [a3] at z;cases z⟩
  · exact ⟨o2,b1,fun v z=>by rw [b3] at z;cases z⟩
 keep:=fun i h h' st k=>by
  obtain ⟨D,hz,hTI,⟨u,v,hTO⟩,⟨o1,a1,a2⟩,⟨o2,b1,b2⟩⟩:=st;exact ⟨D,k _ (by simp) _ hz,k _ (by simp) _ hTI,⟨u,v,k _ (by simp) _ hTO⟩,⟨o1,k _ (by simp) _ a1,a2⟩,⟨o2,k _ (by simp) _ b1,b2⟩⟩
 item:=by
  intro X hP hw hK hc i pins s σ H E I hf st hg;subst hP hw hK;obtain ⟨xs,ys,x,y,D1,D2,hx,hy⟩:=hg;obtain ⟨ia,EH,pa,FG⟩:=I.tuple D1;obtain ⟨ib,EI,pb,Kx⟩:=I.tuple D2;obtain ⟨u,hu,ru⟩:=EH.get hx;obtain ⟨v,hv,rv⟩:=EI.get hy;obtain ⟨D,hz,hTI,⟨ta,tb,hTO⟩,h1,h2⟩:=st
  have lt:∀ c∈[z,TI,TO,i1,i2],c<s.heap.objs.size:=fun c hc=>by
   simp only [TF,Wm,or_false] at hc;rcases hc with rfl | rfl | rfl | rfl | rfl
   · exact Tw hz
   · exact Tw hTI
   · exact Tw hTO
   · obtain ⟨o,e,_⟩:=h1;exact Tw e
   · obtain ⟨o,e,_⟩:=h2;exact Tw e
  refine bb_zip_next0 D hz hTI hTO h1 h2 (show s.heap.IsTuple a ia.toArray from pa) (show s.heap.IsTuple b ib.toArray from pb) (by simpa using hu) (by simpa using hv) fun Bw a1 a2 a3 a4 a5 a6 a7=>?_;refine ⟨_,rfl,wpAny_letOwnedTupleGo_zip a1 fun AR g1 sb=>?_⟩;replace sb:Vj z Bw AR:=sb;have GB:H s.heap.objs.size=none:=I.hok.fresh (Td _)
  have IA:Inv X pins σ (upd H s.heap.objs.size (.tup [x,y])) { s with heap:=s.heap.push { cls:=.type "tuple",data:=.seq #[u,v] },toks:=s.toks } :=
   I.laid (o:=.tup [x,y]) (fun b ob q=>Tf _ q) (Td _) ⟨by show 2<=TB;decide,[u,v],0,.cons ru (.cons rv .nil),Tt _ rfl⟩
  have R7:s.heap.objs.size≠z:=WR (lt z (by simp));refine ⟨.ref s.heap.objs.size,upd H s.heap.objs.size (.tup [x,y]),?_,rfl,⟨_,x,y,GB,rfl,rfl,fun zs GQ=>by rw [I.tuple_inj GQ D1];exact hx,fun zs GQ=>by rw [I.tuple_inj GQ D2];exact hy⟩,?_,fun c hc=>?_⟩
  · have IB:Inv X pins σ (upd H s.heap.objs.size (.tup [x,y])) { s with heap:=AR,toks:=s.toks }:=by
     refine Inv.turnedL (s:={ s with heap:=s.heap.push { cls:=.type "tuple",data:=.seq #[u,v] },toks:=s.toks }) (h':=AR) (fp:=[z,TI,TO,i1,i2]) (t':=s.toks) IA (fun c o hc q=>?_) fun c hc=>?_
     · have n1:c≠z:=fun e=>hc (by simp [e]);have n2:c≠TO:=fun e=>hc (by simp [e]);have n3:c≠i1:=fun e=>hc (by simp [e]);have n4:c≠i2:=fun e=>hc (by simp [e]);rw [sb.2 c n1];by_cases yo:c=s.heap.objs.size
       · subst yo;have q':(s.heap.push { cls:=.type "tuple",data:=.seq #[u,v] }).get? s.heap.objs.size=some o:=q;rw [Tt _ rfl] at q';rw [<- q'];exact a5
       · have q':(s.heap.push { cls:=.type "tuple",data:=.seq #[u,v] }).get? c=some o:=q;rw [Heap.get?_push_ne _ _ _ yo] at q';exact a7 c o n1 n2 n3 n4 q'
     · obtain ⟨f0,f1⟩:=hf c hc;exact ⟨by rw [ak (T9 (lt c hc))];exact f0,f1⟩
    exact IB
  · have sT:∀ c o,c≠z->Bw.get? c=some o->AR.get? c=some o:=fun c o hc e=>(sb.2 c hc).trans e;refine ⟨D,g1,sT _ _ D.TIz (a7 _ _ D.TIz D.TITO D.TIi1 D.TIi2 hTI),⟨_,_,sT _ _ D.TOz a2⟩,?_,?_⟩
    · obtain ⟨o,e,r⟩:=a3;exact ⟨o,sT _ _ D.i1z e,r⟩
    · obtain ⟨o,e,r⟩:=a4;exact ⟨o,sT _ _ D.i2z e,r⟩
  · rw [ak (T9 (lt c hc))];exact (hf c hc).1
 done:=by
  intro X hP hw hK hc i pins s σ H E I hf st hg;subst hP hw hK;obtain ⟨xs,ys,D1,D2,zH⟩:=hg;obtain ⟨ia,EH,pa,FG⟩:=I.tuple D1;obtain ⟨ib,EI,pb,Kx⟩:=I.tuple D2;have Ag:=EH.length;have PD:=EI.length;obtain ⟨D,hz,hTI,hTO,h1,h2⟩:=st;refine bb_zip_done (show X.A.handled=none from I.ok.hd hc) ⟨D,.inl hz,hTI,hTO,h1,h2,pa,pb⟩ ?_ fun h' kp=>⟨rfl,?_⟩
  · rcases zH with h | h
    · exact .inl (by simp;omega)
    · exact .inr (by simp;omega)
  exact I.turnedL (fp:=[z,TI,TO,i1,i2]) (t':=s.toks) (fun c o hc q=>kp c o (fun hm=>hc (by simp only [TF,Wm,or_false] at hm ⊢;rcases hm with h | h | h | h <;> simp [h])) q) hf
 self:=fun _ _ _ _ _ st h=>wpAny_pyIter_zip st.zip h
section
variable {X:Cx} {e1 e2:UH} {t:TA} {p2 yt:Xn}
def xw (K:S8) (t:TA):TI:=fun σ H R=>t σ H fun vs H1=>∃ a b,vs=[.ref a,.ref b]/\(∃ xs,SqT K H1 a xs)/\(∃ ys,SqT K H1 b ys)/\R (Itz K a b) H1
theorem tX {elts:List UH} {k1} {pos:Xn} (g2:Gl X "zip") (m2:X.mg "zip"=none) (ha:PA X [e1,e2] t)
 (h2:Uu [e1,e2] X.env=(false,VS e1 X.env)::Uu [e2] X.env:=by rfl) (h3:(Xv yt (Uu [e2] X.env)).any (·.1)=false:=by rfl):PI X (.Tuple elts k1 pos) (.Call (.Name "zip" p2) [e1,e2] [] yt) (xw X.K t):=by
 intro pins s σ H R I h;refine U5 (db I g2 m2 boot_zip ?_);refine Ur (thn (ha yt pins s σ H _ I h) fun us s2 ⟨vs,H2,I2,r,a,b,ev,⟨xs,D1⟩,⟨ys,D2⟩,q⟩=>?_) h2 h3;subst ev;obtain ⟨u1,u2,rfl,r1,r2⟩:=vals2 r;cases r1;cases r2;obtain ⟨ia,EH,pa,FG⟩:=I2.tuple D1;obtain ⟨ib,EI,pb,Kx⟩:=I2.tuple D2;have zI:a<s2.heap.objs.size:=by obtain ⟨o,e,_⟩:=pa;exact Tw e
 have zy:b<s2.heap.objs.size:=by obtain ⟨o,e,_⟩:=pb;exact Tw e
 refine bb_call_zip (show s2.heap.IsTuple a ia.toArray from pa) (show s2.heap.IsTuple b ib.toArray from pb) fun h' z1 z2 z3 z4 z5 z6 z7=>?_;have D:YN (s2.heap.objs.size+4) (s2.heap.objs.size+2) (s2.heap.objs.size+3) s2.heap.objs.size (s2.heap.objs.size+1) a b:=zipApart_new zI zy;refine wpAny_pyIter_zip (s:={ s2 with heap:=h' }) z1 ?_;refine ⟨s2.heap.objs.size+4,[s2.heap.objs.size+4,s2.heap.objs.size+2,s2.heap.objs.size+3,s2.heap.objs.size,s2.heap.objs.size+1],_,_,H2,rfl,I2.kept (t':=s2.toks) z7,sZ a b _ _ _ _ _,⟨D,z1,z2,⟨_,_,z3⟩,z4,z5⟩,fun c hc=>?_,q⟩
 have zc:s2.heap.objs.size<=c:=by
  simp only [TF,Wm,or_false] at hc;rcases hc with h | h | h | h | h <;> rw [h]
  · exact VU _ _
  · exact VU _ _
  · exact VU _ _
  · exact Td _
  · exact VU _ _
 exact I2.fpOk zc (I2.hok.fresh zc)
end
end L2
namespace BB
open PySem L2
end BB
namespace BB
open PySem L2
noncomputable section
local instance:DecidableEq Th:=fun _ _=>Classical.propDecidable _
end
end BB
namespace PySem
open Sem (wp)
section
variable {prog:Tv} {w:TN} {K:Type} [DecidableEq K] {knd:HeapKind prog w K} {A:Uh} {E:Tc->Tj->Prop} {s:Tj}
theorem bb_setDefault_heap {d a:Ta} {xs:List (K×Ta×Tc)} {k:K} {v:Tc} {Q:Tc->Tj->Prop} (hu:knd.room A) (zF:knd.is s.heap k a) (hm:s.heap.DictOfH knd d xs)
 (EL:∀ p,W2 xs k=some p->Q p.2 { s with toks:=s.toks+knd.draws k })
 (KG:W2 xs k=none->∀ h',h'.DictOfH knd d (Yg xs k a v)->Vj d s.heap h'->Q v { s with heap:=h',toks:=s.toks+knd.draws k })
 (hsz:xs.length<=TB):Tx (T6 prog w) A (dictSetDefault d (.ref a) v) Q E s:=by
 obtain ⟨o,es,ep,ho,hc,hd,he,Jl,hn⟩:=hm;unfold dictSetDefault
 try with_reducible refine UW ?_
 refine S7 (knd.pyHash hu zF ?_);refine S7 (wpAny_dictFind_heap (s:={ s with toks:=s.toks+knd.draws k }) hu zF ho hd he Jl hn ?_ ?_)
 · intro AJ;have KH:k∉xs.map (·.1):=not_mem_keys_of_get AJ
   refine S7 (Wd (S7 (wpAny_updateDictKeys (hz:=by have e:=size_of_entries he;omega) (s:={ s with toks:=s.toks+knd.draws k }) ho hd (Tg (KG (Yh AJ) _ ⟨_,_,ep+1,Ud _ ho (Obj.isFreed_of_dict (Obj.data_mapDictKeys hd _)),
    hc.mapDictKeys _,Obj.data_mapDictKeys hd _,?_,?_,?_⟩ (VE ..))))))
   · rw [storedH_new (Yh AJ)];simp [he,entryOfKey]
   · rw [storedH_new (Yh AJ)];intro x hx;rcases Ul.mp hx with hx | hx
     · exact knd.keeps (Jl x hx) ho hd (VE ..)
     · simp only [TR] at hx;subst hx;exact knd.keeps zF ho hd (VE ..)
   · rw [storedH_new (Yh AJ)];rw [Tu,XR];refine ⟨hn,by simp,?_⟩;intro x hx y hy;simp only [Up,VI,TR] at hy;subst hy;exact fun e=>KH (e ▸ hx)
 · intro j p hj;have h1:=EL _ (atKey_of_get hn hj);refine S7 (Ye (s:={ s with toks:=s.toks+knd.draws k }) ho hd ?_);rw [entry_at he j,hj];exact S7 (Wd (Tg h1))
theorem bb_meets_setdefault (knd:HeapKind prog w K) (d a:Ta) (dflt:Tc) (hd:(d == Vn)=false) :
 MeetsIn prog w (V7.«dict.setdefault» ⟨[.ref d,.ref a,dflt],[]⟩) (fun A R s=>knd.room A.in1/\∃ k xs,knd.is s.heap k a/\s.heap.DictOfH knd d xs/\xs.length<=TB ∧
  (∀ p,W2 xs k=some p->R (.ok (.ret p.2)) { s with toks:=s.toks+knd.draws k }) ∧
  (W2 xs k=none->∀ h',h'.DictOfH knd d (Yg xs k a dflt)->Vj d s.heap h'->R (.ok (.ret dflt)) { s with heap:=h',toks:=s.toks+knd.draws k })) :=
 .of_wp fun A R s ⟨hu,k,xs,zF,hm,hz,h1,h2⟩=>by
  unfold V7.«dict.setdefault»;refine S7 ?_;unfold Builtin.Dict.keyAndDefault;have hT:s.TypeIs (.ref d) "dict":=hm.typeIs;refine S7 (YH hT ?_);show Tx _ _ (pure (d,T5 a,some dflt)) _ _ s;refine Tg ?_;show Tx _ _ (if (d == Vn)=true then _ else (dictSetDefault d (.ref a) dflt >>= _)) _ _ s;rw [if_neg (by rw [hd];exact TH)];exact S7 (bb_setDefault_heap hu zF hm (fun p hp=>Tg ⟨_,rfl,h1 p hp⟩) (fun hn h' D4 yX=>Tg ⟨_,rfl,h2 hn h' D4 yX⟩) hz)
end
end PySem
namespace L2
open PySem PySem.Spec PyProof.Rows
end L2
namespace PySem
open Sem (wp)
section
variable {prog:Tv} {w:TN} {A:Uh} {R:Result->Tj->Prop}
theorem bb_key_loop {S it d:Ta} {es:Array DictEntry} {ep:Nat} {od:VH} (hh:A.in1.handled=none) (hz:es.size<=TB) (EM:S≠it) (GR:S≠d) (Jk:d≠it) (g2:od.data=.dict es ep) (res:Tc) :
 ∀ (k i:Nat) (s:Tj) (acc:Array Tc) (c:Nat),es.size - i=k->i<=es.size->s.heap.IsKeyIter it d i es.size ep->s.heap.get? d=some od->s.heap.get? S=some { cls:=.type "list",dict:=none,data:=.seq acc c,slots:=#[] }->acc.toList=(es.toList.take i).map (·.key) →
 (∀ h' yS c',(∀ b o,b≠S->b≠it->s.heap.get? b=some o->h'.get? b=some o)->h'.get? S=some { cls:=.type "list",dict:=none,data:=.seq yS c',slots:=#[] }->yS.toList=es.toList.map (·.key)->R (.ok (.ret res)) { s with heap:=h' }) →
 Xu (T6 prog w) A (.builtin "list.extend.loop" ⟨[.ref S,.ref it,res],[]⟩) R s:=by
 intro k;induction k with
 | zero =>
   intro i s acc c hk hi hit hd hS yc hR;have Bh:i=es.size:=by omega
   subst Bh;refine Xi XT ?_;rw [Wo U1 _];show Tx _ A.in1 (Wr (.ref it) >>= _) _ _ s;refine S7 (bb_keyEnd hh hit hd g2 (Td _) fun h' zg=>Tg ?_);refine hR h' acc c (fun b o _ hb e=>zg b o hb e) (zg _ _ EM hS) ?_;rw [yc,UT (by rw [Ua];omega)]
 | succ k ih =>
   intro i s acc c hk hi hit hd hS yc hR;have yf:i<es.size:=by omega
   refine Xi XT ?_;rw [Wo U1 _];show Tx _ A.in1 (Wr (.ref it) >>= _) _ _ s;have hx:es[i]?=some es[i]:=VB yf
   have zI:acc.size=i:=by
    have:=congrArg Wf yc;rw [Ua,S6,Uc,Ua] at this;omega
   refine S7 (bb_keyNext hit hd g2 hx fun h' C2 zg=>?_);have BO:=(zg.2 S EM).trans hS;have zw:=(zg.2 d Jk).trans hd;show Tx _ A.in1 (X1 S (·.push es[i].key) >>= _) _ _ _;refine S7 ?_;have Ap:∀ b o,b≠S->h'.get? b=some o->(h'.update S (UG (·.push es[i].key))).get? b=some o:=fun b o hb e=>(Uk _ _ (Vi hb)).trans e
   refine Vh BO rfl (Tg ⟨Wt U1 _,ih (i+1) _ (acc.push es[i].key) _ (by omega) yf (C2.at fun o e=>Ap _ _ (Vi EM) e) (Ap _ _ (Vi GR) zw) (Ud _ BO rfl) ?_ fun Kw yS c' EF EG Ci=>?_⟩)
    (by rw [zI];omega) (by show (acc.push _).size<=TB+1;rw [Array.size_push,zI];omega)
   · rw [Array.toList_push,yc,UN,S9 (by rw [Ua];exact yf),Tu];simp
   · exact hR Kw yS c' (fun b o hb yo e=>EF b o hb yo (Ap b o hb ((zg.2 b yo).trans e))) EG Ci
end
section
variable {prog:Tv} {w:TN} {A:Uh} {E:Tc->Tj->Prop} {s:Tj}
theorem bb_list_keys {d:Ta} {es:Array DictEntry} {ep:Nat} {od:VH} {Q:Tc->Tj->Prop} (hh:A.in1.in1.handled=none) (ns:(d == Vn)=false) (hd:s.heap.get? d=some od) (gc:od.cls=.type "dict") (g2:od.data=.dict es ep) (hz:es.size<=TB)
 (hQ:∀ h' acc c,(∀ b o,s.heap.get? b=some o->h'.get? b=some o)->h'.get? s.heap.objs.size=some { cls:=.type "list",dict:=none,data:=.seq acc c,slots:=#[] }->acc.toList=es.toList.map (·.key)->Q (.ref s.heap.objs.size) { s with heap:=h' }) :
 Tx (T6 prog w) A (call (.type "list") [.ref d]) Q E s:=by
 have BS:=Tw hd;have GR:s.heap.objs.size≠d:=WR BS
 refine YM (Q₁:=fun obj xT=>obj=.ref s.heap.objs.size/\xT={ s with heap:=s.heap.push { cls:=.type "list",data:=.seq #[] } }) F.called_list (F.typeCall_list_1 _) F.entry_list_init
  (code_list_new _ ⟨rfl,rfl⟩) fun obj xT yi=>?_
 obtain ⟨rfl,rfl⟩:=yi;have hS:(s.heap.push { cls:=.type "list",data:=.seq #[] }).get? s.heap.objs.size=some { cls:=.type "list",data:=.seq #[] }:=Tt _ rfl;refine ⟨⟨_,hS,rfl⟩,F.args_list_init_2 _ _,?_⟩;show Tx _ A.in1.in1 (do let old ← V6 (.ref s.heap.objs.size);Yv (.ref s.heap.objs.size) (fun _=>#[]);letGo old.toList.reverse;Vx (.ref s.heap.objs.size) (.ref d) .none) _ _ _;refine S7 ?_;unfold V6;refine S7 (UU hS rfl (Tg ?_));refine S7 (Vh hS rfl ?_);have y8:=Ud (UG (fun _=>(#[]:Array Tc))) hS rfl;refine S7 (Yd ?_);have Bu:((s.heap.push { cls:=.type "list",data:=.seq #[] }).update s.heap.objs.size (UG (fun _=>(#[]:Array Tc)))).objs.size=s.heap.objs.size+1:=by rw [XC,UK]
 generalize hH:(s.heap.push { cls:=.type "list",data:=.seq #[] }).update s.heap.objs.size (UG (fun _=>(#[]:Array Tc)))=H2 at y8 Bu ⊢
 have old:∀ b o,s.heap.get? b=some o->H2.get? b=some o:=fun b o e=>by
  rw [<- hH,Uk _ _ (Vi (T9 (Tw e)))];exact Tf _ e
 obtain ⟨c2,C3⟩:∃ c,H2.get? s.heap.objs.size=some { cls:=.type "list",data:=.seq #[] c }:=⟨_,y8⟩;have hd2:=old _ _ hd;have GK:({ s with heap:=H2 }:Tj).TypeIs (.ref d) "dict":=⟨_,hd2,gc⟩;unfold Vx;refine S7 (V4 GK ?_);have h1:VP (.ref s.heap.objs.size) (.ref d)=false:=by simp [VP,GR]
 have h2:(VT "dict" == VT "list")=false:=by decide
 have h3:(VT "dict" == VT "tuple")=false:=by decide
 simp only [h1,h2,h3,YG,UJ,if_false];refine S7 (bb_keyIter (s:={ s with heap:=H2 }) ns hd2 gc g2 ?_);refine S7 (UW ?_);have EN:(H2.push { cls:=.type "dict_keyiterator",data:=.fields #[.ref d,.int 0 0,.int es.size 0,.int ep 0] }).IsKeyIter H2.objs.size d 0 es.size ep:=⟨_,Tt _ rfl,rfl,rfl⟩;have Jm:∀ b o,H2.get? b=some o->(H2.push { cls:=.type "dict_keyiterator",data:=.fields #[.ref d,.int 0 0,.int es.size 0,.int ep 0] }).get? b=some o:=fun b o e=>Tf _ e;have GS:s.heap.objs.size≠H2.objs.size:=by rw [Bu];omega
 have KI:d≠H2.objs.size:=by rw [Bu];exact T9 (Xg BS)
 show Tx _ _ _ _ _ ({ s with heap:=H2.push { cls:=.type "dict_keyiterator",data:=.fields #[.ref d,.int 0 0,.int es.size 0,.int ep 0] } }:Tj);generalize H2.push { cls:=.type "dict_keyiterator",data:=.fields #[.ref d,.int 0 0,.int es.size 0,.int ep 0] }=H3 at EN Jm ⊢;have NB:=Jm _ _ hd2;have KJ:=Jm _ _ C3;have KL:({ s with heap:=H3 }:Tj).TypeIs (.ref d) "dict":=⟨_,NB,gc⟩
 have key:∀ (h:UM) (c₁:Nat),h.IsKeyIter H2.objs.size d 0 es.size ep->(∀ b o,b≠s.heap.objs.size->H3.get? b=some o->h.get? b=some o)->h.get? s.heap.objs.size=some { cls:=.type "list",data:=.seq #[] c₁ } →
  Xu (T6 prog w) A.in1 (.builtin "list.extend.loop" ⟨[.ref s.heap.objs.size,.ref H2.objs.size,.none],[]⟩) (wants (fun r yB=>r=.none/\Q (.ref s.heap.objs.size) yB) E) { s with heap:=h }:=by
  intro h c₁ hit hk An;refine bb_key_loop hh hz GS GR KI g2 .none es.size 0 _ #[] c₁ rfl (TZ _) hit (hk _ _ (Vi GR) NB) An rfl fun h' yS c' hm BO yc=>?_;refine ⟨rfl,hQ h' yS c' (fun b o e=>?_) BO yc⟩;have hb:=T9 (Tw e);exact hm b o hb (by rw [Bu];exact T9 (Xg (Tw e))) (hk b o hb (Jm b o (old b o e)))
 unfold V5;refine S7 (U2 KL F.slot_dict_len.lookup ?_);generalize hid:("dict.__len__":String)=EB
 wp_delta
 rw [show splitId EB=some ("dict","__len__") from by subst hid;decide +kernel];subst hid;refine S7 (V8 (T:="dict") (b:=true) KL (by rw [Wx];kernel_rfl) ?_);refine YA (fun zJ=>absurd zJ (by decide)) (fun _=>?_);refine YA (fun _=>?_) (fun zJ=>absurd (by decide +kernel) zJ);refine S7 (V4 KL ?_);refine Tg ?_;refine YA (fun _=>?_) (fun _=>Tg ⟨Wt U1 _,key _ c2 EN (fun b o _ e=>e) KJ⟩);refine S7 (Wd ?_);refine S7 ?_;show Tx _ _ (X1 s.heap.objs.size (·.push .none) >>= fun _=>X1 s.heap.objs.size (·.pop)) _ _ _;refine S7 (Vh KJ rfl ?_);have y9:=Ud (UG (·.push UX)) KJ rfl;refine Vh (hz:=by seq_fits) y9 rfl ?_;have Ao:=Ud (UG (·.pop)) y9 rfl
 have Ap:∀ b o,b≠s.heap.objs.size->H3.get? b=some o->((H3.update s.heap.objs.size (UG (·.push UX))).update s.heap.objs.size (UG (·.pop))).get? b=some o :=
  fun b o hb e=>(Uk _ _ (Vi hb)).trans ((Uk _ _ (Vi hb)).trans e)
 exact Tg ⟨Wt U1 _,key _ _ (EN.at fun o e=>Ap _ _ (Vi GS) e) Ap Ao⟩
end
end PySem
namespace L2
open PySem PySem.Spec PyProof.Rows
end L2
namespace L2
open PySem PySem.Spec PyProof.Rows BB
theorem xO {H:Hp} {es:List Dv} {ws:List V} {its:List Tc} (r1:Vals ws its) (yL:DAts H es ws) (j:Nat) (z:Tc) (hz:its[j]?=some z):∃ e y',es[j]?=some e/\DAt H e y'/\RelV y' z:=by
 have hj:j<its.length:=(Te.mp hz).1;have l1:=r1.length;have l2:=yL.length;have FH:j<es.length:=by omega
 obtain ⟨y',AL,dy⟩:=yL.at (S9 FH);obtain ⟨v',yM,AS⟩:=r1.get AL;rw [hz] at yM;cases yM;exact ⟨_,y',S9 FH,dy,AS⟩
theorem wC {H:Hp} {z:Tc} {e e':Dv} {y' Ck:V} (h1:DAt H e y') (h2:RelV y' z) (h3:DAt H e' Ck) (h4:RelV Ck z):e=e':=by
 have:=h2.inj h4;subst this;exact h1.inj h3
def u4 (K:S8) (B:Nat):V->List V->Hp->VK->Prop:=fun x vs H Q=>∃ (l:Ta) (y:V) (ws:List V) (d:Dv) (es:List Dv) (j:Nat),x=.ref l/\vs=[y]/\SqL K H l ws/\DAt H d y/\DAts H es ws/\cS es<=B/\es[j]?=some d/\(∀ i,i<j->es[i]?≠some d)/\es.length<=100000/\Q (.int (j:Nat)) H
open Classical in
theorem rH {X:Cx} {B:Nat} (hu:X.A.units+B+4<Vc):MtM X "list.index" (u4 X.K B):=by
 intro pins s σ H x vs v us Q I rx rv h;obtain ⟨l,y,ws,d,es,j,rfl,rfl,hS,hd,yL,hB,hj,AJ,hz,q⟩:=h;cases rx;obtain ⟨u,rfl,ru⟩:=rv.one;obtain ⟨its,r,pl,_⟩:=I.list hS;have hlen:=r.length;have yN:=yL.length;obtain ⟨⟨cls,dd,data,sl⟩,ho,hc,n,Jn⟩:=pl.isList;simp only at hc Jn;subst hc Jn;have AU:j<es.length:=(Te.mp hj).1
 have KN:∀ (m:Nat) (z:Tc),its[m]?=some z->∃ e y',es[m]?=some e/\DAt H e y'/\RelV y' z/\decide (∃ y',DAt H d y'/\RelV y' z)=decide (e=d):=fun m z hz=>by
  obtain ⟨e,y',he,dy,ry⟩:=xO r yL m z hz;refine ⟨e,y',he,dy,ry,?_⟩;by_cases h:e=d
  · rw [decide_eq_true h,decide_eq_true ⟨y',h ▸ dy,ry⟩]
  · rw [decide_eq_false h,decide_eq_false];rintro ⟨Ck,h1,h2⟩;exact h (wC dy ry h1 h2)
 refine X2 Wk ⟨_,ho,rfl⟩ PySem.F.entry_list_index (PySem.F.args_list_index_2 _ _)
  (SeqAt.list_indexAt l its.toArray n dd sl u (fun z=>decide (∃ y',DAt H d y'/\RelV y' z)) j (by rw [Tq];omega) (by omega) ?_ ?_) ⟨ho,fun y hy=>?_,⟨.int (j:Nat),H,I.tok _,⟨_,rfl⟩,q⟩⟩
 · obtain ⟨e,y',he,dy,ry,e3⟩:=KN j (its.toArray[j]'(by rw [Tq];omega)) (by simp);rw [hj] at he;cases he;rw [e3];exact decide_eq_true rfl
 · intro m hm yf;obtain ⟨e,y',he,dy,ry,e3⟩:=KN m (its.toArray[m]'hm) (by simp);rw [e3];exact decide_eq_false fun z=>AJ m yf (by rw [he,z])
 · have AL:y∈its:=by simpa using hy
   obtain ⟨m,hm⟩:=TJ.mp AL;obtain ⟨e,y',he,dy,ry,e3⟩:=KN m y hm;rw [e3];have hq:=fe he;refine nQ I _ e d (Td _) y' _ y u _ dy hd ry ru ?_;show X.A.units+1+_<Vc;omega
end L2
namespace PySem
open Sem (wp)
section
variable {prog:Tv} {w:TN} {K:Type} [DecidableEq K] (knd:HeapKind prog w K) (d:Ta)
end
section
variable {prog:Tv} {w:TN} {K:Type} [DecidableEq K] {knd:HeapKind prog w K} {A:Uh} {E:Tc->Tj->Prop} {s:Tj}
end
end PySem
namespace L2
open PySem PySem.Spec PyProof.Rows
end L2
namespace BB
open PySem L2
end BB
namespace BB
open PySem L2
end BB
namespace BB
open PySem L2
theorem size_pos (t:Th):0<t.size:=by cases t <;> (rw [Th.size];omega)
mutual
theorem cF:∀ t:Th,t.tall<=t.size
 | .knot n ts=>by rw [Th.tall,Th.size];have:=jP ts;omega
 | .call _ _=>by rw [Th.tall,Th.size];omega
theorem jP:∀ ts:List Th,bD ts<=aq ts
 | []=>by rw [bD,aq];omega
 | t::ts=>by rw [bD,aq];have:=cF t;have:=jP ts;omega
end
structure vk (ins outs:List (TY×Int)) (S:Int) (m:Nat) (head:Th) (rows:List (List Th)):Prop where
 len:(rows.length:Int)=S
 row:∀ row∈rows,row.length=ins.length
 fit:∀ row∈rows,∀ (j:Nat) (t:Th) (k:TY×Int),row[j]?=some t->ins[j]?=some k->t.FitS outs S k.2/\t.size<=m
 hdf:head.FitS outs S 1
 hdz:head.size<=m
mutual
theorem FitS.up {ks:List (TY×Int)} {S C:Int}:∀ {t:Th},t.FitS ks 0 0->t.FitS ks S C
 | .call s c,h=>by rw [Th.FitS] at h;omega
 | .knot n ts,h=>by
   rw [Th.FitS] at h ⊢;exact ⟨h.1,FitSs.up h.2⟩
theorem FitSs.up {ks:List (TY×Int)} {S C:Int}:∀ {ts:List Th},FitSs ks 0 0 ts->FitSs ks S C ts
 | [],_=>by rw [FitSs];trivial
 | t::ts,h=>by
   rw [FitSs] at h ⊢;exact ⟨FitS.up h.1,FitSs.up h.2⟩
end
theorem oT {ks:List (TY×Int)} {S C:Int}:∀ (p:List Int) (t u o:Th),t.sub p=some u->t.FitS ks S C->o.FitS ks S C->(t.put p o).FitS ks S C
 | [],t,u,o,_,_,ho=>by rw [ny];exact ho
 | i::p,t,u,o,h,ht,ho=>by
   obtain ⟨h0,w,hw,hs⟩:=nJ h;rw [lF hw];cases t with
   | call a b=>rw [Th.kids] at hw;simp at hw
   | knot n ts =>
     rw [Th.kids] at hw;rw [Th.FitS] at ht;show (Th.knot n (ts.set i.toNat (w.put p o))).FitS ks S C;rw [Th.FitS,Yj];refine ⟨ht.1,FitSs.of fun v hv=>?_⟩;rcases List.mem_or_eq_of_mem_set hv with hv | rfl
     · exact gI ht.2 v hv
     · exact oT p w u o hs (gI ht.2 w (Tb hw)) ho
end BB
namespace BB
open PySem L2
theorem ja {α β:Type} {F:α->β->Prop}:∀ {xs:List α} {ys:List β} {i:Nat} {x:α} {y:β},T3 F xs ys->xs[i]?=some x->ys[i]?=some y->F x y
 | _,_,_,_,_,.nil,h,_=>by simp at h
 | _,_,0,_,_,.cons r _,h,g=>by simp at h g;subst h;subst g;exact r
 | _,_,i+1,_,_,.cons _ t,h,g=>ja (i:=i) t (by simpa using h) (by simpa using g)
theorem lj {u:Th}:∀ {ts:List Th},u∈ts->u.size<=aq ts
 | [],h=>by cases h
 | t::ts,h=>by
   rw [aq];rcases TF.mp h with rfl | h
   · omega
   · have:=lj h;omega
structure qC (ws:List TY):Prop where
 len:ws.length=4
 low:∀ x∈ws,Low x/\x.length<=8
 inj:∀ (i j:Nat) (x:TY),ws[i]?=some x->ws[j]?=some x->i=j
def gO (a st:Int) (j:Nat):Nat:=97+((a+5 * st * (j:Int))%26).toNat
theorem t5 (a st:Int) (j:Nat):97<=gO a st j/\gO a st j<=122:=by
 unfold gO;have h1:=UO (a+5 * st * (j:Int)) (by decide:(26:Int)≠0);have h2:=UI (a+5 * st * (j:Int)) (by decide:(0:Int)<26);omega
theorem j7 {a st:Int} (h1:1<=st) (h4:st<=4) {i j:Nat} (hi:i<4) (hj:j<4) (h:gO a st i=gO a st j):i=j:=by
 unfold gO at h;have e1:=UO (a+5 * st * (i:Int)) (by decide:(26:Int)≠0);have e2:=UO (a+5 * st * (j:Int)) (by decide:(26:Int)≠0);have h':(a+5 * st * (i:Int))%26=(a+5 * st * (j:Int))%26:=by omega
 clear h e1 e2;rcases (by omega:st=1∨st=2∨st=3∨st=4) with rfl | rfl | rfl | rfl <;> omega
def je (c a st:Int) (word:TY) (j:Nat):TY :=
 if c=0 then ⟨#[gO a st j]⟩ else if c=1 then ⟨#[gO a st j]⟩++dW word (some 1) (some 4) else if c=2 then dW word none (some 5)++⟨#[gO a st j]⟩ else dW word none (some (2 * (j:Int)+2))
theorem pk {z:TY} (h:z.length=8):(dW z (some 1) (some 4)).length=3:=by
 have hz:z.cps.toList.length=8:=by rw [Ua];exact h
 show (jY z.cps.toList (some 1) (some 4)).toArray.size=3;rw [Tq];unfold jY;rw [show (some (1:Int))=some ((1:Nat):Int) from rfl,show (some (4:Int))=some ((4:Nat):Int) from rfl,HT.sIx_nat,HT.sIx_nat,hz,Uc,UL,hz];rfl
theorem t4 {c a st:Int} {word:TY} (hw:Low word) (hl:word.length=8) {j:Nat} (hj:j<4):Low (je c a st word j)/\(je c a st word j).length<=8:=by
 have ht:=t5 a st j;unfold je;split
 · exact ⟨j3 ht.1 ht.2,by show 1<=8;omega⟩
 · split
   · refine ⟨mT (j3 ht.1 ht.2) (nM hw _ _),?_⟩;rw [strLen_append,pk hl];show 1+3<=8;omega
   · split
     · refine ⟨mT (nM hw _ _) (j3 ht.1 ht.2),?_⟩;have:=(eP (z:=word) (n:=5) (by omega)).2;rw [strLen_append];show (dW word none (some ((5:Nat):Int))).length+1<=8;omega
     · refine ⟨nM hw _ _,?_⟩;have:=(eP (z:=word) (n:=2 * j+2) (by omega)).2;have e:(2 * (j:Int)+2)=((2 * j+2:Nat):Int):=by omega
       rw [e];omega
theorem sQ {c a st:Int} {word:TY} (h1:1<=st) (h4:st<=4) (hl:word.length=8) {i j:Nat} (hi:i<4) (hj:j<4) (h:je c a st word i=je c a st word j):i=j:=by
 unfold je at h;split at h
 · refine j7 h1 h4 hi hj (a:=a) ?_;have h2:=congrArg (fun z:TY=>z.cps.toList) h;simpa using h2
 · split at h
   · refine j7 h1 h4 hi hj (a:=a) ?_;have h2:((#[gO a st i]:Array Nat)++(dW word (some 1) (some 4)).cps).toList=((#[gO a st j]:Array Nat)++(dW word (some 1) (some 4)).cps).toList:=congrArg (fun z:TY=>z.cps.toList) h;rw [WY,WY] at h2;have h3:=List.append_cancel_right h2;simpa using h3
   · split at h
     · refine j7 h1 h4 hi hj (a:=a) ?_;have h2:((dW word none (some 5)).cps++(#[gO a st i]:Array Nat)).toList=((dW word none (some 5)).cps++(#[gO a st j]:Array Nat)).toList:=congrArg (fun z:TY=>z.cps.toList) h;rw [WY,WY] at h2;have h3:=List.append_cancel_left h2;simpa using h3
     · have e1:(2 * (i:Int)+2)=((2 * i+2:Nat):Int):=by omega
       have e2:(2 * (j:Int)+2)=((2 * j+2:Nat):Int):=by omega
       rw [e1,e2] at h;have l1:=(eP (z:=word) (n:=2 * i+2) (by omega)).2;have l2:=(eP (z:=word) (n:=2 * j+2) (by omega)).2;rw [h] at l1;omega
theorem kP {H:Hp}:∀ {ks:List (TY×Int)} {as:List Ta},KsAt H ks as->∀ z∈ks.zip as,z.1∈ks/\KAt H z.1 z.2
 | _,_,.nil,z,hz=>by simp at hz
 | _,_,.cons (a:=k) (b:=a) r t,z,hz=>by
   rw [Ww] at hz;rcases TF.mp hz with rfl | hz
   · exact ⟨T1 ..,r⟩
   · obtain ⟨h1,h2⟩:=kP t z hz;exact ⟨TQ _ h1,h2⟩
theorem pM {K:S8} {js:List (Option Nat)} {tt:TT} {te:TE} {σ:St} {H:Hp} {kr:Ta} {yl:List Ta} {ks:List (TY×Int)} {fin:Ta->Hp->Prop} (p:TY×Int->Bool) (e:H kr=some (.tup (yl.map V.ref))) (zK:KsAt H ks yl) (hl:ks.length<=1000) (hp:∃ k∈ks,p k=true)
 (Gz:∀ (z:TY×Int) (ka:Ta) (H2:Hp) (R:Bool->Hp->Prop),L2.Same H H2->KAt H2 z ka->R (p z) H2->tt ((cσ js σ).set 0 (some (.ref ka))) H2 R)
 (GA:∀ (ka:Ta) (H2:Hp) (R:VK),R (.ref ka) H2->te ((cσ js σ).set 0 (some (.ref ka))) H2 R)
 (q:∀ (D:Ta) (bs:List ((TY×Int)×Ta)) (H':Hp),H D=none->H'=upd H D (.lst (bs.map fun z=>V.ref z.2))->1<=bs.length->bs.length<=ks.length->(∀ z∈bs,z.1∈ks/\p z.1=true/\KAt H z.1 z.2)->fin D H') :
 ∀ D,H D=none->∃ (n:Nat) (W:Nat->Hp->Prop),W 0 (upd H D (.lst []))/\fN js (aF 0) tt te σ (Itt K kr) D n W fun H'=>fin D H':=by
 have y4:ks.length=yl.length:=Tp zK;have NC:(ks.zip yl).length=ks.length:=by rw [Wz];omega
 have FG:∀ (i:Nat) (x:V) (z:(TY×Int)×Ta),(yl.map V.ref)[i]?=some x->(ks.zip yl)[i]?=some z->x=.ref z.2:=fun i x z hx hz=>by
  obtain ⟨ka,rfl,yT⟩:=aU hx;obtain ⟨h1,h2⟩:=Vz.mp hz;rw [yT] at h2;cases h2;rfl
 refine oQ (ks.zip yl) (fun z=>p z.1) (fun z=>.ref z.2) (SqT.of e) (by rw [NC,S6];exact y4) (by rw [S6];omega) (fun i x z H2 R hx hz sm r=>?_) (fun i x z H2 R hx hz _ sm r=>?_) (fun D hD=>?_)
 · rw [FG i x z hx hz];have:=(kP zK z (Tb hz)).2;exact Gz z.1 z.2 H2 R sm (sm _ _ this) r
 · rw [FG i x z hx hz];exact GA z.2 H2 R r
 · refine q D _ _ hD rfl ?_ ?_ ?_
   · obtain ⟨k,hk,PY⟩:=hp;obtain ⟨i,hi,rfl⟩:=List.getElem_of_mem hk;have hz:(ks.zip yl)[i]'(by omega)∈(ks.zip yl).filter fun z=>p z.1:=Vb.mpr ⟨Xo _,by rw [List.getElem_zip];exact PY⟩;exact List.length_pos_of_mem hz
   · exact Ve (V3 _ _) (by omega)
   · intro z hz;obtain ⟨h1,h2⟩:=Vb.mp hz;obtain ⟨h3,h4⟩:=kP zK z h1;exact ⟨h3,h2,h4⟩
end BB
namespace BB
open PySem L2 PySem.Builtin PySem.Builtin.Str
end BB
namespace L2
open PySem PySem.Spec PySem.Calls PyProof.Rows BB
section
variable {X:Cx} {pins:List (Ta×VH)} {σ:List (Option V)} {H:Hp} {s:Tj}
end
end L2
namespace L2
open PySem PySem.Spec PySem.Calls PyProof.Rows PySem.Builtin PySem.Builtin.Str BB
variable {X:Cx}
end L2
namespace BB
open PySem L2
end BB
namespace BB
open PySem L2
section
variable {H H':Hp} {t:Th} {a:Ta} {ts:List Th} {es:List Ta}
end
end BB
namespace L2
open PySem PySem.Spec PyProof.Rows BB
variable {X:Cx}
end L2
namespace L2
open PySem PySem.Spec PyProof.Rows PySem.W
end L2
namespace L2
open PySem PySem.Spec PyProof.Rows BB
variable {X:Cx}
end L2
namespace L2
open PySem PySem.Spec PySem.Calls PyProof.Rows PySem.W
end L2
namespace BB
open PySem L2 PySem.Builtin PySem.Builtin.Str
end BB
namespace L2
open PySem PySem.Spec PySem.Calls PyProof.Rows PySem.Builtin PySem.Builtin.Str BB
variable {X:Cx}
end L2
namespace L2
open PySem PySem.Spec PyProof.Rows
end L2
namespace BB
open PySem L2
end BB
namespace L2
open PySem PySem.Spec PyProof.Rows
end L2
namespace L2
open PySem PySem.Spec PySem.Calls PyProof.Rows
section
variable {X:Cx} {CX:CXT} {k i:Nat} {E:XK} {x:TY} {p pos:Xn} {e:UH} {es:List UH} {t:TA}
end
section
variable {X:Cx} {k:Nat} {f:Ta} {fd:WK} {ps:List TY} {sp:Sp} {x:TY} {p pos:Xn} {e:UH} {es:List UH} {t:TA}
end
end L2
namespace L2
open PySem PySem.Spec PyProof.Rows
end L2
namespace L2
open PySem PySem.Spec PyProof.Rows
end L2
namespace BB
open PySem L2
def rowOf (rows:List (List Th)) (s:Int):List Th:=rows.getD s.toNat []
section
variable {head:Th} {rows:List (List Th)}
end
end BB
namespace L2
open PySem PySem.Spec PySem.SeqAt PyProof.Rows
theorem lh {α:Type} [DecidableEq α] {s:Tj} {A:Uh} {a b:Ta} {its xX:List Tc} {ds es:List α} (p1:s.heap.IsTuple a its.toArray) (p2:s.heap.IsTuple b xX.toArray) (l1:its.length=ds.length) (l2:xX.length=es.length) (hu:A.units<Vc)
 (ih:∀ (j:Nat) (d e:α) (u v:Tc),ds[j]?=some d->es[j]?=some e->its[j]?=some u->xX[j]?=some v->EqAt A.in1 s u v (decide (d=e))):RcAt A s (.ref a) (.ref b) (decide (ds=es)):=by
 have Cj:RcAt A s (.ref a) (.ref b) ((T7 (min its.toArray.size xX.toArray.size)).all (fun j=>decide (ds[j]?=es[j]?)) && its.toArray.size == xX.toArray.size):=by
  refine RcAt.tuples p1 p2 hu fun j h1 h2=>?_;have Bw:j<ds.length:=by rw [<- l1];simpa using h1
  have AR:j<es.length:=by rw [<- l2];simpa using h2
  have e1:ds[j]?=some ds[j]:=S9 Bw;have e2:es[j]?=some es[j]:=S9 AR;have e3:decide (ds[j]?=es[j]?)=decide (ds[j]=es[j]):=by rw [e1,e2];simp
  have g1:its[j]?=some its[j]:=S9 (by rw [l1];exact Bw);have g2:xX[j]?=some xX[j]:=S9 (by rw [l2];exact AR);rw [e3];exact ih j ds[j] es[j] its[j] xX[j] e1 e2 g1 g2
 have e:decide (ds=es)=((T7 (min its.toArray.size xX.toArray.size)).all (fun j=>decide (ds[j]?=es[j]?)) && its.toArray.size == xX.toArray.size):=by
  rw [Tq,Tq,l1,l2];by_cases h:ds=es
  · subst h;rw [decide_eq_true rfl];symm;simp
  · rw [decide_eq_false h];symm;by_cases hl:ds.length=es.length
    · rw [hl,Yb]
      have:¬ ((T7 es.length).all (fun j=>decide (ds[j]?=es[j]?)))=true:=by
       intro z;apply h;apply XS;intro j;by_cases hj:j<es.length
       · exact of_decide_eq_true (Wn.mp z j (VZ.mpr hj))
       · rw [Vk (by omega),Vk (by omega)]
      rw [Vw.mpr this];rfl
    · have:(ds.length == es.length)=false:=by simpa using hl
      rw [this,XN]
 rw [e];exact Cj
theorem oO {A:Uh} {s:Tj} {k l:Key} {u v:Tc} (hu:ie k u=true) (hv:ie l v=true):EqAt A s u v (decide (k=l)):=by
 rcases bh hu with ⟨i,t,rfl,rfl⟩ | ⟨x,t,rfl,rfl⟩
 · rcases bh hv with ⟨j,t',rfl,rfl⟩ | ⟨y,t',rfl,rfl⟩
   · have:decide ((Ub i:Key)=Ub j)=(i == j):=by
      by_cases h:i=j
      · subst h;simp
      · rw [decide_eq_false (fun z=>h (Wu z)),beq_eq_false_iff_ne.mpr h]
     rw [this];exact EqAt.int_int i t j t'
   · rw [decide_eq_false (fun z=>nomatch z)];exact EqAt.int_str i t y t'
 · rcases bh hv with ⟨j,t',rfl,rfl⟩ | ⟨y,t',rfl,rfl⟩
   · rw [decide_eq_false (fun z=>nomatch z)];exact EqAt.str_int x t j t'
   · have:decide ((WO x:Key)=WO y)=(x == y):=by
      by_cases h:x=y
      · subst h;simp
      · rw [decide_eq_false (fun z=>h (Sum.inr.inj z)),beq_eq_false_iff_ne.mpr h]
     rw [this];exact EqAt.str_str x t y t'
theorem jx {P:Tv} {w:TN}:∀ {ks:List Key} {vs:List Tc} {j:Nat} {k:Key} {v:Tc},ItemsAre (aE P w) ks vs->ks[j]?=some k->vs[j]?=some v->ie k v=true
 | _,_,0,k,v,.cons h _,e1,e2=>by cases e1;cases e2;exact h
 | _,_,j+1,k,v,.cons _ h,e1,e2=>jx (j:=j) h e1 e2
theorem sG {P:Tv} {w:TN} {A:Uh} {s:Tj} {x y:List Key} {a b:Ta} (hx:IsTupleKey (aE P w) s.heap x a) (hy:IsTupleKey (aE P w) s.heap y b) (hu:A.units<Vc):EqAt A s (.ref a) (.ref b) (decide (x=y)):=by
 by_cases zJ:a=b
 · subst zJ;obtain rfl:=hx.inj hy;rw [decide_eq_true rfl];exact EqAt.same _
 · obtain ⟨o,its,n,ho,hc,hd,hi⟩:=hx;obtain ⟨o',its',n',zQ,zc,zw,yA⟩:=hy;have p1:s.heap.IsTuple a its.toList.toArray:=⟨o,ho,hc,n,by rw [hd]⟩;have p2:s.heap.IsTuple b its'.toList.toArray:=⟨o',zQ,zc,n',by rw [zw]⟩;have:=lh (ds:=x) (es:=y) p1 p2 hi.length.symm yA.length.symm hu fun j d e u v e1 e2 e3 e4=>oO (A:=A.in1) (s:=s) (jx hi e1 e3) (jx yA e2 e4);exact EqAt.of_refs zJ this
abbrev aB:=List Key×Key
theorem qm {P:Tv} {w:TN} {A:Uh} {E:Tc->Tj->Prop} {s:Tj} {m:Nat} {ks:List Key} {a:Ta} {Q:Bool->Tj->Prop} (hk:IsTupleKey (aE P w) s.heap ks a) (h:Q true s):Tx (T6 P w) A (eqIsQuiet (m+1) (.ref a)) Q E s:=by
 have hT:=hk.typeIs;obtain ⟨o,items,n,ho,_,hd,hi⟩:=hk;unfold eqIsQuiet;refine S7 (U2 hT F.slot_tuple_eq.lookup ?_);show Tx _ _ (isInstance (.ref a) (.type "tuple") >>= _) _ _ s;refine S7 (V8 hT isSubtype_tuple_tuple ?_);simp only [Xp,UJ,if_false];refine S7 (UU ho hd ?_);refine S7 ?_;show Tx _ _ (forIn items _ _) _ _ s;rw [<- Xc];refine wpAny_forIn_list _ (fun rest r s'=>r.1=none/\s'=s/\∀ v∈rest,carriedByValue v=true) _ ?_ ?_ _ _ ⟨rfl,rfl,hi.byValue⟩
 · rintro v rest r s' ⟨hr,rfl,xY⟩;rw [eqIsQuiet_byValue _ (xY v T1)];refine S7 (Tg ?_);simp only [Xp,UJ,if_false];exact Tg ⟨rfl,rfl,fun u zA=>xY u (TQ _ zA)⟩
 · rintro ⟨r1,r2⟩ s' ⟨hr,rfl,_⟩;simp only at hr;subst hr;exact Tg h
section
variable {X:Cx} {pins:List (Ta×VH)} {σ:St} {H:Hp} {s:Tj} {o i value:UH} {pos pos':Xn} {td ty tv:TE}
end
end L2
namespace BB
open PySem L2
end BB
namespace BB
open PySem L2
theorem FitSs.mem' {ks:List (TY×Int)} {S C:Int}:∀ {ts:List Th},FitSs ks S C ts->∀ t∈ts,t.FitS ks S C
 | [],_,t,ht=>by cases ht
 | u::us,h,t,ht=>by
   rw [FitSs] at h;rcases TF.mp ht with e | e
   · rw [e];exact h.1
   · exact FitSs.mem' h.2 t e
structure wy (ins outs:List (TY×Int)) (S:Int) (rows:List (List Th)):Prop where
 len:(rows.length:Int)=S
 row:∀ row∈rows,row.length=ins.length/\∀ (j:Nat) (p:Th) (k:TY×Int),row[j]?=some p->ins[j]?=some k->p.FitS outs S k.2
end BB
namespace BB
open PySem L2
end BB
namespace BB
open PySem L2
theorem rZ {ins outs:List (TY×Int)} {S:Int} {rows:List (List Th)} (ok:wy ins outs S rows) {l:Int} (h0:0<=l) (h1:l<S):∃ row,rows[l.toNat]?=some row/\rowOf rows l=row/\row.length=ins.length/\∀ t∈row,∃ C,t.FitS outs S C:=by
 have hl:=ok.len;have hs:l.toNat<rows.length:=by omega
 refine ⟨rows[l.toNat],S9 hs,?_,(ok.row _ (Xo hs)).1,fun t ht=>?_⟩
 · unfold rowOf;rw [List.getD,S9 hs];rfl
 · obtain ⟨hlen,Cn⟩:=ok.row _ (Xo hs);obtain ⟨j,hj⟩:=TJ.mp ht;have AU:=(Te.mp hj).1;exact ⟨_,Cn j t _ hj (S9 (by omega))⟩
section
variable {ins mid outs:List (TY×Int)} {S1 S2:Int} {Co Cp:Th} {Cq Cr:List (List Th)}
end
end BB
namespace L2
open PySem PySem.Spec PySem.Calls PyProof.Rows
end L2
namespace BB
open PySem L2
end BB
namespace BB
open PySem L2
section
variable {ins mid outs:List (TY×Int)} {S1 S2:Int} {Co Cp:Th} {Cq Cr:List (List Th)} {PZ P0 P1 P4 P5 P6 P7:Nat}
end
end BB
namespace BB
open PySem L2
theorem lg {H:Hp}:∀ {ts:List Th} {as:List Ta},T3 (At H) ts as->Ats H ts as
 | _,_,.nil=>.nil
 | _,_,.cons h g=>.cons h (lg g)
end BB
namespace BB
open PySem L2
end BB
namespace L2
open PySem PySem.Spec PySem.Calls PyProof.Rows
end L2
namespace L2
open PySem PySem.Spec PySem.Calls PyProof.Rows
end L2
namespace BB
open PySem L2
end BB
namespace BB
open PySem L2
section
variable {k0 k1 k2 k3:List (TY×Int)} {SA SB SC:Int} {a0 b0 c0:Th} {ND NF NG:List (List Th)}
end
end BB
namespace BB
open PySem L2
section
variable {ins mid outs:List (TY×Int)} {S1 S2:Int} {Co Cp:Th} {Cq Cr:List (List Th)} {PZ P0 P1 P4 P5 P6 P7:Nat}
end
end BB
namespace BB
theorem vt {p:Prop} [Decidable p] {A B:Prop} (hp:p) (h:A):if decide p=true then A else B:=by rw [if_pos (decide_eq_true hp)];exact h
theorem hid {G:Prop} (k:∀ F:Prop,(G->F)->F):G:=k G id
inductive Ex1 {A0:Type} (p:A0->Prop):Prop
 | mk (x0:A0) (h:p x0):Ex1 p
inductive Ex2 {A0 A1:Type} (p:A0->A1->Prop):Prop
 | mk (x0:A0) (x1:A1) (h:p x0 x1):Ex2 p
inductive Ex3 {A0 A1 A2:Type} (p:A0->A1->A2->Prop):Prop
 | mk (x0:A0) (x1:A1) (x2:A2) (h:p x0 x1 x2):Ex3 p
inductive Ex4 {A0 A1 A2 A3:Type} (p:A0->A1->A2->A3->Prop):Prop
 | mk (x0:A0) (x1:A1) (x2:A2) (x3:A3) (h:p x0 x1 x2 x3):Ex4 p
inductive Ex5 {A0 A1 A2 A3 A4:Type} (p:A0->A1->A2->A3->A4->Prop):Prop
 | mk (x0:A0) (x1:A1) (x2:A2) (x3:A3) (x4:A4) (h:p x0 x1 x2 x3 x4):Ex5 p
inductive Ex6 {A0 A1 A2 A3 A4 A5:Type} (p:A0->A1->A2->A3->A4->A5->Prop):Prop
 | mk (x0:A0) (x1:A1) (x2:A2) (x3:A3) (x4:A4) (x5:A5) (h:p x0 x1 x2 x3 x4 x5):Ex6 p
inductive Ex7 {A0 A1 A2 A3 A4 A5 A6:Type} (p:A0->A1->A2->A3->A4->A5->A6->Prop):Prop
 | mk (x0:A0) (x1:A1) (x2:A2) (x3:A3) (x4:A4) (x5:A5) (x6:A6) (h:p x0 x1 x2 x3 x4 x5 x6):Ex7 p
inductive ww {A0 A1 A2 A3 A4 A5 A6 A7 A8 A9 NH:Type} (p:A0->A1->A2->A3->A4->A5->A6->A7->A8->A9->NH->Prop):Prop
 | mk (x0:A0) (x1:A1) (x2:A2) (x3:A3) (x4:A4) (x5:A5) (x6:A6) (x7:A7) (x8:A8) (x9:A9) (P8:NH) (h:p x0 x1 x2 x3 x4 x5 x6 x7 x8 x9 P8):ww p
inductive An2 (a0 a1:Prop):Prop
 | mk (h0:a0) (h1:a1):An2 a0 a1
inductive An3 (a0 a1 a2:Prop):Prop
 | mk (h0:a0) (h1:a1) (h2:a2):An3 a0 a1 a2
inductive An4 (a0 a1 a2 a3:Prop):Prop
 | mk (h0:a0) (h1:a1) (h2:a2) (h3:a3):An4 a0 a1 a2 a3
inductive An5 (a0 a1 a2 a3 a4:Prop):Prop
 | mk (h0:a0) (h1:a1) (h2:a2) (h3:a3) (h4:a4):An5 a0 a1 a2 a3 a4
inductive An6 (a0 a1 a2 a3 a4 a5:Prop):Prop
 | mk (h0:a0) (h1:a1) (h2:a2) (h3:a3) (h4:a4) (h5:a5):An6 a0 a1 a2 a3 a4 a5
inductive An8 (a0 a1 a2 a3 a4 a5 a6 a7:Prop):Prop
 | mk (h0:a0) (h1:a1) (h2:a2) (h3:a3) (h4:a4) (h5:a5) (h6:a6) (h7:a7):An8 a0 a1 a2 a3 a4 a5 a6 a7
inductive An9 (a0 a1 a2 a3 a4 a5 a6 a7 a8:Prop):Prop
 | mk (h0:a0) (h1:a1) (h2:a2) (h3:a3) (h4:a4) (h5:a5) (h6:a6) (h7:a7) (h8:a8):An9 a0 a1 a2 a3 a4 a5 a6 a7 a8
inductive vV (a0 a1 a2 a3 a4 a5 a6 a7 a8 a9:Prop):Prop
 | mk (h0:a0) (h1:a1) (h2:a2) (h3:a3) (h4:a4) (h5:a5) (h6:a6) (h7:a7) (h8:a8) (h9:a9):vV a0 a1 a2 a3 a4 a5 a6 a7 a8 a9
end BB
namespace L2
open PySem PySem.Spec PyProof.Rows
end L2
namespace BB
open PySem L2
section
variable {ins outs:List (TY×Int)} {S:Int} {d:Nat} {head:Th} {rows:List (List Th)}
end
end BB
namespace L2
open PySem PySem.Spec PyProof.Rows
end L2
namespace L2
open PySem PySem.Spec PyProof.Rows
end L2
namespace L2
open PySem PySem.Spec PyProof.Rows
section
variable {X:Cx} {e:UH} {te:TE} {apos yh:Xn}
end
section
variable {X:Cx} {e:UH} {te:TE} {apos yh:Xn}
end
end L2
namespace PySem
open Sem (wp)
section
variable {prog:Tv} {w:TN} {A:Uh} {E:Tc->Tj->Prop} {s:Tj} {it d:Ta} {i ep:Nat} {od:VH} {es:Array DictEntry} {ok ov:Tc}
end
end PySem
namespace L2
open PySem PySem.Spec PyProof.Rows
section
variable {X:Cx} {e:UH} {te:TE} {apos yh:Xn}
end
end L2
namespace L2
open PySem PySem.Spec PyProof.Rows
section
variable {X:Cx} {e1 e2:UH} {t:TA} {p2 yt:Xn}
end
end L2
namespace L2
open PySem PySem.Spec PyProof.Rows
section
variable {X:Cx} {pins:List (Ta×VH)} {σ:St}
end
end L2
namespace BB
open PySem L2
theorem mX (pre:List Int) (n:TY) (ts:List Th):callsOf (Th.pl pre (.knot n ts))=callsOf (pls pre 0 ts):=by
 rw [Th.pl];rfl
theorem ng (pre:List Int) (s k:Int):callsOf (Th.pl pre (.call s k))=[(pre,s,k)]:=by
 rw [Th.pl];rfl
theorem nh (pre:List Int) (i:Int) (t:Th) (ts:List Th):callsOf (pls pre i (t::ts))=callsOf (t.pl (pre++[i]))++callsOf (pls pre (i+1) ts):=by
 rw [pls,dE]
end BB
namespace BB
open PySem L2
end BB
namespace BB
open PySem L2
theorem mQ {α:Type}:∀ {l m:List α},l.Nodup->(∀ a∈l,a∈m)->l.length<=m.length
 | [],m,_,_=>TZ _
 | a::l,m,h,hs=>by
   rw [Xz] at h;obtain ⟨m1,m2,rfl⟩:=List.append_of_mem (hs a (T1 ..))
   have:l.length<=(m1++m2).length:=mQ h.2 fun b hb=>by
    rcases Ul.mp (hs b (TQ _ hb)) with z | z
    · exact Uq _ z
    · rcases TF.mp z with z | z
      · exact absurd (z ▸ hb) h.1
      · exact Uj _ z
   rw [TC,To] at *;rw [To];omega
end BB
namespace L2
open PySem
theorem tU {K:S8} {a:Ta} {xs:List V} {g:TG} {tb:TS} {D:Ends} {σ:St} {H:Hp} (Pv:Nat->St->Hp->Prop) (h0:Pv 0 σ H) (hl:∀ i σ H,i<=xs.length->Pv i σ H->SqT K H a xs)
 (hs:∀ i x p σ H,xs[i]?=some x->H p=none->Pv i σ H->g (.ref p) σ (upd H p (.tup [.int (i:Nat),x])) fun ym H2=>tb { D with nx:=Pv (i+1),ct:=Pv (i+1),bk:=D.nx } ym H2) (hd:∀ σ H,Pv xs.length σ H->D.nx σ H) :
 ∃ W:Nat->Nat->St->Hp->Prop,(∃ m,W 0 m σ H)/\∀ i m σ H,W i m σ H →
   ((Ite K a).stop i H/\D.nx σ H)∨((Ite K a).go i H/\∃ N:St->Hp->Prop,(∀ xS H',N xS H'->∃ m',m'<m/\W (i+1) m' xS H')/\∀ x H',(Ite K a).yld i H x H'->g x σ H' fun ym H2=>tb { D with nx:=N,ct:=N,bk:=D.nx } ym H2):=by
 refine ⟨fun i m σ H=>m=xs.length - i/\i<=xs.length/\Pv i σ H,⟨xs.length,by simp,TZ _,h0⟩,?_⟩;rintro i m σ H ⟨rfl,hi,p⟩;have q:=hl i σ H hi p;by_cases yf:i<xs.length
 · refine .inr ⟨⟨xs,xs[i],q,by simp [yf]⟩,Pv (i+1),fun xS H' p'=>⟨xs.length - (i+1),by omega,rfl,yf,p'⟩,fun x H' y=>?_⟩;obtain ⟨pa,y,hp,rfl,rfl,hy⟩:=y;exact hs i y pa σ H (hy xs q) hp p
 · have e:i=xs.length:=by omega
   subst e;exact .inl ⟨⟨xs,q,rfl⟩,hd σ H p⟩
theorem qD {K:S8} {a b:Ta} {xs ys:List V} {g:TG} {tb:TS} {D:Ends} {σ:St} {H:Hp} (R8:xs.length=ys.length) (Pv:Nat->St->Hp->Prop) (h0:Pv 0 σ H) (hl:∀ i σ H,i<=xs.length->Pv i σ H->SqT K H a xs/\SqT K H b ys)
 (hs:∀ i x y p σ H,xs[i]?=some x->ys[i]?=some y->H p=none->Pv i σ H->g (.ref p) σ (upd H p (.tup [x,y])) fun ym H2=>tb { D with nx:=Pv (i+1),ct:=Pv (i+1),bk:=D.nx } ym H2) (hd:∀ σ H,Pv xs.length σ H->D.nx σ H) :
 ∃ W:Nat->Nat->St->Hp->Prop,(∃ m,W 0 m σ H)/\∀ i m σ H,W i m σ H →
   ((Itz K a b).stop i H/\D.nx σ H)∨((Itz K a b).go i H/\∃ N:St->Hp->Prop,(∀ xS H',N xS H'->∃ m',m'<m/\W (i+1) m' xS H')/\∀ x H',(Itz K a b).yld i H x H'->g x σ H' fun ym H2=>tb { D with nx:=N,ct:=N,bk:=D.nx } ym H2):=by
 refine ⟨fun i m σ H=>m=xs.length - i/\i<=xs.length/\Pv i σ H,⟨xs.length,by simp,TZ _,h0⟩,?_⟩;rintro i m σ H ⟨rfl,hi,p⟩;obtain ⟨q1,q2⟩:=hl i σ H hi p;by_cases yf:i<xs.length
 · have KO:i<ys.length:=by omega
   refine .inr ⟨⟨xs,ys,xs[i],ys[i],q1,q2,by simp [yf],by simp [KO]⟩,Pv (i+1),fun xS H' p'=>⟨xs.length - (i+1),by omega,rfl,yf,p'⟩,fun x H' y=>?_⟩;obtain ⟨pa,x,y,hp,rfl,rfl,hx,hy⟩:=y;exact hs i x y pa σ H (hx xs q1) (hy ys q2) hp p
 · have e:i=xs.length:=by omega
   subst e;exact .inl ⟨⟨xs,ys,q1,q2,.inl (Td _)⟩,hd σ H p⟩
end L2
namespace BB
open PySem L2
end BB
namespace BB
open PySem L2
end BB
namespace BB
open PySem L2
section
variable {C:Ta} {Dp:DP} {ins:List (TY×Int)} {rows:List (List Th)} {head:Th} {ok:Th->Prop} {H:Hp} {L:Lv} {i:Nat} {n:Nd} {B:Lv} {Hg:Hp} {B':Lv} {sp:List (Key×V)}
end
end BB
namespace BB
open PySem L2
end BB
namespace BB
open PySem L2
end BB
namespace BB
open PySem L2
section
variable {C:Ta} {Dp:DP} {ins:List (TY×Int)} {rows:List (List Th)} {head:Th} {ok:Th->Prop} {H0:Hp} {L B:Lv} {i:Nat} {H:Hp} {L' B':Lv}
end
end BB
namespace BB
open PySem L2
end BB
namespace BB
open PySem L2
end BB
namespace BB
open PySem L2
mutual
theorem jp {ks:List (TY×Int)} {S C:Int}:∀ (t:Th) (pre:List Int),t.FitS ks S C->∀ c∈callsOf (t.pl pre),0<=c.2.1/\c.2.1<S/\0<=c.2.2/\c.2.2<C
 | .call s k,pre,h,c,hc=>by
   rw [ng] at hc;rw [TR.mp hc];rw [Th.FitS] at h;exact h
 | .knot n ts,pre,h,c,hc=>by
   rw [mX] at hc;rw [Th.FitS] at h;exact li ts pre 0 h.2 c hc
theorem li {ks:List (TY×Int)} {S C:Int}:∀ (ts:List Th) (pre:List Int) (i:Int),FitSs ks S C ts->∀ c∈callsOf (pls pre i ts),0<=c.2.1/\c.2.1<S/\0<=c.2.2/\c.2.2<C
 | [],pre,i,_,c,hc=>by rw [pls] at hc;cases hc
 | t::ts,pre,i,h,c,hc=>by
   rw [nh] at hc;rw [FitSs] at h;rcases Ul.mp hc with hc | hc
   · exact jp t _ h.1 c hc
   · exact li ts _ _ h.2 c hc
end
end BB
namespace BB
open PySem L2
end BB
namespace BB
open PySem L2
section
variable {ins mid outs:List (TY×Int)} {S1 S2:Int} {Co Cp:Th} {Cq Cr:List (List Th)}
end
end BB
namespace BB
open PySem L2
end BB
namespace L2
open PySem PySem.Spec PySem.SeqAt PyProof.Rows
def IsNesm (P:Tv) (w:TN) (h:UM) (k:aB) (a:Ta):Prop:=∃ (o:VH) (n:Nat) (b:Ta) (u:Tc),h.get? a=some o/\o.cls=.type "tuple"/\o.data=.seq #[u,.ref b] n/\IsTupleKey (aE P w) h k.1 b/\ie k.2 u=true
theorem IsNesm.typeIs {P:Tv} {w:TN} {s:Tj} {k:aB} {a:Ta} (x:IsNesm P w s.heap k a):s.TypeIs (.ref a) "tuple":=let ⟨o,_,_,_,ho,hc,_⟩:=x;⟨o,ho,hc⟩
theorem IsNesm.inj {P:Tv} {w:TN} {h:UM} {a:Ta} {x y:aB} (hx:IsNesm P w h x a) (hy:IsNesm P w h y a):x=y:=by
 obtain ⟨o,n,b,u,ho,_,hd,hb,hu⟩:=hx;obtain ⟨o',n',b',u',zQ,_,zw,zz,zA⟩:=hy;obtain rfl:o=o':=TV (ho.symm.trans zQ);rw [hd] at zw;injection zw with h1 _;have h2:=congrArg YY h1;cases h2;exact Prod.ext (hb.inj zz) ((aE P w).inj _ _ _ hu zA)
theorem IsNesm.keeps {P:Tv} {w:TN} {h h':UM} {k:aB} {a d:Ta} {o:VH} {es ep} (x:IsNesm P w h k a) (ho:h.get? d=some o) (hd:o.data=.dict es ep) (hs:Vj d h h'):IsNesm P w h' k a:=by
 obtain ⟨o',n,b,u,zQ,hc,zw,hb,hu⟩:=x
 have yk:a≠d:=by
  rintro rfl;obtain rfl:o'=o:=TV (zQ.symm.trans ho);rw [hd] at zw;exact nomatch zw
 exact ⟨o',n,b,u,(hs.2 a yk).trans zQ,hc,zw,hb.keeps ho hd hs,hu⟩
theorem rL {P:Tv} {w:TN} {A:Uh} {s:Tj} {x y:aB} {a b:Ta} (hx:IsNesm P w s.heap x a) (hy:IsNesm P w s.heap y b) (hu:A.units+1<Vc):EqAt A s (.ref a) (.ref b) (decide (x=y)):=by
 by_cases zJ:a=b
 · subst zJ;obtain rfl:=hx.inj hy;rw [decide_eq_true rfl];exact EqAt.same _
 · obtain ⟨o,n,c,u,ho,hc,hd,hb,hk⟩:=hx;obtain ⟨o',n',c',u',zQ,zc,zw,zz,zg⟩:=hy;have p1:s.heap.IsTuple a [u,T5 c].toArray:=⟨o,ho,hc,n,by rw [hd]⟩;have p2:s.heap.IsTuple b [u',T5 c'].toArray:=⟨o',zQ,zc,n',by rw [zw]⟩
   have:=lh (A:=A) (ds:=[(WO x.2:Sum (List Key) Key),Ub x.1]) (es:=[WO y.2,Ub y.1]) p1 p2 rfl rfl (by omega) fun j d e v v' e1 e2 e3 e4=>by
    match j with
    | 0 =>
      cases e1;cases e2;cases e3;cases e4;rw [show decide ((WO x.2:Sum (List Key) Key)=WO y.2)=decide (x.2=y.2) from decide_eq_decide.mpr ⟨fun z=>Sum.inr.inj z,fun z=>congrArg _ z⟩];exact oO (A:=A.in1) (s:=s) hk zg
    | 1 =>
      cases e1;cases e2;cases e3;cases e4;rw [show decide ((Ub x.1:Sum (List Key) Key)=Ub y.1)=decide (x.1=y.1) from decide_eq_decide.mpr ⟨fun z=>Wu z,fun z=>congrArg _ z⟩];exact sG (A:=A.in1) hb zz (show A.units+1<Vc from hu)
    | j+2=>cases e1
   refine EqAt.of_refs zJ ?_
   rw [show decide (x=y)=decide ([(WO x.2:Sum (List Key) Key),Ub x.1]=[WO y.2,Ub y.1]) from decide_eq_decide.mpr ⟨fun z=>by rw [z],fun z=>by
    injection z with z1 z2;injection z2 with z2 _;exact Prod.ext (Wu z2) (Sum.inr.inj z1)⟩]
   exact this
def lf (P:Tv) (w:TN) (k:aB):Int:=reduceHash (VL [(aE P w).hash k.2,Xq (aE P w) k.1])
theorem oM {P:Tv} {w:TN} {A:Uh} {E:Tc->Tj->Prop} {s:Tj} {k:aB} {a:Ta} {Q:Int->Tj->Prop} (hu:A.units+1<Vc) (hk:IsNesm P w s.heap k a) (h:Q (lf P w k) { s with toks:=s.toks+(k.1.length+3) }) :
 Tx (T6 P w) A (pyHash (.ref a)) Q E s:=by
 have hT:=hk.typeIs;obtain ⟨o,n,c,u,ho,hc,hd,hb,hk⟩:=hk;unfold pyHash
 first | unfold pyHashByItsType | skip
 first | refine S7 (wpAny_cRoomFor_or (.inr (by omega)) ?_) | skip
 refine S7 (U2 hT Yl.lookup ?_);show Tx _ _ (if (some (Value.builtin "tuple.__hash__") == some UX)=true then _ else _) Q E s;rw [if_neg (by rw [beq_builtin_none];exact TH)];refine S7 (U2 hT Yl.lookup ?_);show Tx _ _ (callSpecialIfBoundUnlessNone? (.ref a) "__hash__" _ >>= _) Q E s;refine S7 (wpAny_callSpecialIfBoundUnlessNone?_slot hT Yl (UE Yl hT F.entry_tuple_hash ?_ (F.args_tuple_hash_1 _)));show Tx _ _ (W5 (.ref a) >>= _) _ _ s;refine S7 (wpAny_tupleItemsOf ho hd ?_);refine S7 ?_;rw [<- Xc]
 refine wpAny_forIn_list _
  (fun rest (b:Array Int) s'=>(rest=[u,.ref c]/\b=#[]/\s'=s)∨(rest=[.ref c]/\b=#[(aE P w).hash k.2]/\s'={ s with toks:=s.toks+1 })∨(rest=[]/\b=#[(aE P w).hash k.2,Xq (aE P w) k.1]/\s'={ s with toks:=s.toks+1+(k.1.length+1) }))
  _ ?_ ?_ _ _ (.inl ⟨rfl,rfl,rfl⟩)
 · rintro x rest b s' (⟨e1,rfl,rfl⟩ | ⟨e1,rfl,rfl⟩ | ⟨e1,_⟩)
   · cases e1;refine S7 ((aE P w).pyHash hk ?_)
     first
      | exact Tg (.inr (.inl ⟨rfl,rfl,rfl⟩))
      | exact S7 (Tg (Tg (.inr (.inl ⟨rfl,rfl,rfl⟩))))
   · cases e1;refine S7 (wpAny_pyHash_tuple (by show _<Vc;first | exact hu | omega) hb ?_)
     first
      | exact Tg (.inr (.inr ⟨rfl,rfl,rfl⟩))
      | exact S7 (Tg (Tg (.inr (.inr ⟨rfl,rfl,rfl⟩))))
   · cases e1
 · rintro b s' (⟨e1,_⟩ | ⟨e1,_⟩ | ⟨_,rfl,rfl⟩)
   · cases e1
   · cases e1
   show Tx _ _ (retInt (VL [(aE P w).hash k.2,Xq (aE P w) k.1])) _ _ _;refine wpAny_ret_mkInt ?_;show Tx _ _ (if (decide (-(2:Int) ^ 63<=VL [(aE P w).hash k.2,Xq (aE P w) k.1]) && decide (VL [(aE P w).hash k.2,Xq (aE P w) k.1]<2 ^ 63))=true then _ else _) Q E _;unfold lf reduceHash at h;by_cases hr:(decide (-(2:Int) ^ 63<=VL [(aE P w).hash k.2,Xq (aE P w) k.1]) && decide (VL [(aE P w).hash k.2,Xq (aE P w) k.1]<2 ^ 63))=true
   · rw [if_pos hr];rw [if_pos hr] at h;exact Tg (by rw [show k.1.length+3=1+(k.1.length+2) by omega] at h;simpa [XZ] using h)
   · rw [if_neg hr];rw [if_neg hr] at h;exact S7 (Wd (Tg (by rw [show k.1.length+3=1+(k.1.length+2) by omega] at h;simpa [XZ] using h)))
theorem p9 {P:Tv} {w:TN} {A:Uh} {E:Tc->Tj->Prop} {s:Tj} {k:aB} {a:Ta} {Q:Bool->Tj->Prop} (hk:IsNesm P w s.heap k a) (h:Q true s):Tx (T6 P w) A (eqIsQuiet 8 (.ref a)) Q E s:=by
 have hT:=hk.typeIs;obtain ⟨o,n,c,u,ho,hc,hd,hb,hk⟩:=hk;unfold eqIsQuiet;refine S7 (U2 hT F.slot_tuple_eq.lookup ?_);show Tx _ _ (isInstance (.ref a) (.type "tuple") >>= _) _ _ s;refine S7 (V8 hT isSubtype_tuple_tuple ?_);simp only [Xp,UJ,if_false];refine S7 (UU ho hd ?_);refine S7 ?_;show Tx _ _ (forIn #[u,T5 c] _ _) _ _ s;rw [<- Xc];refine wpAny_forIn_list _ (fun rest r s'=>r.1=none/\s'=s/\∀ v∈rest,v=.ref c∨v=u) _ ?_ ?_ _ _ ⟨rfl,rfl,fun v hv=>by simpa [or_comm] using hv⟩
 · rintro v rest r s' ⟨hr,rfl,xY⟩;have D6:∀ z∈rest,z=.ref c∨z=u:=fun z hz=>xY z (TQ _ hz);rcases xY v T1 with rfl | rfl
   · refine S7 (qm hb ?_);simp only [Xp,UJ,if_false];exact Tg ⟨rfl,rfl,D6⟩
   · rw [eqIsQuiet_byValue _ ((aE P w).byValue _ _ hk)];refine S7 (Tg ?_);simp only [Xp,UJ,if_false];exact Tg ⟨rfl,rfl,D6⟩
 · rintro ⟨r1,r2⟩ s' ⟨hr,rfl,_⟩;simp only at hr;subst hr;exact Tg h
def cq (P:Tv) (w:TN):HeapKind P w aB where
 is:=IsNesm P w
 hash:=lf P w
 draws:=fun k=>k.1.length+3
 room:=fun A=>A.units+1<Vc
 inj:=fun hx hy=>hx.inj hy
 keeps:=fun x ho hd hs=>x.keeps ho hd hs
 pyHash:=fun hu hk h=>oM hu hk h
 eqBool:=fun hu hx hy h=>rL hx hy hu _ _ _ _ h
 quiet:=fun hk h=>p9 hk h
def oJ (P:Tv) (w:TN) (xs:List (aB×Ta×Tc)) (a:Ta) (h:UM):Prop:=∃ o es ep,h.get? a=some o/\o.ExactDict/\o.data=.dict es ep/\es.toList=xs.map (entryOfKey (cq P w))/\(xs.map (·.1)).Nodup
def MKAt (H:Hp) (k:aB) (b:Ta):Prop:=∃ c,H b=some (.tup [kV k.2,.ref c])/\H c=some (.tup (k.1.map kV))
abbrev KTm (H:Hp):List (aB×V)->List (aB×Ta×Tc)->Prop:=T3 fun p q=>p.1=q.1/\MKAt H q.1 q.2.1/\RelV p.2 q.2.2
def DM (P:Tv) (w:TN) (H:Hp) (a:Ta) (f':List (aB×V)):Prop:=f'.length<=TB/\(a == Vn)=false/\∃ xs φ,H a=some (.ext φ)/\(∀ h,φ h->oJ P w xs a h)/\KTm H f' xs
theorem MKAt.mono {H H':Hp} (k:BB.KT H H') {n:aB} {b:Ta} (h:MKAt H n b):MKAt H' n b:=by
 obtain ⟨c,h1,h2⟩:=h;exact ⟨c,k _ _ h1,k _ _ h2⟩
theorem KTm.mono {H H':Hp} (k:BB.KT H H') {f':List (aB×V)} {xs:List (aB×Ta×Tc)} (r:KTm H f' xs):KTm H' f' xs:=T3.mapP r fun _ _ z=>⟨z.1,z.2.1.mono k,z.2.2⟩
theorem DM.mono {P:Tv} {w:TN} {H H':Hp} (s:Same H H') {a:Ta} {f':List (aB×V)} (h:DM P w H a f'):DM P w H' a f':=by
 obtain ⟨z,hd,xs,φ,e,f,r⟩:=h;exact ⟨z,hd,xs,φ,s _ _ e,f,KTm.mono (BB.Same.kt s) r⟩
theorem fE {P:Tv} {w:TN} {H:Hp} {h:UM} {k:aB} {b:Ta} (ok:HOk P w H h) (e:MKAt H k b):IsNesm P w h k b:=by
 obtain ⟨c,h1,h2⟩:=e;obtain ⟨_,its,n,r,e1⟩:=(show ObjOk P w H h b (.tup [kV k.2,.ref c]) from ok b _ h1);cases r with
 | cons r1 r =>
 cases r with
 | cons r2 r =>
 cases r;cases r2;exact ⟨_,n,c,_,e1,rfl,rfl,iH ok h2,ko (P:=P) (w:=w) r1⟩
theorem jF {P:Tv} {w:TN} {H:Hp} {h:UM} {a:Ta} {f':List (aB×V)} (ok:HOk P w H h) (e:DM P w H a f'):f'.length<=TB/\(a == Vn)=false/\∃ xs φ,H a=some (.ext φ)/\KTm H f' xs/\h.DictOfH (cq P w) a xs:=by
 obtain ⟨z,y,xs,φ,ea,f,r⟩:=e;obtain ⟨o,es,ep,h1,h2,h3,h4,h5⟩:=f h (ok a _ ea).1;refine ⟨z,y,xs,φ,ea,r,o,es,ep,h1,h2,h3,h4,fun x hx=>?_,h5⟩
 have all:∀ {l:List (aB×V)} {m:List (aB×Ta×Tc)},KTm H l m->∀ x∈m,(cq P w).is h x.1 x.2.1:=by
  intro l m q;induction q with
  | nil=>intro x hx;exact nomatch hx
  | @cons p q ps qs hq t ih =>
    intro x hx;rcases TF.mp hx with e | hx
    · subst e;exact fE ok hq.2.1
    · exact ih x hx
 exact all r x hx
theorem KTm.val {H:Hp} {f':List (aB×V)} {xs:List (aB×Ta×Tc)} (r:KTm H f' xs) (k:aB):RelO (aV f' k) ((W2 xs k).map (·.2)):=by
 induction r with
 | nil=>exact VF
 | @cons p q ps qs hq t ih =>
   by_cases e:p.1=k
   · rw [bN e];have:W2 (q::qs) k=some q.2:=by simp [W2,Wa,<- hq.1,e]
     rw [this];exact hq.2.2
   · rw [bO e];have:W2 (q::qs) k=W2 qs k:=by simp [W2,Wa,<- hq.1,e]
     rw [this];exact ih
theorem KTm.put {H:Hp} {f':List (aB×V)} {xs:List (aB×Ta×Tc)} (r:KTm H f' xs) (k:aB) {b:Ta} {y:V} {u:Tc} (hb:MKAt H k b) (ry:RelV y u):KTm H (putK f' k y) (Yg xs k b u):=by
 have hv:=KTm.val r k;cases e:aV f' k with
 | none =>
   rw [e] at hv
   have hn:W2 xs k=none:=by
    cases q:W2 xs k with
    | none=>rfl
    | some p=>rw [q] at hv;exact hv.elim
   rw [kO y e,storedH_new hn];exact BB.P2.append r (.cons ⟨rfl,hb,ry⟩ .nil)
 | some v0 =>
   rw [e] at hv
   obtain ⟨p,hp⟩:∃ p,W2 xs k=some p:=by
    cases q:W2 xs k with
    | none=>rw [q] at hv;exact hv.elim
    | some p=>exact ⟨p,rfl⟩
   rw [storedH_old hp];unfold putK;rw [if_pos (by rw [dB,e];rfl)]
   have all:∀ {l:List (aB×V)} {m:List (aB×Ta×Tc)},KTm H l m->KTm H (l.map fun kv=>if kv.1=k then (kv.1,y) else kv) (m.map (putAt k u)):=by
    intro l m q;induction q with
    | nil=>exact .nil
    | @cons p q ps qs hq t ih =>
      refine .cons ?_ ih;unfold putAt;dsimp only;by_cases z:p.1=k
      · rw [if_pos z,if_pos (by rw [<- hq.1];exact z)];exact ⟨hq.1,hq.2.1,ry⟩
      · rw [if_neg z,if_neg (by rw [<- hq.1];exact z)];exact hq
   exact all r
section
variable {X:Cx} {pins:List (Ta×VH)} {σ:St} {H:Hp} {s:Tj} {o i value:UH} {pos pos':Xn} {td ty tv:TE}
inductive sK (P:Tv) (w:TN) (x y:V) (H:Hp) (Q:VK):Prop
 | mk (a b:Ta) (k:aB) (f':List (aB×V)) (v:V) (z0:x=.ref a) (z1:y=.ref b) (z2:DM P w H a f') (z3:MKAt H k b) (z4:aV f' k=some v) (z5:Q v H):sK P w x y H Q
def sS (P:Tv) (w:TN) (td ty:TE):TE:=fun σ H Q=>td σ H fun x H1=>ty σ H1 fun y H2=>sK P w x y H2 Q
theorem n5 (hu:X.A.units+2<Vc) (ho:PE X o td) (hi:PE X i ty) (hs:v5 i):PE X (.Subscript o i pos) (sS X.prog X.w td ty):=by
 intro pins s σ H Q I h;refine rn PySem.F.slot_dict_getitem.lookup hs (thn (ho pins s σ H _ I h) fun u s1 ⟨x,H1,I1,rx,q1⟩=>thn (hi pins s1 σ H1 _ I1 q1) fun iv s2 ⟨y,H2,I2,ry,q2⟩=>?_);obtain ⟨a,b,k,f',v,rfl,rfl,hd,hk,hv,q⟩:=q2;obtain rfl:u=T5 a:=rx;obtain rfl:iv=T5 b:=ry;obtain ⟨_,_,xs,φ,ea,rel,dd⟩:=jF I2.hok hd;obtain ⟨w',hw,Br⟩:=RelO.some_of (v:=v) (o:=(W2 xs k).map (·.2)) (by rw [<- hv];exact KTm.val rel k);obtain ⟨p,hp,zX⟩:=T4.mp hw;refine ⟨dd.typeIs,wpAny_getItem_heap (knd:=cq X.prog X.w) (show X.A.units+1+1<Vc from hu) (fE I2.hok hk) dd hp ?_⟩;rw [zX];exact ⟨v,H2,I2.tok _,Br,q⟩
inductive tK (P:Tv) (w:TN) (x y v:V) (H:Hp) (R:Hp->Prop):Prop
 | mk (a b:Ta) (k:aB) (f':List (aB×V)) (z0:x=.ref a) (z1:y=.ref b) (z2:DM P w H a f') (z3:MKAt H k b) (z4:f'.length<TB) (z5:∀ H',(∀ c o,c≠a->H c=some o->H' c=some o)->DM P w H' a (putK f' k v)->R H'):tK P w x y v H R
def wc (P:Tv) (w:TN) (td ty tv:TE):TS:=fun D σ H=>tv σ H fun v H1=>td σ H1 fun x H2=>ty σ H2 fun y H3=>tK P w x y v H3 fun H4=>D.nx σ H4
theorem sM (hu:X.A.units+2<Vc) (ho:PE X o td) (hi:PE X i ty) (hv:PE X value tv) (hs:swapsWith value (some (.Subscript o i pos')) pos.line X.env=pure false) :
 PS X (.Assign [.Subscript o i pos'] value pos) (wc X.prog X.w td ty tv):=by
 intro pins s σ H D I h;refine wpAny_Assign_Subscript (thn (hv pins s σ H _ I h) fun r s1 ⟨v,H1,I1,rv,q1⟩=>thn (ho pins s1 σ H1 _ I1 q1) fun u s2 ⟨x,H2,I2,rx,q2⟩=>thn (hi pins s2 σ H2 _ I2 q2) fun iv s3 ⟨y,H3,I3,ry,q3⟩=>?_) hs;obtain ⟨a,b,k,f',rfl,rfl,hd,hk,hl,q⟩:=q3;obtain rfl:u=T5 a:=rx;obtain rfl:iv=T5 b:=ry;obtain ⟨z,zw,xs,φ,ea,rel,dd⟩:=jF I3.hok hd;have hz:xs.length<=TB:=by rw [<- Tp rel];exact z
 have J1:(putK f' k v).length<=TB:=by have:=bY f' k v;omega
 refine wpAny_setItem_heap (knd:=cq X.prog X.w) (hsz:=hz) (show X.A.units+1+1<Vc from hu) (fE I3.hok hk) dd fun h' Bv hs=>?_;obtain ⟨ob,es,ep,hq,h2,h3,h4,_,h5⟩:=Bv;have ne:oJ X.prog X.w (Yg xs k b r) a h':=⟨ob,es,ep,hq,h2,h3,h4,h5⟩
 have I4:=gL (ob:=.ext (oJ X.prog X.w (Yg xs k b r) a)) (t':=s3.toks+(cq X.prog X.w).draws k) I3 (by rw [ea];exact VF) hs ⟨ob,hq⟩ ⟨ne,⟨ob,hq⟩,fun h1 h2 p kk=>by
  obtain ⟨o1,GU,GV,g1,g2⟩:=p;exact ⟨o1,GU,GV,kk _ g1,g2⟩⟩
 have kt:BB.KT H3 (upd H3 a (.ext (oJ X.prog X.w (Yg xs k b r) a))):=fun c ys ec=>by
  rw [ak (fJ ec ea (fun z=>nomatch z))];exact ec
 exact ⟨σ,_,I4,q _ (fun c o hc e=>by rw [ak hc];exact e) ⟨J1,zw,_,_,ab,fun _ p=>p,KTm.mono kt (KTm.put rel k hk rv)⟩⟩
def vY (P:Tv) (w:TN):TE:=fun _ H Q=>∀ p H',H p=none->Same H H'->DM P w H' p []->Q (.ref p) H'
theorem n9:PE X (.Dict [] [] pos) (vY X.prog X.w):=fun pins s σ H Q I h=>by
 have hn:H s.heap.objs.size=none:=I.hok.fresh (Td _);have ne:oJ X.prog X.w [] s.heap.objs.size (s.heap.push { cls:=.type "dict",data:=.dict #[] }):=⟨_,#[],0,Tt _ rfl,⟨rfl,rfl,rfl⟩,rfl,rfl,XI⟩;refine wpAny_Dict_empty ⟨.ref s.heap.objs.size,_,I.laid (a:=s.heap.objs.size) (o:=.ext (oJ X.prog X.w [] s.heap.objs.size)) (t':=s.toks) (fun _ _ q=>Tf _ q) (Td _) ⟨ne,⟨_,Tt _ rfl⟩,fun h1 h2 p kk=>?_⟩,rfl,h _ _ hn (ad hn _) ⟨TZ _,beq_eq_false_iff_ne.mpr (Vi (T9 I.big)),[],_,ab,fun _ p=>p,.nil⟩⟩;obtain ⟨o1,GU,GV,g1,g2⟩:=p;exact ⟨o1,GU,GV,kk _ g1,g2⟩
end
end L2
namespace L2
open PySem PySem.Spec PyProof.Rows
section
variable {X:Cx} {pins:List (Ta×VH)} {σ:St} {H:Hp} {s:Tj} {o i e f:UH} {pos apos yh:Xn} {td ty tx:TE}
theorem qJ {f':List (aB×V)} {xs:List (aB×Ta×Tc)} (rel:KTm H f' xs) (k:aB):(aV f' k).isSome=(W2 xs k).isSome:=by
 have q:=(KTm.val rel k).isSome_eq;rw [YQ] at q;exact q
inductive vD (f:Bool->Bool) (P:Tv) (w:TN) (y x:V) (H:Hp) (Q:VK):Prop
 | mk (a b:Ta) (k:aB) (f':List (aB×V)) (z0:x=.ref a) (z1:y=.ref b) (z2:DM P w H a f') (z3:MKAt H k b) (z4:Q (.bl (f (aV f' k).isSome)) H):vD f P w y x H Q
def vj (f:Bool->Bool) (P:Tv) (w:TN) (ty td:TE):TE:=fun σ H Q=>ty σ H fun y H1=>td σ H1 fun x H2=>vD f P w y x H2 Q
theorem uW (hu:X.A.units+2<Vc) (hi:PE X i ty) (ho:PE X o td):PC X .In i o (vj (fun b=>b) X.prog X.w ty td):=by
 intro pins s σ H Q I h;refine thn (hi pins s σ H _ I h) fun iv s1 ⟨y,H1,I1,ry,q1⟩=>thn (ho pins s1 σ H1 _ I1 q1) fun u s2 ⟨x,H2,I2,rx,q2⟩=>?_;obtain ⟨a,b,k,f',rfl,rfl,hd,hk,q⟩:=q2;obtain rfl:u=T5 a:=rx;obtain rfl:iv=T5 b:=ry;obtain ⟨_,zw,xs,φ,ea,rel,dd⟩:=jF I2.hok hd;refine wpAny_in_heap (knd:=cq X.prog X.w) (show X.A.units+1+1<Vc from hu) (fE I2.hok hk) zw dd ?_;rw [<- qJ rel k];exact ⟨.bl _,H2,I2.tok _,rfl,q⟩
theorem qk (hu:X.A.units+2<Vc) (hi:PE X i ty) (ho:PE X o td):PC X .NotIn i o (vj (fun b=>!b) X.prog X.w ty td):=by
 intro pins s σ H Q I h;refine thn (hi pins s σ H _ I h) fun iv s1 ⟨y,H1,I1,ry,q1⟩=>thn (ho pins s1 σ H1 _ I1 q1) fun u s2 ⟨x,H2,I2,rx,q2⟩=>?_;obtain ⟨a,b,k,f',rfl,rfl,hd,hk,q⟩:=q2;obtain rfl:u=T5 a:=rx;obtain rfl:iv=T5 b:=ry;obtain ⟨_,zw,xs,φ,ea,rel,dd⟩:=jF I2.hok hd;refine wpAny_notIn_heap (knd:=cq X.prog X.w) (show X.A.units+1+1<Vc from hu) (fE I2.hok hk) zw dd ?_;rw [<- qJ rel k];exact ⟨.bl _,H2,I2.tok _,rfl,q⟩
inductive qx (P:Tv) (w:TN) (x y z:V) (H:Hp) (Q:VK):Prop
 | mk (a b:Ta) (k:aB) (f':List (aB×V)) (z0:x=.ref a) (z1:y=.ref b) (z2:DM P w H a f') (z3:MKAt H k b) (z4:Q ((aV f' k).getD z) H):qx P w x y z H Q
def uB (P:Tv) (w:TN) (td ty tx:TE):TE:=fun σ H Q=>td σ H fun x H1=>∃ a f',x=.ref a/\DM P w H1 a f'/\ty σ H1 fun y H2=>tx σ H2 fun z H3=>qx P w x y z H3 Q
theorem ug {a:Ta} {f':List (aB×V)} (I:Inv X pins σ H s) (d:DM X.prog X.w H a f'):s.TypeIs (.ref a) "dict"/\(∀ b,T5 a=.ref b->∃ ob,s.heap.get? b=some ob/\ob.dict=none):=by
 obtain ⟨_,hd,xs,φ,_,_,dd⟩:=jF I.hok d;refine ⟨dd.typeIs,fun b q=>?_⟩;cases q;obtain ⟨ob,_,_,h1,h2,_⟩:=dd;exact ⟨ob,h1,h2.2.1⟩
theorem rP (hu:X.A.units+2<Vc) (ho:PE X o td) (he:PE X e ty) (hf:PE X f tx) (m:M2 X o "get" apos e f yh):PE X (.Call (.Attribute o "get" apos) [e,f] [] yh) (uB X.prog X.w td ty tx):=by
 intro pins s σ H Q I h;refine wpAny_Call_method m.base m.few m.line X4 WA PySem.F.type_dict_get (thn (ho pins s σ H _ I h) fun u s1 ⟨x,H1,I1,rx,a,P9,ex,d,q1⟩=>?_);subst ex;obtain rfl:u=T5 a:=rx;obtain ⟨t1,t2⟩:=ug I1 d;refine ⟨t1,t2,?_⟩;rw [m.trees]
 refine WH rfl (XM (U6 (thn (he pins s1 σ H1 _ I1 q1) fun iv s2 ⟨y,H2,I2,ry,q2⟩ =>
  U6 (thn (hf pins s2 σ H2 _ I2 q2) fun fv s3 ⟨z,H3,I3,rz,q3⟩=>VD ?_))))
 obtain ⟨a',b,k,f',P',rfl,hd,hk,q⟩:=q3;cases P';obtain rfl:iv=T5 b:=ry;obtain ⟨_,zw,xs,φ,ea,rel,dd⟩:=jF I3.hok hd;refine call_meetsIn WA dd.typeIs X9 (X6 _ _ _) (meetsH_dict_get_default (cq X.prog X.w) a b zw fv) ⟨(show X.A.units+1+1<Vc from hu),k,xs,fE I3.hok hk,dd,?_⟩;exact ⟨_,H3,I3.tok _,(KTm.val rel k).getD rz,q⟩
inductive o6 (P:Tv) (w:TN) (x:V) (vs:List V) (H:Hp) (Q:VK):Prop
 | mk (a b:Ta) (v:V) (k:aB) (f':List (aB×V)) (z0:x=.ref a) (z1:vs=[.ref b,v]) (z2:DM P w H a f') (z3:MKAt H k b) (z4:f'.length<TB)
  (z5:∀ u,aV f' k=some u->Q u H) (z6:aV f' k=none->∀ H',(∀ c o,c≠a->H c=some o->H' c=some o)->DM P w H' a (putK f' k v)->Q v H'):o6 P w x vs H Q
theorem gj (hu:X.A.units+2<Vc):MtM X "dict.setdefault" (o6 X.prog X.w):=by
 intro pins s σ H x vs v us Q I rx rv h;obtain ⟨a,b,y,k,f',rfl,rfl,e,eb,l,q1,q2⟩:=h;cases rx;cases rv with
 | cons r1 rv =>
 cases rv with
 | cons r2 rv =>
 cases rv;cases r1;obtain ⟨z,hd,xs,φ,ea,rel,dd⟩:=jF I.hok e;have hz:xs.length<=TB:=by rw [<- Tp rel];exact z
 have hl:(putK f' k y).length<=TB:=by have:=bY f' k y;omega
 have hT:s.TypeIs (.ref a) "dict":=dd.typeIs;refine call_meetsIn Xw hT PySem.F.entry_dict_setdefault (PySem.F.args_dict_setdefault_3 _ _ _) (bb_meets_setdefault (cq X.prog X.w) a b _ hd) ⟨(show X.A.units+1+1<Vc from hu),k,xs,fE I.hok eb,dd,hz,fun p hp=>?_,fun hn h' Bv hs=>?_⟩
 · have hr:=KTm.val rel k;rw [hp] at hr;cases hv:aV f' k with
   | none=>rw [hv] at hr;exact hr.elim
   | some u =>
     rw [hv] at hr;exact ⟨u,H,I.tok _,hr,q1 u hv⟩
 · have hr:=KTm.val rel k;rw [hn] at hr;cases hv:aV f' k with
   | some u=>rw [hv] at hr;exact hr.elim
   | none =>
     obtain ⟨ob,es,ep,hq,h2,h3,h4,_,h5⟩:=Bv;have ne:oJ X.prog X.w (Yg xs k b _) a h':=⟨ob,es,ep,hq,h2,h3,h4,h5⟩
     have I4:=gL (t':=s.toks+(cq X.prog X.w).draws k) I (by rw [ea];exact VF) hs ⟨ob,hq⟩ (ob:=.ext (oJ X.prog X.w (Yg xs k b _) a)) ⟨ne,⟨ob,hq⟩,fun h1 h2 p kk=>by
      obtain ⟨o1,GU,GV,g1,g2⟩:=p;exact ⟨o1,GU,GV,kk _ g1,g2⟩⟩
     have kt:∀ ψ:UM->Prop,BB.KT H (upd H a (.ext ψ)):=fun ψ c ys ec=>by
      rw [ak (fJ ec ea (fun z=>nomatch z))];exact ec
     exact ⟨y,_,I4,r2,q2 hv _ (fun c o hc e=>by rw [ak hc];exact e) ⟨hl,hd,_,_,ab,fun _ p=>p,KTm.mono (kt _) (KTm.put rel k eb r2)⟩⟩
inductive um (P:Tv) (w:TN) (xs:List V) (H:Hp) (Q:VK):Prop
 | mk (a:Ta) (f':List (aB×V)) (z0:xs=[.ref a]) (z1:DM P w H a f') (z2:∀ (l:Ta) (bs:List Ta),H l=none->T3 (fun kv b=>MKAt H kv.1 b) f' bs->Q (.ref l) (upd H l (.lst (bs.map V.ref)))):um P w xs H Q
theorem sO {f':List (aB×V)} {ys:List (aB×Ta×Tc)} (rel:KTm H f' ys):T3 (fun kv b=>MKAt H kv.1 b) f' (ys.map fun y=>y.2.1):=by
 induction rel with
 | nil=>exact .nil
 | cons h t ih=>exact .cons (by rw [h.1];exact h.2.1) ih
theorem qj (hc:X.calm=true):gR X (.type "list") (um X.prog X.w):=by
 intro pins s σ H xs us Q I r h;obtain ⟨a,f',rfl,e,q⟩:=h;obtain ⟨u,rfl,rx⟩:=vals1 r;cases rx;obtain ⟨z,hd,ys,φ,ea,rel,dd⟩:=jF I.hok e;have hT:=dd.typeIs;obtain ⟨o,es,ep,ho,R9,Jn,he,Jl,hn⟩:=dd;obtain ⟨o',zQ,AA⟩:=hT;have eo:o'=o:=TV (zQ.symm.trans ho);subst eo;have hl:f'.length=ys.length:=Tp rel
 have KP:es.toList.map (·.key)=ys.map fun y=>T5 y.2.1:=by
  rw [he,Vv];rfl
 have hsz:es.size<=TB:=by
  have:=congrArg Wf KP;rw [S6,S6,Ua] at this;omega
 have hh:X.A.in1.in1.handled=none:=I.ok.hd hc;refine bb_list_keys hh hd zQ AA Jn hsz fun h' acc c hk hS yc=>?_;have hp:T3 (fun kv b=>MKAt H kv.1 b) f' (ys.map fun y=>y.2.1):=sO rel;refine ⟨.ref s.heap.objs.size,upd H s.heap.objs.size (.lst ((ys.map fun y=>y.2.1).map V.ref)),?_,rfl,q _ _ I.fresh hp⟩;refine I.laid (t':=s.toks) hk (Td _) ⟨by rw [S6,S6];omega,acc.toList,c,?_,hS⟩;rw [yc,KP];clear hn Jl he KP yc hS hl z rel hp q;induction ys with
 | nil=>exact .nil
 | cons y ys ih=>exact .cons rfl ih
def xk (P:Tv) (w:TN) (r:V->List V->Hp->VK->Prop) (to:TE) (t:TA):TE:=fun σ H Q=>to σ H fun x H1=>(∃ a f',x=.ref a/\DM P w H1 a f')/\t σ H1 fun xs H2=>r x xs H2 Q
theorem sP {es:List UH} {to:TE} {t:TA} {name:TY} {id:String} {r:V->List V->Hp->VK->Prop} (slot:Slot "dict" name id) (Gm:typeOf (.builtin id)=pure (.type "method_descriptor")) (hm:MtR X id r) (ho:PE X o to) (ha:PA X (e::es) t)
 (Aj:attributeBase o name X.env (VS o X.env)=VS o X.env:=by rfl)
 (Ez:((Xv yh (Uu (e::es) X.env)).all (fun x=>!x.1) && (backToKw yh (keywordEach [] X.env)).all (fun x=>x.1.isSome)
  && decide ((e::es).length+([]:List Keyword).length+(if ([]:List Keyword).isEmpty then 0 else 1)<30))=true:=by rfl)
 (Ak:(apos.endLine == yh.line)=true:=by rfl) (hs:Uu (e::es) X.env=(false,VS e X.env)::Uu es X.env:=by rfl) (AK:(Xv yh (Uu es X.env)).any (·.1)=false:=by rfl) :
 PE X (.Call (.Attribute o name apos) (e::es) [] yh) (xk X.prog X.w r to t):=by
 intro pins s σ H Q I h;refine wpAny_Call_method_late Aj Ez Ak rfl (thn (ho pins s σ H _ I h) fun v s1 ⟨x,H1,I1,r1,⟨a,f',ex,hd⟩,q1⟩=>?_);subst ex;obtain rfl:v=T5 a:=r1;obtain ⟨h1,h2⟩:=ug I1 hd;refine ⟨"dict",id,X4,slot,Gm,h1,h2,?_⟩;have hA:=ha yh pins s1 σ H1 _ I1 q1;rw [hs] at hA ⊢;refine WH (by show (false || (Xv yh (Uu es X.env)).any (·.1))=false;rw [AK] <;> rfl) (XM ?_);exact thn hA fun vs s2 ⟨xs,H2,I2,rv,q2⟩=>hm pins s2 σ H2 (.ref a) xs (.ref a) vs Q I2 rfl rv q2
end
end L2
namespace BB
open PySem L2
theorem l6 {K:S8} {H:Hp}:∀ {ps:List (List Int×Th)} {as:List Ta},PsAtK K H ps as->∃ bs,T3 (fun (p:List Int×Th) b=>H b=some (.tup (p.1.map V.int))) ps bs/\bs.length=as.length/\∀ (i:Nat) x b,(as.map V.ref)[i]?=some x->bs[i]?=some b->∃ a ta,x=.ref a/\H a=some (.tup [.ref b,.ref ta])
 | _,_,.nil=>⟨[],.nil,rfl,fun i x b h=>by simp at h⟩
 | _,_,.cons r h=>by
   obtain ⟨pa,ta,h1,h2,_⟩:=r;obtain ⟨bs,g1,g2,g3⟩:=l6 h;refine ⟨pa::bs,.cons h2 g1,by rw [To,To,g2],fun i x b hx hb=>?_⟩;cases i with
   | zero =>
     simp at hx hb;subst hx;subst hb;exact ⟨_,ta,rfl,h1⟩
   | succ i=>exact g3 i x b (by simpa using hx) (by simpa using hb)
theorem tw {α:Type} {F:Hp->α->Ta->Prop} {js:List (Option Nat)} {g:TG} {tt:TT} {te:TE} {σ:St} {J:It} {H:Hp} {xs:List V} {fin:Ta->Hp->Prop} (zs:List α) (p:α->Bool) (hF:∀ H1 H2 z p,KT H1 H2->F H1 z p->F H2 z p) (hz:zs.length=xs.length) (hn:xs.length<=1000000)
 (BP:∀ i H2,L2.Same H H2->i<xs.length->J.go i H2) (yY:∀ H2,L2.Same H H2->J.stop xs.length H2) (zT:∀ (i:Nat) H2 x H3,L2.Same H H2->i<xs.length->J.yld i H2 x H3->H3=H2/\xs[i]?=some x)
 (hb:∀ (i:Nat) x z H2 (R:VK) (W':Hp->Prop),xs[i]?=some x->zs[i]?=some z->L2.Same H H2->(p z=true->∀ H3 q,L2.Same H2 H3->F H3 z q->R (.ref q) H3)->(p z=false->∀ H3,L2.Same H2 H3->W' H3)->g x (cσ js σ) H2 fun ym H3=>tt ym H3 fun b H4=>if b=true then te ym H4 R else W' H4)
 (zh:∀ D H' as,H D=none->L2.Same H H'->H' D=some (.lst (as.map V.ref))->T3 (F H') (zs.filter p) as->fin D H') :
 ∀ D,H D=none->∃ (n:Nat) (W:Nat->Hp->Prop),W 0 (upd H D (.lst []))/\fN js g tt te σ J D n W fun H'=>fin D H':=by
 intro D hD;refine ⟨xs.length,fun i H'=>i<=xs.length/\L2.Same H H'/\∃ as:List Ta,H' D=some (.lst (as.map V.ref))/\T3 (F H') ((zs.take i).filter p) as,⟨TZ _,ad hD _,[],by rw [ab];rfl,.nil⟩,?_⟩;rintro i H' ⟨hi,s1,as,e1,hp⟩;by_cases yf:i<xs.length
 · refine .inr ⟨yf,BP i H' s1 yf,fun v H1 hy=>?_⟩;obtain ⟨e,hx⟩:=zT i H' v H1 s1 yf hy;subst e;obtain ⟨z,zG⟩:∃ z,zs[i]?=some z:=⟨_,S9 (by omega)⟩;have hl:((zs.take i).filter p).length=as.length:=Tp hp;have yN:=V3 p (zs.take i);rw [Uc] at yN;refine hb i v z _ _ _ hx zG s1 (fun D7 H3 q s3 KA=>⟨_,s3 _ _ e1,?_,yf,aw (s1.trans s3) hD,as++[q],?_,?_⟩) (fun D7 H3 s3=>⟨yf,s1.trans s3,as,s3 _ _ e1,?_⟩)
   · rw [S6];have:TB=16777216:=Xl;omega
   · rw [ab,Tu];rfl
   · have kt:KT H3 (upd H3 D (.lst (as.map V.ref++[.ref q]))):=aT (s3 _ _ e1);rw [take_snoc zG,Xb,Vf,if_pos D7,Yk];exact P2.append (P2.mp (fun x y e=>hF _ _ _ _ ((Same.kt s3).trans kt) e) hp) (.cons (hF _ _ _ _ kt KA) .nil)
   · rw [take_snoc zG,Xb,Vf,if_neg (by rw [D7];exact TH),Yk,Ui];exact P2.mp (fun x y e=>hF _ _ _ _ (Same.kt s3) e) hp
 · have yA:i=xs.length:=by omega
   subst yA;refine .inl ⟨yY _ s1,zh D H' as hD s1 e1 ?_⟩;rw [UT (by omega)] at hp;exact hp
def aR (ins:List (TY×Int)):Th:=.knot (((ins.filter fun k=>decide (k.2=0))[0]?.map (·.1)).getD (Ti "")) []
theorem fb {ins:List (TY×Int)} {k:TY×Int} (h:(ins.filter fun k=>decide (k.2=0))[0]?=some k):aR ins=.knot k.1 []:=by
 unfold aR;rw [h];rfl
theorem kG {ins:List (TY×Int)} (g:bV ins):∃ k,(ins.filter fun k=>decide (k.2=0))[0]?=some k/\k.2=0:=by
 obtain ⟨k,hk,hz⟩:=g.zero;have hm:k∈ins.filter fun k=>decide (k.2=0):=Vb.mpr ⟨hk,decide_eq_true hz⟩;have hl:0<(ins.filter fun k=>decide (k.2=0)).length:=List.length_pos_of_mem hm;refine ⟨_,S9 hl,?_⟩;exact of_decide_eq_true (Vb.mp (Xo hl)).2
def cL (ins:List (TY×Int)):Nat:=ins.findIdx fun k=>decide (k.2=0)
theorem eW:∀ {ins:List (TY×Int)} {k:TY×Int},(ins.filter fun k=>decide (k.2=0))[0]?=some k->ins[cL ins]?=some k
 | [],k,h=>by simp at h
 | x::xs,k,h=>by
   unfold cL;by_cases hx:x.2=0
   · rw [Vf,if_pos (decide_eq_true hx)] at h;rw [List.findIdx_cons,decide_eq_true hx];simpa using h
   · rw [Vf,if_neg (by simpa using hx)] at h;rw [List.findIdx_cons,decide_eq_false hx];simpa [cL] using eW h
def MkAt (H:Hp) (ins:List (TY×Int)) (rows:List (List Th)) (f':List (List Key×V)):Prop :=
 ∀ (s k:Nat) (row:List Th) (p:Th),k<3->rows[s]?=some row->row[cL ins]?=some p->∃ a,aV f' [Ub (s:Int),Ub (k:Int)]=some (.ref a)/\At H p a
theorem MkAt.mono {H H':Hp} (kt:KT H H') {ins:List (TY×Int)} {rows:List (List Th)} {f':List (List Key×V)} (h:MkAt H ins rows f'):MkAt H' ins rows f':=fun s k row p hk hr hp=>by
 obtain ⟨a,h1,h2⟩:=h s k row p hk hr hp;exact ⟨a,h1,h2.mono kt⟩
theorem pO:∀ {ts:List Th} {i:Nat},(dvs ts)[i]?=(ts[i]?).map Th.dv
 | [],i=>by rw [dvs];simp
 | t::ts,0=>by rw [dvs];rfl
 | t::ts,i+1=>by rw [dvs,Uy,Uy];exact pO
theorem qK:∀ ts:List Th,(dvs ts).length=ts.length
 | []=>by rw [dvs];rfl
 | t::ts=>by rw [dvs,To,To,qK ts]
theorem pz {α:Type} {f:α->Th} {H:Hp}:∀ {zs:List α} {as:List Ta},T3 (fun z a=>At H (f z) a) zs as->Ats H (zs.map f) as
 | _,_,.nil=>.nil
 | _,_,.cons r h=>.cons r (pz h)
end BB
namespace BB
open PySem L2
theorem dg {x:List Int×Th} {pre:List Int}:∀ {ts:List Th} {i:Int},x∈pls pre i ts↔∃ (j:Nat) (t:Th),ts[j]?=some t/\x∈t.pl (pre++[i+(j:Int)])
 | [],i=>by rw [pls];simp
 | t::ts,i=>by
   rw [pls,Ul,dg (ts:=ts) (i:=i+1)];constructor
   · rintro (h | ⟨j,u,hu,h⟩)
     · exact ⟨0,t,rfl,by simpa using h⟩
     · refine ⟨j+1,u,by simpa using hu,?_⟩;rw [show i+((j+1:Nat):Int)=i+1+(j:Int) by omega];exact h
   · rintro ⟨j,u,hu,h⟩;cases j with
     | zero =>
       simp at hu;subst hu;exact .inl (by simpa using h)
     | succ j =>
       refine .inr ⟨j,u,by simpa using hu,?_⟩;rw [show i+1+(j:Int)=i+((j+1:Nat):Int) by omega];exact h
theorem pT {n:TY} {ks:List Th} {pre:List Int} {j:Nat} {t:Th} (h:ks[j]?=some t) {x:List Int×Th} (hx:x∈t.pl (pre++[(j:Int)])):x∈(Th.knot n ks).pl pre:=by
 rw [Th.pl];refine TQ _ (dg.mpr ⟨j,t,h,?_⟩);rw [U7];exact hx
theorem gF (t:Th) (pre:List Int):(pre,t)∈t.pl pre:=by rw [Th.pl_eq];exact T1 ..
theorem tI:∀ (n:Nat) (l r:Th) (pre:List Int),l.size<=n->∀ x∈(l.com r).pl pre,∃ u,(x.1,u)∈l.pl pre
 | 0,l,r,pre,hn=>by have:=l.size_pos;omega
 | n+1,.call a b,r,pre,hn=>fun x hx=>by
   rw [ij,aG] at hx
   · rw [if_neg TH,hole,Th.pl,pls] at hx;rw [TR.mp hx];exact ⟨_,gF _ _⟩
   · intro _ _ _ _ h;cases h
 | n+1,.knot m ks,r,pre,hn=>fun x hx=>by
   rw [ij] at hx;by_cases hs:aG (.knot m ks) r=true
   · rw [if_pos hs,Th.pl] at hx;rcases TF.mp hx with rfl | hx
     · exact ⟨_,gF _ _⟩
     · obtain ⟨j,t,ht,hx⟩:=dg.mp hx;rw [U7] at hx;rw [Tn,T4] at ht;obtain ⟨p,hp,rfl⟩:=ht;obtain ⟨h1,h2⟩:=Vz.mp hp;rw [Th.size] at hn;have hz:p.1.size<=aq ks:=aQ (Tb h1);obtain ⟨u,hu⟩:=tI n p.1 p.2 _ (by omega) x hx;exact ⟨u,pT h1 hu⟩
   · rw [if_neg hs,hole,Th.pl,pls] at hx;rw [TR.mp hx];exact ⟨_,gF _ _⟩
mutual
/-- a front with holes at some places -/
def Th.cut (D:List Int->Bool) (pre:List Int):Th->Th
 | .knot n ks=>if (Th.knot n ks).isHole=true∨D pre=true then hole else .knot n (dS D pre 0 ks)
 | .call _ _=>hole
def dS (D:List Int->Bool) (pre:List Int) (i:Int):List Th->List Th
 | []=>[]
 | t::ts=>t.cut D (pre++[i])::dS D pre (i+1) ts
end
theorem iZ {D:List Int->Bool} {pre:List Int}:∀ {ts:List Th} {i:Int} {j:Nat},(dS D pre i ts)[j]?=(ts[j]?).map fun t=>t.cut D (pre++[i+(j:Int)])
 | [],i,j=>by rw [dS];simp
 | t::ts,i,0=>by rw [dS];simp
 | t::ts,i,j+1=>by
   rw [dS,Uy,Uy,iZ,show i+1+(j:Int)=i+((j+1:Nat):Int) by omega]
theorem i8 {D:List Int->Bool} {pre:List Int}:∀ {ts:List Th} {i:Int},(dS D pre i ts).length=ts.length
 | [],i=>by rw [dS]
 | t::ts,i=>by rw [dS,To,To,i8]
theorem kc:∀ {as bs:List Th},(∀ (i:Nat) (a b:Th),as[i]?=some a->bs[i]?=some b->a.lies b=true)->cf as bs=true
 | [],bs,_=>by rw [cf]
 | a::as,[],_=>by rw [cf]
 | a::as,b::bs,h=>by
   rw [cf,h 0 a b rfl rfl,kc fun i x y hx hy=>h (i+1) x y (by simpa using hx) (by simpa using hy)];rfl
theorem mw:∀ {as bs:List Th},cf as bs=true->∀ (i:Nat) (a b:Th),as[i]?=some a->bs[i]?=some b->a.lies b=true
 | [],bs,_,i,a,b,ha,_=>by simp at ha
 | x::as,[],_,i,a,b,_,hb=>by simp at hb
 | x::as,y::bs,h,i,a,b,ha,hb=>by
   rw [cf,Vs] at h;cases i with
   | zero =>
     simp at ha hb;subst ha;subst hb;exact h.1
   | succ i=>exact mw h.2 i a b (by simpa using ha) (by simpa using hb)
theorem jR {n:TY} {ks:List Th} {r:Th} (h:aG (.knot n ks) r=true):∃ us,r=.knot n us/\ks.length=us.length/\(Th.knot n ks).isHole=false:=by
 cases r with
 | call a b=>rw [aG] at h;exact absurd h TH;intro _ _ _ _ _ h;cases h
 | knot m us =>
   rw [aG,Vs,Vs] at h;obtain ⟨⟨h1,h2⟩,h3⟩:=h;obtain rfl:=of_decide_eq_true h2;exact ⟨us,rfl,of_decide_eq_true h3,by simpa using h1⟩
theorem lE {n:TY} {ks us:List Th} (h1:(Th.knot n ks).isHole=false) (h2:ks.length=us.length):aG (.knot n ks) (.knot n us)=true:=by
 rw [aG,h1,decide_eq_true rfl,decide_eq_true h2];rfl
theorem lies_of {n:TY} {ks:List Th} {r:Th} (h:(Th.knot n ks).lies r=true) (hh:(Th.knot n ks).isHole=false):∃ us,r=.knot n us/\ks.length=us.length/\cf ks us=true:=by
 rw [Th.lies,hh,W7,Vs] at h;obtain ⟨us,rfl,hl,_⟩:=jR h.1;exact ⟨us,rfl,hl,h.2⟩
theorem ga {c:List Int×Int×Int} {ps:List (List Int×Th)}:c∈callsOf ps↔(c.1,Th.call c.2.1 c.2.2)∈ps:=by
 unfold callsOf;rw [YI];constructor
 · rintro ⟨⟨pl,t⟩,hx,e⟩;cases t with
   | knot n ks=>rw [nw] at e;cases e
   | call a b=>rw [nw] at e;cases e;exact hx
 · intro h;exact ⟨_,h,by rw [nw]⟩
section
variable {D:Int->List Int->Bool} {mk f0:Int->Th}
end
theorem my:∀ (n:Nat) (t:Th),t.size<=n->t.noCall->t.lies t=true
 | 0,t,hn,_=>by have:=t.size_pos;omega
 | n+1,.call a b,_,h=>by rw [Th.noCall] at h;exact h.elim
 | n+1,.knot m ks,hn,h=>by
   by_cases hh:(Th.knot m ks).isHole=true
   · rw [Th.lies,hh];rfl
   · have Jo:(Th.knot m ks).isHole=false:=Vw.mpr hh;rw [Th.size] at hn;rw [Th.noCall] at h;rw [Th.lies,lE Jo rfl]
     have:cf ks ks=true:=kc fun i a b ha hb=>by
      rw [ha] at hb;cases hb;have:=aQ (Tb ha);exact my n a (by omega) (dh h (Tb ha))
     show ((Th.knot m ks).isHole || (true && cf ks (Th.knot m ks).kids))=true;rw [show (Th.knot m ks).kids=ks from rfl,this,Bool.or_comm];rfl
def mkF (ins:List (TY×Int)) (rows:List (List Th)) (l:Int):Th:=(rowOf rows l).getD (cL ins) hole
def frF (mk:Int->Th) (m:Th) (row:List Th):Th:=row.foldl (fun f p=>f.com (p.fill fun l _=>mk l)) m
theorem kL (mk:Int->Th) (m:Th) (row:List Th) (p:Th):frF mk m (row++[p])=(frF mk m row).com (p.fill fun l _=>mk l):=by
 unfold frF;rw [List.foldl_append];rfl
theorem iB {mk:Int->Th} {m:Th} (h:m.noCall):∀ row:List Th,(frF mk m row).noCall:=fun row=>by
 cases hr:row.reverse with
 | nil =>
   have:row=[]:=by simpa using hr
   subst this;exact h
 | cons p ps =>
   have:row=ps.reverse++[p]:=by
    have:=congrArg List.reverse hr;simpa using this
   rw [this,kL];exact lI _ _
theorem i0 (mk:Int->Th) (m:Th) (row:List Th):(frF mk m row).size<=m.size/\(frF mk m row).tall<=m.tall:=by
 unfold frF;induction row generalizing m with
 | nil=>exact ⟨Td _,Td _⟩
 | cons p row ih =>
   rw [List.foldl_cons];have h1:=ih (m.com (p.fill fun l _=>mk l));have h2:=oG m (p.fill fun l _=>mk l);omega
theorem sU (mk:Int->Th) (m:Th) (row:List Th):∀ x∈(frF mk m row).pl [],∃ u,(x.1,u)∈m.pl []:=by
 unfold frF;induction row generalizing m with
 | nil=>exact fun x hx=>⟨x.2,hx⟩
 | cons p row ih =>
   rw [List.foldl_cons];intro x hx;obtain ⟨u,hu⟩:=ih _ x hx;exact tI _ m _ [] (Td _) (x.1,u) hu
theorem pe {mk:Int->Th} (f:Th):∀ (row:List Th) (m:Th),f.lies (frF mk m row)=true->f.lies m=true/\∀ p∈row,f.lies (p.fill fun l _=>mk l)=true
 | [],m,h=>⟨h,fun p hp=>by cases hp⟩
 | p::row,m,h=>by
   have h':f.lies (frF mk (m.com (p.fill fun l _=>mk l)) row)=true:=h;obtain ⟨h1,h2⟩:=pe f row _ h';rw [oS,Vs] at h1;refine ⟨h1.1,fun x hx=>?_⟩;rcases TF.mp hx with rfl | hx
   · exact h1.2
   · exact h2 x hx
def nk (s:Int) (pl:List Int):aB:=(pl.map Ub,Ub s)
theorem qo {s s':Int} {p p':List Int} (h:nk s p=nk s' p'):s=s'/\p=p':=by
 unfold nk at h;injection h with h1 h2;refine ⟨Wu h2,?_⟩;exact (XJ (fun _ _ e=>Wu e)).mp h1
theorem kW {H:Hp} {s:Int} {pl:List Int} {b c:Ta} (h1:H b=some (.tup [.int s,.ref c])) (h2:H c=some (.tup (pl.map V.int))):MKAt H (nk s pl) b:=by
 refine ⟨c,h1,?_⟩;rw [h2];unfold nk;rw [Vv];rfl
def But (p:Ta) (H H':Hp):Prop:=∀ c o,c≠p->H c=some o->H' c=some o
theorem But.refl (p:Ta) (H:Hp):But p H H:=fun _ _ _ e=>e
theorem But.trans {p:Ta} {H H' GW:Hp} (a:But p H H') (b:But p H' GW):But p H GW:=fun c o hc e=>b c o hc (a c o hc e)
theorem Same.but {p:Ta} {H H':Hp} (a:L2.Same H H'):But p H H':=fun c o _ e=>a c o e
theorem But.kt {p:Ta} {H H':Hp} {φ:UM->Prop} (a:But p H H') (e:H p=some (.ext φ)):KT H H':=fun c ys ec=>a c _ (fun z=>by rw [z,e] at ec;cases ec) ec
abbrev VlT:=Nat->aB->Th->Th->Prop
def PtV (H:Hp) (R:Th->Th->Prop) (v:V):Prop:=∃ (pr ta tb:Ta) (t1 t2:Th),v=.ref pr/\H pr=some (.tup [.ref ta,.ref tb])/\At H t1 ta/\At H t2 tb/\R t1 t2
theorem PtV.mono {H H':Hp} (k:KT H H') {R:Th->Th->Prop} {v:V} (h:PtV H R v):PtV H' R v:=by
 obtain ⟨pr,ta,tb,t1,t2,e,h1,h2,h3,h4⟩:=h;exact ⟨pr,ta,tb,t1,t2,e,k _ _ h1,h2.mono k,h3.mono k,h4⟩
structure Pt (P:Tv) (w:TN) (Vl:VlT) (H:Hp) (pt:Ta) (f':List (aB×V)) (Al:List aB):Prop where
 dm:DM P w H pt f'
 nd:(f'.map (·.1)).Nodup
 al:∀ p∈f',p.1∈Al
 vl:∀ (j:Nat) (p:aB×V),f'[j]?=some p->PtV H (Vl j p.1) p.2
theorem cr {P:Tv} {w:TN} {H:Hp} {a:Ta} {f':List (aB×V)} (h:DM P w H a f'):∃ φ,H a=some (.ext φ):=by
 obtain ⟨_,_,xs,φ,e,_⟩:=h;exact ⟨φ,e⟩
theorem Pt.same {P:Tv} {w:TN} {Vl:VlT} {H H':Hp} {pt:Ta} {f':List (aB×V)} {Al:List aB} (h:Pt P w Vl H pt f' Al) (s:L2.Same H H'):Pt P w Vl H' pt f' Al:=⟨h.dm.mono s,h.nd,h.al,fun j p hp=>(h.vl j p hp).mono (Same.kt s)⟩
theorem Pt.len {P:Tv} {w:TN} {Vl:VlT} {H:Hp} {pt:Ta} {f':List (aB×V)} {Al:List aB} (h:Pt P w Vl H pt f' Al):f'.length<=Al.length:=by
 have:=mQ (m:=Al) h.nd fun k hk=>by
  obtain ⟨p,hp,rfl⟩:=Um.mp hk;exact h.al p hp
 rwa [S6] at this
theorem cZ {f':List (aB×V)} {k:aB} (h:aV f' k=none):k∉f'.map (·.1):=by
 intro hk;obtain ⟨p,hp,rfl⟩:=Um.mp hk;have:=dB p.1 f';rw [h] at this;have h2:(f'.any fun kv=>decide (kv.1=p.1))=true:=List.any_eq_true.mpr ⟨p,hp,decide_eq_true rfl⟩;rw [h2] at this;cases this
theorem eS {f':List (aB×V)} {k:aB} {v:V} (h:aV f' k=some v):(k,v)∈f':=by
 induction f' with
 | nil=>cases h
 | cons p f' ih =>
   by_cases e:p.1=k
   · rw [bN e] at h;cases h;rw [<- e];exact T1 ..
   · rw [bO e] at h;exact TQ _ (ih h)
theorem Pt.put {P:Tv} {w:TN} {Vl:VlT} {H H':Hp} {pt:Ta} {f':List (aB×V)} {Al:List aB} (h:Pt P w Vl H pt f' Al) {k:aB} {v:V} (hn:aV f' k=none) (hb:But pt H H') (hd:DM P w H' pt (putK f' k v)) (hv:PtV H (Vl f'.length k) v) (hk:k∈Al):Pt P w Vl H' pt (putK f' k v) Al/\(putK f' k v).map (·.1)=f'.map (·.1)++[k]:=by
 obtain ⟨φ,e⟩:=cr h.dm;have kt:=hb.kt e;rw [kO v hn] at hd ⊢;refine ⟨⟨hd,?_,fun p hp=>?_,fun j p hp=>?_⟩,by rw [Tu];rfl⟩
 · rw [Tu];refine XR.mpr ⟨h.nd,by simp,fun a ha b zz=>?_⟩;simp at zz;subst zz;exact fun z=>cZ hn (z ▸ ha)
 · rcases Ul.mp hp with hp | hp
   · exact h.al p hp
   · rw [TR.mp hp];exact hk
 · by_cases hj:j<f'.length
   · rw [VA hj] at hp;exact (h.vl j p hp).mono kt
   · rw [V0 (by omega)] at hp
     have Qa:j - f'.length=0:=by
      have:=(Te.mp hp).1;have h1:[(k,v)].length=1:=rfl;omega
     rw [Qa] at hp;have AU:j=f'.length:=by omega
     cases hp;rw [AU];exact hv.mono kt
mutual
theorem qO {u:Th}:∀ (t:Th) (pre:List Int),u∈t.walk->∃ pl,(pl,u)∈t.pl pre
 | .call a b,pre,h=>by
   rw [Th.walk] at h;rw [TR.mp h];exact ⟨pre,gF _ _⟩
 | .knot n ks,pre,h=>by
   rw [Th.walk] at h;rcases TF.mp h with rfl | h
   · exact ⟨pre,gF _ _⟩
   · obtain ⟨pl,hp⟩:=oY ks pre 0 h;exact ⟨pl,by rw [Th.pl];exact TQ _ hp⟩
theorem oY {u:Th}:∀ (ts:List Th) (pre:List Int) (i:Int),u∈walks ts->∃ pl,(pl,u)∈pls pre i ts
 | [],pre,i,h=>by rw [walks] at h;cases h
 | t::ts,pre,i,h=>by
   rw [walks] at h;rw [pls];rcases Ul.mp h with h | h
   · obtain ⟨pl,hp⟩:=qO t (pre++[i]) h;exact ⟨pl,Uq _ hp⟩
   · obtain ⟨pl,hp⟩:=oY ts pre (i+1) h;exact ⟨pl,Uj _ hp⟩
end
theorem rD {ks:List (TY×Int)} {S C:Int} {t:Th} (h:t.FitS ks S C) {s k:Int} (hm:Th.call s k∈t.walk):0<=s/\s<S/\0<=k/\k<C:=by
 obtain ⟨pl,hp⟩:=qO t [] hm;exact jp t [] h (pl,s,k) (ga.mpr hp)
theorem gB {ks:List (TY×Int)} {S:Int}:∀ (n:Nat) (t:Th),t.size<=n->t.FitS ks S 0->t.noCall
 | 0,t,hn,_=>by have:=t.size_pos;omega
 | n+1,.call a b,_,h=>by rw [Th.FitS] at h;omega
 | n+1,.knot m us,hn,h=>by
   rw [Th.FitS] at h;rw [Th.size] at hn;rw [Th.noCall]
   have:∀ (l:List Th),(∀ t∈l,t.noCall)->cC l:=fun l=>by
    induction l with
    | nil=>intro _;rw [cC];trivial
    | cons x l ih=>intro hl;rw [cC];exact ⟨hl x (T1 ..),ih fun t ht=>hl t (TQ _ ht)⟩
   refine this us fun t ht=>?_;have hz:=aQ ht;exact gB n t (by omega) (FitSs.mem' h.2 t ht)
mutual
theorem pL:∀ (t:Th) (a b:List Int),t.pl (a++b)=(t.pl b).map fun x=>(a++x.1,x.2)
 | .call s k,a,b=>by rw [Th.pl,Th.pl];rfl
 | .knot n ks,a,b=>by rw [Th.pl,Th.pl,Up,qV ks a b 0]
theorem qV:∀ (ts:List Th) (a b:List Int) (i:Int),pls (a++b) i ts=(pls b i ts).map fun x=>(a++x.1,x.2)
 | [],a,b,i=>by rw [pls,pls];rfl
 | t::ts,a,b,i=>by rw [pls,pls,Tu,UB,pL t a (b++[i]),qV ts a b (i+1)]
end
theorem fD {t:Th} {a:List Int} {x:List Int×Th}:x∈t.pl a↔∃ r,x.1=a++r/\(r,x.2)∈t.pl []:=by
 have:=pL t a [];rw [Ui] at this;rw [this,Um];constructor
 · rintro ⟨y,hy,rfl⟩;exact ⟨y.1,rfl,hy⟩
 · rintro ⟨r,h1,h2⟩;exact ⟨(r,x.2),h2,by rw [<- h1]⟩
theorem qN:∀ (n:Nat) {t u v:Th} {a r:List Int},t.size<=n->(a,u)∈t.pl []->(r,v)∈u.pl []->(a++r,v)∈t.pl []
 | 0,t,_,_,_,_,hn=>by have:=t.size_pos;omega
 | n+1,.call s k,u,v,a,r,hn=>fun h1 h2=>by
   rw [Th.pl] at h1;cases TR.mp h1;exact h2
 | n+1,.knot m ks,u,v,a,r,hn=>fun h1 h2=>by
   rw [Th.pl] at h1;rcases TF.mp h1 with h1 | h1
   · cases h1;exact h2
   · obtain ⟨j,t,ht,hx⟩:=dg.mp h1;obtain ⟨r',e,Bx⟩:=fD.mp hx;dsimp only at e Bx;rw [U7,Vy] at e;rw [Th.size] at hn;have hz:=aQ (Tb ht);have:=qN n (by omega) Bx h2;refine pT ht (fD.mpr ⟨r'++r,?_,this⟩);show a++r=[]++[(j:Int)]++(r'++r);rw [e,Vy,UB]
end BB
namespace BB
open PySem L2
theorem pE:∀ (n:Nat) {t u v:Th} {a:List Int},t.size<=n->(a,u)∈t.pl []->(a,v)∈t.pl []->u=v
 | 0,t,_,_,_,hn=>by have:=t.size_pos;omega
 | n+1,.call s k,u,v,a,hn=>fun h1 h2=>by
   rw [Th.pl] at h1 h2;cases TR.mp h1;cases TR.mp h2;rfl
 | n+1,.knot m ks,u,v,a,hn=>fun h1 h2=>by
   rw [Th.pl] at h1 h2;rcases TF.mp h1 with h1 | h1
   · cases h1;rcases TF.mp h2 with h2 | h2
     · cases h2;rfl
     · obtain ⟨j,t,ht,hx⟩:=dg.mp h2;obtain ⟨r',e,_⟩:=fD.mp hx;cases e
   · obtain ⟨j,t,ht,hx⟩:=dg.mp h1;obtain ⟨r',e,Bx⟩:=fD.mp hx;rcases TF.mp h2 with h2 | h2
     · cases h2;cases e
     · obtain ⟨j2,t2,EO,AV⟩:=dg.mp h2;obtain ⟨r2,e2,ER⟩:=fD.mp AV;dsimp only at e e2 Bx ER;rw [e] at e2;have e3:(0+(j:Int))::r'=(0+(j2:Int))::r2:=e2;injection e3 with e4 e5;have:j=j2:=by omega
       subst this;rw [ht] at EO;cases EO;subst e5;rw [Th.size] at hn;have hz:=aQ (Tb ht);exact pE n (by omega) Bx ER
abbrev LkT:=aB->Int->List Int->TY×Int->Int->Prop
def LE (H:Hp) (ins:List (TY×Int)) (Al:List aB) (Lk:LkT) (k0:aB) (a:Ta):Prop:=∃ (s kid:Int) (pl:List Int) (pa ka:Ta) (kd:TY×Int),H a=some (.tup [.int s,.ref pa,.ref ka,.int kid])/\H pa=some (.tup (pl.map V.int))/\KAt H kd ka/\kd∈ins/\nk s pl∈Al/\Lk k0 s pl kd kid
theorem LE.mono {H H':Hp} (k:KT H H') {ins:List (TY×Int)} {Al:List aB} {Lk:LkT} {k0:aB} {a:Ta} (h:LE H ins Al Lk k0 a):LE H' ins Al Lk k0 a:=by
 obtain ⟨s,kid,pl,pa,ka,kd,h1,h2,h3,h4,h5⟩:=h;exact ⟨s,kid,pl,pa,ka,kd,k _ _ h1,k _ _ h2,k _ _ h3,h4,h5⟩
abbrev LG:=List (aB×Ta×List Ta)
def lkv (G:LG):List (aB×V):=G.map fun g=>(g.1,V.ref g.2.1)
structure LkI (P:Tv) (w:TN) (ins:List (TY×Int)) (Al:List aB) (Lk:LkT) (H0 H:Hp) (la:Ta) (G:LG) (N:Nat):Prop where
 sm:L2.Same H0 H
 la0:H0 la=none
 dm:DM P w H la (lkv G)
 kn:(G.map (·.1)).Nodup
 an:(G.map (·.2.1)).Nodup
 ls:∀ g∈G,H0 g.2.1=none/\H g.2.1=some (.lst (g.2.2.map V.ref))/\g.2.2.length<=N/\∀ a∈g.2.2,LE H ins Al Lk g.1 a
 le:G.length<=N
def gP (H:Hp) (G:LG) (k:aB) (s:Int) (pl:List Int):Prop:=∃ g∈G,g.1=k/\∃ a∈g.2.2,∃ (pa ka:Ta) (kid:Int),H a=some (.tup [.int s,.ref pa,.ref ka,.int kid])/\H pa=some (.tup (pl.map V.int))
def LSub (H H':Hp) (G G':LG):Prop:=∀ k s pl,gP H G k s pl->gP H' G' k s pl
theorem LSub.refl (H:Hp) (G:LG):LSub H H G G:=fun _ _ _ h=>h
theorem LSub.trans {H H' GW:Hp} {G G' NI:LG} (a:LSub H H' G G') (b:LSub H' GW G' NI):LSub H GW G NI:=fun k s pl h=>b k s pl (a k s pl h)
theorem LSub.kt {H H':Hp} (k:KT H H') (G:LG):LSub H H' G G:=fun _ _ _ ⟨g,hg,e,a,ha,pa,ka,kid,h1,h2⟩=>⟨g,hg,e,a,ha,pa,ka,kid,k _ _ h1,k _ _ h2⟩
theorem qB {P:Tv} {w:TN} {H H':Hp} {a:Ta} {f':List (aB×V)} (h:DM P w H a f') (k:KT H H') (e:∀ o,H a=some o->H' a=some o):DM P w H' a f':=by
 obtain ⟨z,hd,xs,φ,e1,f,r⟩:=h;exact ⟨z,hd,xs,φ,e _ e1,f,KTm.mono k r⟩
section
variable {P:Tv} {w:TN} {ins:List (TY×Int)} {Al:List aB} {Lk:LkT} {H0 H:Hp} {la:Ta} {G:LG} {N:Nat}
theorem LkI.ne (h:LkI P w ins Al Lk H0 H la G N) {g:aB×Ta×List Ta} (hg:g∈G):g.2.1≠la:=fun z=>by
 obtain ⟨φ,e⟩:=cr h.dm;have:=(h.ls g hg).2.1;rw [z,e] at this;cases this
theorem LkI.same {H':Hp} (h:LkI P w ins Al Lk H0 H la G N) (s:L2.Same H H'):LkI P w ins Al Lk H0 H' la G N:=by
 refine ⟨h.sm.trans s,h.la0,h.dm.mono s,h.kn,h.an,fun g hg=>?_,h.le⟩;obtain ⟨a,b,c,d⟩:=h.ls g hg;exact ⟨a,s _ _ b,c,fun x hx=>(d x hx).mono (Same.kt s)⟩
theorem LkI.up (h:LkI P w ins Al Lk H0 H la G N) {M:Nat} (hm:N<=M):LkI P w ins Al Lk H0 H la G M:=by
 refine ⟨h.sm,h.la0,h.dm,h.kn,h.an,fun g hg=>?_,Ve h.le hm⟩;obtain ⟨a,b,c,d⟩:=h.ls g hg;exact ⟨a,b,Ve c hm,d⟩
theorem LkI.new {H':Hp} (h:LkI P w ins Al Lk H0 H la G N) {k:aB} {l:Ta} (hn:aV (lkv G) k=none) (hb:But la H H') (hd:DM P w H' la (putK (lkv G) k (.ref l))) (BN:H0 l=none) (hl:H l=some (.lst [])) (hf:∀ g∈G,g.2.1≠l):LkI P w ins Al Lk H0 H' la (G++[(k,l,[])]) (N+1)/\LSub H H' G (G++[(k,l,[])]):=by
 obtain ⟨φ,e⟩:=cr h.dm;have kt:=hb.kt e;have KQ:l≠la:=fun z=>by rw [z,e] at hl;cases hl
 refine ⟨⟨fun c o ec=>hb c o (fun z=>by rw [z,h.la0] at ec;cases ec) (h.sm _ _ ec),h.la0,?_,?_,?_,fun g hg=>?_,by rw [TC];have:=h.le;show G.length+1<=N+1;omega⟩,fun k' s pl h'=>?_⟩
 · rw [kO _ hn] at hd;unfold lkv at hd ⊢;rw [Tu];exact hd
 · rw [Tu];refine XR.mpr ⟨h.kn,by simp,fun a ha b zz=>?_⟩;simp at zz;subst zz;intro z;subst z;refine cZ hn ?_;unfold lkv;rw [Vv];exact ha
 · rw [Tu];refine XR.mpr ⟨h.an,by simp,fun a ha b zz=>?_⟩;simp at zz;subst zz;obtain ⟨g,hg,rfl⟩:=Um.mp ha;exact hf g hg
 · rcases Ul.mp hg with hg | hg
   · obtain ⟨a,b,c,d⟩:=h.ls g hg;exact ⟨a,hb _ _ (h.ne hg) b,by omega,fun x hx=>(d x hx).mono kt⟩
   · rw [TR.mp hg];exact ⟨BN,hb _ _ KQ hl,TZ _,fun x hx=>by cases hx⟩
 · obtain ⟨g,hg,r⟩:=LSub.kt kt G k' s pl h';exact ⟨g,Uq _ hg,r⟩
def fz (l en:Ta) (g:aB×Ta×List Ta):aB×Ta×List Ta:=if g.2.1=l then (g.1,g.2.1,g.2.2++[en]) else g
theorem dC (l en:Ta) (g:aB×Ta×List Ta):(fz l en g).1=g.1/\(fz l en g).2.1=g.2.1:=by
 unfold fz;split <;> exact ⟨rfl,rfl⟩
theorem LkI.app (h:LkI P w ins Al Lk H0 H la G N) {g:aB×Ta×List Ta} (hg:g∈G) {en:Ta} (he:LE H ins Al Lk g.1 en):LkI P w ins Al Lk H0 (upd H g.2.1 (.lst (g.2.2.map V.ref++[.ref en]))) la (G.map (fz g.2.1 en)) (N+1)/\KT H (upd H g.2.1 (.lst (g.2.2.map V.ref++[.ref en])))/\LSub H (upd H g.2.1 (.lst (g.2.2.map V.ref++[.ref en]))) G (G.map (fz g.2.1 en))/\(∀ (s:Int) (pl:List Int) (pa ka:Ta) (kid:Int),H en=some (.tup [.int s,.ref pa,.ref ka,.int kid])->H pa=some (.tup (pl.map V.int))->gP (upd H g.2.1 (.lst (g.2.2.map V.ref++[.ref en]))) (G.map (fz g.2.1 en)) g.1 s pl):=by
 obtain ⟨gl,ge,gn,Qb⟩:=h.ls g hg;have kt:KT H (upd H g.2.1 (.lst (g.2.2.map V.ref++[.ref en]))):=aT ge;have Ag:=h.ne hg;have k1:(G.map (fz g.2.1 en)).map (·.1)=G.map (·.1):=by rw [Vv];exact XB fun x _=>(dC _ _ x).1
 have k2:(G.map (fz g.2.1 en)).map (·.2.1)=G.map (·.2.1):=by rw [Vv];exact XB fun x _=>(dC _ _ x).2
 have k3:lkv (G.map (fz g.2.1 en))=lkv G:=by
  unfold lkv;rw [Vv];refine XB fun x _=>?_;show ((fz g.2.1 en x).1,V.ref (fz g.2.1 en x).2.1)=_;rw [(dC _ _ x).1,(dC _ _ x).2]
 refine ⟨⟨aw h.sm gl,h.la0,?_,by rw [k1];exact h.kn,by rw [k2];exact h.an,fun x hx=>?_,by rw [S6];have:=h.le;omega⟩,kt,fun k s pl hh=>?_,fun s pl pa ka kid h1 h2=>?_⟩
 · rw [k3];exact qB h.dm kt fun o eo=>by rw [ak Ag.symm];exact eo
 · obtain ⟨y,hy,rfl⟩:=Um.mp hx;obtain ⟨a,b,c,d⟩:=h.ls y hy;by_cases hc:y.2.1=g.2.1
   · have Qc:y=g:=by
      obtain ⟨i,hi⟩:=TJ.mp hy;obtain ⟨j,hj⟩:=TJ.mp hg
      have D8:i=j:=by
       have h1:(G.map (·.2.1))[i]?=some y.2.1:=by rw [Tn,hi];rfl
       have h2:(G.map (·.2.1))[j]?=some y.2.1:=by rw [Tn,hj,hc];rfl
       exact (YU (by have:=(Te.mp h1).1;exact this) h.an).mp (h1.trans h2.symm)
      subst D8;rw [hi] at hj;exact TV hj
     subst Qc;unfold fz;rw [if_pos rfl];refine ⟨a,?_,?_,fun x hx=>?_⟩
     · show (upd H y.2.1 _) y.2.1=_;rw [ab];show some (HO.lst (y.2.2.map V.ref++[.ref en]))=some (.lst ((y.2.2++[en]).map V.ref));rw [Tu];rfl
     · show (y.2.2++[en]).length<=N+1;rw [TC];show y.2.2.length+1<=N+1;omega
     · rcases Ul.mp hx with hx | hx
       · exact (d x hx).mono kt
       · rw [TR.mp hx];exact he.mono kt
   · unfold fz;rw [if_neg hc];exact ⟨a,by rw [ak hc];exact b,by omega,fun x hx=>(d x hx).mono kt⟩
 · obtain ⟨x,hx,e,a,ha,pa,ka,kid,h1,h2⟩:=hh;refine ⟨fz g.2.1 en x,Um.mpr ⟨x,hx,rfl⟩,by rw [(dC _ _ x).1];exact e,a,?_,pa,ka,kid,kt _ _ h1,kt _ _ h2⟩;unfold fz;split
   · exact Uq _ ha
   · exact ha
 · refine ⟨fz g.2.1 en g,Um.mpr ⟨g,hg,rfl⟩,(dC _ _ g).1,en,?_,pa,ka,kid,kt _ _ h1,kt _ _ h2⟩;unfold fz;rw [if_pos rfl];exact Uj _ (T1 ..)
end
theorem tD {K:S8} {H:Hp}:∀ {ps:List (List Int×Th)} {as:List Ta},PsAtK K H ps as->∃ prs:List (List Key×V),T3 (PrA H) prs as/\(∀ p∈prs,∃ x∈ps,p.1=x.1.map Ub/\∃ a,p.2=.ref a/\AtK K H x.2 a)/\∀ x∈ps,∃ p∈prs,p.1=x.1.map Ub
 | _,_,.nil=>⟨[],.nil,(fun p hp=>by cases hp),(fun p hp=>by cases hp)⟩
 | _,_,.cons (a:=x) r h=>by
   obtain ⟨pa,ta,h1,h2,h3⟩:=r;obtain ⟨prs,g1,g2,g3⟩:=tD h;refine ⟨(x.1.map Ub,.ref ta)::prs,.cons ⟨pa,h1,by rw [h2,Vv];rfl⟩ g1,fun p hp=>?_,fun y hy=>?_⟩
   · rcases TF.mp hp with rfl | hp
     · exact ⟨x,T1 ..,rfl,ta,rfl,h3⟩
     · obtain ⟨y,hy,r⟩:=g2 p hp;exact ⟨y,TQ _ hy,r⟩
   · rcases TF.mp hy with rfl | hy
     · exact ⟨_,T1 ..,rfl⟩
     · obtain ⟨p,hp,e⟩:=g3 y hy;exact ⟨p,TQ _ hp,e⟩
structure LQ (P:Tv) (w:TN) (ins:List (TY×Int)) (Al:List aB) (Lk:LkT) (H0:Hp) (la:Ta) (Hb:Hp) (Gb:LG) (Hc:Hp) (Gc:LG) (n:Nat):Prop where
 lk:LkI P w ins Al Lk H0 Hc la Gc n
 sub:LSub Hb Hc Gb Gc
 fr:∀ c o,Hb c=some o->c≠la->(∀ g∈Gb,g.2.1≠c)->Hc c=some o
 dom:∀ c o,Hb c=some o->∃ o',Hc c=some o'
 ext:∀ g∈Gc,(∃ g0∈Gb,g0.2.1=g.2.1)∨Hb g.2.1=none
section
variable {P:Tv} {w:TN} {ins:List (TY×Int)} {Al:List aB} {Lk:LkT} {H0 Hb Hc Hd:Hp} {la:Ta} {Gb Gc Gd:LG} {n m:Nat}
theorem LQ.refl (h:LkI P w ins Al Lk H0 Hb la Gb n):LQ P w ins Al Lk H0 la Hb Gb Hb Gb n:=⟨h,LSub.refl _ _,fun _ _ e _ _=>e,fun c o e=>⟨o,e⟩,fun g hg=>.inl ⟨g,hg,rfl⟩⟩
theorem LQ.same (h:LQ P w ins Al Lk H0 la Hb Gb Hc Gc n) (s:L2.Same Hc Hd):LQ P w ins Al Lk H0 la Hb Gb Hd Gc n :=
 ⟨h.lk.same s,h.sub.trans (LSub.kt (Same.kt s) _),fun c o e h1 h2=>s _ _ (h.fr c o e h1 h2),fun c o e=>by obtain ⟨o',e'⟩:=h.dom c o e;exact ⟨o',s _ _ e'⟩,h.ext⟩
theorem LQ.up (h:LQ P w ins Al Lk H0 la Hb Gb Hc Gc n) (hm:n<=m):LQ P w ins Al Lk H0 la Hb Gb Hc Gc m:=⟨h.lk.up hm,h.sub,h.fr,h.dom,h.ext⟩
theorem LQ.trans (a:LQ P w ins Al Lk H0 la Hb Gb Hc Gc n) (b:LQ P w ins Al Lk H0 la Hc Gc Hd Gd m):LQ P w ins Al Lk H0 la Hb Gb Hd Gd m:=by
 refine ⟨b.lk,a.sub.trans b.sub,fun c o e h1 h2=>b.fr c o (a.fr c o e h1 h2) h1 fun g hg=>?_,fun c o e=>?_,fun g hg=>?_⟩
 · rcases a.ext g hg with ⟨g0,h3,h4⟩ | h3
   · rw [<- h4];exact h2 g0 h3
   · intro z;rw [z,e] at h3;cases h3
 · obtain ⟨o',e'⟩:=a.dom c o e;exact b.dom c o' e'
 · rcases b.ext g hg with ⟨g0,h3,h4⟩ | h3
   · rw [<- h4];exact a.ext g0 h3
   · refine .inr ?_;cases hh:Hb g.2.1 with
     | none=>rfl
     | some o =>
       obtain ⟨o',e'⟩:=a.dom _ o hh;rw [h3] at e';cases e'
theorem LQ.kt (h:LQ P w ins Al Lk H0 la Hb Gb Hc Gc n) (L:LkI P w ins Al Lk H0 Hb la Gb m):KT Hb Hc:=fun c ys e=>by
 obtain ⟨φ,el⟩:=cr L.dm;refine h.fr c _ e (fun z=>by rw [z,el] at e;cases e) fun g hg z=>?_;have:=(L.ls g hg).2.1;rw [z,e] at this;cases this
theorem LQ.newG (a:LQ P w ins Al Lk H0 la Hb Gb Hc Gc n) {k:aB} {l:Ta} {He:Hp} (hl:Hc l=none) (hn:aV (lkv Gc) k=none) (hb:But la (upd Hc l (.lst [])) He) (hd:DM P w He la (putK (lkv Gc) k (.ref l))):LQ P w ins Al Lk H0 la Hb Gb He (Gc++[(k,l,[])]) (n+1):=by
 have s1:L2.Same Hc (upd Hc l (.lst [])):=ad hl _;have L1:=a.lk.same s1
 obtain ⟨h1,h2⟩:=L1.new hn hb hd (a.lk.sm.free hl) ab fun g hg z=>by
  have:=(a.lk.ls g hg).2.1;rw [z,hl] at this;cases this
 refine a.trans ⟨h1,(LSub.kt (Same.kt s1) _).trans h2,fun c o e hc _=>hb c o hc (s1 _ _ e),fun c o e=>?_,fun g hg=>?_⟩
 · by_cases hc:c=la
   · obtain ⟨φ,e'⟩:=cr hd;exact ⟨_,by rw [hc];exact e'⟩
   · exact ⟨o,hb c o hc (s1 _ _ e)⟩
 · rcases Ul.mp hg with hg | hg
   · exact .inl ⟨g,hg,rfl⟩
   · rw [TR.mp hg];exact .inr hl
theorem LQ.appG (a:LQ P w ins Al Lk H0 la Hb Gb Hc Gc n) {g:aB×Ta×List Ta} (hg:g∈Gc) {en:Ta} (he:LE Hc ins Al Lk g.1 en):LQ P w ins Al Lk H0 la Hb Gb (upd Hc g.2.1 (.lst (g.2.2.map V.ref++[.ref en]))) (Gc.map (fz g.2.1 en)) (n+1)/\∀ (s:Int) (pl:List Int) (pa ka:Ta) (kid:Int),Hc en=some (.tup [.int s,.ref pa,.ref ka,.int kid])->Hc pa=some (.tup (pl.map V.int))->gP (upd Hc g.2.1 (.lst (g.2.2.map V.ref++[.ref en]))) (Gc.map (fz g.2.1 en)) g.1 s pl:=by
 obtain ⟨h1,h2,h3,h4⟩:=a.lk.app hg he;refine ⟨⟨h1,a.sub.trans h3,fun c o e hc hf=>?_,fun c o e=>?_,fun x hx=>?_⟩,h4⟩
 · rw [ak]
   · exact a.fr c o e hc hf
   · intro z;rcases a.ext g hg with ⟨g0,h5,h6⟩ | h5
     · exact hf g0 h5 (h6.trans z.symm)
     · rw [<- z,e] at h5;cases h5
 · by_cases hc:c=g.2.1
   · exact ⟨_,by rw [hc];exact ab⟩
   · rw [ak hc];exact a.dom c o e
 · obtain ⟨y,hy,rfl⟩:=Um.mp hx;rw [(dC _ _ y).2];exact a.ext y hy
theorem qE {G:LG} {k:aB} {u:V} (h:aV (lkv G) k=some u):∃ g∈G,g.1=k/\u=.ref g.2.1:=by
 have:=eS h;unfold lkv at this;obtain ⟨g,hg,e⟩:=Um.mp this;cases e;exact ⟨g,hg,rfl,rfl⟩
end
theorem vq:∀ (n:Nat) (t:Th) (pre:List Int),t.size<=n->∀ x∈t.pl pre,x.2.size<=t.size/\x.2.tall<=t.tall
 | 0,t,_,hn=>by have:=t.size_pos;omega
 | n+1,.call a b,pre,hn=>fun x hx=>by
   rw [Th.pl] at hx;rw [TR.mp hx];exact ⟨Td _,Td _⟩
 | n+1,.knot m ks,pre,hn=>fun x hx=>by
   rw [Th.pl] at hx;rcases TF.mp hx with rfl | hx
   · exact ⟨Td _,Td _⟩
   · obtain ⟨j,t,ht,hx⟩:=dg.mp hx;rw [Th.size] at hn;have hz:=aQ (Tb ht);have EO:=bW (Tb ht);obtain ⟨h1,h2⟩:=vq n t _ (by omega) x hx;rw [Th.size,Th.tall];omega
theorem eQ {n:Nat} (h:n<=16000000):n<TB:=by
 have:TB=16777216:=Xl;omega
theorem oX:∀ (n:Nat) (t:Th) (pre:List Int),t.size<=n->∀ x∈t.pl pre,x.1.length<=pre.length+t.tall
 | 0,t,_,hn=>by have:=t.size_pos;omega
 | n+1,.call a b,pre,hn=>fun x hx=>by
   rw [Th.pl] at hx;rw [TR.mp hx];exact VU _ _
 | n+1,.knot m ks,pre,hn=>fun x hx=>by
   rw [Th.pl] at hx;rcases TF.mp hx with rfl | hx
   · exact VU _ _
   · obtain ⟨j,t,ht,hx⟩:=dg.mp hx;rw [Th.size] at hn;have hz:=aQ (Tb ht);have EO:=bW (Tb ht);have h1:=oX n t _ (by omega) x hx;rw [TC] at h1;rw [Th.tall];have h2:[(0:Int)+(j:Int)].length=1:=rfl;omega
structure LkR (P:Tv) (w:TN) (ins:List (TY×Int)) (Al:List aB) (Lk:LkT) (H:Hp) (la:Ta) (G:LG):Prop where
 dm:DM P w H la (lkv G)
 ls:∀ g∈G,H g.2.1=some (.lst (g.2.2.map V.ref))/\∀ a∈g.2.2,LE H ins Al Lk g.1 a
 kn:(G.map (·.1)).Nodup
theorem LkI.r {P:Tv} {w:TN} {ins:List (TY×Int)} {Al:List aB} {Lk:LkT} {H0 H:Hp} {la:Ta} {G:LG} {N:Nat} (h:LkI P w ins Al Lk H0 H la G N):LkR P w ins Al Lk H la G:=⟨h.dm,fun g hg=>⟨(h.ls g hg).2.1,(h.ls g hg).2.2.2⟩,h.kn⟩
theorem LkR.but {P:Tv} {w:TN} {ins:List (TY×Int)} {Al:List aB} {Lk:LkT} {H H':Hp} {la pt:Ta} {G:LG} {φ:UM->Prop} (h:LkR P w ins Al Lk H la G) (hb:But pt H H') (e:H pt=some (.ext φ)) (hn:pt≠la):LkR P w ins Al Lk H' la G:=by
 have kt:=hb.kt e;refine ⟨qB h.dm kt fun o eo=>hb _ _ hn.symm eo,fun g hg=>?_,h.kn⟩;obtain ⟨h1,h2⟩:=h.ls g hg;exact ⟨hb _ _ (fun z=>by rw [z,e] at h1;cases h1) h1,fun a ha=>(h2 a ha).mono kt⟩
theorem LkR.at {P:Tv} {w:TN} {ins:List (TY×Int)} {Al:List aB} {Lk:LkT} {H:Hp} {la:Ta} {G:LG} (h:LkR P w ins Al Lk H la G) {g:aB×Ta×List Ta} (hg:g∈G) {s:Int} {pl:List Int} (hh:gP H G g.1 s pl):∃ a∈g.2.2,∃ (pa ka:Ta) (kid:Int),H a=some (.tup [.int s,.ref pa,.ref ka,.int kid])/\H pa=some (.tup (pl.map V.int)):=by
 obtain ⟨g',Ki,e,r⟩:=hh
 have:g'=g:=by
  obtain ⟨i,hi⟩:=TJ.mp Ki;obtain ⟨j,hj⟩:=TJ.mp hg;have h1:(G.map (·.1))[i]?=some g.1:=by rw [Tn,hi,<- e];rfl
  have h2:(G.map (·.1))[j]?=some g.1:=by rw [Tn,hj];rfl
  have D8:i=j:=(YU (by have:=(Te.mp h1).1;exact this) h.kn).mp (h1.trans h2.symm);subst D8;rw [hi] at hj;exact TV hj
 subst this;exact r
theorem tG {G:LG} {k:aB} (h:aV (lkv G) k=none) {H:Hp} {s:Int} {pl:List Int}:¬ gP H G k s pl:=fun ⟨g,hg,e,_⟩=>by
 refine cZ h ?_;unfold lkv;rw [Vv];exact Um.mpr ⟨g,hg,e⟩
theorem og {a b:List Int} (h:a.map V.int=b.map V.int):a=b:=(XJ (fun _ _ e=>V.int.inj e)).mp h
theorem LkR.back {P:Tv} {w:TN} {ins:List (TY×Int)} {Al:List aB} {Lk:LkT} {H H':Hp} {la:Ta} {G:LG} (R:LkR P w ins Al Lk H la G) (kt:KT H H') {k:aB} {s:Int} {pl:List Int} (hh:gP H' G k s pl):gP H G k s pl:=by
 obtain ⟨g,hg,e,a,ha,pa,ka,kid,h1,h2⟩:=hh;obtain ⟨s',zZ,zB,CO,Cm,NJ,g1,g2,_⟩:=(R.ls g hg).2 a ha;have e1:=kt _ _ g1;rw [h1] at e1;cases e1;have e2:=kt _ _ g2;rw [h2] at e2;have:pl=zB:=og (by injection e2 with e3;injection e3);subst this;exact ⟨g,hg,e,a,ha,pa,ka,kid,g1,g2⟩
def Dk (f':List (aB×V)) (s:Int) (pl:List Int):Bool:=(aV f' (nk s pl)).isSome
theorem pN {f':List (aB×V)} {s:Int} {pl:List Int}:Dk f' s pl=true↔nk s pl∈f'.map (·.1):=by
 unfold Dk;constructor
 · intro h;obtain ⟨v,hv⟩:=W3.mp h;exact Um.mpr ⟨_,eS hv,rfl⟩
 · intro h;cases hv:aV f' (nk s pl) with
   | none=>exact absurd h (cZ hv)
   | some v=>rfl
def ip (D:List Int->Bool) (As:List (List Int×Th)):List Th:=As.flatMap fun x=>(x.2.cut D x.1).walk
theorem oB (D:List Int->Bool) (a b:List (List Int×Th)):ip D (a++b)=ip D a++ip D b:=by unfold ip;rw [List.flatMap_append]
theorem mL (D:List Int->Bool) (pre:List Int):∀ (i:Int) (ks:List Th),ip D (cR pre i ks)=walks (dS D pre i ks)
 | i,[]=>by rw [cR,dS,walks];rfl
 | i,k::ks=>by
   rw [cR,dS,walks,<- mL D pre (i+1) ks];rfl
theorem ki (D:List Int->Bool):∀ (n:Nat) (t:Th) (pre:List Int),t.size<=n->(t.cut D pre).size<=t.size
 | 0,t,_,hn=>by have:=t.size_pos;omega
 | n+1,.call a b,pre,hn=>by rw [Th.cut,eY,Th.size];exact Td _
 | n+1,.knot m ks,pre,hn=>by
   rw [Th.cut];split
   · rw [eY,Th.size];omega
   · rw [Th.size] at hn;rw [Th.size,Th.size]
     have:∀ (us:List Th) (i:Int),aq us<=n->aq (dS D pre i us)<=aq us:=fun us=>by
      induction us with
      | nil=>intro i _;rw [dS];exact Td _
      | cons u us ih =>
        intro i h;rw [aq] at h;rw [dS,aq,aq];have h1:=ih (i+1) (by omega);have h2:=ki D n u (pre++[i]) (by omega);omega
     have:=this ks 0 (by omega);omega
end BB
namespace BB
open PySem L2
inductive In:Th->List Int->Th->Prop
 | here {t:Th}:In t [] t
 | kid {n:TY} {ks:List Th} {j:Nat} {u v:Th} {r:List Int} (h:ks[j]?=some u) (i:In u r v):In (.knot n ks) ((j:Int)::r) v
theorem In.of:∀ (n:Nat) {t v:Th} {pl:List Int},t.size<=n->(pl,v)∈t.pl []->In t pl v
 | 0,t,_,_,hn,_=>by have:=t.size_pos;omega
 | n+1,.call s k,v,pl,hn,h=>by
   rw [Th.pl] at h;cases TR.mp h;exact .here
 | n+1,.knot m ks,v,pl,hn,h=>by
   rw [Th.pl] at h;rcases TF.mp h with h | h
   · cases h;exact .here
   · obtain ⟨j,t,ht,hx⟩:=dg.mp h;obtain ⟨r,e,hr⟩:=fD.mp hx;dsimp only at e hr;rw [U7,Vy] at e;rw [Th.size] at hn;have hz:=aQ (Tb ht);have e2:pl=(j:Int)::r:=e;rw [e2];exact .kid ht (In.of n (by omega) hr)
theorem In.to {t v:Th} {pl:List Int} (h:In t pl v):(pl,v)∈t.pl []:=by
 induction h with
 | here=>exact gF _ _
 | kid h i ih =>
   refine pT h (fD.mpr ⟨_,?_,ih⟩);rfl
theorem In.iff {t v:Th} {pl:List Int}:(pl,v)∈t.pl []↔In t pl v:=⟨In.of _ (Td _),In.to⟩
theorem jv {f:Int->Int->Th}:∀ {ts:List Th} {j:Nat},(fills f ts)[j]?=(ts[j]?).map (Th.fill f)
 | [],j=>by rw [fills];simp
 | t::ts,0=>by rw [fills];rfl
 | t::ts,j+1=>by rw [fills,Uy,Uy];exact jv
theorem gr {ks:List (TY×Int)} {S C:Int} {n:TY} {us:List Th} (h:(Th.knot n us).FitS ks S C) {j:Nat} {u:Th} (hu:us[j]?=some u):u.FitS ks S C:=by
 rw [Th.FitS] at h;exact FitSs.mem' h.2 u (Tb hu)
theorem mH {ks:List (TY×Int)} {S C C':Int} {f:Int->Int->Th} (hf:∀ l k,0<=l->l<S->(f l k).FitS ks S C'):∀ (n:Nat) (p:Th),p.size<=n->p.FitS ks S C->(p.fill f).FitS ks S C'
 | 0,p,hn,_=>by have:=p.size_pos;omega
 | n+1,.call l k,_,h=>by
   rw [Th.FitS] at h;rw [Th.fill];exact hf l k h.1 h.2.1
 | n+1,.knot m us,hn,h=>by
   rw [Th.fill,Th.FitS,gG];have h0:=h;rw [Th.FitS] at h0;rw [Th.size] at hn;refine ⟨h0.1,FitSs.of fun t ht=>?_⟩;obtain ⟨j,hj⟩:=TJ.mp ht;rw [jv,T4] at hj;obtain ⟨u,hu,rfl⟩:=hj;have hz:=aQ (Tb hu);exact mH hf n u (by omega) (gr h hu)
theorem qH {outs:List (TY×Int)} (go:bV outs) {S:Int}:∀ (n:Nat) (f g m h:Th) (pl:List Int),f.size<=n->In (f.com g) pl h->h.isHole=true->(∀ v,In f pl v->v.isHole=false)->f.lies m=true->f.noCall->m.FitS outs S 0->g.FitS outs S 0->∃ m1 m2 k1 k2,m1≠m2/\In m pl (.knot m1 k1)/\In g pl (.knot m2 k2)
 | 0,f,_,_,_,_,hn=>by have:=f.size_pos;omega
 | n+1,.call a b,_,_,_,_,_=>fun _ _ _ _ hc=>by rw [Th.noCall] at hc;exact hc.elim
 | n+1,.knot nm ks,g,m,h,pl,hn=>fun hi hh hv hl hc fm fg=>by
   rw [ij] at hi;by_cases hs:aG (.knot nm ks) g=true
   · rw [if_pos hs] at hi;obtain ⟨vs,rfl,hlen,C7⟩:=jR hs;obtain ⟨us,rfl,NK,AB⟩:=lies_of hl C7;have yA:In (.knot nm ((ks.zip vs).map fun p=>p.1.com p.2)) pl h:=hi;cases yA with
     | here =>
       have:=hv _ .here;exfalso;rw [Th.isHole,decide_eq_true_iff] at hh;rw [Th.isHole,decide_eq_false_iff_not] at C7;refine C7 ⟨hh.1,?_⟩;have h2:=congrArg Wf hh.2;rw [S6,Wz,<- hlen,Yb] at h2;exact UZ.mp h2
     | kid hj hr =>
       rename_i j u r
       rw [Tn,T4] at hj;obtain ⟨p,hp,rfl⟩:=hj;obtain ⟨h1,h2⟩:=Vz.mp hp;obtain ⟨w,hw⟩:∃ w,us[j]?=some w:=⟨_,S9 (by have:=(Te.mp h1).1;omega)⟩;rw [Th.size] at hn;have hz:=aQ (Tb h1);rw [Th.noCall] at hc;obtain ⟨m1,m2,k1,k2,e,a1,a2⟩:=qH go n p.1 p.2 w h r (by omega) hr hh (fun v yM=>hv v (.kid h1 yM)) (mw AB j _ _ h1 hw) (dh hc (Tb h1)) (gr fm hw) (gr fg h2);exact ⟨m1,m2,k1,k2,e,.kid hw a1,.kid h2 a2⟩
   · rw [if_neg hs] at hi;rw [hole] at hi;cases hi with
     | here =>
       have C7:=hv _ .here;obtain ⟨us,rfl,NK,AB⟩:=lies_of hl C7;cases g with
       | call a b=>rw [Th.FitS] at fg;omega
       | knot gm vs =>
         refine ⟨nm,gm,us,vs,fun e=>hs ?_,.here,.here⟩;subst e;rw [Th.FitS] at fm fg;obtain ⟨i1,g1⟩:=TJ.mp fm.1;obtain ⟨i2,g2⟩:=TJ.mp fg.1;have:=go.nd i1 i2 _ _ g1 g2 rfl;subst this;rw [g1] at g2;injection g2 with g2;injection g2 with _ g2;exact lE C7 (by omega)
     | kid hj _=>simp at hj
inductive NmAt (ins:List (TY×Int)) (rows:List (List Th)):Nat->Th->Th->List Int->TY->Prop
 | here {m:TY} {ks:List Th} {t:Th}:NmAt ins rows 0 (.knot m ks) t [] m
 | step {n:Nat} {nm m:TY} {ks:List Th} {j:Nat} {u t:Th} {r:List Int} (h:ks[j]?=some u) (i:NmAt ins rows n u t r m):NmAt ins rows (n+1) (.knot nm ks) t ((j:Int)::r) m
 | call {n:Nat} {s k:Int} {tm vm m:TY} {us vs:List Th} {row:List Th} {i:Nat} {kd:TY×Int} {p:Th} {r:List Int} (hk:0<=k) (hs:0<=s) (hu:us[k.toNat]?=some (.knot vm vs)) (hr:rows[s.toNat]?=some row) (hi:ins[i]?=some kd) (hn:kd.1=vm) (hp:row[i]?=some p) (h:NmAt ins rows n p (.knot vm vs) r m):NmAt ins rows (n+1) (.call s k) (.knot tm us) r m
theorem NmAt.of {ins:List (TY×Int)} {rows:List (List Th)} {t v:Th} {pl:List Int} (h:In t pl v):∀ {m:TY} {ks:List Th} (tree:Th),v=.knot m ks->∃ n,NmAt ins rows n t tree pl m:=by
 induction h with
 | here=>intro m ks tree e;subst e;exact ⟨0,.here⟩
 | kid h i ih =>
   intro m ks tree e;obtain ⟨n,hn⟩:=ih tree e;exact ⟨n+1,.step h hn⟩
def pR (ins:List (TY×Int)) (rows:List (List Th)) (s:Int) (t:Th) (pl:List Int) (m:TY):Prop:=∃ (vm:TY) (vs row:List Th) (i:Nat) (kd:TY×Int) (p:Th) (n:Nat),0<=s/\t=.knot vm vs/\rows[s.toNat]?=some row/\ins[i]?=some kd/\kd.1=vm/\row[i]?=some p/\NmAt ins rows n p t pl m
theorem NmAt.goes {ins:List (TY×Int)} {rows:List (List Th)} {p v:Th} {q r:List Int} (h:In p q v):∀ {l k:Int} {tm m:TY} {us:List Th} {t1:Th},v=.call l k->0<=k->us[k.toNat]?=some t1->pR ins rows l t1 r m->∃ n,NmAt ins rows n p (.knot tm us) (q++r) m:=by
 induction h with
 | here =>
   intro l k tm m us t1 e hk hu hs;subst e;obtain ⟨vm,vs,row,i,kd,p,n,h0,rfl,hr,hi,hn,hp,h⟩:=hs;exact ⟨n+1,.call hk h0 hu hr hi hn hp h⟩
 | kid h i ih =>
   intro l k tm m us t1 e hk hu hs;obtain ⟨n,hn⟩:=ih e hk hu hs;exact ⟨n+1,.step h hn⟩
theorem NmAt.fill {ins outs:List (TY×Int)} {rows:List (List Th)} {S C:Int} {f:Int->Int->Th} {us:List Th} {tm:TY} (hf:∀ l k,0<=l->l<S->0<=k->k<C->∃ t1,us[k.toNat]?=some t1/\∀ pl m ks,In (f l k) pl (.knot m ks)->pR ins rows l t1 pl m):∀ (n:Nat) (p:Th) (pl:List Int) (m:TY) (ks:List Th),p.size<=n->p.FitS outs S C->In (p.fill f) pl (.knot m ks)->∃ n,NmAt ins rows n p (.knot tm us) pl m
 | 0,p,_,_,_,hn,_,_=>by have:=p.size_pos;omega
 | n+1,.call l k,pl,m,ks,_,h,hi=>by
   rw [Th.FitS] at h;rw [Th.fill] at hi;obtain ⟨t1,h1,h2⟩:=hf l k h.1 h.2.1 h.2.2.1 h.2.2.2;have:=NmAt.goes (p:=.call l k) (q:=[]) (tm:=tm) .here rfl h.2.2.1 h1 (h2 pl m ks hi);exact this
 | n+1,.knot nm vs,pl,m,ks,hn,h,hi=>by
   rw [Th.fill] at hi;cases hi with
   | here=>exact ⟨0,.here⟩
   | kid hj hr =>
     rename_i j u r
     rw [jv,T4] at hj;obtain ⟨v,hv,rfl⟩:=hj;rw [Th.size] at hn;have hz:=aQ (Tb hv);obtain ⟨k,hk⟩:=NmAt.fill hf n v r m ks (by omega) (gr h hv) hr;exact ⟨k+1,.step hv hk⟩
end BB
namespace BB
open PySem L2
structure FrK (ins outs:List (TY×Int)) (rows:List (List Th)):Prop where
 gi:bV ins
 fit:wy ins outs (rows.length:Nat) rows
 le:rows.length<=20
 sz:∀ row∈rows,∀ p∈row,p.size<=200/\p.tall<=100
theorem FrK.mkd {ins outs:List (TY×Int)} {rows:List (List Th)} (F:FrK ins outs rows) {l:Int} (h0:0<=l) (h1:l<(rows.length:Nat)):∃ row p,rows[l.toNat]?=some row/\row[cL ins]?=some p/\mkF ins rows l=p/\p.size<=200/\p.tall<=100/\p.FitS outs (rows.length:Nat) 0:=by
 obtain ⟨k0,zC,CN⟩:=kG F.gi;have hI:=eW zC;obtain ⟨row,hr,er,hl,_⟩:=rZ F.fit h0 h1;have Qd:=(Te.mp hI).1;obtain ⟨p,hp⟩:∃ p,row[cL ins]?=some p:=⟨_,S9 (by omega)⟩;have hm:=Tb hr;obtain ⟨z1,z2⟩:=F.sz row hm p (Tb hp);have hf:=(F.fit.row row hm).2 _ p k0 hp hI;rw [CN] at hf;exact ⟨row,p,hr,hp,by unfold mkF;rw [er,List.getD,hp];rfl,z1,z2,hf⟩
def bU (ins:List (TY×Int)) (n:Nat) (kid:Int) (t:Th):List Th:=(T7 n).map fun (i:Nat)=>if (i:Int)=kid then t else aR ins
theorem iz (ins:List (TY×Int)) (n:Nat) (kid:Int) (t:Th):(bU ins n kid t).length=n:=by unfold bU;rw [S6,T8]
theorem qa {ins:List (TY×Int)} {n:Nat} {kid:Int} {t:Th} (h0:0<=kid) (h1:kid<(n:Int)):(bU ins n kid t)[kid.toNat]?=some t:=by
 unfold bU;rw [Tn,Ux (by omega),Xx,if_pos (by omega)]
theorem pG {ins:List (TY×Int)} {n:Nat} {kid:Int} {t u:Th} (h:u∈bU ins n kid t):u=t∨u=aR ins:=by
 unfold bU at h;obtain ⟨i,_,rfl⟩:=Um.mp h;by_cases hk:(i:Int)=kid
 · rw [if_pos hk];exact .inl rfl
 · rw [if_neg hk];exact .inr rfl
theorem io (ins:List (TY×Int)):(aR ins).size=1:=by unfold aR;rw [Th.size,aq]
theorem ol {ins:List (TY×Int)} {n:Nat} (hn:n<=3) {kid:Int} {t:Th}:aq (bU ins n kid t)<=t.size+2:=by
 have h1:=io ins;have h2:=t.size_pos
 have hp:∀ i:Nat,(if (i:Int)=kid then t else aR ins).size<=t.size/\((i:Int)≠kid->(if (i:Int)=kid then t else aR ins).size=1):=fun i=>by
  by_cases hk:(i:Int)=kid
  · rw [if_pos hk];exact ⟨Td _,fun z=>absurd hk z⟩
  · rw [if_neg hk];exact ⟨by omega,fun _=>h1⟩
 obtain ⟨a0,b0⟩:=hp 0;obtain ⟨a1,b1⟩:=hp 1;obtain ⟨a2,b2⟩:=hp 2;have e0:aq (bU ins 0 kid t)=0:=by show aq []=0;rw [aq]
 have e1:aq (bU ins 1 kid t)=(if ((0:Nat):Int)=kid then t else aR ins).size:=by show aq [if ((0:Nat):Int)=kid then t else aR ins]=_;rw [aq,aq];omega
 have e2:aq (bU ins 2 kid t)=(if ((0:Nat):Int)=kid then t else aR ins).size+(if ((1:Nat):Int)=kid then t else aR ins).size:=by show aq [if ((0:Nat):Int)=kid then t else aR ins,if ((1:Nat):Int)=kid then t else aR ins]=_;rw [aq,aq,aq];omega
 have e3:aq (bU ins 3 kid t)=(if ((0:Nat):Int)=kid then t else aR ins).size+(if ((1:Nat):Int)=kid then t else aR ins).size+(if ((2:Nat):Int)=kid then t else aR ins).size:=by show aq [if ((0:Nat):Int)=kid then t else aR ins,if ((1:Nat):Int)=kid then t else aR ins,if ((2:Nat):Int)=kid then t else aR ins]=_;rw [aq,aq,aq,aq];omega
 generalize NL:(if ((0:Nat):Int)=kid then t else aR ins).size=x0 at *;generalize C8:(if ((1:Nat):Int)=kid then t else aR ins).size=x1 at *;generalize AV:(if ((2:Nat):Int)=kid then t else aR ins).size=x2 at *
 have hc:x0+x1+x2<=t.size+2:=by
  by_cases k0:((0:Nat):Int)=kid
  · have:=b1 (by omega);have:=b2 (by omega);omega
  · have:=b0 k0;by_cases k1:((1:Nat):Int)=kid
    · have:=b2 (by omega);omega
    · have:=b1 k1;omega
 match n,hn with
 | 0,_=>rw [e0];omega
 | 1,_=>rw [e1];omega
 | 2,_=>rw [e2];omega
 | 3,_=>rw [e3];omega
theorem jc {ins:List (TY×Int)} (g:bV ins):(aR ins).FitS ins 0 0:=by
 obtain ⟨k0,zC,CN⟩:=kG g;have hI:=eW zC;rw [fb zC,Th.FitS,FitSs];refine ⟨?_,trivial⟩;have:(k0.1,(([]:List Th).length:Int))=k0:=by rw [show (([]:List Th).length:Int)=k0.2 by rw [CN];rfl]
 rw [this];exact Tb hI
theorem ph {ins:List (TY×Int)} (g:bV ins) {kd:TY×Int} (hk:kd∈ins) {us:List Th} (hl:us.length=kd.2.toNat) (h:∀ u∈us,u.FitS ins 0 0):(Th.knot kd.1 us).FitS ins 0 0:=by
 rw [Th.FitS];refine ⟨?_,FitSs.of h⟩;have hn:=g.num kd hk;have:(kd.1,(us.length:Int))=kd:=by rw [show (us.length:Int)=kd.2 by omega]
 rw [this];exact hk
theorem oE {ins outs:List (TY×Int)} {rows:List (List Th)} (F:FrK ins outs rows) {l:Int} (h0:0<=l) (h1:l<(rows.length:Nat)) {pl:List Int} {m:TY} {ks:List Th} (h:In (mkF ins rows l) pl (.knot m ks)):pR ins rows l (aR ins) pl m:=by
 obtain ⟨k0,zC,CN⟩:=kG F.gi;have hI:=eW zC;obtain ⟨row,p,hr,hp,e,_⟩:=F.mkd h0 h1;rw [e] at h;obtain ⟨n,hn⟩:=NmAt.of (ins:=ins) (rows:=rows) h (aR ins) rfl;exact ⟨k0.1,[],row,cL ins,k0,p,n,h0,fb zC,hr,hI,rfl,hp,hn⟩
def frS (ins:List (TY×Int)) (rows:List (List Th)) (s:Nat):Th:=frF (mkF ins rows) (mkF ins rows (s:Nat)) ((rows[s]?).getD [])
inductive Met (ins:List (TY×Int)) (rows:List (List Th)):Nat->List Int->Prop
 | hol {s i:Nat} {row:List Th} {x:List Int×Th} (hr:rows[s]?=some row) (hi:i<=row.length) (hx:x∈(frF (mkF ins rows) (mkF ins rows (s:Nat)) (row.take i)).pl []) (hh:x.2.isHole=true):Met ins rows s x.1
 | lnk {s:Nat} {row:List Th} {p u:Th} {c:List Int×Int×Int} {x:List Int×Th} (hr:rows[s]?=some row) (hp:p∈row) (hc:c∈callsOf (p.pl [])) (hu:(c.1,u)∈(frS ins rows s).pl []) (hx:x∈u.pl []) (m:Met ins rows c.2.1.toNat x.1):Met ins rows s (c.1++x.1)
def Lk0 (ins:List (TY×Int)) (rows:List (List Th)):LkT:=fun k s pl kd kid=>∃ (sn:Nat) (row:List Th) (i:Nat) (p:Th) (q x:List Int) (l:Int),s=(sn:Nat)/\rows[sn]?=some row/\row[i]?=some p/\ins[i]?=some kd/\In p q (.call l kid)/\k=nk l x/\pl=q++x/\(∃ u y,(q,u)∈(frS ins rows sn).pl []/\(x,y)∈u.pl [])
def Vt (ins:List (TY×Int)) (rows:List (List Th)) (j:Nat) (s:Nat) (pl:List Int) (t:Th) (m:TY):Prop:=t.FitS ins 0 0/\t.size<=4+3 * j/\pR ins rows (s:Nat) t pl m
def Vl0 (ins:List (TY×Int)) (rows:List (List Th)):VlT:=fun j k t1 t2=>∃ (s:Nat) (pl:List Int) (m1 m2:TY),k=nk (s:Nat) pl/\Met ins rows s pl/\m1≠m2/\Vt ins rows j s pl t1 m1/\Vt ins rows j s pl t2 m2
theorem uG {ins outs:List (TY×Int)} {rows:List (List Th)} (F:FrK ins outs rows) (go:bV outs) {s:Nat} {row:List Th} (xV:rows[s]?=some row) (i:Nat) (p:Th) (kd:TY×Int) (pl:List Int) (u:Th) (j:Nat) (hp:row[i]?=some p) (hk:ins[i]?=some kd) (hu:(pl,u)∈(frF (mkF ins rows) (mkF ins rows (s:Nat)) (row.take (i+1))).pl []) (hh:u.isHole=true) (hv:∀ v,(pl,v)∈(frF (mkF ins rows) (mkF ins rows (s:Nat)) (row.take i)).pl []->v.isHole=false) :
 Vl0 ins rows j (nk (s:Nat) pl) (aR ins) (.knot kd.1 (Vm kd.2.toNat (aR ins))):=by
 have hs:=(Te.mp xV).1;have g:=F.gi;have NM:=Tb hk;have By:=g.num kd NM;have zS:row.take (i+1)=row.take i++[p]:=by rw [UN,hp];rfl
 have ES:Met ins rows s pl:=.hol (x:=(pl,u)) (i:=i+1) xV (by have:=(Te.mp hp).1;omega) hu hh;rw [zS,kL,In.iff] at hu;obtain ⟨Qe,p0,KR,CP,CQ,_,_,f0⟩:=F.mkd (l:=(s:Nat)) (by omega) (by omega);have Ka:(mkF ins rows (s:Nat)).noCall:=by rw [CQ];exact gB _ _ (Td _) f0
 have hl:=(pe (mk:=mkF ins rows) (frF (mkF ins rows) (mkF ins rows (s:Nat)) (row.take i)) (row.take i) (mkF ins rows (s:Nat)) (my _ _ (Td _) (iB Ka _))).1;have Jp:=(F.fit.row row (Tb xV)).2 i p kd hp hk
 have GX:(p.fill fun l _=>mkF ins rows l).FitS outs (rows.length:Nat) 0:=mH (fun l k h0 h1=>by
  obtain ⟨_,p1,_,_,e,_,_,f1⟩:=F.mkd h0 h1;rw [e];exact f1) _ p (Td _) Jp
 obtain ⟨m1,m2,k1,k2,yk,i1,i2⟩:=qH go _ _ _ (mkF ins rows (s:Nat)) u pl (Td _) hu hh (fun v h=>hv v (In.iff.mpr h)) hl (iB Ka _) (by rw [CQ];exact f0) GX;refine ⟨s,pl,m1,m2,rfl,ES,yk,⟨jc g,by rw [io];omega,oE F (by omega) (by omega) i1⟩,⟨ph g NM (WB ..) fun u hu=>by rw [List.eq_of_mem_replicate hu];exact jc g,?_,?_⟩⟩
 · rw [Th.size]
   have:∀ n:Nat,aq (Vm n (aR ins))=n:=fun n=>by
    induction n with
    | zero=>rw [List.replicate_zero,aq]
    | succ n ih=>rw [List.replicate_succ,aq,ih,io];omega
   rw [this];omega
 · obtain ⟨n,hn⟩:=NmAt.fill (ins:=ins) (rows:=rows) (tm:=kd.1) (us:=Vm kd.2.toNat (aR ins)) (fun l k h0 h1 h2 h3=>⟨aR ins,by rw [List.getElem?_replicate,if_pos (by omega)],fun pl m ks hi=>oE F h0 h1 hi⟩) _ p pl m2 k2 (Td _) Jp i2;exact ⟨kd.1,_,row,i,kd,p,n,by omega,rfl,xV,hk,rfl,hp,hn⟩
theorem In.fit {ks:List (TY×Int)} {S C:Int} {p v:Th} {q:List Int} (h:In p q v):p.FitS ks S C->v.FitS ks S C:=by
 induction h with
 | here=>exact fun h=>h
 | kid h i ih=>exact fun hf=>ih (gr hf h)
theorem vQ {ins outs:List (TY×Int)} {rows:List (List Th)} (F:FrK ins outs rows) (i j:Nat) (k:aB) (t1 t2:Th) (s:Int) (pl:List Int) (kd:TY×Int) (kid:Int) (D8:i<j) (hv:Vl0 ins rows i k t1 t2) (hk:kd∈ins) (hL:Lk0 ins rows k s pl kd kid) :
 Vl0 ins rows j (nk s pl) (.knot kd.1 (bU ins kd.2.toNat kid t1)) (.knot kd.1 (bU ins kd.2.toNat kid t2)):=by
 obtain ⟨s',zB,m1,m2,e,ES,yk,v1,v2⟩:=hv;obtain ⟨sn,row,i',p,q,x,l,rfl,hr,hp,hi,Bh,e2,rfl,u0,y0,KS,Qf⟩:=hL;have e3:=e.symm.trans e2;obtain ⟨rfl,rfl⟩:=qo e3;have g:=F.gi;have By:=g.num kd hk;have Jp:=(F.fit.row row (Tb hr)).2 i' p kd hp hi;have hc:=Bh.fit Jp;rw [Th.FitS] at hc
 have one:∀ (t:Th) (m:TY),Vt ins rows i s' zB t m->Vt ins rows j sn (q++zB) (.knot kd.1 (bU ins kd.2.toNat kid t)) m:=fun t m ⟨a1,a2,a3⟩=>by
  refine ⟨ph g hk (iz ..) fun u hu=>?_,?_,?_⟩
  · rcases pG hu with rfl | rfl
    · exact a1
    · exact jc g
  · rw [Th.size];have:=ol (ins:=ins) (n:=kd.2.toNat) (by omega) (kid:=kid) (t:=t);omega
  · obtain ⟨n,hn⟩:=NmAt.goes (ins:=ins) (rows:=rows) (tm:=kd.1) Bh rfl hc.2.2.1 (qa (ins:=ins) (n:=kd.2.toNat) (t:=t) hc.2.2.1 (by omega)) a3;exact ⟨kd.1,_,row,i',kd,p,n,by omega,rfl,hr,hi,rfl,hp,hn⟩
 exact ⟨sn,q++zB,m1,m2,rfl,.lnk (c:=(q,((s':Nat):Int),kid)) (x:=(zB,y0)) hr (Tb hp) (ga.mpr (In.to Bh)) KS Qf (by rw [Uw];exact ES),yk,one t1 m1 v1,one t2 m2 v2⟩
theorem rc {f':List (aB×V)} (hn:(f'.map (·.1)).Nodup) {j:Nat} {p:aB×V} (h:f'[j]?=some p) {v:V} (hv:aV f' p.1=some v):v=p.2:=by
 obtain ⟨i,hi⟩:=TJ.mp (eS hv);have h1:(f'.map (·.1))[i]?=some p.1:=by rw [Tn,hi];rfl
 have h2:(f'.map (·.1))[j]?=some p.1:=by rw [Tn,h];rfl
 have D8:i=j:=(YU (by have:=(Te.mp h1).1;exact this) hn).mp (h1.trans h2.symm);subst D8;rw [h] at hi;have e:=TV hi;rw [e]
theorem tT {ins:List (TY×Int)} {rows:List (List Th)} {s:Nat} {row:List Th} (h:rows[s]?=some row):frS ins rows s=frF (mkF ins rows) (mkF ins rows (s:Nat)) row:=by
 unfold frS;rw [h];rfl
structure FrD (ins:List (TY×Int)) (rows:List (List Th)) (ks:List aB):Prop where
 hl:∀ (s i:Nat) (row:List Th),rows[s]?=some row->i<=row.length->∀ x∈(frF (mkF ins rows) (mkF ins rows (s:Nat)) (row.take i)).pl [],x.2.isHole=true->nk (s:Nat) x.1∈ks
 cl:∀ (s:Nat) (row:List Th),rows[s]?=some row->∀ p∈row,∀ c∈callsOf (p.pl []),∀ u,(c.1,u)∈(frS ins rows s).pl []->∀ x∈u.pl [],nk c.2.1 x.1∈ks->nk (s:Nat) (c.1++x.1)∈ks
theorem FrD.hol {ins:List (TY×Int)} {rows:List (List Th)} {ks:List aB} (h:FrD ins rows ks) (s:Nat) (hs:s<rows.length):∀ x∈(frS ins rows s).pl [],x.2.isHole=true->nk (s:Nat) x.1∈ks:=fun x hx hh=>by
 obtain ⟨row,hr⟩:∃ row,rows[s]?=some row:=⟨_,S9 hs⟩;rw [tT hr] at hx;exact h.hl s row.length row hr (Td _) x (by rw [VG];exact hx) hh
theorem FrD.met {ins outs:List (TY×Int)} {rows:List (List Th)} (F:FrK ins outs rows) {ks:List aB} (h:FrD ins rows ks) {s:Nat} {pl:List Int} (m:Met ins rows s pl):nk (s:Nat) pl∈ks:=by
 induction m with
 | hol hr hi hx hh=>exact h.hl _ _ _ hr hi _ hx hh
 | lnk hr hp hc hu hx m ih =>
   rename_i s row p u c x
   refine h.cl _ _ hr _ hp _ hc _ hu _ hx ?_;obtain ⟨j,hj⟩:=TJ.mp hp;have D9:=(F.fit.row row (Tb hr)).1;obtain ⟨k0,zC⟩:∃ k0,ins[j]?=some k0:=⟨_,S9 (by have:=(Te.mp hj).1;omega)⟩;have:=jp p [] ((F.fit.row row (Tb hr)).2 j p k0 hj zC) c hc;rw [Wj this.1] at ih;exact ih
def KeyM (ins:List (TY×Int)) (rows:List (List Th)) (f':List (aB×V)):Prop:=∀ (s:Nat) (pl:List Int),Dk f' (s:Nat) pl=true↔Met ins rows s pl
theorem uN {ins outs:List (TY×Int)} {rows:List (List Th)} (F:FrK ins outs rows) {f':List (aB×V)} (h:FrD ins rows (f'.map (·.1))) (hv:∀ p∈f',∃ j t1 t2,Vl0 ins rows j p.1 t1 t2):KeyM ins rows f':=fun s pl=>by
 constructor
 · intro hd;obtain ⟨p,hp,e⟩:=Um.mp (pN.mp hd);obtain ⟨j,t1,t2,s',zB,m1,m2,e2,hm,_⟩:=hv p hp;have e3:=e2.symm.trans e;obtain ⟨e4,rfl⟩:=qo e3;have:s'=s:=by omega
   subst this;exact hm
 · exact fun m=>pN.mpr (h.met F m)
theorem KeyM.eq {ins:List (TY×Int)} {rows:List (List Th)} {k1 k2:List (aB×V)} (h1:KeyM ins rows k1) (h2:KeyM ins rows k2) (s:Nat):Dk k1 (s:Nat)=Dk k2 (s:Nat):=funext fun pl=>by
 rw [Xa,h1,h2]
end BB
namespace L2
open PySem PySem.Spec PyProof.Rows
def t8 (K:S8) (a:Ta):It:=⟨fun i H=>∃ xs x,SqL K H a xs/\xs[i]?=some x,fun i H x H'=>∃ p y,H p=none/\x=.ref p/\H'=upd H p (.tup [.int (i:Nat),y])/\∀ xs,SqL K H a xs->xs[i]?=some y,fun i H=>∃ xs,SqL K H a xs/\xs.length=i⟩
theorem pZ {P:Tv} {w:TN} {K:S8} {elts:List UH} {k1} {pos:Xn} (a e it:Ta):Turn P w K (.Tuple elts k1 pos) (t8 K a) [e,it] e (fun i h=>(∃ old,IsEnum h e it ((i:Nat):Int) old)/\h.IsListIter it a i) where
 mem:=by simp
 obj:=fun i h st b hb=>by
  obtain ⟨⟨old,he⟩,o,e1,e2,e3⟩:=st;rcases TF.mp hb with rfl | hb
  · exact ⟨_,he,fun v z=>by cases z⟩
  · have:b=it:=by simpa using hb
    subst this;exact ⟨o,e1,fun v z=>by rw [e3] at z;cases z⟩
 keep:=fun i h h' st k=>by
  obtain ⟨⟨old,he⟩,o,e1,e2⟩:=st;exact ⟨⟨old,k e (by simp) _ he⟩,o,k it (by simp) _ e1,e2⟩
 item:=by
  intro X hP hw hK hc i pins s σ H E I hf st hg;subst hP hw hK;obtain ⟨xs,x,hq,hx⟩:=hg;obtain ⟨its,rv,p,hz⟩:=I.list hq;obtain ⟨u,hu,ru⟩:=rv.get hx;obtain ⟨⟨old,he⟩,hi⟩:=st
  have EC:e≠it:=by
   rintro rfl;obtain ⟨o,e1,e2,_⟩:=hi;rw [he] at e1;cases e1;exact absurd (Vg e2) (by decide)
  have ED:a≠it:=by
   rintro rfl;obtain ⟨o,e1,e2,_⟩:=hi;obtain ⟨o',Af,Ae,_⟩:=p.isList;rw [Af] at e1;cases e1;rw [Ae] at e2;exact absurd (Vg e2) (by decide)
  have Kl:a≠e:=by
   rintro rfl;obtain ⟨o',Af,Ae,_⟩:=p.isList;rw [he] at Af;cases Af;exact absurd (Vg Ae) (by decide)
  have yf:i<its.toArray.size:=by
   have:=(Te.mp hu).1;simpa using this
  have Km:e<s.heap.objs.size:=Tw he;have zx:it<s.heap.objs.size:=by obtain ⟨o,e1,_⟩:=hi;exact Tw e1
  refine wpAny_pyNext_enum_itemD (Draws.list (A:=X.A.in1) (show X.A.in1.handled=none from I.ok.hd hc) it a ED its.toArray) he ⟨hi,p.isList⟩ yf EC (by simp [EC,Kl.symm]) fun y h1 tk hy ho FF hT hsz hk=>?_
  have Kn:y=u:=by
   have:its[i]?=some y:=by simpa using hy
   rw [hu] at this;exact (TV this).symm
  subst Kn;refine ⟨_,rfl,wpAny_letOwnedTupleGo_enum ho fun h2 Ko Ca=>?_⟩;replace Ca:Vj e h1 h2:=Ca
  have yk:∀ b∈[e,it],b<s.heap.objs.size:=fun b hb=>by
   rcases TF.mp hb with rfl | hb
   · exact Km
   · have:b=it:=by simpa using hb
     subst this;exact zx
  have GB:H s.heap.objs.size=none:=I.hok.fresh (Td _)
  have IA:Inv X pins σ (upd H s.heap.objs.size (.tup [.int (i:Nat),x])) { s with heap:=s.heap.push { cls:=.type "tuple",data:=.seq #[.int (i:Nat) tk,y] },toks:=tk } :=
   I.laid (o:=.tup [.int (i:Nat),x]) (fun b ob q=>Tf _ q) (Td _) ⟨by show 2<=TB;decide,[.int (i:Nat) tk,y],0,.cons ⟨tk,rfl⟩ (.cons ru .nil),Tt _ rfl⟩
  refine ⟨.ref s.heap.objs.size,upd H s.heap.objs.size (.tup [.int (i:Nat),x]),?_,rfl,⟨_,x,GB,rfl,rfl,fun ys Gx=>by rw [I.list_inj Gx hq];exact hx⟩,⟨⟨y,by simpa using Ko⟩,?_⟩,fun b hb=>?_⟩
  · have IB:Inv X pins σ (upd H s.heap.objs.size (.tup [.int (i:Nat),x])) { s with heap:=h2,toks:=tk+1 }:=by
     refine Inv.turnedL (s:={ s with heap:=s.heap.push { cls:=.type "tuple",data:=.seq #[.int (i:Nat) tk,y] },toks:=tk }) (h':=h2) (fp:=[e,it]) (t':=tk+1) IA (fun b o hb q=>?_) fun b hb=>?_
     · have Bq:b≠e:=fun z=>hb (by simp [z]);have Kp:b≠it:=fun z=>hb (by simp [z]);rw [Ca.2 b Bq];by_cases yo:b=s.heap.objs.size
       · subst yo;rw [hT];have q':(s.heap.push { cls:=.type "tuple",data:=.seq #[.int (i:Nat) tk,y] }).get? s.heap.objs.size=some o:=q;rw [Tt _ rfl] at q';exact q'
       · have zy:b<(s.heap.push { cls:=.type "tuple",data:=.seq #[.int (i:Nat) tk,y] }).objs.size:=Tw q;rw [UK] at zy;refine hk b o Bq Kp ?_;have q':(s.heap.push { cls:=.type "tuple",data:=.seq #[.int (i:Nat) tk,y] }).get? b=some o:=q;rw [Heap.get?_push_ne _ _ _ yo] at q';exact q'
     · obtain ⟨f0,f1⟩:=hf b hb;exact ⟨by rw [ak (T9 (yk b hb))];exact f0,f1⟩
    exact IB
  · obtain ⟨o,e1,r⟩:=FF.1;exact ⟨o,(Ca.2 it (Vi EC)).trans e1,r⟩
  · rw [ak (T9 (yk b hb))];exact (hf b hb).1
 done:=by
  intro X hP hw hK hc i pins s σ H E I hf st hg;subst hP hw hK;obtain ⟨xs,hq,hx⟩:=hg;obtain ⟨its,rv,p,hz⟩:=I.list hq;obtain ⟨⟨old,he⟩,hi⟩:=st
  have ED:a≠it:=by
   rintro rfl;obtain ⟨o,e1,e2,_⟩:=hi;obtain ⟨o',Af,Ae,_⟩:=p.isList;rw [Af] at e1;cases e1;rw [Ae] at e2;exact absurd (Vg e2) (by decide)
  have hn:its.toArray.size=i:=by
   have:=rv.length;rw [Tq];omega
  refine wpAny_pyNext_enum_endD (Draws.list (A:=X.A.in1) (show X.A.in1.handled=none from I.ok.hd hc) it a ED its.toArray) he (by rw [hn];exact ⟨hi,p.isList⟩) fun h' eb=>⟨rfl,?_⟩;exact I.turnedL (fp:=[e,it]) (t':=s.toks) (fun b o hb q=>eb b o (fun z=>hb (by simp [z])) q) hf
 self:=fun _ _ _ _ _ st h=>by
  obtain ⟨⟨old,he⟩,_⟩:=st;exact Yc he h
section
variable {X:Cx} {e:UH} {te:TE} {p2 yt:Xn}
def vM (K:S8) (tl:TE):TI:=fun σ H R=>tl σ H fun x H1=>∃ a,x=.ref a/\(∃ xs,SqL K H1 a xs)/\R (t8 K a) H1
theorem kY {elts:List UH} {k1} {pos:Xn} (g2:Gl X "enumerate") (m2:X.mg "enumerate"=none) (he:PE X e te) (h2:Uu [e] X.env=[(false,VS e X.env)]:=by rfl):PI X (.Tuple elts k1 pos) (.Call (.Name "enumerate" p2) [e] [] yt) (vM X.K te):=by
 intro pins s σ H R I h;refine U5 (db I g2 m2 boot_enumerate (Ur ?_ h2 rfl));rw [h2];show Tx _ _ (spliced ((false,VS e X.env)::[])) _ _ s;refine U6 (thn (he pins s σ H _ I h) fun u s1 ⟨x,H1,I1,r1,a,ex,⟨xs,hq⟩,q⟩=>VD ?_);subst ex;cases r1;obtain ⟨its,rv,p,hz⟩:=I1.list hq;refine call_enumerate_list (show s1.heap.IsList a its.toArray from p.isList) fun h' g1 g2 g3 g4=>?_;refine Yc (s:={ s1 with heap:=h' }) g1 ?_;refine ⟨s1.heap.objs.size+1,[s1.heap.objs.size+1,s1.heap.objs.size],_,_,H1,rfl,I1.kept (t':=s1.toks) g4,pZ a _ _,⟨⟨_,g1⟩,g2⟩,fun b hb=>?_,q⟩
 have zz:s1.heap.objs.size<=b:=by
  rcases TF.mp hb with rfl | hb
  · omega
  · have:b=s1.heap.objs.size:=by simpa using hb
    exact YT this.symm
 exact I1.fpOk zz (I1.hok.fresh zz)
end
theorem mo {K:S8} {a:Ta} {xs:List V} {g:TG} {tb:TS} {D:Ends} {σ:St} {H:Hp} (Pv:Nat->St->Hp->Prop) (h0:Pv 0 σ H) (hl:∀ i σ H,i<=xs.length->Pv i σ H->SqL K H a xs)
 (hs:∀ i x p σ H,xs[i]?=some x->H p=none->Pv i σ H->g (.ref p) σ (upd H p (.tup [.int (i:Nat),x])) fun ym H2=>tb { D with nx:=Pv (i+1),ct:=Pv (i+1),bk:=D.nx } ym H2) (hd:∀ σ H,Pv xs.length σ H->D.nx σ H) :
 ∃ W:Nat->Nat->St->Hp->Prop,(∃ m,W 0 m σ H)/\∀ i m σ H,W i m σ H →
   ((t8 K a).stop i H/\D.nx σ H)∨((t8 K a).go i H/\∃ N:St->Hp->Prop,(∀ xS H',N xS H'->∃ m',m'<m/\W (i+1) m' xS H')/\∀ x H',(t8 K a).yld i H x H'->g x σ H' fun ym H2=>tb { D with nx:=N,ct:=N,bk:=D.nx } ym H2):=by
 refine ⟨fun i m σ H=>m=xs.length - i/\i<=xs.length/\Pv i σ H,⟨xs.length,by simp,TZ _,h0⟩,?_⟩;rintro i m σ H ⟨rfl,hi,p⟩;have q:=hl i σ H hi p;by_cases yf:i<xs.length
 · refine .inr ⟨⟨xs,xs[i],q,by simp [yf]⟩,Pv (i+1),fun xS H' p'=>⟨xs.length - (i+1),by omega,rfl,yf,p'⟩,fun x H' y=>?_⟩;obtain ⟨pa,y,hp,rfl,rfl,hy⟩:=y;exact hs i y pa σ H (hy xs q) hp p
 · have e:i=xs.length:=by omega
   subst e;exact .inl ⟨⟨xs,q,rfl⟩,hd σ H p⟩
end L2
namespace L2
open PySem PySem.Spec PySem.SeqAt PyProof.Rows BB
end L2
namespace LAW
open PySem L2 BB
def top (i:Nat):Vo:=PySem.Challenge.pw_boughbook_k58_partings_part.main.body.getD i (.Pass ⟨0,0,0,0⟩)
theorem scm {N P:List TY} {sc:Xm} (a:sc.kind=.function:=by rfl) (b:sc.isCoroutine=false:=by rfl) (c:sc.isGenerator=false:=by rfl) (d:N.Nodup:=by decide +kernel) (e:N.take P.length=P:=by rfl) (f:∀ x∈P,sc.names.lookup x=some .local∨sc.names.lookup x=some .cell:=by decide +kernel) (g:∀ y∈sc.names,y.2≠.free:=by decide +kernel):aA N P sc:=⟨a,b,c,d,e,f,g⟩
abbrev jj:Vo:=top 3
theorem qb:aA ["thing"] ["thing"] (am jj):=scm
abbrev kJ:Vo:=top 4
theorem gD:aA ["thing","met","ahead","part"] ["thing"] (am kJ):=scm
abbrev lr:Vo:=top 5
theorem dw:aA ["thing","met","ahead","place","part","kids"] ["thing"] (am lr):=scm
abbrev m9:Vo:=top 6
theorem jb:aA ["tops","done","top","many"] ["tops"] (am m9):=scm
abbrev kH:Vo:=top 7
theorem sd:aA ["tree"] ["tree"] (am kH):=scm
abbrev jg:Vo:=top 10
theorem qe:aA ["thing"] ["thing"] (am jg):=scm
abbrev jm:Vo:=top 11
theorem qf:aA ["thing"] ["thing"] (am jm):=scm
abbrev jd:Vo:=top 12
theorem qu:aA ["thing"] ["thing"] (am jd):=scm
abbrev gy:Vo:=top 13
theorem mW:aA ["call"] ["call"] (am gy):=scm
abbrev iD:Vo:=top 14
theorem oA:aA ["pattern"] ["pattern"] (am iD):=scm
abbrev iF:Vo:=top 15
theorem pD:aA ["front"] ["front"] (am iF):=scm
abbrev kM:Vo:=top 16
theorem l4:aA ["part","many"] ["part"] (am kM):=scm
abbrev lc:Vo:=top 17
theorem jr:aA ["pattern","table","tops","part"] ["pattern","table"] (am lc):=scm
abbrev iG:Vo:=top 18
theorem oh:aA ["one","two"] ["one","two"] (am iG):=scm
abbrev dP:Vo:=top 19
theorem ce:aA ["one","two","met","ahead","left","right"] ["one","two"] (am dP):=scm
abbrev kT:Vo:=top 20
theorem gJ:aA ["one","two","tops","left","right"] ["one","two"] (am kT):=scm
abbrev lm:Vo:=top 22
theorem r9:aA ["book"] ["book"] (am lm):=scm
abbrev iw:Vo:=top 23
theorem nX:aA ["book"] ["book"] (am iw):=scm
abbrev gd:Vo:=top 24
theorem nE:aA ["book"] ["book"] (am gd):=scm
abbrev fF:Vo:=top 26
theorem lY:aA ["ins"] ["ins"] (am fF):=scm
abbrev fB:Vo:=top 27
theorem eJ:aA ["ins","kind","kids","name","many"] ["ins","kind","kids"] (am fB):=scm
abbrev di:Vo:=top 28
theorem bn:aA ["book","names","at","made","state","patterns","kid"] ["book"] (am di):=scm
abbrev eE:Vo:=top 29
theorem bI:aA ["book","state","made","partings","ins","front","kind","pattern","place"] ["book","state","made","partings"] (am eE):=scm
abbrev fY:Vo:=top 30
theorem bQ:aA ["book","state","front","links","parts","kind","pattern","place","lower","kid","inner"] ["book","state","front","links"] (am fY):=scm
abbrev ky:Vo:=top 31
theorem cg:aA ["ins","links","partings","holes","at","one","two","state","place","kind","kid"] ["ins","links","partings"] (am ky):=scm
abbrev gz:Vo:=top 32
theorem cx:aA ["front","state","partings","tops","ahead","place","part","kids"] ["front","state","partings"] (am gz):=scm
abbrev dz:Vo:=top 33
theorem bz:aA ["book","made","partings","firsts","links","state","front"] ["book"] (am dz):=scm
abbrev fX:Vo:=top 34
theorem fG:aA ["book","fronts","partings"] ["book"] (am fX):=scm
abbrev eN:Vo:=top 35
theorem bX:aA ["book","fronts","partings","told","state","front"] ["book"] (am eN):=scm
abbrev gv:Vo:=top 37
theorem m7:aA ["script","k"] ["script","k"] (am gv):=scm
abbrev eC:Vo:=top 38
theorem dI:aA ["cells","many","found","k"] ["cells","many"] (am eC):=scm
abbrev fj:Vo:=top 39
theorem bc:aA ["cell","every","step","at","word","k","names","turn"] ["cell"] (am fj):=scm
abbrev fC:Vo:=top 40
theorem bp:aA ["cell","names","many","leaf","rest","kinds","k","count"] ["cell","names"] (am fC):=scm
abbrev fx:Vo:=top 41
theorem bo:aA ["left","outs","states","kids","digit","state","kid","fit","kind","made","k"] ["left","outs","states","kids"] (am fx):=scm
abbrev eF:Vo:=top 42
theorem cH:aA ["thing","found","k"] ["thing"] (am eF):=scm
abbrev ik:Vo:=top 43
theorem jC:aA ["thing","place","other","k"] ["thing","place","other"] (am ik):=scm
abbrev fh:Vo:=top 44
theorem eM:aA ["cell","k","number"] ["cell","k"] (am fh):=scm
abbrev gA:Vo:=top 45
theorem bf:aA ["cells","ins","outs","states","rows","state","own","base","spots","row","k","number","place","part"] ["cells","ins","outs","states"] (am gA):=scm
abbrev gC:Vo:=top 46
theorem i6:aA ["cells","ins","outs","states","head"] ["cells","ins","outs","states"] (am gC):=scm
abbrev ft:Vo:=top 47
theorem cA:aA ["script","most","ins","outs","states","cells"] ["script","most"] (am ft):=scm
abbrev dR:Vo:=top 48
theorem bg:aA ["book","state","tree","place","names","thing","at"] ["book","state","tree","place"] (am dR):=scm
abbrev dN:Vo:=top 49
theorem bK:aA ["ins","tree","most","waiting","many","knot","deep"] ["ins","tree","most"] (am dN):=scm
abbrev dj:Vo:=top 50
theorem jy:aA ["outs","front"] ["outs","front"] (am dj):=scm
abbrev fA:Vo:=top 51
theorem df:aA ["front","found","k"] ["front"] (am fA):=scm
abbrev cp:Vo:=top 52
theorem fQ:aA ["book","fronts"] ["book","fronts"] (am cp):=scm
abbrev cy:Vo:=top 53
theorem cu:aA ["book","fronts","pairs","state","pair"] ["book","fronts","pairs"] (am cy):=scm
abbrev cI:Vo:=top 54
theorem bm:aA ["book","fronts","pairs","state","spots","k","one","two"] ["book","fronts","pairs"] (am cI):=scm
abbrev i3:Vo:=top 55
theorem mU:aA ["script","book","fronts","pairs"] ["script"] (am i3):=scm
structure FX (K:S8) (mg:TY->Option Tc) (n:TY) (s:Vo) (ps:List TY) where
 f:Ta
 d:WK
 F:Fun K n n s f d
 b:Binds K d ps []
 m:mg n=some (.ref f)
section
open PySem.W
variable {K:Frag} {mg:TY->Option Tc} {h:UM} {n:TY} {st:Vo} {f:Ta} {oc kV dc pm cd ct:Tc} {od an:Option Ta} {sl:Array (Option Tc)} (X:K.In h) (G:h.Ns Ue mg)
noncomputable def fx1 {p0:TY} (a:nsIn K Ue n=some (some (.ref f)):=by k_is) (l:K.lookup f=some ⟨oc,od,.func (fnOf n n (cn st) (b8 st) (am st) .none kV dc pm an cd ct),sl⟩:=by k_is) (c:codeIn K cd n=true:=by k_is) (k:keepIn K (.ref f)=true:=by k_is) (hb:∀ (kV dc pm:Tc) (an:Option Ta) (cd ct u0:Tc),bindArgs (fnOf n n (cn st) (b8 st) (am st) .none kV dc pm an cd ct) ⟨[u0],[]⟩=pure [(p0,u0)]:=by intros;rfl):FX K mg n st [p0] :=
 ⟨f,_,fu l c k,(fu l c k).binds fun a b c d e f us hl=>by obtain ⟨u0,rfl⟩:=us1 hl;exact hb a b c d e f u0,mg_of X G a⟩
noncomputable def fx2 {p0 p1:TY} (a:nsIn K Ue n=some (some (.ref f)):=by k_is) (l:K.lookup f=some ⟨oc,od,.func (fnOf n n (cn st) (b8 st) (am st) .none kV dc pm an cd ct),sl⟩:=by k_is) (c:codeIn K cd n=true:=by k_is) (k:keepIn K (.ref f)=true:=by k_is) (hb:∀ (kV dc pm:Tc) (an:Option Ta) (cd ct u0 u1:Tc),bindArgs (fnOf n n (cn st) (b8 st) (am st) .none kV dc pm an cd ct) ⟨[u0,u1],[]⟩=pure [(p0,u0),(p1,u1)]:=by intros;rfl):FX K mg n st [p0,p1] :=
 ⟨f,_,fu l c k,(fu l c k).binds fun a b c d e f us hl=>by obtain ⟨u0,u1,rfl⟩:=us2 hl;exact hb a b c d e f u0 u1,mg_of X G a⟩
noncomputable def fx3 {p0 p1 p2:TY} (a:nsIn K Ue n=some (some (.ref f)):=by k_is) (l:K.lookup f=some ⟨oc,od,.func (fnOf n n (cn st) (b8 st) (am st) .none kV dc pm an cd ct),sl⟩:=by k_is) (c:codeIn K cd n=true:=by k_is) (k:keepIn K (.ref f)=true:=by k_is) (hb:∀ (kV dc pm:Tc) (an:Option Ta) (cd ct u0 u1 u2:Tc),bindArgs (fnOf n n (cn st) (b8 st) (am st) .none kV dc pm an cd ct) ⟨[u0,u1,u2],[]⟩=pure [(p0,u0),(p1,u1),(p2,u2)]:=by intros;rfl):FX K mg n st [p0,p1,p2] :=
 ⟨f,_,fu l c k,(fu l c k).binds fun a b c d e f us hl=>by obtain ⟨u0,u1,u2,rfl⟩:=us3 hl;exact hb a b c d e f u0 u1 u2,mg_of X G a⟩
noncomputable def fx4 {p0 p1 p2 p3:TY} (a:nsIn K Ue n=some (some (.ref f)):=by k_is) (l:K.lookup f=some ⟨oc,od,.func (fnOf n n (cn st) (b8 st) (am st) .none kV dc pm an cd ct),sl⟩:=by k_is) (c:codeIn K cd n=true:=by k_is) (k:keepIn K (.ref f)=true:=by k_is) (hb:∀ (kV dc pm:Tc) (an:Option Ta) (cd ct u0 u1 u2 u3:Tc),bindArgs (fnOf n n (cn st) (b8 st) (am st) .none kV dc pm an cd ct) ⟨[u0,u1,u2,u3],[]⟩=pure [(p0,u0),(p1,u1),(p2,u2),(p3,u3)]:=by intros;rfl):FX K mg n st [p0,p1,p2,p3] :=
 ⟨f,_,fu l c k,(fu l c k).binds fun a b c d e f us hl=>by obtain ⟨u0,u1,u2,u3,rfl⟩:=us4 hl;exact hb a b c d e f u0 u1 u2 u3,mg_of X G a⟩
end
theorem pcF {X:Cx} {kk k:Nat} {sp:Sp} {n:TY} {st:Vo} {ps:List TY} {e:UH} {es:List UH} {t:TA} {p pos:Xn} (g:FX X.K X.mg n st ps) (F:bi X.prog X.w X.K X.mg X.base CX0 k g.f g.d ps sp) (hr:Room kk X.A) (ha:PA X (e::es) t) (hle:k<=kk:=by first | decide | omega) (hg:Gl X n:=by rfl) (Ey:(n == ("__debug__":TY))=false:=by decide) (he:Uu (e::es) X.env=(false,VS e X.env)::Uu es X.env:=by rfl) (yV:(Xv pos (Uu es X.env)).any (·.1)=false:=by rfl):PE X (.Call (.Name n p) (e::es) [] pos) (g9 sp [] E0 t) :=
 gH F (hr.mono hle) hg g.m g.F.kp g.b .nil mj ha Ey he yV
structure TX (K:S8) (mg:TY->Option Tc) where
 c_CALL_SIGN:∃ tk,mg "CALL_SIGN"=some (.str (Ti "?") tk)
 c_MOST_KIDS:∃ tk,mg "MOST_KIDS"=some (.int (3) tk)
 a_HOLE:Ta
 c_HOLE:mg "HOLE"=some (.ref a_HOLE)
 q_HOLE:∀ H:Hp,SqT K H a_HOLE [.str (Ti "*")]
 g_kids_of:FX K mg "kids_of" jj ["thing"]
 g_walked:FX K mg "walked" kJ ["thing"]
 g_placed:FX K mg "placed" lr ["thing"]
 g_built:FX K mg "built" m9 ["tops"]
 g_places:FX K mg "places" kH ["tree"]
 g_is_call:FX K mg "is_call" jg ["thing"]
 g_is_hole:FX K mg "is_hole" jm ["thing"]
 g_is_knot:FX K mg "is_knot" jd ["thing"]
 g_called_by:FX K mg "called_by" gy ["call"]
 g_calls_in:FX K mg "calls_in" iD ["pattern"]
 g_holes_in:FX K mg "holes_in" iF ["front"]
 g_top_of:FX K mg "top_of" kM ["part"]
 g_filled:FX K mg "filled" lc ["pattern","table"]
 g_same_top:FX K mg "same_top" iG ["one","two"]
 g_side_by_side:FX K mg "side_by_side" dP ["one","two"]
 g_common:FX K mg "common" kT ["one","two"]
 g_ins_of:FX K mg "ins_of" lm ["book"]
 g_rules_of:FX K mg "rules_of" iw ["book"]
 g_states_of:FX K mg "states_of" gd ["book"]
 g_small_tree:FX K mg "small_tree" fF ["ins"]
 g_knot_above:FX K mg "knot_above" fB ["ins","kind","kids"]
 g_first_makings:FX K mg "first_makings" di ["book"]
 g_first_front:FX K mg "first_front" eE ["book","state","made","partings"]
 g_put_links:FX K mg "put_links" fY ["book","state","front","links"]
 g_spread:FX K mg "spread" ky ["ins","links","partings"]
 g_cut_front:FX K mg "cut_front" gz ["front","state","partings"]
 g_found_fronts:FX K mg "found_fronts" dz ["book"]
 g_fronts_of:FX K mg "fronts_of" fX ["book"]
 g_partings_of:FX K mg "partings_of" eN ["book"]
 g__law_cell:FX K mg "_law_cell" gv ["script","k"]
 g__law_folded:FX K mg "_law_folded" eC ["cells","many"]
 g__law_names:FX K mg "_law_names" fj ["cell"]
 g__law_kinds:FX K mg "_law_kinds" fC ["cell","names"]
 g__law_thing:FX K mg "_law_thing" fx ["left","outs","states","kids"]
 g__law_places:FX K mg "_law_places" eF ["thing"]
 g__law_put:FX K mg "_law_put" ik ["thing","place","other"]
 g__law_mixed:FX K mg "_law_mixed" fh ["cell","k"]
 g__law_rows:FX K mg "_law_rows" gA ["cells","ins","outs","states"]
 g__law_book:FX K mg "_law_book" gC ["cells","ins","outs","states"]
 g__law_drawn:FX K mg "_law_drawn" ft ["script","most"]
 g__law_name_at:FX K mg "_law_name_at" dR ["book","state","tree","place"]
 g__law_is_tree:FX K mg "_law_is_tree" dN ["ins","tree","most"]
 g__law_is_front:FX K mg "_law_is_front" dj ["outs","front"]
 g__law_holes:FX K mg "_law_holes" fA ["front"]
 g__law_fronts_formed:FX K mg "_law_fronts_formed" cp ["book","fronts"]
 g__law_pairs_formed:FX K mg "_law_pairs_formed" cy ["book","fronts","pairs"]
 g__law_pairs_part:FX K mg "_law_pairs_part" cI ["book","fronts","pairs"]
 g_law:FX K mg "law" i3 ["script"]
 n_all:mg "all"=none
 n_dict:mg "dict"=none
 n_enumerate:mg "enumerate"=none
 n_isinstance:mg "isinstance"=none
 n_len:mg "len"=none
 n_list:mg "list"=none
 n_range:mg "range"=none
 n_reversed:mg "reversed"=none
 n_str:mg "str"=none
 n_tuple:mg "tuple"=none
 n_zip:mg "zip"=none
theorem uU:([Ti "number",Ti "kid",Ti "place"]:List TY).Nodup:=by decide +kernel
theorem xj:([Ti "number",Ti "done"]:List TY).Nodup:=by decide +kernel
theorem wP:([Ti "place",Ti "knot"]:List TY).Nodup:=by decide +kernel
theorem uA:([Ti "place",Ti "part"]:List TY).Nodup:=by decide +kernel
theorem uR:([Ti "name",Ti "many"]:List TY).Nodup:=by decide +kernel
theorem xN:([Ti "kid",Ti "kids",Ti "ins"]:List TY).Nodup:=by decide +kernel
theorem xC:([Ti "state",Ti "book",Ti "made",Ti "partings"]:List TY).Nodup:=by decide +kernel
theorem wR:([Ti "state",Ti "front",Ti "partings"]:List TY).Nodup:=by decide +kernel
theorem xH:([Ti "k",Ti "cells"]:List TY).Nodup:=by decide +kernel
theorem xp:([Ti "kind",Ti "left"]:List TY).Nodup:=by decide +kernel
theorem vC:([Ti "place",Ti "k"]:List TY).Nodup:=by decide +kernel
theorem wv:([Ti "place",Ti "partings",Ti "state"]:List TY).Nodup:=by decide +kernel
theorem wU:([Ti "part",Ti "outs"]:List TY).Nodup:=by decide +kernel
theorem wK:([Ti "front",Ti "book"]:List TY).Nodup:=by decide +kernel
theorem wO:([Ti "kind"]:List TY).Nodup:=by decide +kernel
theorem wW:([Ti "kid",Ti "deep"]:List TY).Nodup:=by decide +kernel
section
variable {P:Tv} {w:TN} {K:S8} {mg:TY->Option Tc} {base:UM} (T:TX K mg)
inductive jM (K:S8) (vs:List V) (H:Hp) (Q:VK) (_E:XK):Prop
 | mk (a:Ta) (t:Th) (yd:vs=[.ref a]) (ye:AtK K H t a) (yj:∀ (r:Ta) (as:List Ta) (H':Hp),L2.Same H H'->H' r=some (.tup (as.map V.ref))->AtsK K H' t.kids as->Q (.ref r) H'):jM K vs H Q _E
def qq (K:S8):Sp:=jM K
theorem iC:bi P w K mg base CX0 1 T.g_kids_of.f T.g_kids_of.d ["thing"] (qq K):=by
 refine T.g_kids_of.F.ok qb (fun vs H Q E h=>?_) (fun yb A outer s H vs Q E hr h=>?_)
 · obtain ⟨a,t,rfl,_⟩:=h;rfl
 obtain ⟨a,t,rfl,hA,k⟩:=h
 refine ⟨_,(ae (bE (aK cM (az aD (pv 0) af (fun _ _=>rfl)) (gN (v:=.str (Ti "?")) rfl T.c_CALL_SIGN.choose_spec ⟨_,rfl⟩) (aO _)) (ag (aC (aJ ac))) bj)
  (ag (aC (bq eO (pv 0) (bB af) bS)))),?_⟩
 try dsimp only [yv,xW]
 cases t with
 | knot n ks =>
   rw [AtK] at hA;refine hid fun ZZ kZ=>?_;obtain ⟨hn,as,h1,h2⟩:=hA;refine kZ ?_;refine ⟨_,rfl,a,_,0,.str n,rfl,rfl,h1.sq,at0,rfl,_,rfl,?_⟩;refine cQ (fun c=>absurd (of_decide_eq_true c) (fun z=>hn (V.str.inj z))) (fun _=>?_);refine ⟨_,rfl,1,rfl,a,_,rfl,h1.sq,?_,fun r hr=>?_⟩
   · intro z;have:=z.1;simp [HT.sIx] at this
   · rw [dA];exact k r as _ (ad hr _) ab (h2.mono (dM hr))
 | call sn kn =>
   rw [AtK] at hA;refine ⟨_,rfl,a,_,0,.str q,rfl,rfl,hA.sq,at0,rfl,_,rfl,?_⟩;refine cQ (fun _=>?_) (fun c=>absurd (decide_eq_true rfl) c);refine ⟨by show 0<=TB;decide,fun r hr=>?_⟩;exact k r [] _ (ad hr _) ab .nil
inductive kE (K:S8) (vs:List V) (H:Hp) (Q:VK) (_E:XK):Prop
 | mk (a:Ta) (t:Th) (yd:vs=[.ref a]) (ye:AtK K H t a) (yj:t.size<=100000) (yq:∀ (r:Ta) (as:List Ta) (H':Hp),L2.Same H H'->H r=none->H' r=some (.lst (as.map V.ref))->AtsK K H' t.walk as->Q (.ref r) H'):kE K vs H Q _E
def rN (K:S8):Sp:=kE K
theorem sy:bi P w K mg base CX0 2 T.g_walked.f T.g_walked.d ["thing"] (rN K):=by
 refine T.g_walked.F.ok gD (fun vs H Q E h=>?_) (fun yb A outer s H vs Q E hr h=>?_)
 · obtain ⟨a,t,rfl,_⟩:=h;rfl
 obtain ⟨a,t,rfl,hA,hsz,k⟩:=h
 refine ⟨_,(ae (av (i:=1) gD.nd rfl (Tz rfl) (bw ac))
  (ae (av (i:=2) gD.nd rfl (Tz rfl) (bw (aa (pv 0) ac)))
  (ae (dF T2 (aY (pv 2) (fun _=>rfl)) (ae (av (i:=3) gD.nd rfl (Tz rfl) (ju Tr V2 V1 jl (pv 2)))
  (ae (aP (bJ Tr TM TL aN (pv 1) (aa (pv 3) ac)))
  (ag (aP (bJ Tr Wh Wg pQ (pv 2) (aa (qy vO (pcF T.g_kids_of (iC T) hr (aa (pv 3) ac))) ac)))))))
  (ag (aC (pv 1)))))),?_⟩
 try dsimp only [yv,xW]
 refine ⟨by show 0<=TB;decide,fun mt Ah=>?_⟩;refine ⟨_,rfl,by show 1<=TB;decide,fun ah Aa=>?_⟩;have zN:H ah=none:=(ad Ah _).free Aa;have yk:ah≠mt:=fun z=>by rw [z,ab] at Aa;cases Aa
 refine ⟨fun m σ H2=>Ex5 fun (ms as:List Ta) (Ms As:List Th) (p:Option V)=>An8 (σ=[some (.ref a),some (.ref mt),some (.ref ah),p]) (L2.Same H H2) (H2 mt=some (.lst (ms.map V.ref))) (H2 ah=some (.lst (as.map V.ref))) (AtsK K H2 Ms ms) (AtsK K H2 As as) (Ms++walks As.reverse=t.walk) (m=aq As),⟨_,[],[a],[],[t],none,rfl,?_,?_,?_,.nil,.cons (hA.mono ?_) .nil,?_,rfl⟩,?_⟩
 · exact aw (ad Ah _) zN
 · rw [ak yk.symm,ab];rfl
 · rw [ab];rfl
 · exact Same.kt (aw (ad Ah _) zN)
 · simp [walks]
 rintro m σ H2 ⟨ms,as,Ms,As,p,rfl,sm,e1,e2,a1,a2,hw,rfl⟩
 have hlen:ms.length+aq As<=100000:=by
  have h1:=congrArg Wf hw;rw [TC,jn,Th.walk_len,<- a1.length] at h1;have h2:=mM As;omega
 refine ⟨_,rfl,_,.inl ⟨_,SqL.of e2,rfl⟩,?_⟩;refine cQ (fun c=>?_) (fun c=>?_)
 · -- a part is taken off
   refine ⟨fun xS H'=>∃ m',m'<aq As/\Ex5 fun (ms as:List Ta) (Ms As:List Th) (p:Option V)=>An8 (xS=[some (.ref a),some (.ref mt),some (.ref ah),p]) (L2.Same H H') (H' mt=some (.lst (ms.map V.ref))) (H' ah=some (.lst (as.map V.ref))) (AtsK K H' Ms ms) (AtsK K H' As as) (Ms++walks As.reverse=t.walk) (m'=aq As),fun xS H' h=>h,?_⟩;have yZ:as≠[]:=by intro z;subst z;simp at c
   obtain ⟨yg,b,rfl⟩:∃ yg b,as=yg++[b]:=⟨as.dropLast,as.getLast yZ,(Vp yZ).symm⟩;obtain ⟨Us,x,rfl,a3,a4⟩:=a2.snoc_inv;have hs:aq (Us++[x])=aq Us+x.size:=by rw [bd,aq,aq];omega
   have GY:=x.size_eq;rw [hs] at hlen;refine ⟨_,rfl,.inl ⟨rfl,_,SqL.of e2⟩,ah,_,.ref b,rfl,rfl,e2,by simp,?_⟩;have d1:((yg++[b]).map V.ref).dropLast=yg.map V.ref:=by simp
   rw [d1];refine ⟨_,rfl,.inl ⟨rfl,_,SqL.of (by rw [ak yk.symm];exact e1)⟩,_,rfl,mt,_,.ref b,rfl,rfl,by rw [ak yk.symm];exact e1,aH (by rw [S6];omega),?_⟩;have k1:KT H2 (upd (upd H2 ah (.lst (yg.map V.ref))) mt (.lst (ms.map V.ref++[.ref b]))):=(aT e2).trans (aT (xs:=ms.map V.ref) (by rw [ak yk.symm];exact e1));refine ⟨_,rfl,.inl ⟨rfl,_,SqL.of (by rw [ak yk,ab])⟩,_,rfl,b,x,rfl,a4.mono k1,fun r ks H3 s3 e3 a5=>?_⟩;refine ⟨r,_,rfl,SqT.of e3,fun l hl=>?_⟩;have l1:l≠ah:=fun z=>by rw [z,s3 ah _ (by rw [ak yk,ab])] at hl;cases hl
   have l2:l≠mt:=fun z=>by rw [z,s3 mt _ ab] at hl;cases hl
   refine ⟨ah,l,_,_,rfl,rfl,by rw [ak l1.symm];exact s3 ah _ (by rw [ak yk,ab]),SqT.of ab,WT (aH ?_),?_⟩
   · have q1:=a3.length;have q2:=a5.length;have q3:=bL Us;have q4:=bL x.kids;rw [S6,UP,S6];omega
   · have k2:KT H2 (upd (upd H3 l (.tup (ks.map V.ref).reverse)) ah (.lst (yg.map V.ref++(ks.map V.ref).reverse))) :=
      k1.trans ((Same.kt s3).trans ((dM hl).trans (aT (xs:=yg.map V.ref) (by rw [ak l1.symm];exact s3 ah _ (by rw [ak yk,ab])))))
     have k3:KT H3 (upd (upd H3 l (.tup (ks.map V.ref).reverse)) ah (.lst (yg.map V.ref++(ks.map V.ref).reverse))) :=
      (dM hl).trans (aT (xs:=yg.map V.ref) (by rw [ak l1.symm];exact s3 ah _ (by rw [ak yk,ab])))
     refine ⟨aq (Us++x.kids.reverse),?_,ms++[b],yg++ks.reverse,Ms++[x],Us++x.kids.reverse,some (.ref b),rfl,?_,?_,?_,?_,?_,?_,rfl⟩
     · rw [bd,mM,hs];omega
     · have s4:L2.Same H (upd (upd H2 ah (.lst (yg.map V.ref))) mt (.lst (ms.map V.ref++[.ref b]))):=aw (aw sm zN) Ah;have nl:H l=none:=s4.free (s3.free hl);exact aw (aw (s4.trans s3) nl) zN
     · rw [ak yk.symm,ak l2.symm,s3 mt _ ab,Tu];rfl
     · rw [ab,Tu,X7]
     · exact (a1.mono k2).append (.cons (a4.mono k2) .nil)
     · exact (a3.mono k2).append (a5.mono k3).reverse
     · rw [<- hw,UB,UY,UY,Vq,iQ];show Ms++([x]++(walks x.kids++walks Us.reverse))=Ms++walks (x::Us.reverse);rw [walks,x.walk_eq];rfl
 · have hz:as=[]:=by
    cases as with
    | nil=>rfl
    | cons y ys=>simp at c
   subst hz;have CS:As=[]:=UZ.mp a2.length.symm;subst CS;refine ⟨_,rfl,k mt ms H2 sm Ah e1 ?_⟩;have ET:Ms=t.walk:=by simpa [walks] using hw
   rw [<- ET];exact a1
inductive lz (K:S8) (vs:List V) (H:Hp) (Q:VK) (_E:XK):Prop
 | mk (a:Ta) (t:Th) (yd:vs=[.ref a]) (ye:AtK K H t a) (yj:t.size<=100000) (yq:t.tall<=100000) (yC:∀ (r:Ta) (as:List Ta) (H':Hp),L2.Same H H'->H r=none->H' r=some (.lst (as.map V.ref))->PsAtK K H' (t.pl []) as->Q (.ref r) H'):lz K vs H Q _E
def rW (K:S8):Sp:=lz K
theorem gM:bi P w K mg base CX0 2 T.g_placed.f T.g_placed.d ["thing"] (rW K):=by
 refine T.g_placed.F.ok dw (fun vs H Q E h=>?_) (fun yb A outer s H vs Q E hr h=>?_)
 · obtain ⟨a,t,rfl,_⟩:=h;rfl
 obtain ⟨a,t,rfl,hA,hsz,yy,k⟩:=h
 refine ⟨_,(ae (av (i:=1) dw.nd rfl (Tz rfl) (bw ac))
  (ae (av (i:=2) dw.nd rfl (Tz rfl) (bw (aa (aJ (aa (aJ ac) (aa (pv 0) ac))) ac)))
  (ae (dF T2 (aY (pv 2) (fun _=>rfl)) (ae (cK (ju Tr V2 V1 jl (pv 2)) (bu rfl (au (aj (i:=3) dw.nd rfl (XE rfl)) (au (aj (i:=4) dw.nd rfl (Tz rfl)) aX))))
  (ae (aP (bJ Tr TM TL aN (pv 1) (aa (aJ (aa (pv 3) (aa (pv 4) ac))) ac)))
  (ae (fo (i:=5) (N:=[Ti "number",Ti "kid",Ti "place"]) (js:=[none,none,some 3]) (g:=(lX K 2 (cT (aF 0) (cT (aF 1) lR)))) (tt:=bP) (te:=(jS (bA (tOp (kb K) (bC 2) (jS (bA (bC 0) dU))) (bA (bC 1) dU)))) dw.nd rfl (Tz rfl) rfl (cG rfl (by decide +kernel) (by decide +kernel) rfl rfl rfl) (nK rfl T.n_enumerate (pcF T.g_kids_of (iC T) hr (aa (pv 4) ac))) (fun _ _ _ _ _ _=>(bu rfl (au (aj (i:=0) uU rfl (Tz rfl)) (au (aj (i:=1) uU rfl (Tz rfl)) aX)))) (gf (bR aW (aS rfl) (bR aW (aS rfl) f7))) (fun _ _ _ _ _ _=>bT) (fun _ _ _ _ _ _=>(aJ (aa (ax de (pv 2) (aJ (aa (pv 0) ac))) (aa (pv 1) ac)))))
  (ag (aP (bJ Tr Wh Wg gE (pv 2) (aa (qy ut (pv 5)) ac))))))))
  (ag (aC (pv 1)))))),?_⟩
 try dsimp only [yv,xW]
 refine ⟨ai (by show 0<=1000000;decide),fun mt Ah=>?_⟩;have s1:L2.Same H (upd H mt (.lst [])):=ad Ah _;have EU:(upd H mt (.lst [])) mt=some (.lst []):=ab;generalize upd H mt (.lst [])=H1 at s1 EU ⊢;refine ⟨ai (by show 0<=1000000;decide),fun p0 CP=>?_⟩;refine ⟨_,rfl,ai (by show 2<=1000000;decide),fun p1 zW=>?_⟩;refine ⟨ai (by show 1<=1000000;decide),fun ah Aa=>?_⟩;have s2:L2.Same H1 (upd (upd H1 p0 (.tup [])) p1 (.tup [.ref p0,.ref a])):=(ad CP _).trans (ad zW _);have e1:(upd (upd H1 p0 (.tup [])) p1 (.tup [.ref p0,.ref a])) p1=some (.tup [.ref p0,.ref a]):=ab;have e0:(upd (upd H1 p0 (.tup [])) p1 (.tup [.ref p0,.ref a])) p0=some (.tup []):=ad zW _ _ _ ab;generalize (upd (upd H1 p0 (.tup [])) p1 (.tup [.ref p0,.ref a]))=H2 at s2 e1 e0 Aa ⊢;have AW:H1 ah=none:=s2.free Aa;have zN:H ah=none:=s1.free AW;have yk:ah≠mt:=fun z=>by rw [z,EU] at AW;cases AW
 refine ⟨fun m σ H3=>Ex7 fun (ms as:List Ta) (Ms As:List (List Int×Th)) (c3 c4 c5:Option V)=>An9 (σ=[some (.ref a),some (.ref mt),some (.ref ah),c3,c4,c5]) (L2.Same H H3) (H3 mt=some (.lst (ms.map V.ref))) (H3 ah=some (.lst (as.map V.ref))) (PsAtK K H3 Ms ms) (PsAtK K H3 As as) (Ms++plP As.reverse=t.pl []) ((∀ p∈As,p.1.length+p.2.tall<=100000)) (m=szP As),⟨_,[],[p1],[],[([],t)],none,none,none,rfl,?_,?_,?_,.nil,.cons ⟨p0,a,?_,?_,?_⟩ .nil,?_,?_,rfl⟩,?_⟩
 · exact aw (s1.trans s2) zN
 · rw [ak yk.symm];exact s2 _ _ EU
 · rw [ab];rfl
 · exact ad Aa _ _ _ e1
 · exact ad Aa _ _ _ e0
 · exact hA.mono (Same.kt (aw (s1.trans s2) zN))
 · simp [plP]
 · intro p hp;rw [TR] at hp;subst hp;simpa using yy
 rintro m σ H3 ⟨ms,as,Ms,As,c3,c4,c5,rfl,sm,em,ea,a1,a2,hw,hb,rfl⟩
 have hlen:ms.length+szP As<=100000:=by
  have h1:=congrArg Wf hw;rw [TC,rq,Th.pl_len,j1] at h1;have h2:=Tp a1;omega
 refine ⟨_,rfl,_,.inl ⟨_,SqL.of ea,rfl⟩,?_⟩;refine cQ (fun c=>?_) (fun c=>?_)
 · refine ⟨fun xS H'=>∃ m',m'<szP As/\Ex7 fun (ms as:List Ta) (Ms As:List (List Int×Th)) (c3 c4 c5:Option V)=>An9 (xS=[some (.ref a),some (.ref mt),some (.ref ah),c3,c4,c5]) (L2.Same H H') (H' mt=some (.lst (ms.map V.ref))) (H' ah=some (.lst (as.map V.ref))) (PsAtK K H' Ms ms) (PsAtK K H' As as) (Ms++plP As.reverse=t.pl []) ((∀ p∈As,p.1.length+p.2.tall<=100000)) (m'=szP As),fun xS H' h=>h,?_⟩;have yZ:as≠[]:=by intro z;subst z;simp at c
   refine hid fun ZZ kZ=>?_;obtain ⟨yg,b,rfl⟩:∃ yg b,as=yg++[b]:=⟨as.dropLast,as.getLast yZ,(Vp yZ).symm⟩;obtain ⟨Us,⟨pre,x⟩,rfl,a3,pa,ta,eb,zY,zO⟩:=P2.snoc_inv a2;refine kZ ?_;have C9:szP (Us++[(pre,x)])=szP Us+x.size:=by rw [cD,szP,szP];rfl
   have GY:=x.size_eq;rw [C9] at hlen;have Jq:=hb (pre,x) (by simp);simp only at Jq zY zO;refine ⟨_,rfl,.inl ⟨rfl,_,SqL.of ea⟩,ah,_,.ref b,rfl,rfl,ea,by simp,?_⟩;have d1:((yg++[b]).map V.ref).dropLast=yg.map V.ref:=by simp
   rw [d1];have k1:KT H3 (upd H3 ah (.lst (yg.map V.ref))):=aT ea;have BU:L2.Same H (upd H3 ah (.lst (yg.map V.ref))):=aw sm zN;have Bl:(upd H3 ah (.lst (yg.map V.ref))) mt=some (.lst (ms.map V.ref)):=by rw [ak yk.symm];exact em
   have EV:(upd H3 ah (.lst (yg.map V.ref))) ah=some (.lst (yg.map V.ref)):=ab;generalize (upd H3 ah (.lst (yg.map V.ref)))=H4 at k1 BU Bl EV ⊢;refine ⟨b,_,rfl,SqT.of (k1 _ _ eb),rfl,_,_,rfl,_,_,rfl,rfl,?_⟩
   -- met.append((place,part))
   refine ⟨_,rfl,.inl ⟨rfl,_,SqL.of Bl⟩,_,rfl,_,rfl,ai (by show 2<=1000000;decide),fun pr zk=>?_⟩;have KU:mt≠pr:=aI Bl zk;refine ⟨mt,_,_,rfl,rfl,ad zk _ _ _ Bl,aH (by rw [S6];omega),?_⟩;have KW:(upd H4 pr (.tup [.ref pa,.ref ta])) mt=some (.lst (ms.map V.ref)):=ad zk _ _ _ Bl;have k2:KT H4 (upd (upd H4 pr (.tup [.ref pa,.ref ta])) mt (.lst (ms.map V.ref++[.ref pr]))):=(dM zk).trans (aT KW);have KY:L2.Same H (upd (upd H4 pr (.tup [.ref pa,.ref ta])) mt (.lst (ms.map V.ref++[.ref pr]))):=aw (aw BU (BU.free zk)) Ah;have NN:(upd (upd H4 pr (.tup [.ref pa,.ref ta])) mt (.lst (ms.map V.ref++[.ref pr]))) mt=some (.lst ((ms++[pr]).map V.ref)):=by rw [ab,Tu];rfl
   have FK:(upd (upd H4 pr (.tup [.ref pa,.ref ta])) mt (.lst (ms.map V.ref++[.ref pr]))) ah=some (.lst (yg.map V.ref)):=by rw [ak yk,ak (aI EV zk)];exact EV
   have BV:(upd (upd H4 pr (.tup [.ref pa,.ref ta])) mt (.lst (ms.map V.ref++[.ref pr]))) pr=some (.tup [.ref pa,.ref ta]):=by rw [ak KU.symm,ab]
   generalize (upd (upd H4 pr (.tup [.ref pa,.ref ta])) mt (.lst (ms.map V.ref++[.ref pr])))=H5 at k2 KY NN FK BV ⊢;have FL:KT H3 H5:=k1.trans k2;have KZ:=FL _ _ zY
   -- kids
   refine ⟨_,rfl,ta,x,rfl,zO.mono FL,fun r ks H6 s6 er zK=>⟨r,rfl,⟨_,SqT.of er⟩,?_⟩⟩;have y4:ks.length=x.kids.length:=zK.length;have GZ:=bL x.kids;intro D hD;have K0:=s6 _ _ KZ;refine ⟨ks.length,fun j H7=>An3 (j<=ks.length) (L2.Same H6 H7) (Ex1 fun (bs:List Ta)=>An2 (H7 D=some (.lst (bs.map V.ref))) (PsAtK K H7 ((cR pre 0 x.kids).take j) bs)),⟨TZ _,ad hD _,[],ab,.nil⟩,?_⟩;rintro j H7 ⟨hj,s7,bs,eD,yw⟩;by_cases Bz:j=ks.length
   · left;refine ⟨⟨_,SqT.of (s7 _ _ er),by rw [S6];exact Bz.symm⟩,?_⟩;have xY:(cR pre 0 x.kids).take j=cR pre 0 x.kids:=by rw [Bz,y4,<- f8 pre 0 x.kids,VG]
     rw [xY] at yw;have K1:=s7 _ _ (s6 _ _ FK);have G0:=s7 _ _ (s6 _ _ NN)
     have zy:bs.length=x.kids.length:=by
      have:=Tp yw;rw [f8] at this;exact this.symm
     refine ⟨_,rfl,.inl ⟨rfl,_,SqL.of K1⟩,_,rfl,D,_,rfl,SqL.of eD,fun l hl=>?_⟩;have Ag:ah≠l:=aI K1 hl;have Cs:mt≠l:=aI G0 hl;have G1:(upd H7 l (.lst (bs.map V.ref).reverse)) ah=some (.lst (yg.map V.ref)):=by rw [ak Ag];exact K1
     have q3:yg.length=Us.length:=(Tp a3).symm;have q4:=nO Us;refine ⟨ah,l,_,_,rfl,rfl,G1,ab,ai ?_,?_⟩
     · rw [S6,UP,S6];omega
     have k8:KT H7 (upd (upd H7 l (.lst (bs.map V.ref).reverse)) ah (.lst (yg.map V.ref++(bs.map V.ref).reverse))):=(dM hl).trans (aT G1);have D':KT H3 (upd (upd H7 l (.lst (bs.map V.ref).reverse)) ah (.lst (yg.map V.ref++(bs.map V.ref).reverse))):=FL.trans ((Same.kt (s6.trans s7)).trans k8);refine ⟨szP (Us++(cR pre 0 x.kids).reverse),?_,ms++[pr],yg++bs.reverse,Ms++[(pre,x)],Us++(cR pre 0 x.kids).reverse,_,_,_,rfl,?_,?_,?_,?_,?_,?_,?_,rfl⟩
     · rw [cD,j1,iT,C9];omega
     · exact aw (aw ((KY.trans s6).trans s7) ((KY.trans s6).trans s7 |>.free hl)) zN
     · rw [ak yk.symm,ak Cs];exact G0
     · rw [ab,Tu,X7]
     · exact P2.append (a1.mono D') (.cons ⟨pa,ta,k8 _ _ (s7 _ _ (s6 _ _ BV)),D' _ _ zY,zO.mono D'⟩ .nil)
     · exact P2.append (PsAtK.mono D' a3) (P2.reverse (PsAtK.mono k8 yw))
     · rw [<- hw,UB,UY,UY,Vq,lb,oZ];show Ms++([(pre,x)]++(pls pre 0 x.kids++plP Us.reverse))=Ms++plP ((pre,x)::Us.reverse);rw [plP,x.pl_eq pre];rfl
     · intro p hp;rcases Ul.mp hp with hp | hp
       · exact hb p (Uq _ hp)
       · obtain ⟨g1,g2⟩:=kI pre 0 x.kids p (List.mem_reverse.mp hp);have:=nz g2;omega
   · right;have yn:j<ks.length:=by omega
     refine ⟨yn,⟨_,.ref ks[j],SqT.of (s7 _ _ er),by rw [Tn,S9 yn];rfl⟩,?_⟩;rintro y H8 ⟨p,v,hp,rfl,rfl,hv⟩;have yM:=hv _ (SqT.of (s7 _ _ er));obtain ⟨kd,rfl,Ct⟩:=aU yM;obtain ⟨tk,zS,K2⟩:=zK.get Ct;have s8:L2.Same H7 (upd H7 p (.tup [.int (j:Nat),.ref kd])):=ad hp _;refine ⟨p,_,rfl,SqT.of ab,rfl,_,_,rfl,_,_,rfl,rfl,?_⟩;generalize (upd H7 p (.tup [.int (j:Nat),.ref kd]))=H8 at s8 ⊢;refine ⟨_,rfl,_,rfl,ai (by show 1<=1000000;decide),fun n1 Jr=>?_⟩;have s9:L2.Same H8 (upd H8 n1 (.tup [.int (j:Nat)])):=ad Jr _;have e9:(upd H8 n1 (.tup [.int (j:Nat)])) n1=some (.tup [.int (j:Nat)]):=ab;generalize (upd H8 n1 (.tup [.int (j:Nat)]))=H9 at s9 e9 ⊢;refine lK (s9 _ _ (s8 _ _ (s7 _ _ K0))) e9 (by rw [S6];show pre.length+1<=1000000;omega) fun n2 yO yG EW=>?_;refine ⟨_,rfl,ai (by show 2<=1000000;decide),fun n3 Ea=>?_⟩;have zp:L2.Same H7 (upd yO n3 (.tup [.ref n2,.ref kd])):=(s8.trans (s9.trans yG)).trans (ad Ea _);have G2:=zp _ _ eD;refine ⟨_,G2,aH ?_,yn,?_,bs++[n3],?_,?_⟩
     · have:=Tp yw;rw [Uc] at this;rw [S6];omega
     · exact aw (s7.trans zp) hD
     · rw [ab,Tu];rfl
     · have Js:KT (upd yO n3 (.tup [.ref n2,.ref kd])) (upd (upd yO n3 (.tup [.ref n2,.ref kd])) D (.lst (bs.map V.ref++[.ref n3]))):=aT G2;rw [UN,kw pre 0 x.kids j tk zS];refine P2.append (PsAtK.mono ((Same.kt zp).trans Js) yw) (.cons ⟨n2,kd,Js _ _ ab,Js _ _ (ad Ea _ _ _ ?_),?_⟩ .nil)
       · rw [EW,Tu,U7];rfl
       · exact K2.mono ((Same.kt (s7.trans zp)).trans Js)
 · have hz:as=[]:=by
    cases as with
    | nil=>rfl
    | cons y ys=>simp at c
   subst hz;have CS:As=[]:=UZ.mp (Tp a2);subst CS;refine ⟨_,rfl,k mt ms H3 sm Ah em ?_⟩;have ET:Ms=t.pl []:=by simpa [plP] using hw
   rw [<- ET];exact a1
inductive mi (K:S8) (vs:List V) (H:Hp) (Q:VK) (_E:XK):Prop
 | mk (l:Ta) (as:List Ta) (tops:List Top) (u:Th) (yd:vs=[.ref l]) (ye:H l=some (.lst (as.map V.ref))) (yj:T3 (TopAtK K H) tops as) (yq:tops.length<=100000) (yC:TopsOk tops) (zj:(∀ t,Top.th t∈tops->t.size<=100000)) (Bi:bl tops=[u]) (Bt:∀ (r:Ta) (H':Hp),L2.Same H H'->AtK K H' u r->Q (.ref r) H'):mi K vs H Q _E
def ub (K:S8):Sp:=mi K
theorem lH:bi P w K mg base CX0 1 T.g_built.f T.g_built.d ["tops"] (ub K):=by
 refine T.g_built.F.ok jb (fun vs H Q E h=>?_) (fun yb A outer s H vs Q E hr h=>?_)
 · obtain ⟨l,as,tops,u,rfl,_⟩:=h;rfl
 obtain ⟨l,as,tops,u,rfl,el,hT,hlen,hok,K3,hu,k⟩:=h
 refine ⟨_,(ae (av (i:=1) jb.nd rfl (XE rfl) (bw ac))
  (ae (bv T2 rfl (vJ rfl T.n_reversed (pv 0)) (bu rfl (au (aj (i:=2) jb.nd rfl (Tz rfl)) (au (aj (i:=3) jb.nd rfl (Tz rfl)) aX))) (ag (bE (aK mN (pv 3) af (aO _)) (ag (aP (bJ Tr TM TL aN (pv 1) (aa (ax de (pv 2) (cV cz rfl T.n_tuple U9 (aa (cw (N:=[Ti "number",Ti "done"]) (js:=[none,some 1]) (g:=(aF 0)) (tt:=bP) (te:=(wA K "list" (wE) (bC 1))) rfl (cG rfl (by decide +kernel) (by decide +kernel) rfl rfl rfl) (bx rfl T.n_range (aa (pv 3) ac)) (fun _ _ _ _ _ _=>(aj (i:=0) xj rfl (Tz rfl))) (aS rfl) (fun _ _ _ _ _ _=>bT) (fun _ _ _ _ _ _=>(ju Tr V2 V1 jl (pv 1)))) ac))) ac)))) (ag (aP (bJ Tr TM TL aN (pv 1) (aa (pv 2) ac)))))))
  (ag (aC (az aL (pv 1) af (fun _ _=>rfl)))))),?_⟩
 try dsimp only [yv,xW]
 have zI:tops.length=as.length:=Tp hT;refine ⟨ai (by show 0<=1000000;decide),fun dn Jt=>?_⟩;refine ⟨_,rfl,l,_,rfl,SqL.of (ad Jt _ _ _ el),?_⟩
 refine uM (K:=K) (a:=l) (xs:=as.map V.ref) (fun i σ H2=>Ex3 fun c2 c3 ds=>An4 (σ=[some (.ref l),some (.ref dn),c2,c3]) (L2.Same H H2) (H2 dn=some (.lst (ds.map V.ref))) (AtsK K H2 (bl (tops.drop (tops.length - i))).reverse ds))
  ⟨none,none,[],rfl,ad Jt _,ab,by rw [YR,List.drop_length];exact .nil⟩ (fun i σ H2 _ ⟨_,_,_,_,s2,_,_⟩=>SqL.of (s2 _ _ el)) ?_ ?_
 · rintro i y σ H2 hi hy ⟨c2,c3,ds,rfl,s2,Dc,Ad⟩;rw [S6,<- zI] at hi hy;obtain ⟨pr,rfl,zk⟩:=aU hy;obtain ⟨x,hx,K4⟩:=P2.get' hT zk;have NO:=K4.mono (Same.kt s2);have hn:tops.length - 1 - i<tops.length:=by omega
   have Eb:tops.drop (tops.length - 1 - i)=x::tops.drop (tops.length - i):=by
    rw [WV hn,show tops.length - 1 - i+1=tops.length - i by omega];congr 1;rw [S9 hn] at hx;exact TV hx
   have Dd:=hok.drop (tops.length - 1 - i);rw [Eb] at Dd;have Ec:tops.length - (i+1)=tops.length - 1 - i:=by omega
   have Kv:(bl (tops.drop (tops.length - i))).length<=100000:=by
    have:=qg (tops.drop (tops.length - i));rw [UL] at this;omega
   generalize tops.drop (tops.length - i)=S at Eb Ad Dd Kv;refine hid fun ZZ kZ=>?_
   obtain ⟨ta,m,xs,BV,eta,hm,R',zh⟩:∃ (ta:Ta) (m:Nat) (xs:List V),H2 pr=some (.tup [.ref ta,.int (m:Nat)])/\TK K H2 ta xs/\m<=(bl S).length/\xs.length<=200000/\∀ (H':Hp) (p:Ta) (ks:List Ta),KT H2 H'->AtsK K H' ((bl S).take m) ks->TK K H' p (xs++ks.map V.ref)->∃ u',bl (x::S)=u'::(bl S).drop m/\AtK K H' u' p:=by
    cases x with
    | nm n m =>
      rw [TopsOk] at Dd;obtain ⟨ta,h1,h2,h3⟩:=NO;refine ⟨ta,m,_,h1,h3,Dd.1,(by show 1<=200000;decide),fun H' p ks kt hk hp=>⟨_,by rw [bl],?_⟩⟩;rw [AtK];exact ⟨h2,ks,hp,hk⟩
    | th t =>
      obtain ⟨ta,h1,h2⟩:=NO;obtain ⟨xs,h3,hw,h4⟩:=h2.whole;have zz:=K3 t (Tb hx);refine ⟨ta,0,_,h1,h3,TZ _,by omega,fun H' p ks kt hk hp=>⟨t,by rw [bl,VM],?_⟩⟩;rw [Wl,AtsK] at hk;subst hk;rw [VI,Ui] at hp;exact h4 _ _ kt hp
   refine kZ ?_;refine ⟨pr,_,rfl,SqT.of BV,rfl,_,_,rfl,_,_,rfl,rfl,?_⟩;have K5:=Ad.length;rw [UP] at K5;refine eZ (fun b H'=>An2 (H'=H2) (b=decide ((0:Int)<(m:Int)))) (fun kk BW=>?_) (fun H' hb=>?_) (fun H' hb=>?_)
   · exact ⟨_,rfl,_,_,rfl,rfl,_,rfl,BW _ _ ⟨rfl,rfl⟩⟩
   rotate_left
   · obtain ⟨rfl,hb⟩:=hb
     have Qg:m=0:=by
      have:=of_decide_eq_false hb.symm;omega
     subst Qg;obtain ⟨u',zA,zD⟩:=zh H' ta [] (Same.kt (.refl _)) (by rw [Wl];exact .nil) (by rw [VI,Ui];exact eta);refine ⟨_,rfl,.inl ⟨rfl,_,SqL.of Dc⟩,_,rfl,dn,_,_,rfl,rfl,Dc,aH (by rw [S6];omega),?_⟩;have k6:KT H' (upd H' dn (.lst (ds.map V.ref++[.ref ta]))):=aT Dc;refine ⟨_,_,ds++[ta],rfl,?_,by rw [ab,Tu];rfl,?_⟩
     · intro b o e;rw [ak (aI e Jt)];exact s2 b o e
     · rw [Ec,Eb,zA,UA];rw [VM];exact (Ad.mono k6).append (.cons (zD.mono k6) .nil)
   obtain ⟨rfl,hb⟩:=hb;refine ⟨_,rfl,.inl ⟨rfl,_,SqL.of Dc⟩,_,rfl,?_⟩;refine ⟨_,rfl,(m:Int),rfl,by omega,by omega,fun D hD=>?_⟩;have K6:D≠dn:=fun z=>by rw [z,Dc] at hD;cases hD
   have Ah:((m:Nat):Int).toNat=m:=Uw m
   refine ⟨m,fun j H3=>An3 (j<=m) ((∀ b o,H' b=some o->b≠dn->H3 b=some o)) (Ex2 fun (De ks:List Ta)=>An4 (H3 dn=some (.lst (De.map V.ref))) (H3 D=some (.lst (ks.map V.ref))) (AtsK K H3 ((bl S).drop j).reverse De) (AtsK K H3 ((bl S).take j) ks)),
    ⟨TZ _,fun b o e hb=>?_,ds,[],?_,?_,?_,?_⟩,?_⟩
   · rw [ak (aI e hD)];exact e
   · rw [ak K6.symm];exact Dc
   · rw [ab];rfl
   · rw [VM];exact Ad.mono (dM hD)
   · rw [Wl];exact .nil
   rintro j H3 ⟨hj,kp,De,ks,ed,eD,EX,hd2⟩;by_cases NP:j=m
   · left;refine ⟨(by show ((m:Nat):Int).toNat<=j;rw [Ah,NP];exact Td _),?_⟩;subst NP;have G4:KT H' H3:=fun b Sa e=>kp b _ e (fJ e Dc (by intro z;cases z));refine ⟨D,_,rfl,.inl ⟨SqL.of eD,fun tp EY=>?_⟩⟩;have s4:L2.Same H3 (upd H3 tp (.tup (ks.map V.ref))):=ad EY _;have e4:(upd H3 tp (.tup (ks.map V.ref))) tp=some (.tup (ks.map V.ref)):=ab;generalize (upd H3 tp (.tup (ks.map V.ref)))=H4 at s4 e4 ⊢;have y4:=hd2.length;refine xm ((eta.mono G4).mono (Same.kt s4)) (.of e4) (by rw [S6,y4,Uc];omega) fun p H5 s5 e5=>?_;have BX:=s4.trans s5;have NQ:=BX _ _ ed;have Df:=G4.trans (Same.kt BX);obtain ⟨u',zA,zD⟩:=zh H5 p ks Df (hd2.mono (Same.kt BX)) e5;have BS:=EX.length;rw [UP,UL] at BS;refine ⟨dn,_,_,rfl,rfl,NQ,aH (by rw [S6];omega),?_⟩;have k6:KT H5 (upd H5 dn (.lst (De.map V.ref++[.ref p]))):=aT NQ;refine ⟨_,_,De++[p],rfl,?_,by rw [ab,Tu];rfl,?_⟩
     · intro b o e;have hb:b≠dn:=aI e Jt;rw [ak hb];exact BX _ _ (kp b o (s2 b o e) hb)
     · rw [Ec,Eb,zA,UA];exact (EX.mono ((Same.kt BX).trans k6)).append (.cons (zD.mono k6) .nil)
   · right;have yn:j<m:=by omega
     refine ⟨yn,(by show j<((m:Nat):Int).toNat;rw [Ah];exact yn),?_⟩;rintro x' H4 ⟨e1,e2⟩;have Ae:H4=H3:=e1;subst Ae;have NR:j<(bl S).length:=by omega
     have Qh:(bl S).drop j=(bl S)[j]::(bl S).drop (j+1):=WV NR;rw [Qh,UA] at EX
     have yk:De≠[]:=by
      intro z;subst z;have:=EX.length;rw [TC] at this;simp at this
     refine hid fun ZZ kZ=>?_;obtain ⟨EZ,b,rfl⟩:∃ EZ b,De=EZ++[b]:=⟨De.dropLast,De.getLast yk,(Vp yk).symm⟩;obtain ⟨Us,x2,e3,hU,yo⟩:=EX.snoc_inv;have e4:=List.append_inj' e3 rfl;obtain ⟨e5,e6⟩:=e4;refine kZ ?_;cases e6;subst e5;refine ⟨_,rfl,.inl ⟨rfl,_,SqL.of ed⟩,dn,_,.ref b,rfl,rfl,ed,by simp,?_⟩;have d1:((EZ++[b]).map V.ref).dropLast=EZ.map V.ref:=by simp
     rw [d1];have NS:(upd H4 dn (.lst (EZ.map V.ref))) D=some (.lst (ks.map V.ref)):=by rw [ak K6];exact eD
     have k5:KT H4 (upd (upd H4 dn (.lst (EZ.map V.ref))) D (.lst (ks.map V.ref++[.ref b]))):=(aT ed).trans (aT NS);refine ⟨_,NS,aH (by rw [S6,hd2.length,Uc];omega),yn,fun b' o e zz=>?_,EZ,ks++[b],?_,?_,hU.mono k5,?_⟩
     · rw [ak (aI e hD),ak zz];exact kp b' o e zz
     · rw [ak K6.symm,ab]
     · rw [ab,Tu];rfl
     · rw [UN,S9 NR];exact (hd2.mono k5).append (.cons (yo.mono k5) .nil)
 · rintro σ H2 ⟨c2,c3,ds,rfl,s2,Dc,Ad⟩;rw [S6,<- zI,YS,VM,hu] at Ad;have G5:AtsK K H2 [u] ds:=Ad;rw [AtsK] at G5;obtain ⟨b,r,rfl,hb,ER⟩:=G5;exact ⟨_,rfl,dn,_,0,.ref b,rfl,rfl,SqL.of Dc,at0,k b H2 s2 hb⟩
inductive kg (K:S8) (vs:List V) (H:Hp) (Q:VK) (_E:XK):Prop
 | mk (a:Ta) (t:Th) (yd:vs=[.ref a]) (ye:AtK K H t a) (yj:t.size<=100000) (yq:t.tall<=100000) (yC:∀ (r:Ta) (ps:List Ta) (H':Hp),L2.Same H H'->H r=none->H' r=some (.lst (ps.map V.ref))->T3 (fun (p:List Int×Th) b=>H' b=some (.tup (p.1.map V.int))) (t.pl []) ps->Q (.ref r) H'):kg K vs H Q _E
def rJ (K:S8):Sp:=kg K
theorem rK:bi P w K mg base CX0 3 T.g_places.f T.g_places.d ["tree"] (rJ K):=by
 refine T.g_places.F.ok sd (fun vs H Q E h=>?_) (fun yb A outer s H vs Q E hr h=>?_)
 · obtain ⟨a,t,rfl,_⟩:=h;rfl
 obtain ⟨a,t,rfl,hA,hsz,yy,k⟩:=h;refine ⟨_,(ag (aC (cw (N:=[Ti "place",Ti "knot"]) (js:=[none,none]) (g:=(lX K 2 (cT (aF 0) (cT (aF 1) lR)))) (tt:=bP) (te:=(bC 0)) rfl (cG rfl (by decide +kernel) (by decide +kernel) rfl rfl rfl) (ck (pcF T.g_placed (gM T) hr (aa (pv 0) ac))) (fun _ _ _ _ _ _=>(bu rfl (au (aj (i:=0) wP rfl (Tz rfl)) (au (aj (i:=1) wP rfl (Tz rfl)) aX)))) (gf (bR aW (aS rfl) (bR aW (aS rfl) f7))) (fun _ _ _ _ _ _=>bT) (fun _ _ _ _ _ _=>(pv 0))))),?_⟩
 try dsimp only [yv,xW]
 refine ⟨_,rfl,a,t,rfl,hA,hsz,yy,fun r as H1 s1 nr er yH=>⟨r,rfl,⟨_,SqL.of er⟩,?_⟩⟩;have zI:(t.pl []).length=as.length:=Tp yH;rw [Th.pl_len] at zI;refine hid fun ZZ kZ=>?_;obtain ⟨bs,CT,yo,Ju⟩:=l6 yH;refine kZ ?_;refine ig bs (fun _=>true) V.ref (SqL.of er) (by rw [S6];exact yo) (by rw [S6];omega) (fun i x z H2 R R0 hx hz sm g1 g2=>?_) (fun D hD=>?_)
 · obtain ⟨a',ta,rfl,ea⟩:=Ju i x z hx hz;refine ⟨a',_,rfl,SqT.of (sm _ _ ea),rfl,_,_,rfl,_,_,rfl,rfl,?_⟩;refine oF (B:=R0 H2) ?_;exact ⟨_,rfl,g1 rfl⟩
 · rw [filter_tt];exact k D bs _ (s1.trans (ad hD _)) (s1.free hD) ab (P2.mp (fun _ _ e=>ad hD _ _ _ e) CT)
inductive jJ (K:S8) (vs:List V) (H:Hp) (Q:VK) (_E:XK):Prop
 | mk (a:Ta) (t:Th) (yd:vs=[.ref a]) (ye:AtK K H t a) (yj:Q (.bl t.isCall) H):jJ K vs H Q _E
def kf (K:S8):Sp:=jJ K
theorem im:bi P w K mg base CX0 1 T.g_is_call.f T.g_is_call.d ["thing"] (kf K):=by
 refine T.g_is_call.F.ok qe (fun vs H Q E h=>?_) (fun yb A outer s H vs Q E hr h=>?_)
 · obtain ⟨a,t,rfl,_⟩:=h;rfl
 obtain ⟨a,t,rfl,hA,k⟩:=h;refine ⟨_,(ag (aC (iY cM (az aD (pv 0) af (fun _ _=>rfl)) (gN (v:=.str (Ti "?")) rfl T.c_CALL_SIGN.choose_spec ⟨_,rfl⟩) (aO _)))),?_⟩
 try dsimp only [yv,xW]
 cases t with
 | knot n ks =>
   rw [AtK] at hA;refine hid fun ZZ kZ=>?_;obtain ⟨hn,as,h1,h2⟩:=hA;refine kZ ?_;refine ⟨_,rfl,a,_,0,.str n,rfl,rfl,h1.sq,at0,rfl,?_⟩;have e:decide (V.str n=V.str (Ti "?"))=false:=decide_eq_false (fun z=>hn (V.str.inj z));rw [e];exact k
 | call sn kn =>
   rw [AtK] at hA;refine ⟨_,rfl,a,_,0,.str q,rfl,rfl,hA.sq,at0,rfl,?_⟩;have e:decide (V.str q=V.str (Ti "?"))=true:=decide_eq_true rfl;rw [e];exact k
inductive jE (K:S8) (vs:List V) (H:Hp) (Q:VK) (_E:XK):Prop
 | mk (a:Ta) (t:Th) (yd:vs=[.ref a]) (ye:AtK K H t a) (yj:t.tall<=150) (yq:Q (.bl t.isHole) H):jE K vs H Q _E
def kS (K:S8):Sp:=jE K
theorem iI:bi P w K mg base CX0 1 T.g_is_hole.f T.g_is_hole.d ["thing"] (kS K):=by
 refine T.g_is_hole.F.ok qf (fun vs H Q E h=>?_) (fun yb A outer s H vs Q E hr h=>?_)
 · obtain ⟨a,t,rfl,_⟩:=h;rfl
 obtain ⟨a,t,rfl,hA,yy,k⟩:=h;refine ⟨_,(ag (aC (iY (uL (B:=150) (oV hr)) (pv 0) (gN (v:=.ref T.a_HOLE) rfl T.c_HOLE rfl) (aO _)))),?_⟩
 try dsimp only [yv,xW]
 refine ⟨_,rfl,?_⟩;exact uJ hA (TK.const T.q_HOLE) yy k
inductive jD (K:S8) (vs:List V) (H:Hp) (Q:VK) (_E:XK):Prop
 | mk (a:Ta) (t:Th) (yd:vs=[.ref a]) (ye:AtK K H t a) (yj:t.tall<=150) (yq:Q (.bl t.isKnot) H):jD K vs H Q _E
def qh (K:S8):Sp:=jD K
theorem qp:bi P w K mg base CX0 2 T.g_is_knot.f T.g_is_knot.d ["thing"] (qh K):=by
 refine T.g_is_knot.F.ok qu (fun vs H Q E h=>?_) (fun yb A outer s H vs Q E hr h=>?_)
 · obtain ⟨a,t,rfl,_⟩:=h;rfl
 obtain ⟨a,t,rfl,hA,yy,k⟩:=h;refine ⟨_,(ag (aC (nI (sV (pcF T.g_is_call (im T) hr (aa (pv 0) ac))) (pK (sV (pcF T.g_is_hole (iI T) hr (aa (pv 0) ac))))))),?_⟩
 try dsimp only [yv,xW]
 refine ⟨_,rfl,a,t,rfl,hA,_,rfl,_,rfl,?_⟩;refine cQ (fun c=>?_) (fun c=>?_)
 · refine ⟨_,rfl,a,t,rfl,hA,yy,_,rfl,?_⟩;have e:t.isKnot=!t.isHole:=by unfold Th.isKnot;rw [c];rfl
   rw [e] at k;exact k
 · have e:t.isKnot=false:=by unfold Th.isKnot;rw [Vw.mpr c];rfl
   rw [e] at k;exact k
inductive hX (K:S8) (vs:List V) (H:Hp) (Q:VK) (_E:XK):Prop
 | mk (a:Ta) (sn kn:Int) (yd:vs=[.ref a]) (ye:AtK K H (.call sn kn) a) (yj:∀ p,H p=none->Q (.ref p) (upd H p (.tup [.int sn,.int kn]))):hX K vs H Q _E
def iV (K:S8):Sp:=hX K
theorem iO:bi P w K mg base CX0 1 T.g_called_by.f T.g_called_by.d ["call"] (iV K):=by
 refine T.g_called_by.F.ok mW (fun vs H Q E h=>?_) (fun yb A outer s H vs Q E hr h=>?_)
 · obtain ⟨a,sn,kn,rfl,_⟩:=h;rfl
 obtain ⟨a,sn,kn,rfl,hA,k⟩:=h;refine ⟨_,(ag (aC (aJ (aa (az aD (pv 0) af (fun _ _=>rfl)) (aa (az aD (pv 0) af (fun _ _=>rfl)) ac))))),?_⟩
 try dsimp only [yv,xW]
 rw [AtK] at hA;exact ⟨_,rfl,a,_,1,_,rfl,rfl,hA.sq,at1,_,rfl,a,_,2,_,rfl,rfl,hA.sq,at2,ai (by show 2<=1000000;decide),fun p hp=>k p hp⟩
inductive i7 (K:S8) (vs:List V) (H:Hp) (Q:VK) (_E:XK):Prop
 | mk (a:Ta) (t:Th) (yd:vs=[.ref a]) (ye:AtK K H t a) (yj:t.size<=100000) (yq:t.tall<=100000) (yC:∀ (r:Ta) (as:List Ta) (H':Hp),L2.Same H H'->H r=none->H' r=some (.lst (as.map V.ref))->CsAt H' (callsOf (t.pl [])) as->Q (.ref r) H'):i7 K vs H Q _E
def nY (K:S8):Sp:=i7 K
theorem pC:bi P w K mg base CX0 3 T.g_calls_in.f T.g_calls_in.d ["pattern"] (nY K):=by
 refine T.g_calls_in.F.ok oA (fun vs H Q E h=>?_) (fun yb A outer s H vs Q E hr h=>?_)
 · obtain ⟨a,t,rfl,_⟩:=h;rfl
 obtain ⟨a,t,rfl,hA,hsz,yy,k⟩:=h;refine ⟨_,(ag (aC (cw (N:=[Ti "place",Ti "part"]) (js:=[none,none]) (g:=(lX K 2 (cT (aF 0) (cT (aF 1) lR)))) (tt:=(fun σ H Q=>(g9 (kf K) [] E0 (bA (bC 1) dU)) σ H fun x H1=>∃ k,uv K x H1 k/\Q k H1)) (te:=(jS (bA (bC 0) (bA (g9 (iV K) [] E0 (bA (bC 1) dU)) dU)))) rfl (cG rfl (by decide +kernel) (by decide +kernel) rfl rfl rfl) (ck (pcF T.g_placed (gM T) hr (aa (pv 0) ac))) (fun _ _ _ _ _ _=>(bu rfl (au (aj (i:=0) uA rfl (Tz rfl)) (au (aj (i:=1) uA rfl (Tz rfl)) aX)))) (gf (bR aW (aS rfl) (bR aW (aS rfl) f7))) (fun _ _ _ _ _ _=>j5 (aY (pcF T.g_is_call (im T) hr (aa (pv 1) ac)) (fun _=>rfl))) (fun _ _ _ _ _ _=>(aJ (aa (pv 0) (aa (pcF T.g_called_by (iO T) hr (aa (pv 1) ac)) ac))))))),?_⟩
 try dsimp only [yv,xW]
 refine ⟨_,rfl,a,t,rfl,hA,hsz,yy,fun r as H1 s1 nr er yH=>⟨r,rfl,⟨_,SqL.of er⟩,?_⟩⟩;have zI:(t.pl []).length=as.length:=Tp yH;have yV:=Th.pl_len [] t;intro D hD;refine ⟨as.length,fun j H2=>An3 (j<=as.length) (L2.Same H1 H2) (Ex1 fun (bs:List Ta)=>An2 (H2 D=some (.lst (bs.map V.ref))) (CsAt H2 (callsOf ((t.pl []).take j)) bs)),⟨TZ _,ad hD _,[],ab,.nil⟩,?_⟩;rintro j H2 ⟨hj,s2,bs,eD,yw⟩;by_cases Bz:j=as.length
 · left;refine ⟨⟨_,SqL.of (s2 _ _ er),by rw [S6,Bz];exact Td _⟩,?_⟩;have xY:(t.pl []).take j=t.pl []:=by rw [Bz,<- zI,VG]
   rw [xY] at yw;exact k D bs H2 (s1.trans s2) (s1.free hD) eD yw
 · right;have yn:j<as.length:=by omega
   refine ⟨yn,⟨_,.ref as[j],SqL.of (s2 _ _ er),by rw [Tn,S9 yn];rfl⟩,?_⟩;rintro y H3 ⟨rfl,hv⟩;have yM:=hv _ (SqL.of (s2 _ _ er));refine hid fun ZZ kZ=>?_;obtain ⟨pr,rfl,zk⟩:=aU yM;obtain ⟨⟨p,u⟩,Qi,pa,ta,e1,e2,e3⟩:=P2.get' (yH.mono (Same.kt s2)) zk;refine kZ ?_;simp only at e2 e3;have zS:(t.pl []).take (j+1)=(t.pl []).take j++[(p,u)]:=by rw [UN,Qi];rfl
   have zy:bs.length<=j:=by
    have g1:=Tp yw;have g2:=jG ((t.pl []).take j);rw [Uc] at g2;omega
   refine ⟨pr,_,rfl,SqT.of e1,rfl,_,_,rfl,_,_,rfl,rfl,?_⟩;refine ⟨_,rfl,ta,u,rfl,e3,_,rfl,?_⟩;cases u with
   | knot n ks =>
     refine cO ⟨yn,s2,bs,eD,?_⟩;rw [zS,dE];show CsAt H3 (callsOf ((t.pl []).take j)++[]) bs;rw [Ui];exact yw
   | call sn kn =>
     refine oF ?_;refine ⟨_,rfl,_,rfl,ta,sn,kn,rfl,e3,fun ca G7=>⟨ai (by show 2<=1000000;decide),fun n3 Ea=>?_⟩⟩;have s4:L2.Same H3 (upd (upd H3 ca (.tup [.int sn,.int kn])) n3 (.tup [.ref pa,.ref ca])):=(ad G7 _).trans (ad Ea _);have G9:=s4 _ _ eD;refine ⟨_,G9,aH (by rw [S6];omega),yn,aw (s2.trans s4) hD,bs++[n3],?_,?_⟩
     · rw [ab,Tu];rfl
     · have k5:KT (upd (upd H3 ca (.tup [.int sn,.int kn])) n3 (.tup [.ref pa,.ref ca])) (upd (upd (upd H3 ca (.tup [.int sn,.int kn])) n3 (.tup [.ref pa,.ref ca])) D (.lst (bs.map V.ref++[.ref n3]))):=aT G9;rw [zS,dE];exact P2.append (CsAt.mono ((Same.kt s4).trans k5) yw) (.cons ⟨pa,ca,k5 _ _ ab,k5 _ _ (s4 _ _ e2),k5 _ _ (ad Ea _ _ _ ab)⟩ .nil)
inductive iR (K:S8) (vs:List V) (H:Hp) (Q:VK) (_E:XK):Prop
 | mk (a:Ta) (t:Th) (yd:vs=[.ref a]) (ye:AtK K H t a) (yj:t.size<=100000) (yq:t.tall<=150) (yC:∀ (r:Ta) (ps:List Ta) (H':Hp),L2.Same H H'->H' r=some (.lst (ps.map V.ref))->T3 (fun (p:List Int) b=>H' b=some (.tup (p.map V.int))) (((t.pl []).filter fun p=>p.2.isHole).map (·.1)) ps->Q (.ref r) H'):iR K vs H Q _E
def oK (K:S8):Sp:=iR K
theorem jH:bi P w K mg base CX0 3 T.g_holes_in.f T.g_holes_in.d ["front"] (oK K):=by
 refine T.g_holes_in.F.ok pD (fun vs H Q E h=>?_) (fun yb A outer s H vs Q E hr h=>?_)
 · obtain ⟨a,t,rfl,_⟩:=h;rfl
 obtain ⟨a,t,rfl,hA,hsz,yy,k⟩:=h;refine ⟨_,(ag (aC (cw (N:=[Ti "place",Ti "part"]) (js:=[none,none]) (g:=(lX K 2 (cT (aF 0) (cT (aF 1) lR)))) (tt:=(fun σ H Q=>(g9 (kS K) [] E0 (bA (bC 1) dU)) σ H fun x H1=>∃ k,uv K x H1 k/\Q k H1)) (te:=(bC 0)) rfl (cG rfl (by decide +kernel) (by decide +kernel) rfl rfl rfl) (ck (pcF T.g_placed (gM T) hr (aa (pv 0) ac))) (fun _ _ _ _ _ _=>(bu rfl (au (aj (i:=0) uA rfl (Tz rfl)) (au (aj (i:=1) uA rfl (Tz rfl)) aX)))) (gf (bR aW (aS rfl) (bR aW (aS rfl) f7))) (fun _ _ _ _ _ _=>j5 (aY (pcF T.g_is_hole (iI T) hr (aa (pv 1) ac)) (fun _=>rfl))) (fun _ _ _ _ _ _=>(pv 0))))),?_⟩
 try dsimp only [yv,xW]
 refine ⟨_,rfl,a,t,rfl,hA,hsz,by omega,fun r as H1 s1 nr er yH=>⟨r,rfl,⟨_,SqL.of er⟩,?_⟩⟩;have zI:(t.pl []).length=as.length:=Tp yH;have yV:=Th.pl_len [] t;obtain ⟨bs,CT,yo⟩:=pick (G:=fun (p:List Int×Th) a b=>∃ ta,H1 a=some (.tup [.ref b,.ref ta])/\H1 b=some (.tup (p.1.map V.int))/\AtK K H1 p.2 ta) (fun p a ⟨pa,ta,h1,h2,h3⟩=>⟨pa,ta,h1,h2,h3⟩) yH;refine ig ((t.pl []).zip bs) (fun z=>z.1.2.isHole) (fun z=>V.ref z.2) (SqL.of er) (by rw [S6,Wz];omega) (by rw [S6];omega) (fun i x z H2 R R0 hx hz sm g1 g2=>?_) (fun D hD=>?_)
 · rw [Vz] at hz;refine hid fun ZZ kZ=>?_;obtain ⟨a',rfl,Bs⟩:=aU hx;obtain ⟨ta,f1,f2,f3⟩:=yo i _ _ _ hz.1 Bs hz.2;obtain ⟨_,_,_,Sb,_⟩:=ui t [] z.1.1 z.1.2 (Tb hz.1);refine kZ ?_;refine ⟨a',_,rfl,SqT.of (sm _ _ f1),rfl,_,_,rfl,_,_,rfl,rfl,?_⟩;refine ⟨_,rfl,ta,z.1.2,rfl,f3.mono (Same.kt sm),by omega,_,rfl,?_⟩;refine cQ (fun c=>?_) (fun c=>?_)
   · exact ⟨_,rfl,g1 c⟩
   · exact g2 (Vw.mpr c)
 · refine k D ((((t.pl []).zip bs).filter fun z=>z.1.2.isHole).map (·.2)) _ (s1.trans (ad hD _)) (by rw [ab,Vv];rfl) ?_;refine P2.mapl (·.1) (qS (xs:=t.pl []) (cs:=bs) (fun p:List Int×Th=>p.2.isHole) (by omega) fun i x c e1 e2=>?_);refine hid fun ZZ kZ=>?_;obtain ⟨a',Bs⟩:∃ a',as[i]?=some a':=⟨_,S9 (by have:=(Te.mp e2).1;omega)⟩;obtain ⟨ta,f1,f2,f3⟩:=yo i _ _ _ e1 Bs e2;refine kZ ?_;exact ad hD _ _ _ f2
inductive kA (K:S8) (vs:List V) (H:Hp) (Q:VK) (_E:XK):Prop
 | mk (a:Ta) (n:TY) (ks:List Th) (yd:vs=[.ref a]) (ye:AtK K H (.knot n ks) a) (yj:∀ (r:Ta) (H':Hp),L2.Same H H'->TopAtK K H' (.nm n ks.length) r->Q (.ref r) H'):kA K vs H Q _E
def rV (K:S8):Sp:=kA K
theorem mD:bi P w K mg base CX0 2 T.g_top_of.f T.g_top_of.d ["part"] (rV K):=by
 refine T.g_top_of.F.ok l4 (fun vs H Q E h=>?_) (fun yb A outer s H vs Q E hr h=>?_)
 · obtain ⟨a,n,ks,rfl,_⟩:=h;rfl
 obtain ⟨a,n,ks,rfl,hA,k⟩:=h
 refine ⟨_,(ae (av (i:=1) l4.nd rfl (Tz rfl) (ay ao rfl T.n_len TU (aa (pcF T.g_kids_of (iC T) hr (aa (pv 0) ac)) ac)))
  (ag (aC (aJ (aa (bq qv (pv 0) bS (bB (ax fT (ay ao rfl T.n_len TU (aa (pv 0) ac)) (pv 1)))) (aa (pv 1) ac)))))),?_⟩
 try dsimp only [yv,xW]
 refine ⟨_,rfl,a,.knot n ks,rfl,hA,fun r as H1 s1 er zK=>⟨r,_,rfl,.inr (SqT.of er),?_⟩⟩;rw [AtK] at hA;refine hid fun ZZ kZ=>?_;obtain ⟨hn,ka,ea,yT⟩:=hA;refine kZ ?_;have y4:ka.length=ks.length:=yT.length;have zI:as.length=ks.length:=zK.length;refine ⟨_,rfl,_,rfl,a,_,rfl,.inr ((ea.mono (Same.kt s1)).sq),_,rfl,_,_,rfl,rfl,_,rfl,a,_,rfl,ea.mono (Same.kt s1),fun p H2 s2 e2=>?_⟩
 have e1:((V.str n::ka.map V.ref).length:Int) - ((as.map V.ref).length:Int)=1:=by
  rw [To,S6,S6,y4,zI];omega
 have e3:TK K H2 p [.str n]:=by
  have Ae:TK K H2 p (dJ (V.str n::ka.map V.ref) none (some (((V.str n::ka.map V.ref).length:Int) - ((as.map V.ref).length:Int)))):=e2;rw [e1,qX] at Ae;exact Ae
 refine ⟨_,rfl,ai (by show 2<=1000000;decide),fun l hl=>?_⟩;refine k l _ (s1.trans (s2.trans (ad hl _))) ⟨p,?_,hn,e3.mono (dM hl)⟩;rw [ab,S6,zI]
inductive kR (K:S8) (vs:List V) (H:Hp) (Q:VK) (_E:XK):Prop
 | mk (a ta:Ta) (t:Th) (f:Int->Int->Th) (f':List (List Key×V)) (yd:vs=[.ref a,.ref ta]) (ye:AtK K H t a) (yj:t.size<=100000) (yq:Rd H ta (.dT f')) (yC:(∀ s k,Th.call s k∈t.walk->∃ v,aV f' [Ub s,Ub k]=some (.ref v)/\AtK K H (f s k) v/\(f s k).size<=100000)) (zj:∀ (r:Ta) (H':Hp),L2.Same H H'->AtK K H' (t.fill f) r->Q (.ref r) H'):kR K vs H Q _E
def ss (K:S8):Sp:=kR K
theorem sk:bi P w K mg base CX0 3 T.g_filled.f T.g_filled.d ["pattern","table"] (ss K):=by
 refine T.g_filled.F.ok jr (fun vs H Q E h=>?_) (fun yb A outer s H vs Q E hr h=>?_)
 · obtain ⟨a,ta,t,f,f',rfl,_⟩:=h;rfl
 obtain ⟨a,ta,t,f,f',rfl,hA,hsz,Nk,Ha,k⟩:=h
 refine ⟨_,(ae (av (i:=2) jr.nd rfl (Tz rfl) (bw ac))
  (ae (bv T2 rfl (ck (pcF T.g_walked (sy T) hr (aa (pv 0) ac))) (aj (i:=3) jr.nd rfl (Tz rfl)) (ag (bE (aY (pcF T.g_is_call (im T) hr (aa (pv 3) ac)) (fun _=>rfl)) (ag (aP (bJ Tr TM TL aN (pv 2) (aa (aJ (aa (m5 (l9 hr) (pv 1) (pcF T.g_called_by (iO T) hr (aa (pv 3) ac)) (fun _ _=>rfl)) (aa af ac))) ac)))) (ag (aP (bJ Tr TM TL aN (pv 2) (aa (pcF T.g_top_of (mD T) hr (aa (pv 3) ac)) ac)))))))
  (ag (aC (pcF T.g_built (lH T) hr (aa (pv 2) ac)))))),?_⟩
 try dsimp only [yv,xW]
 refine ⟨ai (by show 0<=1000000;decide),fun tl yy=>?_⟩;refine ⟨_,rfl,a,t,rfl,hA.mono (dM yy),hsz,fun wl as H1 s1 Hf NT hw=>?_⟩;have AM:as.length=t.walk.length:=hw.length;have Sd:=Th.walk_len t;have K7:L2.Same H H1:=(ad yy _).trans s1;have Qj:wl≠tl:=fun z=>by rw [z,ab] at Hf;cases Hf
 refine ⟨wl,rfl,⟨_,SqL.of NT⟩,?_⟩
 refine dD (K:=K) (a:=wl) (xs:=as.map V.ref) (fun i σ H2=>Ex2 fun c bs=>An6 (σ=[some (.ref a),some (.ref ta),some (.ref tl),c]) (L2.Same H H2) (H2 wl=some (.lst (as.map V.ref))) (AtsK K H2 t.walk as) (H2 tl=some (.lst (bs.map V.ref))) (T3 (TopAtK K H2) ((t.walk.take i).map (dX f)) bs))
  ⟨none,[],rfl,K7,NT,hw,s1 _ _ ab,.nil⟩ (fun i σ H2 _ ⟨_,_,_,_,e,_,_,_⟩=>SqL.of e) ?_ ?_
 · rintro i x σ H2 hx ⟨c,bs,rfl,s2,Hh,K8,AX,yw⟩;obtain ⟨xa,rfl,Jv⟩:=aU hx;obtain ⟨tx,NU,K9⟩:=K8.get Jv;have Qk:tx∈t.walk:=Tb NU;have zS:t.walk.take (i+1)=t.walk.take i++[tx]:=by rw [UN,NU];rfl
   have zy:bs.length<=100000:=by
    have:=Tp yw;rw [S6,Uc] at this;omega
   refine ⟨_,rfl,xa,tx,rfl,K9,_,rfl,?_⟩
   have push:∀ (H3:Hp) (p:Ta),L2.Same H2 H3->TopAtK K H3 (dX f tx) p->Ex2 fun c Bm=>An6 (([some (.ref a),some (.ref ta),some (.ref tl),some (.ref xa)]:St)=[some (.ref a),some (.ref ta),some (.ref tl),c]) (L2.Same H (upd H3 tl (.lst (bs.map V.ref++[.ref p])))) ((upd H3 tl (.lst (bs.map V.ref++[.ref p]))) wl=some (.lst (as.map V.ref))) (AtsK K (upd H3 tl (.lst (bs.map V.ref++[.ref p]))) t.walk as) ((upd H3 tl (.lst (bs.map V.ref++[.ref p]))) tl=some (.lst (Bm.map V.ref))) (T3 (TopAtK K (upd H3 tl (.lst (bs.map V.ref++[.ref p])))) ((t.walk.take (i+1)).map (dX f)) Bm):=by
    intro H3 p s3 hp;have k3:KT H3 (upd H3 tl (.lst (bs.map V.ref++[.ref p]))):=aT (s3 _ _ AX);refine ⟨_,bs++[p],rfl,aw (s2.trans s3) yy,by rw [ak Qj];exact s3 _ _ Hh,K8.mono ((Same.kt s3).trans k3),by rw [ab,Tu];rfl,?_⟩;rw [zS,Tu];exact P2.append (dH ((Same.kt s3).trans k3) yw) (.cons (hp.mono k3) .nil)
   cases tx with
   | call sn kn =>
     refine oF ?_;refine hid fun ZZ kZ=>?_;obtain ⟨v,hv,Ql,_⟩:=Ha sn kn Qk;refine kZ ?_;refine ⟨_,rfl,.inl ⟨rfl,_,SqL.of AX⟩,_,rfl,_,rfl,xa,sn,kn,rfl,K9,fun cb Qm=>?_⟩;have s3:L2.Same H2 (upd H2 cb (.tup [.int sn,.int kn])):=ad Qm _
     have K':Rd (upd H2 cb (.tup [.int sn,.int kn])) ta (.dT f'):=by
      rcases Nk with h | ⟨o,h⟩
      · exact .inl (s3 _ _ (s2 _ _ h))
      · exact .inr ⟨o,s3 _ _ (s2 _ _ h)⟩
     refine ⟨ta,.ref v,rfl,.inr ⟨f',[Ub sn,Ub kn],cb,K',rfl,ab,hv.symm⟩,ai (by show 2<=1000000;decide),fun p hp=>?_⟩;have s4:=s3.trans (ad hp (.tup [.ref v,.int 0]));refine ⟨tl,_,_,rfl,rfl,s4 _ _ AX,aH (by rw [S6];omega),?_⟩;exact push _ p s4 ⟨v,ab,Ql.mono (Same.kt (s2.trans s4))⟩
   | knot nm us =>
     refine cO ?_;refine ⟨_,rfl,.inl ⟨rfl,_,SqL.of AX⟩,_,rfl,xa,nm,us,rfl,K9,fun p H3 s3 hp=>?_⟩;refine ⟨tl,_,_,rfl,rfl,s3 _ _ AX,aH (by rw [S6];omega),?_⟩;exact push _ p s3 hp
 · rintro σ H2 ⟨c,bs,rfl,s2,Hh,K8,AX,yw⟩;rw [S6,AM,VG] at yw;obtain ⟨b1,b2⟩:=qQ f t;refine ⟨_,rfl,tl,bs,_,t.fill f,rfl,AX,yw,by rw [S6];omega,b2,?_,b1,fun r H3 s3 Hi=>k r H3 (s2.trans s3) Hi⟩;intro u hu;obtain ⟨x,hx,e⟩:=Um.mp hu;cases x with
   | knot nm us=>cases e
   | call sn kn =>
     cases e;refine hid fun ZZ kZ=>?_;obtain ⟨v,_,_,hz⟩:=Ha sn kn hx;refine kZ ?_;exact hz
inductive iL (K:S8) (vs:List V) (H:Hp) (Q:VK) (_E:XK):Prop
 | mk (x y:Ta) (l r:Th) (yd:vs=[.ref x,.ref y]) (ye:AtK K H l x) (yj:AtK K H r y) (yq:l.tall<=150) (yC:Q (.bl (aG l r)) H):iL K vs H Q _E
def oi (K:S8):Sp:=iL K
theorem jB:bi P w K mg base CX0 3 T.g_same_top.f T.g_same_top.d ["one","two"] (oi K):=by
 refine T.g_same_top.F.ok oh (fun vs H Q E h=>?_) (fun yb A outer s H vs Q E hr h=>?_)
 · obtain ⟨x,y,l,r,rfl,_⟩:=h;rfl
 obtain ⟨x,y,l,r,rfl,hx,hy,yy,k⟩:=h;refine ⟨_,(ag (aC (nI (pcF T.g_is_knot (qp T) hr (aa (pv 0) ac)) (nI (iY cM (az aD (pv 0) af (fun _ _=>rfl)) (az aD (pv 1) af (fun _ _=>rfl)) (aO _)) (pK (iY cM (ay ao rfl T.n_len TU (aa (pv 0) ac)) (ay ao rfl T.n_len TU (aa (pv 1) ac)) (aO _))))))),?_⟩
 try dsimp only [yv,xW]
 rw [oR hx r] at k;refine hid fun ZZ kZ=>?_;obtain ⟨xr,ex,lx⟩:=hx.row;obtain ⟨yr,ey,ly⟩:=hy.row;refine kZ ?_;refine ⟨_,rfl,x,l,rfl,hx,yy,_,rfl,?_⟩;refine cQ (fun c=>?_) (fun c=>?_)
 · rw [c] at k;refine ⟨_,rfl,x,_,0,.str l.name,rfl,rfl,ex.sq,at0,_,rfl,y,_,0,.str r.name,rfl,rfl,ey.sq,at0,rfl,_,rfl,?_⟩;refine cQ (fun c2=>?_) (fun c2=>?_)
   · have e2:l.name=r.name:=V.str.inj (of_decide_eq_true c2);refine ⟨_,rfl,x,_,rfl,.inr (ex.sq),_,rfl,y,_,rfl,.inr (ey.sq),rfl,?_⟩
     have e3:decide (V.int ((V.str l.name::xr).length:Nat)=V.int ((V.str r.name::yr).length:Nat))=decide (l.wid=r.wid):=by
      rw [To,To,lx,ly];by_cases e:l.wid=r.wid
      · rw [e];simp
      · rw [decide_eq_false e,decide_eq_false];intro z;exact e (by have:=V.int.inj z;omega)
     rw [e3];rw [decide_eq_true e2] at k;exact k
   · have e2:l.name≠r.name:=fun e=>c2 (decide_eq_true (by rw [e]));rw [decide_eq_false e2] at k;exact k
 · rw [Vw.mpr c] at k;exact k
inductive ff (K:S8) (vs:List V) (H:Hp) (Q:VK) (_E:XK):Prop
 | mk (x y:Ta) (l r:Th) (yd:vs=[.ref x,.ref y]) (ye:AtK K H l x) (yj:AtK K H r y) (yq:l.tall<=150) (yC:l.size<=100000) (zj:∀ (m:Ta) (as:List Ta) (H':Hp),L2.Same H H'->H m=none->H' m=some (.lst (as.map V.ref))->T3 (PPK K H') (l.sbs r) as->Q (.ref m) H'):ff K vs H Q _E
def jT (K:S8):Sp:=ff K
theorem jV:bi P w K mg base CX0 4 T.g_side_by_side.f T.g_side_by_side.d ["one","two"] (jT K):=by
 refine T.g_side_by_side.F.ok ce (fun vs H Q E h=>?_) (fun yb A outer s H vs Q E hr h=>?_)
 · obtain ⟨x,y,l,r,rfl,_⟩:=h;rfl
 obtain ⟨x,y,l,r,rfl,hx,hy,yy,hsz,k⟩:=h
 refine ⟨_,(ae (av (i:=2) ce.nd rfl (Tz rfl) (bw ac))
  (ae (av (i:=3) ce.nd rfl (Tz rfl) (bw (aa (aJ (aa (pv 0) (aa (pv 1) ac))) ac)))
  (ae (dF T2 (aY (pv 3) (fun _=>rfl)) (ae (cK (ju Tr V2 V1 jl (pv 3)) (bu rfl (au (aj (i:=4) ce.nd rfl (Tz rfl)) (au (aj (i:=5) ce.nd rfl (Tz rfl)) aX))))
  (ae (aP (bJ Tr TM TL aN (pv 2) (aa (aJ (aa (pv 4) (aa (pv 5) ac))) ac)))
  (ag (bE (aY (pcF T.g_same_top (jB T) hr (aa (pv 4) (aa (pv 5) ac))) (fun _=>rfl)) (ag (aP (bJ Tr Wh Wg gE (pv 3) (aa (kF rfl rfl T.n_list rfl T.n_reversed (qt rfl rfl T.n_list rfl T.n_zip (aa (bq eO (pv 4) (bB af) bS) (aa (bq eO (pv 5) (bB af) bS) ac)))) ac)))) bj)))))
  (ag (aC (pv 2)))))),?_⟩
 try dsimp only [yv,xW]
 refine ⟨by show 0<=TB;decide,fun mt Ah=>?_⟩;refine ⟨_,rfl,_,rfl,by show 2<=TB;decide,fun t0 NV=>⟨by show 1<=TB;decide,fun ah Aa=>?_⟩⟩;have s0:L2.Same H (upd (upd H mt (.lst [])) t0 (.tup [.ref x,.ref y])):=(ad Ah _).trans (ad NV _);have e0:(upd (upd H mt (.lst [])) t0 (.tup [.ref x,.ref y])) mt=some (.lst []):=ad NV _ _ _ ab;have e1:(upd (upd H mt (.lst [])) t0 (.tup [.ref x,.ref y])) t0=some (.tup [.ref x,.ref y]):=ab;generalize (upd (upd H mt (.lst [])) t0 (.tup [.ref x,.ref y]))=H1 at s0 e0 e1 Aa ⊢;have zN:H ah=none:=s0.free Aa;have yk:ah≠mt:=fun z=>by rw [z,e0] at Aa;cases Aa
 refine ⟨fun m σ H2=>Ex6 fun (ms as:List Ta) (Ms As:List (Th×Th)) (p p':Option V)=>vV (σ=[some (.ref x),some (.ref y),some (.ref mt),some (.ref ah),p,p']) (L2.Same H H2) (H2 mt=some (.lst (ms.map V.ref))) (H2 ah=some (.lst (as.map V.ref))) (T3 (PPK K H2) Ms ms) (T3 (PPK K H2) As as) (Ms++wks As.reverse=l.sbs r) ((∀ p∈As,p.1.tall<=150)) (Ms.length+szL As<=100000) (m=szL As),⟨_,[],[t0],[],[(l,r)],none,none,rfl,?_,?_,?_,.nil,.cons ⟨x,y,?_,hx.mono ?_,hy.mono ?_⟩ .nil,?_,?_,?_,rfl⟩,?_⟩
 · exact aw s0 zN
 · rw [ak yk.symm];exact e0
 · rw [ab];rfl
 · rw [ak (aI e1 Aa)];exact e1
 · exact Same.kt (aw s0 zN)
 · exact Same.kt (aw s0 zN)
 · show wks [(l,r)]=_;rw [wks,wks,Ui]
 · intro p hp;rw [TR] at hp;subst hp;exact yy
 · show 0+(l.size+0)<=100000;omega
 rintro m σ H2 ⟨ms,as,Ms,As,p,p',rfl,sm,e1,e2,a1,a2,hw,zO,hlen,rfl⟩;have Jw:Ms.length=ms.length:=Tp a1;refine ⟨_,rfl,_,.inl ⟨_,SqL.of e2,rfl⟩,?_⟩;refine cQ (fun c=>?_) (fun c=>?_)
 · refine ⟨fun xS H'=>∃ m',m'<szL As/\Ex6 fun (ms as:List Ta) (Ms As:List (Th×Th)) (p p':Option V)=>vV (xS=[some (.ref x),some (.ref y),some (.ref mt),some (.ref ah),p,p']) (L2.Same H H') (H' mt=some (.lst (ms.map V.ref))) (H' ah=some (.lst (as.map V.ref))) (T3 (PPK K H') Ms ms) (T3 (PPK K H') As as) (Ms++wks As.reverse=l.sbs r) ((∀ p∈As,p.1.tall<=150)) (Ms.length+szL As<=100000) (m'=szL As),fun xS H' h=>h,?_⟩;have yZ:as≠[]:=by intro z;subst z;simp at c
   refine hid fun ZZ kZ=>?_;obtain ⟨yg,b,rfl⟩:∃ yg b,as=yg++[b]:=⟨as.dropLast,as.getLast yZ,(Vp yZ).symm⟩;obtain ⟨Us,u,rfl,a3,u1,u2,a4,a5,a6⟩:=P2.snoc_inv a2;obtain ⟨ul,ur⟩:=u;refine kZ ?_;simp only at a5 a6;have hs:szL (Us++[(ul,ur)])=szL Us+ul.size:=by rw [dG,szL,szL];rfl
   have GY:=ul.size_eq;rw [hs] at hlen;have Jx:ul.tall<=150:=zO (ul,ur) (by simp);have NW:∀ p∈Us,p.1.tall<=150:=fun p hp=>zO p (by simp [hp]);refine ⟨_,rfl,.inl ⟨rfl,_,SqL.of e2⟩,ah,_,.ref b,rfl,rfl,e2,by simp,?_⟩;have d1:((yg++[b]).map V.ref).dropLast=yg.map V.ref:=by simp
   rw [d1];have k0:KT H2 (upd H2 ah (.lst (yg.map V.ref))):=aT e2;have f1:(upd H2 ah (.lst (yg.map V.ref))) mt=some (.lst (ms.map V.ref)):=by rw [ak yk.symm];exact e1
   have f2:(upd H2 ah (.lst (yg.map V.ref))) ah=some (.lst (yg.map V.ref)):=ab;have s3:L2.Same H (upd H2 ah (.lst (yg.map V.ref))):=aw sm zN;generalize (upd H2 ah (.lst (yg.map V.ref)))=H3 at k0 f1 f2 s3 ⊢;refine ⟨b,_,rfl,SqT.of (k0 _ _ a4),rfl,_,_,rfl,_,_,rfl,rfl,?_⟩;refine ⟨_,rfl,.inl ⟨rfl,_,SqL.of f1⟩,_,rfl,_,rfl,by show 2<=TB;decide,fun t1 Qn=>?_⟩;have s4:L2.Same H3 (upd H3 t1 (.tup [.ref u1,.ref u2])):=ad Qn _;have e4:(upd H3 t1 (.tup [.ref u1,.ref u2])) t1=some (.tup [.ref u1,.ref u2]):=ab;generalize (upd H3 t1 (.tup [.ref u1,.ref u2]))=H4 at s4 e4 ⊢;refine ⟨mt,_,_,rfl,rfl,s4 _ _ f1,aH (by rw [S6];omega),?_⟩;have k5:KT H4 (upd H4 mt (.lst (ms.map V.ref++[.ref t1]))):=aT (s4 _ _ f1);have g1:(upd H4 mt (.lst (ms.map V.ref++[.ref t1]))) mt=some (.lst ((ms++[t1]).map V.ref)):=by rw [ab,Tu];rfl
   have g2:(upd H4 mt (.lst (ms.map V.ref++[.ref t1]))) ah=some (.lst (yg.map V.ref)):=by rw [ak yk];exact s4 _ _ f2
   have s5:L2.Same H (upd H4 mt (.lst (ms.map V.ref++[.ref t1]))):=aw (s3.trans s4) Ah;generalize (upd H4 mt (.lst (ms.map V.ref++[.ref t1])))=H5 at k5 g1 g2 s5 ⊢;have Dg:KT H2 H5:=(k0.trans (Same.kt s4)).trans k5;have aM:T3 (PPK K H5) (Ms++[(ul,ur)]) (ms++[t1]):=P2.append (du Dg a1) (.cons ⟨u1,u2,k5 _ _ e4,a5.mono Dg,a6.mono Dg⟩ .nil);refine ⟨_,rfl,_,rfl,u1,u2,ul,ur,rfl,a5.mono Dg,a6.mono Dg,Jx,_,rfl,?_⟩
   have E1:Ms++((ul,ur)::((if aG ul ur=true then wks (ul.kids.zip ur.kids) else [])++wks Us.reverse))=l.sbs r:=by
    rw [<- hw,UY];show _=Ms++wks ((ul,ur)::Us.reverse);rw [tV]
   refine cQ (fun ct=>?_) (fun ct=>?_)
   · refine hid fun ZZ kZ=>?_;obtain ⟨n,ks,us,rfl,rfl,Se,C7⟩:=bM ct;have NX:=a5.mono Dg;have NY:=a6.mono Dg;rw [AtK] at NX NY;obtain ⟨Jr,ka,ek,yT⟩:=NX;obtain ⟨Nn,ua,eu,Hj⟩:=NY;refine kZ ?_;rw [if_pos ct] at E1;have hz:=iS ks us;refine ⟨_,rfl,.inl ⟨rfl,_,SqL.of g2⟩,_,rfl,1,rfl,u1,_,rfl,ek.sq,?_,fun c1 Jy=>?_⟩
     · intro z;have:=z.1;simp [HT.sIx] at this
     rw [dA];have s6:L2.Same H5 (upd H5 c1 (.tup (ka.map V.ref))):=ad Jy _;have e6:(upd H5 c1 (.tup (ka.map V.ref))) c1=some (.tup (ka.map V.ref)):=ab;generalize (upd H5 c1 (.tup (ka.map V.ref)))=H6 at s6 e6 ⊢;refine ⟨_,rfl,1,rfl,u2,_,rfl,(eu.mono (Same.kt s6)).sq,?_,fun c2 BL=>?_⟩
     · intro z;have:=z.1;simp [HT.sIx] at this
     rw [dA];have s7:L2.Same H6 (upd H6 c2 (.tup (ua.map V.ref))):=ad BL _;have e7:(upd H6 c2 (.tup (ua.map V.ref))) c2=some (.tup (ua.map V.ref)):=ab;generalize (upd H6 c2 (.tup (ua.map V.ref)))=H7 at s7 e7 ⊢;refine ⟨c1,c2,_,_,rfl,SqT.of (s7 _ _ e6),SqT.of e7,fun zl zs H8 s8 Sf Qo GQ=>?_⟩;have Dh:L2.Same H5 H8:=s6.trans (s7.trans s8);have NZ:T3 (PPK K H8) (ks.zip us) zs:=pB (yT.mono (Same.kt Dh)) (Hj.mono (Same.kt Dh)) GQ;have NC:(ks.zip us).length=zs.length:=Tp NZ;have Sg:(ks.zip us).length<=szL (ks.zip us):=nq _;refine ⟨true,zl,_,rfl,SqB.l (SqL.of Qo),fun rl D9=>?_⟩;have s9:L2.Same H8 (upd H8 rl (.lst (zs.map V.ref).reverse)):=ad D9 _;have e9:(upd H8 rl (.lst (zs.map V.ref).reverse)) rl=some (.lst (zs.map V.ref).reverse):=ab;have Sh:H5 rl=none:=Dh.free D9;generalize (upd H8 rl (.lst (zs.map V.ref).reverse))=H9 at s9 e9 ⊢;have Hk:=Dh.trans s9;have N0:Us.length=yg.length:=Tp a3;have Si:=nq Us;refine ⟨ah,rl,_,_,rfl,rfl,Hk _ _ g2,e9,WT (aH ?_),?_⟩
     · rw [S6,UP,S6];simp only [Th.kids] at GY;omega
     have N1:KT H9 (upd H9 ah (.lst (yg.map V.ref++(zs.map V.ref).reverse))):=aT (Hk _ _ g2);have N2:KT H5 (upd H9 ah (.lst (yg.map V.ref++(zs.map V.ref).reverse))):=(Same.kt Hk).trans N1;simp only [Th.kids] at GY E1;refine ⟨szL (Us++(ks.zip us).reverse),?_,ms++[t1],yg++zs.reverse,Ms++[(.knot n ks,.knot n us)],Us++(ks.zip us).reverse,_,_,rfl,?_,?_,?_,du N2 aM,?_,?_,?_,?_,rfl⟩
     · rw [dG,qY,hs];omega
     · exact aw (s5.trans Hk) zN
     · rw [ak yk.symm];exact Hk _ _ g1
     · rw [ab,Tu,X7]
     · exact P2.append (du (Dg.trans N2) a3) (P2.reverse (du ((Same.kt s9).trans N1) NZ))
     · rw [UY,Vq,lv,<- E1,UB];rfl
     · intro p hp;rcases Ul.mp hp with hp | hp
       · exact NW p hp
       · have y3:=(Wy (List.mem_reverse.mp hp)).1;have:=bW y3;rw [Th.tall] at Jx;omega
     · rw [dG,qY,TC];show Ms.length+1+_<=_;omega
   · rw [if_neg ct] at E1;refine ⟨szL Us,?_,ms++[t1],yg,Ms++[(ul,ur)],Us,_,_,rfl,s5,g1,g2,aM,du Dg a3,?_,NW,?_,rfl⟩
     · rw [hs];omega
     · rw [<- E1,UB];rfl
     · rw [TC];show Ms.length+1+_<=_;omega
 · have hz:as=[]:=by
    cases as with
    | nil=>rfl
    | cons y ys=>simp at c
   subst hz;have CS:As=[]:=UZ.mp (Tp a2);subst CS;refine ⟨_,rfl,k mt ms H2 sm Ah e1 ?_⟩
   have ET:Ms=l.sbs r:=by
    rw [<- hw,List.reverse_nil,wks,Ui]
   rw [<- ET];exact a1
inductive j6 (K:S8) (vs:List V) (H:Hp) (Q:VK) (_E:XK):Prop
 | mk (x y:Ta) (l r:Th) (yd:vs=[.ref x,.ref y]) (ye:AtK K H l x) (yj:AtK K H r y) (yq:l.tall<=150) (yC:l.size<=100000) (zj:∀ (m:Ta) (H':Hp),L2.Same H H'->AtK K H' (l.com r) m->Q (.ref m) H'):j6 K vs H Q _E
def rT (K:S8):Sp:=j6 K
theorem rF:bi P w K mg base CX0 5 T.g_common.f T.g_common.d ["one","two"] (rT K):=by
 refine T.g_common.F.ok gJ (fun vs H Q E h=>?_) (fun yb A outer s H vs Q E hr h=>?_)
 · obtain ⟨x,y,l,r,rfl,_⟩:=h;rfl
 obtain ⟨x,y,l,r,rfl,hx,hy,yy,hsz,k⟩:=h
 refine ⟨_,(ae (av (i:=2) gJ.nd rfl (Tz rfl) (bw ac))
  (ae (bv T2 rfl (ck (pcF T.g_side_by_side (jV T) hr (aa (pv 0) (aa (pv 1) ac)))) (bu rfl (au (aj (i:=3) gJ.nd rfl (Tz rfl)) (au (aj (i:=4) gJ.nd rfl (Tz rfl)) aX))) (ag (bE (aY (pcF T.g_same_top (jB T) hr (aa (pv 3) (aa (pv 4) ac))) (fun _=>rfl)) (ag (aP (bJ Tr TM TL aN (pv 2) (aa (pcF T.g_top_of (mD T) hr (aa (pv 3) ac)) ac)))) (ag (aP (bJ Tr TM TL aN (pv 2) (aa (aJ (aa (gN (v:=.ref T.a_HOLE) rfl T.c_HOLE rfl) (aa af ac))) ac)))))))
  (ag (aC (pcF T.g_built (lH T) hr (aa (pv 2) ac)))))),?_⟩
 try dsimp only [yv,xW]
 refine ⟨ai (by show 0<=1000000;decide),fun tl Di=>?_⟩;refine ⟨_,rfl,_,rfl,x,y,l,r,rfl,hx.mono (dM Di),hy.mono (dM Di),yy,hsz,fun m as H1 s1 nm em hp=>⟨m,rfl,⟨_,SqL.of em⟩,?_⟩⟩;have yV:(l.sbs r).length=as.length:=Tp hp;have N3:=uQ l r;have K7:L2.Same H H1:=(ad Di _).trans s1;have Ah:m≠tl:=fun z=>by rw [z,ab] at nm;cases nm
 refine dD (K:=K) (a:=m) (xs:=as.map V.ref) (fun i σ H2=>Ex3 fun c c' bs=>An6 (σ=[some (.ref x),some (.ref y),some (.ref tl),c,c']) (L2.Same H H2) (H2 m=some (.lst (as.map V.ref))) (T3 (PPK K H2) (l.sbs r) as) (H2 tl=some (.lst (bs.map V.ref))) (T3 (TopAtK K H2) (((l.sbs r).take i).map topC) bs)) ⟨none,none,[],rfl,K7,em,hp,s1 _ _ ab,.nil⟩ (fun i σ H2 _ ⟨_,_,_,_,_,e,_,_,_⟩=>SqL.of e) ?_ ?_
 · rintro i v σ H2 hv ⟨c,c',bs,rfl,s2,Bl,zX,AX,yw⟩;refine hid fun ZZ kZ=>?_;obtain ⟨b,rfl,hb⟩:=aU hv;obtain ⟨⟨ul,ur⟩,hu,u1,u2,e1,e2,e3⟩:=P2.get' zX hb;refine kZ ?_;simp only at e2 e3;have hm:=uC (Tb hu);simp only at hm;have zS:((l.sbs r).take (i+1)).map topC=((l.sbs r).take i).map topC++[topC (ul,ur)]:=by rw [UN,hu,Tu];rfl
   have zy:bs.length<=100000:=by
    have:=Tp yw;rw [S6,Uc] at this;omega
   refine ⟨b,_,rfl,SqT.of e1,rfl,_,_,rfl,_,_,rfl,rfl,?_⟩
   have push:∀ (H3:Hp) (p:Ta),L2.Same H2 H3->TopAtK K H3 (topC (ul,ur)) p->Ex3 fun c c' Bm=>An6 (([some (.ref x),some (.ref y),some (.ref tl),some (.ref u1),some (.ref u2)]:St)=[some (.ref x),some (.ref y),some (.ref tl),c,c']) (L2.Same H (upd H3 tl (.lst (bs.map V.ref++[.ref p])))) ((upd H3 tl (.lst (bs.map V.ref++[.ref p]))) m=some (.lst (as.map V.ref))) (T3 (PPK K (upd H3 tl (.lst (bs.map V.ref++[.ref p])))) (l.sbs r) as) ((upd H3 tl (.lst (bs.map V.ref++[.ref p]))) tl=some (.lst (Bm.map V.ref))) (T3 (TopAtK K (upd H3 tl (.lst (bs.map V.ref++[.ref p])))) (((l.sbs r).take (i+1)).map topC) Bm):=by
    intro H3 p s3 Hl;have k3:KT H3 (upd H3 tl (.lst (bs.map V.ref++[.ref p]))):=aT (s3 _ _ AX);refine ⟨_,_,bs++[p],rfl,aw (s2.trans s3) Di,by rw [ak Ah];exact s3 _ _ Bl,du ((Same.kt s3).trans k3) zX,by rw [ab,Tu];rfl,?_⟩;rw [zS];exact P2.append (dH ((Same.kt s3).trans k3) yw) (.cons (Hl.mono k3) .nil)
   refine ⟨_,rfl,_,rfl,u1,u2,ul,ur,rfl,e2,e3,by omega,_,rfl,?_⟩;refine cQ (fun ct=>?_) (fun ct=>?_)
   · have ht:topC (ul,ur)=.nm ul.name ul.kids.length:=by unfold topC;rw [if_pos ct]
     obtain ⟨n,ks,us,rfl,rfl,_,_⟩:=bM ct;refine ⟨_,rfl,.inl ⟨rfl,_,SqL.of AX⟩,_,rfl,u1,n,ks,rfl,e2,fun p H3 s3 Hl=>?_⟩;refine ⟨tl,_,_,rfl,rfl,s3 _ _ AX,aH (by rw [S6];omega),?_⟩;exact push _ p s3 (by rw [ht];exact Hl)
   · have ht:topC (ul,ur)=.th hole:=by unfold topC;rw [if_neg ct]
     refine ⟨_,rfl,.inl ⟨rfl,_,SqL.of AX⟩,ai (by show 2<=1000000;decide),fun p Qp=>?_⟩;have s3:L2.Same H2 (upd H2 p (.tup [.ref T.a_HOLE,.int 0])):=ad Qp _;refine ⟨tl,_,_,rfl,rfl,s3 _ _ AX,aH (by rw [S6];omega),?_⟩;exact push _ p s3 (by rw [ht];exact ⟨T.a_HOLE,ab,tZ (TK.const T.q_HOLE)⟩)
 · rintro σ H2 ⟨c,c',bs,rfl,s2,Bl,zX,AX,yw⟩;rw [S6,<- yV,VG] at yw;obtain ⟨b1,b2⟩:=v6 l r;refine ⟨_,rfl,tl,bs,_,l.com r,rfl,AX,yw,by rw [S6];omega,b2,?_,b1,fun rr H3 s3 Hi=>k rr H3 (s2.trans s3) Hi⟩;intro u hu;obtain ⟨p,y3,e⟩:=Um.mp hu;unfold topC at e;split at e
   · cases e
   · cases e;rw [eY];omega
inductive lJ (vs:List V) (H:Hp) (Q:VK) (_E:XK):Prop
 | mk (b:Ta) (v1 v2 v3 v4:V) (yd:vs=[.ref b]) (ye:H b=some (.tup [v1,v2,v3,v4])) (yj:Q v1 H):lJ  vs H Q _E
def si:Sp:=lJ
inductive iN (vs:List V) (H:Hp) (Q:VK) (_E:XK):Prop
 | mk (b:Ta) (v1 v2 v3 v4:V) (yd:vs=[.ref b]) (ye:H b=some (.tup [v1,v2,v3,v4])) (yj:Q v4 H):iN  vs H Q _E
def oj:Sp:=iN
theorem eU:bi P w K mg base CX0 1 T.g_ins_of.f T.g_ins_of.d ["book"] si:=by
 refine T.g_ins_of.F.ok r9 (fun vs H Q E h=>?_) (fun yb A outer s H vs Q E hr h=>?_)
 · obtain ⟨b,v1,v2,v3,v4,rfl,_⟩:=h;rfl
 obtain ⟨b,v1,v2,v3,v4,rfl,e,q⟩:=h;refine ⟨_,(ag (aC (az aD (pv 0) af (fun _ _=>rfl)))),?_⟩
 try dsimp only [yv,xW]
 exact ⟨_,rfl,b,_,0,v1,rfl,rfl,SqT.of e,at0,q⟩
theorem dY:bi P w K mg base CX0 1 T.g_rules_of.f T.g_rules_of.d ["book"] oj:=by
 refine T.g_rules_of.F.ok nX (fun vs H Q E h=>?_) (fun yb A outer s H vs Q E hr h=>?_)
 · obtain ⟨b,v1,v2,v3,v4,rfl,_⟩:=h;rfl
 obtain ⟨b,v1,v2,v3,v4,rfl,e,q⟩:=h;refine ⟨_,(ag (aC (az aD (pv 0) af (fun _ _=>rfl)))),?_⟩
 try dsimp only [yv,xW]
 exact ⟨_,rfl,b,_,3,v4,rfl,rfl,SqT.of e,ci (j:=3) rfl,q⟩
inductive gW (vs:List V) (H:Hp) (Q:VK) (_E:XK):Prop
 | mk (b:Ta) (v1 v2 v3:V) (ra:Ta) (xs:List V) (yd:vs=[.ref b]) (ye:H b=some (.tup [v1,v2,v3,.ref ra])) (yj:H ra=some (.tup xs)) (yq:Q (.int xs.length) H):gW  vs H Q _E
def nL:Sp:=gW
theorem ni:bi P w K mg base CX0 2 T.g_states_of.f T.g_states_of.d ["book"] nL:=by
 refine T.g_states_of.F.ok nE (fun vs H Q E h=>?_) (fun yb A outer s H vs Q E hr h=>?_)
 · obtain ⟨b,v1,v2,v3,ra,xs,rfl,_⟩:=h;rfl
 obtain ⟨b,v1,v2,v3,ra,xs,rfl,e,e2,q⟩:=h;refine ⟨_,(ag (aC (ay ao rfl T.n_len TU (aa (pcF T.g_rules_of (dY T) hr (aa (pv 0) ac)) ac)))),?_⟩
 try dsimp only [yv,xW]
 exact ⟨_,rfl,b,_,_,_,_,rfl,e,ra,_,rfl,.inr (SqT.of e2),q⟩
inductive gh (vs:List V) (H:Hp) (Q:VK) (_E:XK):Prop
 | mk (ia:Ta) (ya:List Ta) (ins:List (TY×Int)) (yd:vs=[.ref ia]) (ye:H ia=some (.tup (ya.map V.ref))) (yj:KsAt H ins ya) (yq:bV ins) (yC:∀ (r:Ta) (H':Hp),L2.Same H H'->At H' (aR ins) r->Q (.ref r) H'):gh  vs H Q _E
def gZ:Sp:=gh
theorem eL:bi P w K mg base CX0 1 T.g_small_tree.f T.g_small_tree.d ["ins"] gZ:=by
 refine T.g_small_tree.F.ok lY (fun vs H Q E h=>?_) (fun yb A outer s H vs Q E hr h=>?_)
 · obtain ⟨ia,ya,ins,rfl,_⟩:=h;rfl
 obtain ⟨ia,ya,ins,rfl,ei,zP,g,q⟩:=h;refine ⟨_,(ag (aC (az aL (cw (N:=[Ti "name",Ti "many"]) (js:=[none,none]) (g:=(lX K 2 (cT (aF 0) (cT (aF 1) lR)))) (tt:=(qL (tOp (rEq) (bC 1) (tC (.int 0))))) (te:=(jS (bA (bC 0) dU))) rfl (cG rfl (by decide +kernel) (by decide +kernel) rfl rfl rfl) (jz (pv 0)) (fun _ _ _ _ _ _=>(bu rfl (au (aj (i:=0) uR rfl (Tz rfl)) (au (aj (i:=1) uR rfl (Tz rfl)) aX)))) (gf (bR aW (aS rfl) (bR aW (aS rfl) f7))) (fun _ _ _ _ _ _=>j5 (aK cM (pv 1) af (aO _))) (fun _ _ _ _ _ _=>(aJ (aa (pv 0) ac)))) af (fun _ _=>rfl)))),?_⟩
 try dsimp only [yv,xW]
 have zx:ins.length=ya.length:=Tp zP;have CU:=g.le;refine ⟨_,rfl,ia,rfl,⟨_,SqT.of ei⟩,tw (F:=fun H (k:TY×Int) a=>At H (.knot k.1 []) a) (xs:=ya.map V.ref) ins (fun k=>decide (k.2=0)) (fun H1 H2 z p kt h=>h.mono kt) (by rw [S6];exact zx) (by rw [S6];omega) (fun i Hx sx hi=>⟨_,_,SqT.of (sx _ _ ei),S9 hi⟩) (fun Hx sx=>⟨_,SqT.of (sx _ _ ei),Td _⟩) (fun i Hx x Hy sx hi hy=>⟨hy.1,hy.2 _ (SqT.of (sx _ _ ei))⟩) (fun i x z Hx R W' hx Au sx hR hW=>?_) (fun D H1 as hD s1 eD AY=>?_)⟩
 · obtain ⟨ka,rfl,yT⟩:=aU hx;obtain ⟨z',zG,ez⟩:=P2.get' zP yT;rw [Au] at zG;cases zG;have La:Hx ka=some (.tup [.str z.1,.int z.2]):=sx _ _ ez;refine ⟨ka,_,rfl,SqT.of La,rfl,_,_,rfl,_,_,rfl,rfl,_,rfl,rfl,_,rfl,?_⟩;have hm:=Tb Au;by_cases hc:z.2=0
   · rw [if_pos (decide_eq_true (by rw [hc]))];refine ⟨_,rfl,ai (by show 1<=1000000;decide),fun p hp=>hR (decide_eq_true hc) _ p (ad hp _) ?_⟩;rw [At];exact ⟨qM (g.low z hm).1,[],ab,.nil⟩
   · rw [if_neg (fun z2=>hc (V.int.inj (of_decide_eq_true z2)))];exact hW (decide_eq_false hc) _ (.refl _)
 · refine hid fun ZZ kZ=>?_;obtain ⟨k0,zC,CN⟩:=kG g;obtain ⟨r,Lb,hA⟩:=P2.get AY (i:=0) zC;refine kZ ?_;exact ⟨D,_,0,.ref r,rfl,rfl,SqL.of eD,at_nonneg (Int.le_refl _) (by rw [Tn];show Option.map V.ref as[0]?=_;rw [Lb];rfl),q r H1 s1 (by rw [fb zC];exact hA)⟩
def u6 (H:Hp) (ins:List (TY×Int)) (f':List (Key×V)) (us:List Th):Prop:=∀ (i:Nat) (u:Th),us[i]?=some u->(∃ a,aV f' (Ub (i:Int))=some (.ref a)/\At H u a)∨(aV f' (Ub (i:Int))=none/\u=aR ins)
inductive gq (vs:List V) (H:Hp) (Q:VK) (_E:XK):Prop
 | mk (ia ka da:Ta) (ya:List Ta) (ins:List (TY×Int)) (kd:TY×Int) (f':List (Key×V)) (us:List Th) (yd:vs=[.ref ia,.ref ka,.ref da]) (ye:H ia=some (.tup (ya.map V.ref))) (yj:KsAt H ins ya) (yq:bV ins) (yC:KAt H kd ka) (zj:kd∈ins) (Bi:H da=some (.dK f')) (Bt:us.length=kd.2.toNat) (Dj:u6 H ins f' us) (FN:∀ (r:Ta) (H':Hp),L2.Same H H'->At H' (.knot kd.1 us) r->Q (.ref r) H'):gq  vs H Q _E
def lZ:Sp:=gq
set_option maxHeartbeats 1000000 in
theorem eK:bi P w K mg base CX0 2 T.g_knot_above.f T.g_knot_above.d ["ins","kind","kids"] lZ:=by
 refine T.g_knot_above.F.ok eJ (fun vs H Q E h=>?_) (fun yb A outer s H vs Q E hr h=>?_)
 · obtain ⟨ia,ka,da,ya,ins,kd,f',us,rfl,_⟩:=h;rfl
 obtain ⟨ia,ka,da,ya,ins,kd,f',us,rfl,ei,zP,g,ek,hm,ed,N4,Gn,q⟩:=h
 refine ⟨_,(ae (cK (pv 1) (bu rfl (au (aj (i:=3) eJ.nd rfl (Tz rfl)) (au (aj (i:=4) eJ.nd rfl (Tz rfl)) aX))))
  (ag (aC (ax de (aJ (aa (pv 3) ac)) (cV cz rfl T.n_tuple U9 (aa (cw (N:=[Ti "kid",Ti "kids",Ti "ins"]) (js:=[none,some 2,some 0]) (g:=(aF 0)) (tt:=bP) (te:=(tL (bC 1) (bC 0) (g9 gZ [] E0 (bA (bC 2) dU)))) rfl (cG rfl (by decide +kernel) (by decide +kernel) rfl rfl rfl) (bx rfl T.n_range (aa (pv 4) ac)) (fun _ _ _ _ _ _=>(aj (i:=0) xN rfl (Tz rfl))) (aS rfl) (fun _ _ _ _ _ _=>bT) (fun _ _ _ _ _ _=>(tE (l9 hr) (pv 1) (pv 0) (pcF T.g_small_tree (eL T) hr (aa (pv 2) ac)) ⟨rfl,rfl,rfl,rfl⟩))) ac)))))),?_⟩
 try dsimp only [yv,xW]
 have By:=g.num kd hm;have Qq:H ka=some (.tup [.str kd.1,.int kd.2]):=ek;refine ⟨_,rfl,ka,_,rfl,SqT.of Qq,rfl,_,_,rfl,_,_,rfl,rfl,?_⟩;refine ⟨_,rfl,ai (by show 1<=1000000;decide),fun p1 zW=>?_⟩;dsimp only;have s1:L2.Same H (upd H p1 (.tup [.str kd.1])):=ad zW _;have e1:(upd H p1 (.tup [.str kd.1])) p1=some (.tup [.str kd.1]):=ab;generalize (upd H p1 (.tup [.str kd.1]))=H1 at s1 e1 ⊢;have hlen:us.length=((T7 kd.2.toNat).map fun i=>V.int (i:Nat)).length:=by rw [N4,S6,T8]
 refine ⟨_,rfl,kd.2,rfl,by omega,by omega,iX (F:=At) (xs:=(T7 kd.2.toNat).map fun i=>V.int (i:Nat)) us (fun H1 H2 z p kt h=>h.mono kt) hlen (by rw [S6,T8];omega) (fun i Hx sx hi=>by rw [S6,T8] at hi;exact hi) (fun Hx sx=>by rw [S6,T8];exact Td _) (fun i Hx x Hy sx hi hy=>⟨hy.1,?_⟩) (fun i y z Hx R W' hy Au sx hR=>?_) (fun D H2 as hD s2 eD AY=>?_)⟩
 · rw [S6,T8] at hi;rw [Tn,Ux hi,hy.2];show some (V.int ((i:Nat):Int))=some (V.int (0+((i:Nat):Int)));rw [U7]
 · have hi:i<kd.2.toNat:=by have:=(Te.mp Au).1;rwa [N4] at this
   rw [Tn,Ux hi] at hy;cases hy;have Jz:=s1.trans sx;have N5:Hx da=some (.dK f'):=Jz _ _ ed;refine ⟨_,rfl,da,rfl,.inl ⟨f',.inl N5⟩,_,rfl,_,rfl,ia,ya,ins,rfl,Jz _ _ ei,zP.mono (Same.kt Jz),g,fun r H3 s3 Hi=>?_⟩;refine ⟨_,DGet.k (k:=Ub ((i:Nat):Int)) (s3 _ _ N5),?_⟩;rcases Gn i z Au with ⟨a,hv,ha⟩ | ⟨hv,rfl⟩
   · rw [hv];exact hR H3 a s3 (ha.mono (Same.kt (Jz.trans s3)))
   · rw [hv];exact hR H3 r s3 Hi
 have zI:=Tp AY;refine ⟨D,_,rfl,.inl ⟨SqL.of eD,fun tp EY=>?_⟩⟩;have s3:L2.Same H2 (upd H2 tp (.tup (as.map V.ref))):=ad EY _;have e3:(upd H2 tp (.tup (as.map V.ref))) tp=some (.tup (as.map V.ref)):=ab;generalize (upd H2 tp (.tup (as.map V.ref)))=H3 at s3 e3 ⊢;refine lK ((s2.trans s3) _ _ e1) e3 (by rw [S6];show 1+as.length<=1000000;omega) fun p H4 s4 e4=>?_;refine q p H4 (s1.trans (s2.trans (s3.trans s4))) ?_;rw [At];exact ⟨qM (g.low kd hm).1,as,e4,(lg AY).mono (Same.kt (s3.trans s4))⟩
theorem tj {k:Nat} {A:Uh} (hr:L2.Room k A):A.units+148+4<Vc:=by
 have:=oV hr;omega
inductive dZ (vs:List V) (H:Hp) (Q:VK) (_E:XK):Prop
 | mk (b:Ta) (ins outs:List (TY×Int)) (head:Th) (rows:List (List Th)) (yd:vs=[.ref b]) (ye:Bk H ins outs head rows b) (yj:bV ins) (yq:rows.length<=100) (yC:(∀ row∈rows,row.length=ins.length)) (zj:∀ (r:Ta) (f':List (List Key×V)) (H':Hp),L2.Same H H'->H r=none->H' r=some (.dT f')->MkAt H' ins rows f'->Q (.ref r) H'):dZ  vs H Q _E
def jo:Sp:=dZ
def wF (H:Hp) (ins:List (TY×Int)) (rows:List (List Th)) (f':List (List Key×V)) (i j:Nat):Prop :=
 ∀ (s k:Nat) (row:List Th) (p:Th),k<3->(s<i∨(s=i/\k<j))->rows[s]?=some row->row[cL ins]?=some p->∃ a,aV f' [Ub (s:Int),Ub (k:Int)]=some (.ref a)/\At H p a
set_option maxHeartbeats 2000000 in
theorem jq:bi P w K mg base CX0 2 T.g_first_makings.f T.g_first_makings.d ["book"] jo:=by
 refine T.g_first_makings.F.ok bn (fun vs H Q E h=>?_) (fun yb A outer s H vs Q E hr h=>?_)
 · obtain ⟨b,ins,outs,head,rows,rfl,_⟩:=h;rfl
 obtain ⟨b,ins,outs,head,rows,rfl,hB,g,D9,Hm,q⟩:=h;refine hid fun ZZ kZ=>?_;obtain ⟨ia,oa,ha,ra,ya,yp,yK,hB⟩:=hB;refine kZ ?_
 refine ⟨_,(ae (fo (i:=1) (N:=[Ti "name",Ti "many"]) (js:=[none,none]) (g:=(lX K 2 (cT (aF 0) (cT (aF 1) lR)))) (tt:=bP) (te:=(jS (bA (bC 0) dU))) bn.nd rfl (Tz rfl) rfl (cG rfl (by decide +kernel) (by decide +kernel) rfl rfl rfl) (jz (pcF T.g_ins_of (eU T) hr (aa (pv 0) ac))) (fun _ _ _ _ _ _=>(bu rfl (au (aj (i:=0) uR rfl (Tz rfl)) (au (aj (i:=1) uR rfl (Tz rfl)) aX)))) (gf (bR aW (aS rfl) (bR aW (aS rfl) f7))) (fun _ _ _ _ _ _=>bT) (fun _ _ _ _ _ _=>(aJ (aa (pv 0) ac))))
  (ae (av (i:=2) bn.nd rfl (Tz rfl) (bJ Tr Wk X3 (rH (B:=148) (tj hr)) (pv 1) (aa (pcF T.g_small_tree (eL T) hr (aa (pcF T.g_ins_of (eU T) hr (aa (pv 0) ac)) ac)) ac)))
  (ae (av (i:=3) bn.nd rfl (Tz rfl) tN)
  (ae (bv T2 rfl (nK rfl T.n_enumerate (pcF T.g_rules_of (dY T) hr (aa (pv 0) ac))) (bu rfl (au (aj (i:=4) bn.nd rfl (Tz rfl)) (au (aj (i:=5) bn.nd rfl (Tz rfl)) aX))) (ag (bv T2 rfl (bx rfl T.n_range (aa (gN (v:=.int (3)) rfl T.c_MOST_KIDS.choose_spec ⟨_,rfl⟩) ac)) (aj (i:=6) bn.nd rfl (Tz rfl)) (ag (uF (l9 hr) (pv 3) (aJ (aa (pv 4) (aa (pv 6) ac))) (az aD (pv 5) (pv 2) (fun _ _=>rfl)) rfl)))))
  (ag (aC (pv 3))))))),?_⟩
 try dsimp only [yv,xW]
 have zx:ins.length=ya.length:=Tp hB.inK;have Dm:rows.length=yK.length:=Tp hB.rw;have CU:=g.le;refine ⟨_,rfl,b,_,_,_,_,rfl,hB.bk,ia,rfl,⟨_,SqT.of hB.inE⟩,iX (F:=fun H (k:TY×Int) a=>At H (.knot k.1 []) a) (xs:=ya.map V.ref) ins (fun H1 H2 z p kt h=>h.mono kt) (by rw [S6];exact zx) (by rw [S6];omega) (fun i Hx sx hi=>⟨_,_,SqT.of (sx _ _ hB.inE),S9 hi⟩) (fun Hx sx=>⟨_,SqT.of (sx _ _ hB.inE),Td _⟩) (fun i Hx x Hy sx hi hy=>⟨hy.1,hy.2 _ (SqT.of (sx _ _ hB.inE))⟩) (fun i x z Hx R W' hx Au sx hR=>?_) (fun D H1 as hD s1 eD AY=>?_)⟩
 · obtain ⟨ka,rfl,yT⟩:=aU hx;obtain ⟨z',zG,ez⟩:=P2.get' hB.inK yT;rw [Au] at zG;cases zG;have La:Hx ka=some (.tup [.str z.1,.int z.2]):=sx _ _ ez;refine ⟨ka,_,rfl,SqT.of La,rfl,_,_,rfl,_,_,rfl,rfl,?_⟩;refine ⟨_,rfl,ai (by show 1<=1000000;decide),fun p hp=>hR _ p (ad hp _) ?_⟩;rw [At];exact ⟨qM (g.low z (Tb Au)).1,[],ab,.nil⟩
 -- at
 obtain ⟨k0,zC,CN⟩:=kG g;have hI:=eW zC;refine ⟨_,rfl,.inl ⟨rfl,_,SqL.of eD⟩,_,rfl,b,_,_,_,_,rfl,s1 _ _ hB.bk,ia,ya,ins,rfl,s1 _ _ hB.inE,hB.inK.mono (Same.kt s1),g,fun st H2 s2 yQ=>?_⟩;have AD:=s1.trans s2;have Lc:Ats H2 (ins.map fun k=>Th.knot k.1 []) as:=(pz AY).mono (Same.kt s2);refine ⟨D,.ref st,_,(aR ins).dv,dvs (ins.map fun k=>Th.knot k.1 []),cL ins,rfl,rfl,SqL.of (s2 _ _ eD),yQ.dv,Lc.dvs,?_,?_,fun i hi hz=>?_,?_,?_⟩
 · have h1:=iM (ins.map fun k=>Th.knot k.1 [])
   have h2:bD (ins.map fun k=>Th.knot k.1 [])<=1:=mI fun u hu=>by
    obtain ⟨k,_,rfl⟩:=Um.mp hu;rw [Th.tall,bD];exact Td _
   omega
 · rw [pO,Tn,hI,fb zC];rfl
 · rw [pO,Tn] at hz;cases Hn:ins[i]? with
   | none=>rw [Hn] at hz;cases hz
   | some k =>
     rw [Hn,fb zC] at hz;have N6:(Th.knot k.1 []).dv=(Th.knot k0.1 []).dv:=TV hz;rw [Th.dv,Th.dv] at N6;have Qr:=Dv.tup.inj N6;injection Qr with Qs _;injection Qs with Qt;have:=g.nd i (cL ins) k k0 Hn hI Qt;omega
 · rw [qK,S6];omega
 -- made
 intro td N7;dsimp only [aF];have s3:L2.Same H2 (upd H2 td (.dT [])):=ad N7 _;have e3:(upd H2 td (.dT [])) td=some (.dT []):=ab;have Ho:H td=none:=AD.free N7;generalize (upd H2 td (.dT []))=H3 at s3 e3 ⊢;have E2:=AD.trans s3;refine ⟨_,rfl,b,_,_,_,_,rfl,E2 _ _ hB.bk,ra,rfl,⟨_,SqT.of (E2 _ _ hB.rl)⟩,?_⟩
 refine tU (K:=K) (a:=ra) (xs:=yK.map V.ref) (fun i σ H4=>Ex4 fun (c4 c5 c6:Option V) (tk:List (List Key×V))=>An5 (σ=[some (.ref b),some (.ref D),some (.int (cL ins:Nat)),some (.ref td),c4,c5,c6]) (L2.Same H H4) (H4 td=some (.dT tk)) (tk.length<=3 * i) (wF H4 ins rows tk i 0))
  ⟨none,none,none,[],rfl,E2,e3,TZ _,fun s k row p _ h=>by rcases h with h | ⟨_,h⟩ <;> cases h⟩ (fun i σ H4 _ ⟨_,_,_,_,_,s4,_,_,_⟩=>SqT.of (s4 _ _ hB.rl)) ?_ ?_
 · rintro i x pr σ H4 hx zk ⟨c4,c5,c6,tk,rfl,s4,Ld,hlen,xY⟩;refine hid fun ZZ kZ=>?_;obtain ⟨rwa,rfl,Le⟩:=aU hx;obtain ⟨row,xV,Hq,E3,Ed⟩:=P2.get' hB.rw Le;refine kZ ?_;have Qu:i<100:=by have:=(Te.mp xV).1;omega
   have Qv:=Hm row (Tb xV);have Dn:=Ed.length;have Qd:=(Te.mp hI).1;have s5:L2.Same H4 (upd H4 pr (.tup [.int ((i:Nat):Int),.ref rwa])):=ad zk _;have e5:(upd H4 pr (.tup [.int ((i:Nat):Int),.ref rwa])) pr=some (.tup [.int ((i:Nat):Int),.ref rwa]):=ab;generalize (upd H4 pr (.tup [.int ((i:Nat):Int),.ref rwa]))=H5 at s5 e5 ⊢;have AE:=s4.trans s5;refine ⟨pr,_,rfl,SqT.of e5,rfl,_,_,rfl,_,_,rfl,rfl,?_⟩;dsimp only [aF];refine ⟨3,rfl,by decide,by decide,?_⟩
   refine bF (n:=3) (fun j σ H6=>Ex2 fun (c6:Option V) (tk:List (List Key×V))=>An5 (σ=[some (.ref b),some (.ref D),some (.int (cL ins:Nat)),some (.ref td),some (.int ((i:Nat):Int)),some (.ref rwa),c6]) (L2.Same H H6) (H6 td=some (.dT tk)) (tk.length<=3 * i+j) (wF H6 ins rows tk i j))
    ⟨_,tk,rfl,AE,s5 _ _ Ld,hlen,fun s k row p hk h h1 h2=>by
     obtain ⟨a,a1,a2⟩:=xY s k row p hk h h1 h2;exact ⟨a,a1,a2.mono (Same.kt s5)⟩⟩ ?_ ?_
   · rintro j σ H6 hj ⟨c6,tk,rfl,s6,Lf,hlen,xY⟩;refine hid fun ZZ kZ=>?_;obtain ⟨pa,D5⟩:∃ a,Hq[cL ins]?=some a:=⟨_,S9 (by omega)⟩;obtain ⟨p0,CP,Cu⟩:=Ed.get D5;refine kZ ?_;refine ⟨_,rfl,_,rfl,rwa,_,_,.ref pa,rfl,rfl,SqT.of (s6 _ _ E3),ci (by rw [Tn,D5];rfl),_,rfl,_,rfl,_,rfl,ai (by show 2<=1000000;decide),fun kp BA=>?_⟩;have s7:L2.Same H6 (upd H6 kp (.tup [.int ((i:Nat):Int),.int (0+((j:Nat):Int))])):=ad BA _;have e7:(upd H6 kp (.tup [.int ((i:Nat):Int),.int (0+((j:Nat):Int))])) kp=some (.tup ([Ub ((i:Nat):Int),Ub (0+((j:Nat):Int))].map kV)):=ab;generalize (upd H6 kp (.tup [.int ((i:Nat):Int),.int (0+((j:Nat):Int))]))=H7 at s7 e7 ⊢;have N8:=s7 _ _ Lf;refine ⟨td,_,rfl,DPut.t N8 e7 (aH (by omega)),?_⟩
     have BC:KT H7 (upd H7 td (.dT (putK tk [Ub ((i:Nat):Int),Ub (0+((j:Nat):Int))] (.ref pa)))):=fun c ys ec=>by
      rw [ak (fJ ec N8 (fun z=>nomatch z))];exact ec
     refine ⟨_,_,rfl,aw (s6.trans s7) Ho,ab,?_,fun s k AZ p' hk h h1 h2=>?_⟩
     · have:=bY tk [Ub ((i:Nat):Int),Ub (0+((j:Nat):Int))] (V.ref pa);omega
     · rw [i5];by_cases BW:([Ub ((s:Nat):Int),Ub ((k:Nat):Int)]:List Key)=[Ub ((i:Nat):Int),Ub (0+((j:Nat):Int))]
       · rw [if_pos BW];injection BW with e1 e2;have Af:((s:Nat):Int)=(i:Nat):=Wu e1;have:s=i:=by omega
         subst this;rw [xV] at h1;cases h1;rw [CP] at h2;cases h2;exact ⟨pa,rfl,Cu.mono ((Same.kt (s6.trans s7)).trans BC)⟩
       · rw [if_neg BW]
         have Qw:s<i∨(s=i/\k<j):=by
          rcases h with h | ⟨rfl,h⟩
          · exact .inl h
          · refine .inr ⟨rfl,?_⟩;by_cases Qx:k=j
            · exact absurd (by rw [Qx,U7]) BW
            · omega
         obtain ⟨a,a1,a2⟩:=xY s k AZ p' hk Qw h1 h2;exact ⟨a,a1,a2.mono ((Same.kt s7).trans BC)⟩
   · rintro σ H6 ⟨c6,tk,rfl,s6,Lf,hlen,xY⟩;exact ⟨_,_,_,tk,rfl,s6,Lf,by omega,fun s k row p hk h h1 h2=>xY s k row p hk (by rcases h with h | ⟨_,h⟩;(· by_cases hs:s=i;exact .inr ⟨hs,hk⟩;exact .inl (by omega));exact absurd h (W8 _)) h1 h2⟩
 · rintro σ H4 ⟨c4,c5,c6,tk,rfl,s4,Ld,hlen,xY⟩;refine ⟨_,rfl,q td tk H4 s4 Ho Ld fun s k row p hk h1 h2=>xY s k row p hk (.inl ?_) h1 h2⟩;rw [S6,<- Dm];exact (Te.mp h1).1
inductive fI (P:Tv) (w:TN) (K:S8) (vs:List V) (H:Hp) (Q:VK) (_E:XK):Prop
 | mk (b md pt:Ta) (s:Nat) (ins outs:List (TY×Int)) (head:Th) (rows:List (List Th)) (row:List Th) (Ab:List (List Key×V)) (f':List (aB×V)) (Al:List aB) (Vl:VlT) (yd:vs=[.ref b,.int (s:Nat),.ref md,.ref pt]) (ye:Bk H ins outs head rows b) (yj:FrK ins outs rows) (yq:rows[s]?=some row) (yC:H md=some (.dT Ab)) (zj:MkAt H ins rows Ab) (Bi:Pt P w Vl H pt f' Al) (Bt:Al.length<=1000000) (Dj:(∀ x∈(mkF ins rows (s:Nat)).pl [],nk (s:Nat) x.1∈Al)) (FN:(∀ x∈(mkF ins rows (s:Nat)).pl [],x.2.isHole=false)) (E4:(∀ (i:Nat) (p:Th) (kd:TY×Int) (pl:List Int) (u:Th) (j:Nat),row[i]?=some p->ins[i]?=some kd->(pl,u)∈(frF (mkF ins rows) (mkF ins rows (s:Nat)) (row.take (i+1))).pl []->u.isHole=true->(∀ v,(pl,v)∈(frF (mkF ins rows) (mkF ins rows (s:Nat)) (row.take i)).pl []->v.isHole=false)->Vl j (nk (s:Nat) pl) (aR ins) (.knot kd.1 (Vm kd.2.toNat (aR ins))))) (E5:∀ (r:Ta) (yU:List (aB×V)) (H':Hp),But pt H H'->AtK K H' (frF (mkF ins rows) (mkF ins rows (s:Nat)) row) r->Pt P w Vl H' pt yU Al->(∀ k∈f'.map (·.1),k∈yU.map (·.1))->(∀ i,i<=row.length->∀ x∈(frF (mkF ins rows) (mkF ins rows (s:Nat)) (row.take i)).pl [],x.2.isHole=true->nk (s:Nat) x.1∈yU.map (·.1))->Q (.ref r) H'):fI P w K vs H Q _E
def gw (P:Tv) (w:TN) (K:S8):Sp:=fI P w K
set_option maxHeartbeats 4000000 in
theorem lB:bi P w K mg base CX0 6 T.g_first_front.f T.g_first_front.d ["book","state","made","partings"] (gw P w K):=by
 refine T.g_first_front.F.ok bI (fun vs H Q E h=>?_) (fun yb A outer s0 H vs Q E hr h=>?_)
 · obtain ⟨b,md,pt,s,ins,outs,head,rows,row,Ab,f',Al,Vl,rfl,_⟩:=h;rfl
 obtain ⟨b,md,pt,s,ins,outs,head,rows,row,Ab,f',Al,Vl,rfl,hB,F,xV,FO,E6,Ee,JA,Bh,AJ,hV,q⟩:=h;refine hid fun ZZ kZ=>?_;obtain ⟨ia,oa,ha,ra,ya,yp,yK,hB⟩:=hB;refine kZ ?_
 refine ⟨_,(ae (av (i:=4) bI.nd rfl (Tz rfl) (pcF T.g_ins_of (eU T) hr (aa (pv 0) ac)))
  (ae (av (i:=5) bI.nd rfl (Tz rfl) (m5 (l9 hr) (pv 2) (aJ (aa (pv 1) (aa af ac))) (fun _ _=>rfl)))
  (ae (bv T2 rfl (tX rfl T.n_zip (aa (pv 4) (aa (az aD (pcF T.g_rules_of (dY T) hr (aa (pv 0) ac)) (pv 1) (fun _ _=>rfl)) ac))) (bu rfl (au (aj (i:=6) bI.nd rfl (Tz rfl)) (au (aj (i:=7) bI.nd rfl (Tz rfl)) aX))) (ae (av (i:=5) bI.nd rfl (Tz rfl) (pcF T.g_common (rF T) hr (aa (pv 5) (aa (pcF T.g_filled (sk T) hr (aa (pv 7) (aa (pv 2) ac))) ac))))
  (ag (bv T2 rfl (ck (pcF T.g_holes_in (jH T) hr (aa (pv 5) ac))) (aj (i:=8) bI.nd rfl (Tz rfl)) (ag (aP (sP Xw PySem.F.type_dict_setdefault (gj (f6 hr)) (pv 3) (aa (aJ (aa (pv 1) (aa (pv 8) ac))) (aa (aJ (aa (pcF T.g_small_tree (eL T) hr (aa (pv 4) ac)) (aa (pcF T.g_knot_above (eK T) hr (aa (pv 4) (aa (pv 6) (aa tM ac)))) ac))) ac)))))))))
  (ag (aC (pv 5)))))),?_⟩
 try dsimp only [yv,xW]
 have g:=F.gi;have zx:ins.length=ya.length:=Tp hB.inK;have Dm:rows.length=yK.length:=Tp hB.rw;have CU:=g.le;have N3:=(Te.mp xV).1;obtain ⟨φ,Dq⟩:=cr Ee.dm;have Hr:md≠pt:=fun z=>by rw [z,Dq] at FO;cases FO
 -- ins,front
 refine ⟨_,rfl,b,_,_,_,_,rfl,hB.bk,?_⟩;refine hid fun ZZ kZ=>?_;obtain ⟨AZ,p0,KR,CP,CQ,z1,z2,f0⟩:=F.mkd (l:=(s:Nat)) (by omega) (by omega);rw [Uw,xV] at KR;cases KR;obtain ⟨fa,Qy,CS⟩:=E6 s 0 row p0 (by decide) xV CP;refine kZ ?_;refine ⟨_,rfl,_,rfl,ai (by show 2<=1000000;decide),fun kp BA=>?_⟩;have s1:L2.Same H (upd H kp (.tup [.int ((s:Nat):Int),.int 0])):=ad BA _;have e1:(upd H kp (.tup [.int ((s:Nat):Int),.int 0])) kp=some (.tup (([Ub ((s:Nat):Int),Ub 0]:List Key).map kV)):=ab;generalize (upd H kp (.tup [.int ((s:Nat):Int),.int 0]))=H1 at s1 e1 ⊢;refine ⟨md,.ref fa,rfl,.inr ⟨Ab,_,kp,.inl (s1 _ _ FO),rfl,e1,Qy.symm⟩,?_⟩
 -- Az loop
 refine hid fun ZZ kZ=>?_;obtain ⟨zL,Av,Hq,E3,Cv⟩:=P2.get hB.rw xV;refine kZ ?_;have yV:=Cv.length;have Cw:=(F.fit.row row (Tb xV)).1;refine ⟨_,rfl,_,rfl,b,_,_,_,_,rfl,s1 _ _ hB.bk,_,rfl,ra,_,_,.ref zL,rfl,rfl,SqT.of (s1 _ _ hB.rl),ci (by rw [Tn,Av];rfl),ia,zL,rfl,⟨_,SqT.of (s1 _ _ hB.inE)⟩,⟨_,SqT.of (s1 _ _ E3)⟩,?_⟩
 have Ht:∀ (i:Nat) (p:Th),row[i]?=some p->∀ l k,Th.call l k∈p.walk->∃ v,aV Ab [Ub l,Ub k]=some (.ref v)/\At H (mkF ins rows l) v/\(mkF ins rows l).size<=200:=fun i p hp l k hc=>by
  have yf:=(Te.mp hp).1;obtain ⟨kd,Ct⟩:∃ kd,ins[i]?=some kd:=⟨_,S9 (by omega)⟩;have hf:=(F.fit.row row (Tb xV)).2 i p kd hp Ct;have By:=g.num kd (Tb Ct);obtain ⟨a1,a2,a3,a4⟩:=rD hf hc;obtain ⟨Qz,p1,b1,b2,b3,b4,_⟩:=F.mkd a1 a2;obtain ⟨v,v1,v2⟩:=E6 l.toNat k.toNat Qz p1 (by omega) b1 b2;rw [Wj a1,Wj a3] at v1;exact ⟨v,v1,by rw [b3];exact v2,by rw [b3];exact b4⟩
 have QA:∀ i',i'<=0->∀ x∈(frF (mkF ins rows) (mkF ins rows (s:Nat)) (row.take i')).pl [],x.2.isHole=true->nk (s:Nat) x.1∈f'.map (·.1):=fun i' yA x hx hh=>by
  rw [Nat.le_zero.mp yA,Wl] at hx;have:=AJ x hx;rw [hh] at this;cases this
 refine qD (K:=K) (a:=ia) (b:=zL) (xs:=ya.map V.ref) (ys:=Hq.map V.ref) (by rw [S6,S6];omega) (fun i σ H2=>Ex5 fun (fa:Ta) (c6 c7 c8:Option V) (y6:List (aB×V))=>An6 (σ=[some (.ref b),some (.int ((s:Nat):Int)),some (.ref md),some (.ref pt),some (.ref ia),some (.ref fa),c6,c7,c8]) (But pt H H2) (AtK K H2 (frF (mkF ins rows) (mkF ins rows (s:Nat)) (row.take i)) fa) (Pt P w Vl H2 pt y6 Al) ((∀ k∈f'.map (·.1),k∈y6.map (·.1))) ((∀ i',i'<=i->∀ x∈(frF (mkF ins rows) (mkF ins rows (s:Nat)) (row.take i')).pl [],x.2.isHole=true->nk (s:Nat) x.1∈y6.map (·.1))))
  ⟨fa,none,none,none,f',rfl,Same.but s1,by rw [Wl,CQ];exact (CS.mono (Same.kt s1)).k,Ee.same s1,fun _ h=>h,QA⟩ (fun i σ H2 _ ⟨_,_,_,_,_,_,b2,_,_,_,_⟩=>?_) ?_ ?_
 · have kt:=b2.kt Dq;exact ⟨SqT.of (kt _ _ hB.inE),SqT.of (kt _ _ E3)⟩
 · rintro i x y p2 σ H2 hx hy zX ⟨fa,c6,c7,c8,y6,rfl,b2,yP,zu,zf,N9⟩;refine hid fun ZZ kZ=>?_;obtain ⟨ka,rfl,yT⟩:=aU hx;obtain ⟨pa,rfl,D5⟩:=aU hy;obtain ⟨kd,hk,ek⟩:=P2.get' hB.inK yT;obtain ⟨p,hp,Cu⟩:=Cv.get D5;refine kZ ?_;have Lg:=b2.kt Dq;have s3:L2.Same H2 (upd H2 p2 (.tup [.ref ka,.ref pa])):=ad zX _;have e3:(upd H2 p2 (.tup [.ref ka,.ref pa])) p2=some (.tup [.ref ka,.ref pa]):=ab;generalize (upd H2 p2 (.tup [.ref ka,.ref pa]))=H3 at s3 e3 ⊢;have Hu:=Lg.trans (Same.kt s3);have b3:=b2.trans (Same.but s3);refine ⟨p2,_,rfl,SqT.of e3,rfl,_,_,rfl,_,_,rfl,rfl,?_⟩;dsimp only [aF]
   -- filled,common
   have D7:=F.sz row (Tb xV) p (Tb hp);refine ⟨_,rfl,_,rfl,_,rfl,pa,md,p,(fun l _=>mkF ins rows l),Ab,rfl,(Cu.mono Hu).k,by omega,.inl (b3 _ _ Hr FO),fun l k hc=>?_,fun fl H4 s4 Ac=>?_⟩
   · refine hid fun ZZ kZ=>?_;obtain ⟨v,v1,v2,v3⟩:=Ht i p hp l k hc;refine kZ ?_;exact ⟨v,v1,(v2.mono Hu).k,by omega⟩
   have hsz:=i0 (mkF ins rows) (mkF ins rows (s:Nat)) (row.take i);rw [CQ] at hsz;have Hv:=yP.mono (Same.kt (s3.trans s4));rw [CQ] at Hv;refine ⟨fa,fl,_,_,rfl,Hv,Ac,by omega,by omega,fun cm H5 s5 Hw=>?_⟩;have zS:row.take (i+1)=row.take i++[p]:=by rw [UN,hp];rfl
   have Hz:AtK K H5 (frF (mkF ins rows) (mkF ins rows (s:Nat)) (row.take (i+1))) cm:=by
    rw [zS,kL,CQ];exact Hw
   have b5:=b3.trans (Same.but (s4.trans s5));have Lh:=zu.same (s3.trans (s4.trans s5));have Sj:=b5.kt Dq;have Li:=i0 (mkF ins rows) (mkF ins rows (s:Nat)) (row.take (i+1));rw [CQ] at Li;have HA:=Hz;rw [CQ] at HA
   -- holes
   refine ⟨_,rfl,cm,_,rfl,HA,by omega,by omega,fun hl bs H6 s6 E7 yw=>?_⟩;rw [<- CQ] at yw;have b6:=b5.trans (Same.but s6);have HB:=Lh.same s6;have CV:=b6.kt Dq;obtain ⟨QB,BD⟩:=cr HB.dm;have Lj:=Hz.mono (Same.kt s6);have Ef:hl≠pt:=fun z=>by rw [z,BD] at E7;cases E7
   have y4:=Tp yw;have QC:=V3 (fun p:List Int×Th=>p.2.isHole) ((frF (mkF ins rows) (mkF ins rows (s:Nat)) (row.take (i+1))).pl []);rw [Th.pl_len] at QC;have By:=g.num kd (Tb hk);refine ⟨hl,rfl,⟨_,SqL.of E7⟩,?_⟩
   refine dD (K:=K) (a:=hl) (xs:=bs.map V.ref) (fun j σ H7=>Ex2 fun (c8:Option V) (Dr:List (aB×V))=>An5 (σ=[some (.ref b),some (.int ((s:Nat):Int)),some (.ref md),some (.ref pt),some (.ref ia),some (.ref cm),some (.ref ka),some (.ref pa),c8]) (But pt H6 H7) (Pt P w Vl H7 pt Dr Al) ((∀ k∈y6.map (·.1),k∈Dr.map (·.1))) (∀ (j':Nat) (pl:List Int),j'<j->((((frF (mkF ins rows) (mkF ins rows (s:Nat)) (row.take (i+1))).pl []).filter fun p=>p.2.isHole).map (·.1))[j']?=some pl->nk (s:Nat) pl∈Dr.map (·.1)))
    ⟨_,y6,rfl,But.refl _ _,HB,fun _ h=>h,fun _ _ h=>absurd h (W8 _)⟩ (fun j σ H7 _ ⟨_,_,_,b7,_,_,_⟩=>SqL.of (b7 _ _ Ef E7)) ?_ ?_
   · rintro j x σ H7 hx ⟨c8,Dr,rfl,b7,Cy,zb,xY⟩;refine hid fun ZZ kZ=>?_;obtain ⟨pb,rfl,Bn⟩:=aU hx;obtain ⟨pl,Ds,Ll⟩:=P2.get' yw Bn;have BC:=b7.kt BD;have Lm:=CV.trans BC;have FP:=BC _ _ Ll
     obtain ⟨KS,NL,QD⟩:∃ u,(pl,u)∈(frF (mkF ins rows) (mkF ins rows (s:Nat)) (row.take (i+1))).pl []/\u.isHole=true:=by
      obtain ⟨x,C8,rfl⟩:=Um.mp (Tb Ds);exact ⟨x.2,(Vb.mp C8).1,(Vb.mp C8).2⟩
     refine kZ ?_
     have Ln:nk (s:Nat) pl∈Al:=by
      obtain ⟨x,C8,rfl⟩:=Um.mp (Tb Ds);obtain ⟨u,hu⟩:=sU (mkF ins rows) (mkF ins rows (s:Nat)) (row.take (i+1)) x (Vb.mp C8).1;exact Bh (x.1,u) hu
     have Sk:=Cy.len;refine ⟨_,rfl,⟨pt,Dr,rfl,Cy.dm⟩,_,rfl,_,rfl,ai (by show 2<=1000000;decide),fun EJ Lo=>?_⟩;have s8:L2.Same H7 (upd H7 EJ (.tup [.int ((s:Nat):Int),.ref pb])):=ad Lo _;have e8:(upd H7 EJ (.tup [.int ((s:Nat):Int),.ref pb])) EJ=some (.tup [.int ((s:Nat):Int),.ref pb]):=ab;generalize (upd H7 EJ (.tup [.int ((s:Nat):Int),.ref pb]))=H8 at s8 e8 ⊢;have BE:=Lm.trans (Same.kt s8);refine ⟨_,rfl,ia,ya,ins,rfl,BE _ _ hB.inE,hB.inK.mono BE,g,fun st H9 s9 yQ=>?_⟩;have Lp:=BE.trans (Same.kt s9);refine ⟨_,rfl,_,rfl,fun dd JB=>?_⟩;have yG:L2.Same H9 (upd H9 dd (.dK [])):=ad JB _;have EW:(upd H9 dd (.dK [])) dd=some (.dK []):=ab;generalize (upd H9 dd (.dK []))=yO at yG EW ⊢;have E8:=Lp.trans (Same.kt yG);refine ⟨ia,ka,dd,ya,ins,kd,[],Vm kd.2.toNat (aR ins),rfl,E8 _ _ hB.inE,hB.inK.mono E8,g,E8 _ _ ek,Tb hk,EW,by rw [WB],fun i' u hu=>.inr ⟨rfl,List.eq_of_mem_replicate (Tb hu)⟩,fun r2 zd zp ER=>?_⟩;refine ⟨ai (by show 2<=1000000;decide),fun pr zk=>?_⟩;have yI:L2.Same zd (upd zd pr (.tup [.ref st,.ref r2])):=ad zk _;have BF:(upd zd pr (.tup [.ref st,.ref r2])) pr=some (.tup [.ref st,.ref r2]):=ab;generalize (upd zd pr (.tup [.ref st,.ref r2]))=Cz at yI BF ⊢;have E9:=yG.trans (zp.trans yI);have Dt:=s8.trans (s9.trans E9);have CA:=Cy.same Dt;refine ⟨pt,EJ,.ref pr,nk (s:Nat) pl,Dr,rfl,rfl,CA.dm,kW ((s9.trans E9) _ _ e8) (Dt _ _ FP),aH (by omega),fun u hu=>?_,fun hn Du N' Lq=>?_⟩
     · refine ⟨_,Dr,rfl,b7.trans (Same.but Dt),CA,zb,fun j' zB yn y3=>?_⟩;by_cases CB:j'=j
       · subst CB;rw [Ds] at y3;cases y3;exact Um.mpr ⟨_,eS hu,rfl⟩
       · exact xY j' zB (by omega) y3
     · have QE:∀ v,(pl,v)∈(frF (mkF ins rows) (mkF ins rows (s:Nat)) (row.take i)).pl []->v.isHole=false:=fun v hv=>by
        cases QF:v.isHole with
        | false=>rfl
        | true =>
          exfalso;exact cZ hn (zb _ (N9 i (Td _) (pl,v) hv QF))
       obtain ⟨FQ,HC⟩:=CA.put hn N' Lq ⟨pr,st,r2,_,_,rfl,BF,yQ.mono (Same.kt E9),ER.mono (Same.kt yI),hV i p kd pl KS _ hp hk NL QD QE⟩ Ln;refine ⟨_,_,rfl,(b7.trans (Same.but Dt)).trans N',FQ,fun k BW=>by rw [HC];exact Uq _ (zb k BW),fun j' zB yn y3=>?_⟩;rw [HC];by_cases CB:j'=j
       · subst CB;rw [Ds] at y3;cases y3;exact Uj _ (T1 ..)
       · exact Uq _ (xY j' zB (by omega) y3)
   · rintro σ H7 ⟨c8,Dr,rfl,b7,Cy,zb,xY⟩;refine ⟨cm,_,_,_,Dr,rfl,b6.trans b7,Lj.mono (b7.kt BD),Cy,fun k BW=>zb k (zf k BW),fun i' yA x hx hh=>?_⟩;by_cases QG:i'<=i
     · exact zb _ (N9 i' QG x hx hh)
     obtain rfl:i'=i+1:=by omega
     have hm:x.1∈(((frF (mkF ins rows) (mkF ins rows (s:Nat)) (row.take (i+1))).pl []).filter fun p=>p.2.isHole).map (·.1):=Um.mpr ⟨x,Vb.mpr ⟨hx,hh⟩,rfl⟩;obtain ⟨j',yn⟩:=TJ.mp hm;exact xY j' x.1 (by have:=(Te.mp yn).1;rw [S6];omega) yn
 · rintro σ H2 ⟨fa,c6,c7,c8,y6,rfl,b2,yP,zu,zf,hh⟩;rw [S6] at yP hh;rw [UT (by omega)] at yP;exact ⟨_,rfl,q fa y6 H2 b2 yP zu zf fun i hi=>hh i (by omega)⟩
def LDone (H:Hp) (G:LG) (s:Nat) (ps:List Th) (f0:Th):Prop:=∀ p∈ps,∀ c∈callsOf (p.pl []),∀ u,(c.1,u)∈f0.pl []->∀ x∈u.pl [],gP H G (nk c.2.1 x.1) (s:Nat) (c.1++x.1)
theorem LDone.sub {H H':Hp} {G G':LG} {s:Nat} {ps:List Th} {f0:Th} (h:LDone H G s ps f0) (k:LSub H H' G G'):LDone H' G' s ps f0:=fun p hp c hc u hu x hx=>k _ _ _ (h p hp c hc u hu x hx)
inductive gQ (P:Tv) (w:TN) (K:S8) (vs:List V) (H:Hp) (Q:VK) (_E:XK):Prop
 | mk (b fa la:Ta) (s:Nat) (ins outs:List (TY×Int)) (head:Th) (rows:List (List Th)) (row:List Th) (f0:Th) (H0:Hp) (G:LG) (N:Nat) (Al:List aB) (Lk:LkT) (yd:vs=[.ref b,.int (s:Nat),.ref fa,.ref la]) (ye:Bk H ins outs head rows b) (yj:FrK ins outs rows) (yq:rows[s]?=some row) (yC:AtK K H f0 fa) (zj:f0.size<=200) (Bi:f0.tall<=100) (Bt:LkI P w ins Al Lk H0 H la G N) (Dj:N<=15000000) (FN:(∀ x∈f0.pl [],nk (s:Nat) x.1∈Al)) (E4:(∀ (i:Nat) (p:Th) (kd:TY×Int) (c:List Int×Int×Int) (u:Th) (x:List Int×Th),row[i]?=some p->ins[i]?=some kd->c∈callsOf (p.pl [])->(c.1,u)∈f0.pl []->x∈u.pl []->Lk (nk c.2.1 x.1) (s:Nat) (c.1++x.1) kd c.2.2)) (E5:∀ (G':LG) (H':Hp),KT H H'->LkI P w ins Al Lk H0 H' la G' (N+640000)->LSub H H' G G'->LDone H' G' s row f0->Q .non H'):gQ P w K vs H Q _E
def nF (P:Tv) (w:TN) (K:S8):Sp:=gQ P w K
set_option maxHeartbeats 4000000 in
theorem nT:bi P w K mg base CX0 6 T.g_put_links.f T.g_put_links.d ["book","state","front","links"] (nF P w K):=by
 refine T.g_put_links.F.ok bQ (fun vs H Q E h=>?_) (fun yb A outer s0 H vs Q E hr h=>?_)
 · obtain ⟨b,fa,la,s,ins,outs,head,rows,row,f0,H0,G,N,Al,Lk,rfl,_⟩:=h;rfl
 obtain ⟨b,fa,la,s,ins,outs,head,rows,row,f0,H0,G,N,Al,Lk,rfl,hB,F,xV,yP,Sl,Sm,L,hN,Bh,hL,q⟩:=h;refine hid fun ZZ kZ=>?_;obtain ⟨ia,oa,ha,ra,ya,yp,yK,hB⟩:=hB;refine kZ ?_
 refine ⟨_,(ae (av (i:=4) bQ.nd rfl (Tz rfl) (cV (lw (uE hr) rfl) rfl T.n_dict PyProof.Rows.boot_dict (aa (pcF T.g_placed (gM T) hr (aa (pv 2) ac)) ac)))
  (ag (bv T2 rfl (tX rfl T.n_zip (aa (pcF T.g_ins_of (eU T) hr (aa (pv 0) ac)) (aa (az aD (pcF T.g_rules_of (dY T) hr (aa (pv 0) ac)) (pv 1) (fun _ _=>rfl)) ac))) (bu rfl (au (aj (i:=5) bQ.nd rfl (Tz rfl)) (au (aj (i:=6) bQ.nd rfl (Tz rfl)) aX))) (ag (bv T2 rfl (ck (pcF T.g_calls_in (pC T) hr (aa (pv 6) ac))) (bu rfl (au (aj (i:=7) bQ.nd rfl (Tz rfl)) (au (bu rfl (au (aj (i:=8) bQ.nd rfl (Tz rfl)) (au (aj (i:=9) bQ.nd rfl (Tz rfl)) aX))) aX))) (ag (bE (ql (wd (l9 hr) (pv 7) (pv 4))) (ag (bv T2 rfl (ck (pcF T.g_places (rK T) hr (aa (m5 (l9 hr) (pv 4) (pv 7) (fun _ _=>rfl)) ac))) (aj (i:=10) bQ.nd rfl (Tz rfl)) (ag (aP (bJ Tr TM TL aN (sP Xw PySem.F.type_dict_setdefault (gj (f6 hr)) (pv 3) (aa (aJ (aa (pv 8) (aa (pv 10) ac))) (aa (bw ac) ac))) (aa (aJ (aa (pv 1) (aa (ax de (pv 7) (pv 10)) (aa (pv 5) (aa (pv 9) ac))))) ac)))))) bj))))))),?_⟩
 try dsimp only [yv,xW]
 have g:=F.gi;have zx:ins.length=ya.length:=Tp hB.inK;have CU:=g.le;have N3:=(Te.mp xV).1
 -- parts
 refine ⟨_,rfl,fa,f0,rfl,yP,by omega,by omega,fun QH JC H1 s1 Sn BY yH=>?_⟩;have Lr:(f0.pl []).length=JC.length:=Tp yH;rw [Th.pl_len] at Lr;refine hid fun ZZ kZ=>?_;obtain ⟨prs,Aw,Lu,Lw⟩:∃ prs:List (List Key×V),T3 (PrA H1) prs JC/\(∀ p∈prs,∃ x∈f0.pl [],p.1=x.1.map Ub/\∃ a,p.2=.ref a/\AtK K H1 x.2 a)/\∀ x∈f0.pl [],∃ p∈prs,p.1=x.1.map Ub:=tD yH;refine kZ ?_;have Oa:prs.length=JC.length:=Tp Aw;refine ⟨QH,JC,prs,rfl,BY,Aw,by omega,fun pd QI=>?_⟩;have s2:L2.Same H1 (upd H1 pd (.dT (cj [] prs))):=ad QI _;have e2:(upd H1 pd (.dT (cj [] prs))) pd=some (.dT (cj [] prs)):=ab;generalize (upd H1 pd (.dT (cj [] prs)))=H2 at s2 e2 ⊢;refine hid fun ZZ kZ=>?_;obtain ⟨f1,f2⟩:=jN (R:=fun k v=>∃ x∈f0.pl [],k=x.1.map Ub/\∃ a,v=.ref a/\AtK K H1 x.2 a) prs [] (fun k v hv=>by cases hv) Lu;have AD:=s1.trans s2;have Fb:=L.same AD;obtain ⟨zL,Av,Hq,E3,Cv⟩:=P2.get hB.rw xV;refine kZ ?_;have yV:=Cv.length;have Cw:=(F.fit.row row (Tb xV)).1
 have Lx:∀ (q:List Int) (u:Th),(q,u)∈f0.pl []->∃ a,aV (cj [] prs) (q.map Ub)=some (.ref a)/\AtK K H1 u a:=fun q u hu=>by
  obtain ⟨p,hp,e⟩:=Lw (q,u) hu;obtain ⟨v,hv⟩:=f2 (q.map Ub) (.inr ⟨p,hp,e⟩);obtain ⟨x,hx,ex,a,rfl,ha⟩:=f1 _ v hv;have hq:q=x.1:=(XJ (fun _ _ e=>Wu e)).mp ex;have:u=x.2:=pE _ (Td _) hu (by rw [hq];exact hx);rw [this];exact ⟨a,hv,ha⟩
 have Ly:∀ (q:List Int) (v:V),aV (cj [] prs) (q.map Ub)=some v->∃ u a,(q,u)∈f0.pl []/\v=.ref a/\AtK K H1 u a:=fun q v hv=>by
  obtain ⟨x,hx,ex,a,rfl,ha⟩:=f1 _ v hv;have hq:q=x.1:=(XJ (fun _ _ e=>Wu e)).mp ex;exact ⟨x.2,a,by rw [hq];exact hx,rfl,ha⟩
 have Eg:pd≠la:=fun z=>by
  obtain ⟨φ,e⟩:=cr Fb.dm;rw [z,e] at e2;cases e2
 have Lz:∀ g∈G,g.2.1≠pd:=fun g hg z=>by
  have:=(Fb.ls g hg).2.1;rw [z,e2] at this;cases this
 refine ⟨_,rfl,b,_,_,_,_,rfl,AD _ _ hB.bk,_,rfl,b,_,_,_,_,rfl,AD _ _ hB.bk,_,rfl,ra,_,_,.ref zL,rfl,rfl,SqT.of (AD _ _ hB.rl),ci (by rw [Tn,Av];rfl),ia,zL,rfl,⟨_,SqT.of (AD _ _ hB.inE)⟩,⟨_,SqT.of (AD _ _ E3)⟩,?_⟩
 refine qD (K:=K) (a:=ia) (b:=zL) (xs:=ya.map V.ref) (ys:=Hq.map V.ref) (by rw [S6,S6];omega) (fun i σ H3=>Ex7 fun (c5 c6 c7 c8 c9 zm:Option V) (G3:LG)=>An3 (σ=[some (.ref b),some (.int ((s:Nat):Int)),some (.ref fa),some (.ref la),some (.ref pd),c5,c6,c7,c8,c9,zm]) (LQ P w ins Al Lk H0 la H2 G H3 G3 (N+i * 80000)) (LDone H3 G3 s (row.take i) f0))
  ⟨none,none,none,none,none,none,G,rfl,(LQ.refl Fb).up (by omega),fun p hp=>by rw [Wl] at hp;cases hp⟩ (fun i σ H3 _ ⟨_,_,_,_,_,_,_,_,q3,_⟩=>?_) ?_ ?_
 · have kt:=(Same.kt AD).trans (q3.kt Fb);exact ⟨SqT.of (kt _ _ hB.inE),SqT.of (kt _ _ E3)⟩
 · rintro i x y p2 σ H3 hx hy zX ⟨c5,c6,c7,c8,c9,zm,G3,rfl,q3,d3⟩;refine hid fun ZZ kZ=>?_;obtain ⟨ka,rfl,yT⟩:=aU hx;obtain ⟨pa,rfl,D5⟩:=aU hy;obtain ⟨kd,hk,ek⟩:=P2.get' hB.inK yT;obtain ⟨p,hp,Cu⟩:=Cv.get D5;refine kZ ?_;have QJ:i<8:=by have:=(Te.mp hk).1;omega
   have s4:L2.Same H3 (upd H3 p2 (.tup [.ref ka,.ref pa])):=ad zX _;have e4:(upd H3 p2 (.tup [.ref ka,.ref pa])) p2=some (.tup [.ref ka,.ref pa]):=ab;generalize (upd H3 p2 (.tup [.ref ka,.ref pa]))=H4 at s4 e4 ⊢;have q4:=q3.same s4;have Fc:=(Same.kt AD).trans (q4.kt Fb);refine ⟨p2,_,rfl,SqT.of e4,rfl,_,_,rfl,_,_,rfl,rfl,?_⟩;dsimp only [aF];have D7:=F.sz row (Tb xV) p (Tb hp);refine ⟨_,rfl,pa,p,rfl,(Cu.mono Fc).k,by omega,by omega,fun cl cs H5 s5 QK JD BM=>?_⟩;have q5:=q4.same s5;have d5:=d3.sub (LSub.kt (Same.kt (s4.trans s5)) G3);have L5:=q5.lk;have LA:(callsOf (p.pl [])).length=cs.length:=Tp BM;have LB:=jG (p.pl []);rw [Th.pl_len] at LB
   have LC:∀ g∈G3,g.2.1≠cl:=fun g hg z=>by
    have:=(q4.lk.ls g hg).2.1;rw [z,QK] at this;cases this
   have HE:cl≠la:=fun z=>by
    obtain ⟨φ,e⟩:=cr L5.dm;rw [z,e] at JD;cases JD
   refine ⟨cl,rfl,⟨_,SqL.of JD⟩,?_⟩
   refine dD (K:=K) (a:=cl) (xs:=cs.map V.ref) (fun j σ H6=>Ex5 fun (c7 c8 c9 zm:Option V) (G6:LG)=>An3 (σ=[some (.ref b),some (.int ((s:Nat):Int)),some (.ref fa),some (.ref la),some (.ref pd),some (.ref ka),some (.ref pa),c7,c8,c9,zm]) (LQ P w ins Al Lk H0 la H5 G3 H6 G6 (N+i * 80000+j * 400)) (∀ (j':Nat) (c:List Int×Int×Int),j'<j->(callsOf (p.pl []))[j']?=some c->∀ u,(c.1,u)∈f0.pl []->∀ x∈u.pl [],gP H6 G6 (nk c.2.1 x.1) (s:Nat) (c.1++x.1)))
    ⟨_,_,_,_,G3,rfl,(LQ.refl L5).up (by omega),fun _ _ h=>absurd h (W8 _)⟩ (fun j σ H6 _ ⟨_,_,_,_,_,_,q6,_⟩=>SqL.of (q6.fr _ _ JD HE LC)) ?_ ?_
   · rintro j x σ H6 hx ⟨c7,c8,c9,zm,G6,rfl,q6,d6⟩;refine hid fun ZZ kZ=>?_;obtain ⟨ca,rfl,G7⟩:=aU hx;obtain ⟨c,hc,Ob,QL,QM,Oc,LD⟩:=P2.get' BM G7;refine kZ ?_;have CV:=q6.kt L5;have FH:j<200:=by have:=(Te.mp hc).1;omega
     have HF:H5 pd=some (.dT (cj [] prs)):=q5.fr _ _ e2 Eg Lz
     have HG:∀ g∈G3,g.2.1≠pd:=fun g hg z=>by
      have:=(L5.ls g hg).2.1;rw [z,HF] at this;cases this
     have HH:=q6.fr _ _ HF Eg HG
     have Od:H6 Ob=some (.tup ((c.1.map Ub).map kV)):=by
      rw [CV _ _ Oc,Vv];rfl
     have Dw:=(Same.kt s2).trans ((q5.kt Fb).trans CV);refine ⟨ca,_,rfl,SqT.of (CV _ _ QM),rfl,_,_,rfl,_,_,rfl,QL,_,rfl,SqT.of (CV _ _ LD),rfl,_,_,rfl,_,_,rfl,rfl,rfl,?_⟩;refine eZ (fun bb H'=>An2 (H6=H') (bb=(aV (cj [] prs) (c.1.map Ub)).isSome)) (fun k2 AF=>?_) (fun H' yo=>?_) (fun H' yo=>?_)
     · exact ⟨_,rfl,_,rfl,pd,_,rfl,DGet.t HH Od,_,rfl,AF _ _ ⟨rfl,rfl⟩⟩
     · refine hid fun ZZ kZ=>?_;obtain ⟨rfl,yo⟩:=yo;obtain ⟨v,hv⟩:=W3.mp yo.symm;obtain ⟨u,ua,hu,rfl,Hj⟩:=Ly c.1 v hv;obtain ⟨Gn,QN⟩:=vq _ f0 [] (Td _) _ hu;refine kZ ?_;dsimp only at Gn QN;refine ⟨_,rfl,_,rfl,pd,.ref ua,rfl,by rw [<- hv];exact DGet.t HH Od,ua,u,rfl,Hj.mono Dw,by omega,by omega,fun il Oe H7 s7 nil JE HI=>⟨il,rfl,⟨_,SqL.of JE⟩,?_⟩⟩;have q7:=q6.same s7;have L7:=q7.lk;have d7:∀ (j':Nat) (c:List Int×Int×Int),j'<j->(callsOf (p.pl []))[j']?=some c->∀ u,(c.1,u)∈f0.pl []->∀ x∈u.pl [],gP H7 G6 (nk c.2.1 x.1) (s:Nat) (c.1++x.1):=fun j' c h1 h2 u h3 x h4=>LSub.kt (Same.kt s7) G6 _ _ _ (d6 j' c h1 h2 u h3 x h4);have LF:(u.pl []).length=Oe.length:=Tp HI;rw [Th.pl_len] at LF
       have LH:∀ g∈G6,g.2.1≠il:=fun g hg z=>by
        have:=(q6.lk.ls g hg).2.1;rw [z,nil] at this;cases this
       have HJ:il≠la:=fun z=>by
        obtain ⟨φ,e⟩:=cr L7.dm;rw [z,e] at JE;cases JE
       have BC:=CV.trans (Same.kt s7);have LI:=(Fc.trans (Same.kt s5)).trans BC
       refine dD (K:=K) (a:=il) (xs:=Oe.map V.ref) (fun m σ H8=>Ex2 fun (zm:Option V) (G8:LG)=>An3 (σ=[some (.ref b),some (.int ((s:Nat):Int)),some (.ref fa),some (.ref la),some (.ref pd),some (.ref ka),some (.ref pa),some (.ref Ob),some (.int c.2.1),some (.int c.2.2),zm]) (LQ P w ins Al Lk H0 la H7 G6 H8 G8 (N+i * 80000+j * 400+2 * m)) (∀ (m':Nat) (x:List Int×Th),m'<m->(u.pl [])[m']?=some x->gP H8 G8 (nk c.2.1 x.1) (s:Nat) (c.1++x.1)))
        ⟨_,G6,rfl,LQ.refl L7,fun _ _ h=>absurd h (W8 _)⟩ (fun m σ H8 _ ⟨_,_,_,q8,_⟩=>SqL.of (q8.fr _ _ JE HJ LH)) ?_ ?_
       · rintro m x σ H8 hx ⟨zm,G8,rfl,q8,d8⟩;refine hid fun ZZ kZ=>?_;obtain ⟨ib,rfl,QO⟩:=aU hx;obtain ⟨y,hy,LJ⟩:=P2.get' HI QO;have So:m<200:=by have:=(Te.mp hy).1;rw [Th.pl_len] at this;omega
         have LK:=q8.kt L7;have L8:=q8.lk;have Dx:=L8.le;have LL:=LK _ _ LJ;have Of:=LK _ _ (BC _ _ Oc);have Og:KAt H8 kd ka:=LK _ _ (LI _ _ ek);obtain ⟨Sq,QP⟩:=cr L8.dm;refine kZ ?_;have Jy:c.1.length<=100:=by have:=oX _ f0 [] (Td _) _ hu;rw [V9] at this;dsimp only at this;omega
         have Sr:y.1.length<=100:=by have:=oX _ u [] (Td _) y (Tb hy);rw [V9] at this;omega
         have Oh:nk (s:Nat) (c.1++y.1)∈Al:=Bh (c.1++y.1,y.2) (qN _ (Td _) hu (Tb hy));have Oi:Lk (nk c.2.1 y.1) (s:Nat) (c.1++y.1) kd c.2.2:=hL i p kd c u y hp hk (Tb hc) hu (Tb hy);refine ⟨_,rfl,⟨la,_,rfl,L8.dm⟩,_,rfl,_,rfl,ai (by show 2<=1000000;decide),fun kp BA=>?_⟩;have s9:L2.Same H8 (upd H8 kp (.tup [.int c.2.1,.ref ib])):=ad BA _;have e9:(upd H8 kp (.tup [.int c.2.1,.ref ib])) kp=some (.tup [.int c.2.1,.ref ib]):=ab;dsimp only;generalize (upd H8 kp (.tup [.int c.2.1,.ref ib]))=H9 at s9 e9 ⊢;refine ⟨ai (by show 0<=1000000;decide),fun l0 BN=>?_⟩;have yG:L2.Same H9 (upd H9 l0 (.lst [])):=ad BN _;have q9:LQ P w ins Al Lk H0 la H8 G8 H9 G8 (N+i * 80000+j * 400+2 * m):=(LQ.refl L8).same s9;have JF:=Same.kt (s9.trans yG);refine ⟨la,kp,.ref l0,nk c.2.1 y.1,lkv G8,rfl,rfl,L8.dm.mono (s9.trans yG),kW (yG _ _ e9) ((s9.trans yG) _ _ LL),eQ (by unfold lkv;rw [S6];omega),fun u hu=>?_,fun hn yO QQ LM=>?_⟩
         · obtain ⟨g,hg,HK,rfl⟩:=qE hu;have qs:LQ P w ins Al Lk H0 la H8 G8 (upd H9 l0 (.lst [])) G8 (N+i * 80000+j * 400+2 * m+1):=(q9.same yG).up (by omega);generalize (upd H9 l0 (.lst []))=Hs at qs JF ⊢;have Ls:=qs.lk;refine hid fun ZZ kZ=>?_;obtain ⟨_,gl,gn,_⟩:=Ls.ls g hg;refine kZ ?_;refine ⟨.inl ⟨rfl,_,SqL.of gl⟩,_,rfl,_,rfl,_,rfl,?_⟩;refine lK (JF _ _ Of) (JF _ _ LL) (by rw [S6,S6];omega) fun pj zd zp CW=>?_;rw [<- Tu] at CW;refine ⟨_,rfl,_,rfl,ai (by show 4<=1000000;decide),fun en LN=>?_⟩;have yI:L2.Same zd (upd zd en (.tup [.int ((s:Nat):Int),.ref pj,.ref ka,.int c.2.2])):=ad LN _;have BF:(upd zd en (.tup [.int ((s:Nat):Int),.ref pj,.ref ka,.int c.2.2])) en=some (.tup [.int ((s:Nat):Int),.ref pj,.ref ka,.int c.2.2]):=ab;generalize (upd zd en (.tup [.int ((s:Nat):Int),.ref pj,.ref ka,.int c.2.2]))=Cz at yI BF ⊢;have A':=zp.trans yI;refine ⟨g.2.1,_,_,rfl,rfl,A' _ _ gl,eQ (by rw [S6];omega),?_⟩;obtain ⟨HL,has⟩:=(qs.same A').appG hg (en:=en) ⟨_,_,c.1++y.1,pj,ka,kd,BF,yI _ _ CW,(Same.kt A') _ _ (JF _ _ Og),Tb hk,Oh,by rw [HK];exact Oi⟩;refine ⟨_,_,rfl,(q8.trans HL).up (by omega),fun m' x2 D4 AV=>?_⟩;by_cases LO:m'=m
           · rw [LO,hy] at AV;cases AV;have hh:=has _ _ _ _ _ BF (yI _ _ CW);rw [HK] at hh;exact hh
           · exact HL.sub _ _ _ (d8 m' x2 (by omega) AV)
         · have qs:=q9.newG BN hn QQ LM;have LP:=qs.kt L8;refine hid fun ZZ kZ=>?_;obtain ⟨g,hg,HK,QR⟩:∃ g∈G8++[(nk c.2.1 y.1,l0,[])],g.1=nk c.2.1 y.1/\g.2.1=l0:=⟨_,Uj _ (T1 ..),rfl,rfl⟩;refine kZ ?_;rw [<- QR] at qs hg ⊢;have Ls:=qs.lk;refine hid fun ZZ kZ=>?_;obtain ⟨_,gl,gn,_⟩:=Ls.ls g hg;refine kZ ?_;refine ⟨.inl ⟨rfl,_,SqL.of gl⟩,_,rfl,_,rfl,_,rfl,?_⟩;refine lK (LP _ _ Of) (LP _ _ LL) (by rw [S6,S6];omega) fun pj zd zp CW=>?_;rw [<- Tu] at CW;refine ⟨_,rfl,_,rfl,ai (by show 4<=1000000;decide),fun en LN=>?_⟩;have yI:L2.Same zd (upd zd en (.tup [.int ((s:Nat):Int),.ref pj,.ref ka,.int c.2.2])):=ad LN _;have BF:(upd zd en (.tup [.int ((s:Nat):Int),.ref pj,.ref ka,.int c.2.2])) en=some (.tup [.int ((s:Nat):Int),.ref pj,.ref ka,.int c.2.2]):=ab;generalize (upd zd en (.tup [.int ((s:Nat):Int),.ref pj,.ref ka,.int c.2.2]))=Cz at yI BF ⊢;have A':=zp.trans yI;refine ⟨g.2.1,_,_,rfl,rfl,A' _ _ gl,eQ (by rw [S6];omega),?_⟩;obtain ⟨HL,has⟩:=(qs.same A').appG hg (en:=en) ⟨_,_,c.1++y.1,pj,ka,kd,BF,yI _ _ CW,(Same.kt A') _ _ (LP _ _ Og),Tb hk,Oh,by rw [HK];exact Oi⟩;refine ⟨_,_,rfl,(q8.trans HL).up (by omega),fun m' x2 D4 AV=>?_⟩;by_cases LO:m'=m
           · rw [LO,hy] at AV;cases AV;have hh:=has _ _ _ _ _ BF (yI _ _ CW);rw [HK] at hh;exact hh
           · exact HL.sub _ _ _ (d8 m' x2 (by omega) AV)
       · rintro σ H8 ⟨zm,G8,rfl,q8,d8⟩;refine ⟨_,_,_,_,G8,rfl,(q7.trans q8).up (by rw [S6];omega),fun j' c' yn zc u' zA x2 AV=>?_⟩;by_cases CB:j'=j
         · subst CB;rw [hc] at zc;cases zc;have:u'=u:=pE _ (Td _) zA hu;subst this;obtain ⟨m',D4⟩:=TJ.mp AV;exact d8 m' x2 (by have:=(Te.mp D4).1;rw [Th.pl_len] at this;rw [S6];omega) D4
         · exact q8.sub _ _ _ (d7 j' c' (by omega) zc u' zA x2 AV)
     · obtain ⟨rfl,yo⟩:=yo;refine ⟨_,_,_,_,G6,rfl,q6.up (by omega),fun j' c' yn zc u' zA x2 AV=>?_⟩;by_cases CB:j'=j
       · subst CB;rw [hc] at zc;cases zc;obtain ⟨a,ha,_⟩:=Lx c.1 u' zA;rw [ha] at yo;cases yo
       · exact d6 j' c' (by omega) zc u' zA x2 AV
   · rintro σ H6 ⟨c7,c8,c9,zm,G6,rfl,q6,d6⟩;refine ⟨_,_,_,_,_,_,G6,rfl,(q5.trans q6).up ?_,?_⟩
     · rw [S6];have:cs.length * 400<=200 * 400:=Yr _ (by omega);omega
     · intro p' y3;rw [UN,hp] at y3;rcases Ul.mp y3 with y3 | y3
       · exact (d5.sub q6.sub) p' y3
       · cases TR.mp y3;intro c Hw;obtain ⟨j',yn⟩:=TJ.mp Hw;exact d6 j' c (by have:=(Te.mp yn).1;rw [S6];omega) yn
 · rintro σ H3 ⟨c5,c6,c7,c8,c9,zm,G3,rfl,q3,d3⟩;rw [S6] at q3 d3;rw [UT (by omega)] at d3;have hmul:ya.length * 80000<=8 * 80000:=Yr _ (by omega);exact q G3 H3 ((Same.kt AD).trans (q3.kt Fb)) (q3.lk.up (by omega)) ((LSub.kt (Same.kt AD) G).trans q3.sub) d3
theorem ml (k:Key) (v:V):jw [] [(k,v)]=[(k,v)]:=rfl
theorem ou {H:Hp} {ins:List (TY×Int)} {n:Nat} {kid:Int} {t:Th} {a:Ta} (h:At H t a):u6 H ins [(Ub kid,.ref a)] (bU ins n kid t):=fun i u hu=>by
 unfold bU at hu;rw [Tn,T4] at hu;obtain ⟨j,hj,rfl⟩:=hu;have Ss:j<n:=by have:=VZ.mp (Tb hj);exact this
 have D8:i=j:=by
  have hi:i<n:=by have:=(Te.mp hj).1;rwa [T8] at this
  rw [Ux hi] at hj;exact TV hj
 subst D8;by_cases hk:(i:Int)=kid
 · rw [if_pos hk];exact .inl ⟨a,by rw [bN (by rw [hk])],h⟩
 · rw [if_neg hk];exact .inr ⟨by rw [bO (fun z=>hk (Wu z).symm)];rfl,rfl⟩
def SpI (P:Tv) (w:TN) (Vl:VlT) (H:Hp) (ia la pt hl:Ta) (G:LG) (f':List (aB×V)) (Al:List aB) (m:Nat) (σ:St) (H2:Hp):Prop:=∃ (i:Nat) (y6:List (aB×V)) (Ba:List Ta) (c5 c6 c7 c8 c9 zm:Option V),σ=[some (.ref ia),some (.ref la),some (.ref pt),some (.ref hl),some (.int (i:Nat)),c5,c6,c7,c8,c9,zm]/\But pt H H2/\H2 hl=some (.lst (Ba.map V.ref))/\Pt P w Vl H2 pt y6 Al/\T3 (fun k b=>MKAt H2 k b) (y6.map (·.1)) Ba/\(∀ k∈f'.map (·.1),k∈y6.map (·.1))/\i<=y6.length/\(∀ (j:Nat) (k:aB),j<i->(y6.map (·.1))[j]?=some k->∀ s pl,gP H2 G k s pl->nk s pl∈y6.map (·.1))/\m=Al.length+1 - i
inductive kB (P:Tv) (w:TN) (vs:List V) (H:Hp) (Q:VK) (_E:XK):Prop
 | mk (ia la pt:Ta) (ya:List Ta) (ins:List (TY×Int)) (G:LG) (f':List (aB×V)) (Al:List aB) (Vl:VlT) (Lk:LkT) (yd:vs=[.ref ia,.ref la,.ref pt]) (ye:H ia=some (.tup (ya.map V.ref))) (yj:KsAt H ins ya) (yq:bV ins) (yC:LkR P w ins Al Lk H la G) (zj:Pt P w Vl H pt f' Al) (Bi:Al.length<=1000000) (Bt:pt≠la) (Dj:(∀ (i j:Nat) (k:aB) (t1 t2:Th) (s:Int) (pl:List Int) (kd:TY×Int) (kid:Int),i<j->Vl i k t1 t2->kd∈ins->Lk k s pl kd kid->Vl j (nk s pl) (.knot kd.1 (bU ins kd.2.toNat kid t1)) (.knot kd.1 (bU ins kd.2.toNat kid t2)))) (FN:∀ (yU:List (aB×V)) (H':Hp),But pt H H'->Pt P w Vl H' pt yU Al->(∀ k∈f'.map (·.1),k∈yU.map (·.1))->(∀ k∈yU.map (·.1),∀ s pl,gP H' G k s pl->nk s pl∈yU.map (·.1))->Q .non H'):kB P w vs H Q _E
def sv (P:Tv) (w:TN):Sp:=kB P w
set_option maxHeartbeats 4000000 in
theorem sr:bi P w K mg base CX0 3 T.g_spread.f T.g_spread.d ["ins","links","partings"] (sv P w):=by
 refine T.g_spread.F.ok cg (fun vs H Q E h=>?_) (fun yb A outer s0 H vs Q E hr h=>?_)
 · obtain ⟨ia,la,pt,ya,ins,G,f',Al,Vl,Lk,rfl,_⟩:=h;rfl
 obtain ⟨ia,la,pt,ya,ins,G,f',Al,Vl,Lk,rfl,ei,zP,g,R,Ee,JA,yk,hS,q⟩:=h
 refine ⟨_,(ae (av (i:=3) cg.nd rfl (Tz rfl) (cV (qj rfl) rfl T.n_list Xf (aa (pv 2) ac)))
  (ae (av (i:=4) cg.nd rfl (Tz rfl) af)
  (ag (dF T2 (aK mG (pv 4) (ay ao rfl T.n_len TU (aa (pv 3) ac)) (aO _)) (ae (cK (n5 (f6 hr) (pv 2) (az aL (pv 3) (pv 4) (fun _ _=>rfl)) (fun _ _=>rfl)) (bu rfl (au (aj (i:=5) cg.nd rfl (Tz rfl)) (au (aj (i:=6) cg.nd rfl (Tz rfl)) aX))))
  (ae (bv T2 rfl (ck (rP (f6 hr) (pv 1) (az aL (pv 3) (pv 4) (fun _ _=>rfl)) (bw ac) ⟨rfl,rfl,rfl,rfl⟩)) (bu rfl (au (aj (i:=7) cg.nd rfl (Tz rfl)) (au (aj (i:=8) cg.nd rfl (Tz rfl)) (au (aj (i:=9) cg.nd rfl (Tz rfl)) (au (aj (i:=10) cg.nd rfl (Tz rfl)) aX))))) (ag (bE (ql (qk (f6 hr) (aJ (aa (pv 7) (aa (pv 8) ac))) (pv 2))) (ae (sM (f6 hr) (pv 2) (aJ (aa (pv 7) (aa (pv 8) ac))) (aJ (aa (pcF T.g_knot_above (eK T) hr (aa (pv 0) (aa (pv 9) (aa (rh (ox (pv 10) (pv 5) rf) rfl rfl (by decide) (by decide)) ac)))) (aa (pcF T.g_knot_above (eK T) hr (aa (pv 0) (aa (pv 9) (aa (rh (ox (pv 10) (pv 6) rf) rfl rfl (by decide) (by decide)) ac)))) ac))) rfl)
  (ag (aP (bJ Tr TM TL aN (pv 3) (aa (aJ (aa (pv 7) (aa (pv 8) ac))) ac))))) bj)))
  (ag (vN (i:=4) cg.nd rfl (Tz rfl) af v9)))))))),?_⟩
 try dsimp only [yv,xW]
 obtain ⟨φ,Dq⟩:=cr Ee.dm;have zx:ins.length=ya.length:=Tp zP;refine ⟨_,rfl,pt,f',rfl,Ee.dm,fun hl bs Ef yw=>?_⟩;have s1:L2.Same H (upd H hl (.lst (bs.map V.ref))):=ad Ef _;have e1:(upd H hl (.lst (bs.map V.ref))) hl=some (.lst (bs.map V.ref)):=ab;generalize (upd H hl (.lst (bs.map V.ref)))=H1 at s1 e1 ⊢;have Oj:hl≠pt:=fun z=>by rw [z,Dq] at Ef;cases Ef
 have LR:T3 (fun k b=>MKAt H1 k b) (f'.map (·.1)) bs:=P2.mapl _ (P2.mp (fun _ _ e=>e.mono (Same.kt s1)) yw);refine ⟨SpI P w Vl H ia la pt hl G f' Al,⟨_,0,f',bs,none,none,none,none,none,none,rfl,Same.but s1,e1,Ee.same s1,LR,fun _ h=>h,TZ _,fun _ _ h=>absurd h (W8 _),rfl⟩,?_⟩;rintro m σ H2 ⟨i,y6,Ba,c5,c6,c7,c8,c9,zm,rfl,b2,Bb,zu,Fd,Eh,Hn,AN,rfl⟩;have LS:(y6.map (·.1)).length=Ba.length:=Tp Fd;rw [S6] at LS;have Su:=zu.len;have Lg:=b2.kt Dq;obtain ⟨JG,BG⟩:=cr zu.dm;refine ⟨_,rfl,_,rfl,hl,_,rfl,.inl (SqL.of Bb),_,_,rfl,rfl,?_⟩;refine ⟨_,rfl,?_⟩;refine cQ (fun cc=>?_) (fun cc=>?_)
 · have yf:i<Ba.length:=by
    have:=of_decide_eq_true cc;rw [S6] at this;omega
   refine hid fun ZZ kZ=>?_;obtain ⟨bk,JH⟩:∃ bk,Ba[i]?=some bk:=⟨_,S9 yf⟩;obtain ⟨k,hk,E6⟩:=P2.get' Fd JH
   obtain ⟨v,hv⟩:∃ v,aV y6 k=some v:=by
    cases Dy:aV y6 k with
    | none=>exact absurd (Tb hk) (cZ Dy)
    | some v=>exact ⟨v,rfl⟩
   obtain ⟨kv,FR,HM⟩:∃ kv,y6[i]?=some kv/\kv.1=k:=by
    rw [Tn,T4] at hk;exact hk
   obtain ⟨pr,ta,tb,t1,t2,ev,BV,zO,HN,Ol⟩:=zu.vl i kv FR;refine kZ ?_;rw [<- HM] at hv;rw [<- rc zu.nd FR hv] at ev;subst ev;rw [HM] at hv Ol;have CY:atI (Ba.map V.ref) ((i:Nat):Int)=some (.ref bk):=ci (by rw [Tn,JH];rfl);refine ⟨fun xS H'=>∃ m',m'<Al.length+1 - i/\SpI P w Vl H ia la pt hl G f' Al m' xS H',fun xS H' h=>h,?_⟩;refine ⟨_,rfl,_,rfl,_,rfl,hl,_,_,.ref bk,rfl,rfl,SqL.of Bb,CY,?_⟩;refine ⟨pt,bk,k,y6,.ref pr,rfl,rfl,zu.dm,E6,hv,?_⟩;refine ⟨pr,_,rfl,SqT.of BV,rfl,_,_,rfl,_,_,rfl,rfl,?_⟩;dsimp only [aF];have R2:=R.but b2 Dq yk
   -- Az links of this one
   refine jf (fun xS H'=>Ex6 fun (zo:List (aB×V)) (Ax:List Ta) (d7 d8 d9 FT:Option V)=>An8 (xS=[some (.ref ia),some (.ref la),some (.ref pt),some (.ref hl),some (.int (i:Nat)),some (.ref ta),some (.ref tb),d7,d8,d9,FT]) (But pt H H') (KT H2 H') (H' hl=some (.lst (Ax.map V.ref))) (Pt P w Vl H' pt zo Al) (T3 (fun k b=>MKAt H' k b) (zo.map (·.1)) Ax) ((∃ more,zo.map (·.1)=y6.map (·.1)++more)) (∀ s pl,gP H' G k s pl->nk s pl∈zo.map (·.1))) (fun kk BW=>?_) ?_
   · refine ⟨_,rfl,la,_,rfl,R2.dm,_,rfl,_,rfl,hl,_,_,.ref bk,rfl,rfl,SqL.of Bb,CY,ai (by show 0<=1000000;decide),fun l0 BN=>?_⟩;have s3:L2.Same H2 (upd H2 l0 (.lst [])):=ad BN _;have e3:(upd H2 l0 (.lst [])) l0=some (.lst (([]:List Ta).map V.ref)):=ab;generalize (upd H2 l0 (.lst []))=H3 at s3 e3 ⊢;have R3:=R2.but (Same.but s3 (p:=pt)) BG yk;have LU:l0≠hl:=fun z=>by rw [z,Bb] at BN;cases BN
     refine ⟨la,bk,k,lkv G,rfl,rfl,R3.dm,E6.mono (Same.kt s3),?_⟩;refine hid fun ZZ kZ=>?_
     obtain ⟨l,as,el,Om,QS,QT,hle,QU⟩:∃ (l:Ta) (as:List Ta),(aV (lkv G) k).getD (.ref l0)=.ref l/\H3 l=some (.lst (as.map V.ref))/\l≠hl/\l≠pt/\(∀ a∈as,LE H3 ins Al Lk k a)/\∀ s pl,gP H3 G k s pl->∃ a∈as,∃ (pa ka:Ta) (kid:Int),H3 a=some (.tup [.int s,.ref pa,.ref ka,.int kid])/\H3 pa=some (.tup (pl.map V.int)):=by
      have BH:H3 pt=some (.ext JG):=s3 _ _ BG;cases Oo:aV (lkv G) k with
      | none=>exact ⟨l0,[],rfl,e3,LU,(fun z=>by rw [z,BH] at e3;cases e3),(fun a ha=>by cases ha),fun s pl hh=>absurd hh (tG Oo)⟩
      | some u =>
        obtain ⟨g,hg,rfl,rfl⟩:=qE Oo;obtain ⟨h1,h2⟩:=R3.ls g hg;refine ⟨g.2.1,g.2.2,rfl,h1,(fun z=>?_),(fun z=>by rw [z,BH] at h1;cases h1),h2,fun s pl hh=>R3.at hg hh⟩;have:=(R.ls g hg).1;rw [z,Ef] at this;cases this
     refine kZ ?_;rw [el];refine ⟨l,rfl,⟨_,SqL.of Om⟩,?_⟩;have b3:=b2.trans (Same.but s3 (p:=pt))
     refine dD (K:=K) (a:=l) (xs:=as.map V.ref) (fun j σ H4=>Ex6 fun (zo:List (aB×V)) (Ax:List Ta) (d7 d8 d9 FT:Option V)=>An8 (σ=[some (.ref ia),some (.ref la),some (.ref pt),some (.ref hl),some (.int (i:Nat)),some (.ref ta),some (.ref tb),d7,d8,d9,FT]) (But pt H H4) ((∀ c o,c≠pt->c≠hl->H3 c=some o->H4 c=some o)) (H4 hl=some (.lst (Ax.map V.ref))) (Pt P w Vl H4 pt zo Al) (T3 (fun k b=>MKAt H4 k b) (zo.map (·.1)) Ax) ((∃ more,zo.map (·.1)=y6.map (·.1)++more)) (∀ (j':Nat) (a:Ta),j'<j->as[j']?=some a->∀ (s:Int) (pl:List Int) (pa ka:Ta) (kid:Int),H3 a=some (.tup [.int s,.ref pa,.ref ka,.int kid])->H3 pa=some (.tup (pl.map V.int))->nk s pl∈zo.map (·.1)))
      ⟨y6,Ba,_,_,_,_,rfl,b3,fun _ _ _ _ e=>e,s3 _ _ Bb,zu.same s3,P2.mp (fun _ _ e=>e.mono (Same.kt s3)) Fd,⟨[],by rw [Ui]⟩,fun _ _ h=>absurd h (W8 _)⟩ (fun j σ H4 _ ⟨_,_,_,_,_,_,_,_,f4,_,_,_,_,_⟩=>SqL.of (f4 _ _ QT QS Om)) ?_ ?_
     · rintro j x σ H4 hx ⟨zo,Ax,d7,d8,d9,FT,rfl,b4,f4,BI,zi,Bc,yJ,xY⟩;have BH:H3 pt=some (.ext JG):=s3 _ _ BG;have Bd:KT H3 H4:=fun c ys ec=>f4 c _ (fun z=>by rw [z,BH] at ec;cases ec) (fun z=>by rw [z,s3 _ _ Bb] at ec;cases ec) ec;have Dz:=(Same.kt s3).trans Bd;have LV:=Lg.trans Dz;refine hid fun ZZ kZ=>?_;obtain ⟨Sv,LW⟩:=cr zi.dm;have QV:=zi.len;have LX:(zo.map (·.1)).length=Ax.length:=Tp Bc;rw [S6] at LX;obtain ⟨a,rfl,ha⟩:=aU hx;obtain ⟨s',kid,pl,pa,ka,kd,g1,g2,g3,g4,g5,g6⟩:=hle a (Tb ha);refine kZ ?_;have ea:=Bd _ _ g1;have zY:=Bd _ _ g2;have Oq:KAt H4 kd ka:=Bd _ _ g3
       have HP:∀ (s:Int) (zB:List Int) (CO Cm:Ta) (zZ:Int),H3 a=some (.tup [.int s,.ref CO,.ref Cm,.int zZ])->H3 CO=some (.tup (zB.map V.int))->nk s zB=nk s' pl:=fun s zB CO Cm zZ h1 h2=>by
        rw [g1] at h1;cases h1;rw [g2] at h2;have:pl=zB:=og (by injection h2 with h3;injection h3);rw [this]
       refine ⟨a,_,rfl,SqT.of ea,rfl,_,_,rfl,_,_,rfl,_,_,rfl,_,_,rfl,rfl,?_⟩;dsimp only [aF];refine eZ (fun bb H'=>An2 (L2.Same H4 H') (bb=!(aV zo (nk s' pl)).isSome)) (fun k2 AF=>?_) (fun H5 yo=>?_) (fun H5 yo=>?_)
       · refine ⟨_,rfl,_,rfl,ai (by show 2<=1000000;decide),fun kp BA=>?_⟩;have s5:=ad BA (.tup [.int s',.ref pa]);exact ⟨_,rfl,pt,kp,nk s' pl,zo,rfl,rfl,zi.dm.mono s5,kW ab (s5 _ _ zY),_,rfl,AF _ _ ⟨s5,rfl⟩⟩
       · obtain ⟨s5,yo⟩:=yo
         have hn:aV zo (nk s' pl)=none:=by
          cases Dy:aV zo (nk s' pl) with
          | none=>rfl
          | some u=>rw [Dy] at yo;cases yo
         have HQ:=LV.trans (Same.kt s5);have Df:=Dz.trans (Same.kt s5)
         -- Az first tree
         refine ⟨_,rfl,_,rfl,fun dd JB=>?_⟩;refine ⟨_,rfl,_,rfl,ab,[(Ub kid,.ref ta)],rfl,(by show 1<=15;decide),?_⟩;rw [ml];have s6:L2.Same H5 (upd (upd H5 dd (.dK [])) dd (.dK [(Ub kid,.ref ta)])):=aw (ad JB _) JB;have e6:(upd (upd H5 dd (.dK [])) dd (.dK [(Ub kid,.ref ta)])) dd=some (.dK [(Ub kid,.ref ta)]):=ab;generalize (upd (upd H5 dd (.dK [])) dd (.dK [(Ub kid,.ref ta)]))=H6 at s6 e6 ⊢;have Dw:=HQ.trans (Same.kt s6);refine ⟨ia,ka,dd,ya,ins,kd,_,bU ins kd.2.toNat kid t1,rfl,Dw _ _ ei,zP.mono Dw,g,(s5.trans s6) _ _ Oq,g4,e6,iz ..,ou (zO.mono (Df.trans (Same.kt s6))),fun r1 H7 s7 Lb=>?_⟩
         -- Az second
         refine ⟨_,rfl,_,rfl,fun d2 hd2=>?_⟩;refine ⟨_,rfl,_,rfl,ab,[(Ub kid,.ref tb)],rfl,(by show 1<=15;decide),?_⟩;rw [ml];have s8:L2.Same H7 (upd (upd H7 d2 (.dK [])) d2 (.dK [(Ub kid,.ref tb)])):=aw (ad hd2 _) hd2;have e8:(upd (upd H7 d2 (.dK [])) d2 (.dK [(Ub kid,.ref tb)])) d2=some (.dK [(Ub kid,.ref tb)]):=ab;generalize (upd (upd H7 d2 (.dK [])) d2 (.dK [(Ub kid,.ref tb)]))=H8 at s8 e8 ⊢;have Dh:=s6.trans (s7.trans s8);have BE:=HQ.trans (Same.kt Dh);refine ⟨ia,ka,d2,ya,ins,kd,_,bU ins kd.2.toNat kid t2,rfl,BE _ _ ei,zP.mono BE,g,(s5.trans Dh) _ _ Oq,g4,e8,iz ..,ou (HN.mono (Df.trans (Same.kt Dh))),fun r2 H9 s9 ER=>?_⟩;refine ⟨ai (by show 2<=1000000;decide),fun p2 zX=>?_⟩;have yG:L2.Same H9 (upd H9 p2 (.tup [.ref r1,.ref r2])):=ad zX _;have EW:(upd H9 p2 (.tup [.ref r1,.ref r2])) p2=some (.tup [.ref r1,.ref r2]):=ab;generalize (upd H9 p2 (.tup [.ref r1,.ref r2]))=yO at yG EW ⊢;refine ⟨_,rfl,_,rfl,_,rfl,ai (by show 2<=1000000;decide),fun kp BA=>?_⟩;have zp:L2.Same yO (upd yO kp (.tup [.int s',.ref pa])):=ad BA _;have CW:(upd yO kp (.tup [.int s',.ref pa])) kp=some (.tup [.int s',.ref pa]):=ab;generalize (upd yO kp (.tup [.int s',.ref pa]))=zd at zp CW ⊢;have BJ:=s5.trans (Dh.trans (s9.trans (yG.trans zp)));have Ei:=zi.same BJ;refine ⟨pt,kp,nk s' pl,zo,rfl,rfl,Ei.dm,kW CW (BJ _ _ zY),eQ (by omega),fun Cz LY LZ=>?_⟩;have JI:But pt zd Cz:=LY
         have L3:i<zo.length:=by
          obtain ⟨more,hm⟩:=id yJ;have:=congrArg Wf hm;rw [S6,TC,S6] at this;omega
         obtain ⟨QW,Fe⟩:=Ei.put hn JI LZ ⟨p2,r1,r2,_,_,rfl,zp _ _ EW,Lb.mono (Same.kt (s8.trans (s9.trans (yG.trans zp)))),ER.mono (Same.kt (yG.trans zp)),hS i _ k t1 t2 s' pl kd kid L3 Ol g4 g6⟩ g5;have CC:Cz hl=some (.lst (Ax.map V.ref)):=JI _ _ Oj (BJ _ _ BI);have Ej:KT H4 Cz:=(Same.kt BJ).trans (JI.kt (BJ _ _ LW));dsimp only [aF];refine ⟨_,rfl,.inl ⟨rfl,_,SqL.of CC⟩,_,rfl,_,rfl,ai (by show 2<=1000000;decide),fun Ek L4=>?_⟩;have DA:L2.Same Cz (upd Cz Ek (.tup [.int s',.ref pa])):=ad L4 _;have JJ:(upd Cz Ek (.tup [.int s',.ref pa])) Ek=some (.tup [.int s',.ref pa]):=ab;generalize (upd Cz Ek (.tup [.int s',.ref pa]))=Du at DA JJ ⊢;refine ⟨hl,_,_,rfl,rfl,DA _ _ CC,eQ (by rw [S6];omega),?_⟩;have DB:KT Du (upd Du hl (.lst (Ax.map V.ref++[.ref Ek]))):=aT (DA _ _ CC);have HR:=(Ej.trans (Same.kt DA)).trans DB;have FQ:=QW.same DA;have QX:Pt P w Vl (upd Du hl (.lst (Ax.map V.ref++[.ref Ek]))) pt _ Al:=⟨qB FQ.dm DB fun o eo=>by rw [ak Oj.symm];exact eo,FQ.nd,FQ.al,fun j p hp=>(FQ.vl j p hp).mono DB⟩;obtain ⟨more,yJ⟩:=yJ
         have go:∀ c o,c≠pt->c≠hl->H4 c=some o->(upd Du hl (.lst (Ax.map V.ref++[.ref Ek]))) c=some o:=fun c o h1 h2 e=>by
          rw [ak h2];exact DA _ _ (JI _ _ h1 (BJ _ _ e))
         refine ⟨_,Ax++[Ek],_,_,_,_,rfl,fun c o hc e=>go c o hc (fun z=>by rw [z,Ef] at e;cases e) (b4 _ _ hc e),fun c o h1 h2 e=>go c o h1 h2 (f4 c o h1 h2 e),by rw [ab,Tu];rfl,QX,?_,⟨more++[nk s' pl],by rw [Fe,yJ,UB]⟩,fun j' a' yn Bs s zB CO Cm zZ h1 h2=>?_⟩
         · rw [Fe];exact P2.append (P2.mp (fun _ _ e=>e.mono HR) Bc) (.cons ((kW JJ (DA _ _ (Ej _ _ zY))).mono DB) .nil)
         · rw [Fe];by_cases CB:j'=j
           · rw [CB,ha] at Bs;cases Bs;rw [HP s zB CO Cm zZ h1 h2];exact Uj _ (T1 ..)
           · exact Uq _ (xY j' a' (by omega) Bs s zB CO Cm zZ h1 h2)
       · obtain ⟨s5,yo⟩:=yo
         obtain ⟨u,hu⟩:∃ u,aV zo (nk s' pl)=some u:=by
          cases Dy:aV zo (nk s' pl) with
          | none=>rw [Dy] at yo;cases yo
          | some u=>exact ⟨u,rfl⟩
         refine ⟨zo,Ax,_,_,_,_,rfl,b4.trans (Same.but s5),fun c o h1 h2 e=>s5 _ _ (f4 c o h1 h2 e),s5 _ _ BI,zi.same s5,P2.mp (fun _ _ e=>e.mono (Same.kt s5)) Bc,yJ,fun j' a' yn Bs s zB CO Cm zZ h1 h2=>?_⟩;by_cases CB:j'=j
         · rw [CB,ha] at Bs;cases Bs;rw [HP s zB CO Cm zZ h1 h2];exact Um.mpr ⟨_,eS hu,rfl⟩
         · exact xY j' a' (by omega) Bs s zB CO Cm zZ h1 h2
     · rintro σ H4 ⟨zo,Ax,d7,d8,d9,FT,rfl,b4,f4,BI,zi,Bc,yJ,xY⟩;have BH:H3 pt=some (.ext JG):=s3 _ _ BG;have Bd:KT H3 H4:=fun c ys ec=>f4 c _ (fun z=>by rw [z,BH] at ec;cases ec) (fun z=>by rw [z,s3 _ _ Bb] at ec;cases ec) ec;refine BW _ _ ⟨zo,Ax,_,_,_,_,rfl,b4,(Same.kt s3).trans Bd,BI,zi,Bc,yJ,fun s pl hh=>?_⟩;refine hid fun ZZ kZ=>?_;obtain ⟨a,ha,pa,ka,kid,h1,h2⟩:=QU s pl (R3.back Bd hh);obtain ⟨j',yn⟩:=TJ.mp ha;refine kZ ?_;exact xY j' a (by have:=(Te.mp yn).1;rw [S6];exact this) yn s pl pa ka kid h1 h2
   · rintro xS H4 ⟨zo,Ax,d7,d8,d9,FT,rfl,b4,Dz,BI,zi,Bc,⟨more,yJ⟩,L6⟩;have QV:=zi.len;have hlen:=congrArg Wf yJ;rw [S6,TC,S6] at hlen;refine ⟨_,rfl,_,_,rfl,rfl,Al.length+1 - (i+1),by omega,i+1,zo,Ax,_,_,_,_,_,_,rfl,b4,BI,zi,Bc,fun k' zg=>by rw [yJ];exact Uq _ (Eh k' zg),by omega,fun j k' hj zg s pl hh=>?_,rfl⟩;have AU:j<(y6.map (·.1)).length:=by rw [S6];omega
     have AF:(y6.map (·.1))[j]?=some k':=by rw [yJ,VA AU] at zg;exact zg
     by_cases HS:j=i
     · rw [HS,hk] at AF;cases AF;exact L6 s pl hh
     · rw [yJ];exact Uq _ (AN j k' (by omega) AF s pl (R2.back Dz hh))
 · have Sw:¬ i<Ba.length:=fun z=>cc (decide_eq_true (by rw [S6];omega));refine q y6 H2 b2 zu Eh fun k hk s pl hh=>?_;obtain ⟨j,hj⟩:=TJ.mp hk;exact AN j k (by have:=(Te.mp hj).1;rw [S6] at this;omega) hj s pl hh
inductive gU (P:Tv) (w:TN) (K:S8) (vs:List V) (H:Hp) (Q:VK) (_E:XK):Prop
 | mk (fa pt:Ta) (s:Nat) (t:Th) (f':List (aB×V)) (Al:List aB) (Vl:VlT) (yd:vs=[.ref fa,.int (s:Nat),.ref pt]) (ye:AtK K H t fa) (yj:t.size<=200) (yq:t.tall<=100) (yC:t.noCall) (zj:Pt P w Vl H pt f' Al) (Bi:∀ (r:Ta) (H':Hp),L2.Same H H'->AtK K H' (t.cut (Dk f' (s:Nat)) []) r->Q (.ref r) H'):gU P w K vs H Q _E
def iK (P:Tv) (w:TN) (K:S8):Sp:=gU P w K
def w9 (K:S8) (D:List Int->Bool) (fa pt tl ah:Ta) (s:Nat) (t:Th) (H:Hp) (m:Nat) (σ:St) (H3:Hp):Prop:=∃ (ts as:List Ta) (Ts:List Th) (As:List (List Int×Th)) (c5 c6 c7:Option V),σ=[some (.ref fa),some (.int (s:Nat)),some (.ref pt),some (.ref tl),some (.ref ah),c5,c6,c7]/\L2.Same H H3/\H3 tl=some (.lst (ts.map V.ref))/\H3 ah=some (.lst (as.map V.ref))/\T3 (TopAtK K H3) (Ts.map (dX Th.call)) ts/\PsAtK K H3 As as/\Ts++ip D As.reverse=(t.cut D []).walk/\(∀ p∈As,p.1.length+p.2.tall<=100/\p.2.noCall)/\Ts.length+szP As<=200/\m=szP As
set_option maxHeartbeats 4000000 in
theorem nD:bi P w K mg base CX0 3 T.g_cut_front.f T.g_cut_front.d ["front","state","partings"] (iK P w K):=by
 refine T.g_cut_front.F.ok cx (fun vs H Q E h=>?_) (fun yb A outer s0 H vs Q E hr h=>?_)
 · obtain ⟨fa,pt,s,t,f',Al,Vl,rfl,_⟩:=h;rfl
 obtain ⟨fa,pt,s,t,f',Al,Vl,rfl,hA,hsz,yy,QY,Ee,k⟩:=h
 refine ⟨_,(ae (av (i:=3) cx.nd rfl (Tz rfl) (bw ac))
  (ae (av (i:=4) cx.nd rfl (Tz rfl) (bw (aa (aJ (aa (aJ ac) (aa (pv 0) ac))) ac)))
  (ae (dF T2 (aY (pv 4) (fun _=>rfl)) (ae (cK (ju Tr V2 V1 jl (pv 4)) (bu rfl (au (aj (i:=5) cx.nd rfl (XE rfl)) (au (aj (i:=6) cx.nd rfl (Tz rfl)) aX))))
  (ag (bE (PW.pt (dL (aY (pcF T.g_is_hole (iI T) hr (aa (pv 6) ac)) (fun _=>rfl)) (dQ (ql (uW (f6 hr) (aJ (aa (pv 1) (aa (pv 5) ac))) (pv 2)))))) (ag (aP (bJ Tr TM TL aN (pv 3) (aa (aJ (aa (gN (v:=.ref T.a_HOLE) rfl T.c_HOLE rfl) (aa af ac))) ac)))) (ae (aP (bJ Tr TM TL aN (pv 3) (aa (aJ (aa (bq qv (pv 6) bS (bB af)) (aa (ax fT (ay ao rfl T.n_len TU (aa (pv 6) ac)) af) ac))) ac)))
  (ae (fo (i:=7) (N:=[Ti "number",Ti "kid",Ti "place"]) (js:=[none,none,some 5]) (g:=(lX K 2 (cT (aF 0) (cT (aF 1) lR)))) (tt:=bP) (te:=(jS (bA (tOp (kb K) (bC 2) (jS (bA (bC 0) dU))) (bA (bC 1) dU)))) cx.nd rfl (Tz rfl) rfl (cG rfl (by decide +kernel) (by decide +kernel) rfl rfl rfl) (nK rfl T.n_enumerate (bq eO (pv 6) (bB af) bS)) (fun _ _ _ _ _ _=>(bu rfl (au (aj (i:=0) uU rfl (Tz rfl)) (au (aj (i:=1) uU rfl (Tz rfl)) aX)))) (gf (bR aW (aS rfl) (bR aW (aS rfl) f7))) (fun _ _ _ _ _ _=>bT) (fun _ _ _ _ _ _=>(aJ (aa (ax de (pv 2) (aJ (aa (pv 0) ac))) (aa (pv 1) ac)))))
  (ag (aP (bJ Tr Wh Wg gE (pv 4) (aa (kF rfl rfl T.n_list rfl T.n_reversed (pv 7)) ac))))))))))
  (ag (aC (pcF T.g_built (lH T) hr (aa (pv 3) ac))))))),?_⟩
 try dsimp only [yv,xW]
 generalize QZ:Dk f' (s:Nat)=D at k;refine ⟨ai (by show 0<=1000000;decide),fun tl Ff=>?_⟩;have s1:L2.Same H (upd H tl (.lst [])):=ad Ff _;have EU:(upd H tl (.lst [])) tl=some (.lst []):=ab;generalize upd H tl (.lst [])=H1 at s1 EU ⊢;refine ⟨ai (by show 0<=1000000;decide),fun p0 CP=>?_⟩;refine ⟨_,rfl,ai (by show 2<=1000000;decide),fun p1 zW=>?_⟩;refine ⟨ai (by show 1<=1000000;decide),fun ah Aa=>?_⟩;have s2:L2.Same H1 (upd (upd H1 p0 (.tup [])) p1 (.tup [.ref p0,.ref fa])):=(ad CP _).trans (ad zW _);have e1:(upd (upd H1 p0 (.tup [])) p1 (.tup [.ref p0,.ref fa])) p1=some (.tup [.ref p0,.ref fa]):=ab;have e0:(upd (upd H1 p0 (.tup [])) p1 (.tup [.ref p0,.ref fa])) p0=some (.tup []):=ad zW _ _ _ ab;generalize (upd (upd H1 p0 (.tup [])) p1 (.tup [.ref p0,.ref fa]))=H2 at s2 e1 e0 Aa ⊢;have AW:H1 ah=none:=s2.free Aa;have zN:H ah=none:=s1.free AW;have yk:ah≠tl:=fun z=>by rw [z,EU] at AW;cases AW
 have Q0:szP [(([]:List Int),t)]=t.size:=by rw [szP,szP];rfl
 refine ⟨w9 K D fa pt tl ah s t H,⟨_,[],[p1],[],[([],t)],none,none,none,rfl,aw (s1.trans s2) zN,by rw [ak yk.symm];exact s2 _ _ EU,by rw [ab];rfl,.nil,.cons ⟨p0,fa,ad Aa _ _ _ e1,ad Aa _ _ _ e0,hA.mono (Same.kt (aw (s1.trans s2) zN))⟩ .nil,by show []++((t.cut D []).walk++[])=_;rw [Vy,Ui],fun p hp=>by rw [TR.mp hp];exact ⟨by simpa using yy,QY⟩,by rw [Q0];simpa using hsz,rfl⟩,?_⟩;rintro m σ H3 ⟨ts,as,Ts,As,c5,c6,c7,rfl,sm,em,ea,a1,a2,hw,hb,hlen,rfl⟩;have Sx:Ts.length=ts.length:=by have:=Tp a1;rwa [S6] at this
 refine ⟨_,rfl,_,.inl ⟨_,SqL.of ea,rfl⟩,?_⟩;refine cQ (fun c=>?_) (fun c=>?_)
 · refine ⟨fun xS H'=>∃ m',m'<szP As/\w9 K D fa pt tl ah s t H m' xS H',fun xS H' h=>h,?_⟩;have yZ:as≠[]:=by intro z;subst z;simp at c
   refine hid fun ZZ kZ=>?_;obtain ⟨yg,b,rfl⟩:∃ yg b,as=yg++[b]:=⟨as.dropLast,as.getLast yZ,(Vp yZ).symm⟩;obtain ⟨Us,⟨pre,x⟩,rfl,a3,pa,ta,eb,zY,zO⟩:=P2.snoc_inv a2;have C9:szP (Us++[(pre,x)])=szP Us+x.size:=by rw [cD,szP,szP];rfl
   have GY:=x.size_eq;rw [C9] at hlen;obtain ⟨Jq,HU⟩:=hb (pre,x) (by simp);refine kZ ?_;simp only at Jq HU zY zO;have N0:Us.length=yg.length:=Tp a3;have q4:=nO Us;refine ⟨_,rfl,.inl ⟨rfl,_,SqL.of ea⟩,ah,_,.ref b,rfl,rfl,ea,by simp,?_⟩;have d1:((yg++[b]).map V.ref).dropLast=yg.map V.ref:=by simp
   rw [d1];have k1:KT H3 (upd H3 ah (.lst (yg.map V.ref))):=aT ea;have BU:L2.Same H (upd H3 ah (.lst (yg.map V.ref))):=aw sm zN;have Bl:(upd H3 ah (.lst (yg.map V.ref))) tl=some (.lst (ts.map V.ref)):=by rw [ak yk.symm];exact em
   have EV:(upd H3 ah (.lst (yg.map V.ref))) ah=some (.lst (yg.map V.ref)):=ab;generalize (upd H3 ah (.lst (yg.map V.ref)))=H4 at k1 BU Bl EV ⊢;refine ⟨b,_,rfl,SqT.of (k1 _ _ eb),rfl,_,_,rfl,_,_,rfl,rfl,?_⟩
   try dsimp only [aF]
   have zi:=Ee.same BU;refine eZ (fun bb H'=>An2 (L2.Same H4 H') (bb=(x.isHole || D pre))) (fun k2 AF=>?_) (fun H5 yo=>?_) (fun H5 yo=>?_)
   · refine ⟨_,rfl,ta,x,rfl,zO.mono k1,by omega,_,rfl,?_⟩;refine cQ (fun ch=>AF _ _ ⟨.refl _,by rw [ch];rfl⟩) (fun ch=>?_);have Q1:x.isHole=false:=Vw.mpr ch;refine ⟨_,rfl,_,rfl,ai (by show 2<=1000000;decide),fun kp BA=>?_⟩;have s5:=ad BA (.tup [.int ((s:Nat):Int),.ref pa]);refine ⟨_,rfl,pt,kp,nk (s:Nat) pre,f',rfl,rfl,zi.dm.mono s5,kW ab (s5 _ _ (k1 _ _ zY)),_,rfl,AF _ _ ⟨s5,?_⟩⟩;rw [Q1,W7,<- QZ];rfl
   · obtain ⟨s5,yo⟩:=yo
     have Fg:x.cut D pre=hole:=by
      cases x with
      | call u v=>rw [Th.cut]
      | knot n ks =>
        rw [Th.cut,if_pos];rcases Bool.or_eq_true_iff.mp yo.symm with h | h
        · exact .inl h
        · exact .inr h
     refine ⟨_,rfl,.inl ⟨rfl,_,SqL.of (s5 _ _ Bl)⟩,ai (by show 2<=1000000;decide),fun p hp=>?_⟩;have s6:L2.Same H5 (upd H5 p (.tup [.ref T.a_HOLE,.int 0])):=ad hp _;have e6:(upd H5 p (.tup [.ref T.a_HOLE,.int 0])) p=some (.tup [.ref T.a_HOLE,.int 0]):=ab;generalize (upd H5 p (.tup [.ref T.a_HOLE,.int 0]))=H6 at s6 e6 ⊢;have Ot:=(s5.trans s6) _ _ Bl;refine ⟨tl,_,_,rfl,rfl,Ot,aH (by rw [S6];omega),?_⟩;have k7:KT H6 (upd H6 tl (.lst (ts.map V.ref++[.ref p]))):=aT Ot;have Ou:=(k1.trans (Same.kt (s5.trans s6))).trans k7;refine ⟨szP Us,by omega,ts++[p],yg,Ts++[hole],Us,_,_,_,rfl,aw (BU.trans (s5.trans s6)) Ff,by rw [ab,Tu];rfl,by rw [ak yk];exact (s5.trans s6) _ _ EV,?_,PsAtK.mono Ou a3,?_,fun p' y3=>hb p' (Uq _ y3),?_,rfl⟩
     · rw [Tu];exact P2.append (dH Ou a1) (.cons ⟨T.a_HOLE,k7 _ _ e6,vH,(TK.const T.q_HOLE)⟩ .nil)
     · rw [<- hw,UY,UB];show Ts++([hole]++ip D Us.reverse)=Ts++ip D ((pre,x)::Us.reverse);unfold ip;rw [YV,Fg];rfl
     · rw [TC];show Ts.length+1+szP Us<=200;omega
   · obtain ⟨s5,yo⟩:=yo;obtain ⟨hh,HV⟩:=Bool.or_eq_false_iff.mp yo.symm;cases x with
     | call u v=>rw [Th.noCall] at HU;exact HU.elim
     | knot n ks =>
     have Fg:(Th.knot n ks).cut D pre=.knot n (dS D pre 0 ks):=by
      rw [Th.cut,if_neg];rintro (h | h)
      · rw [hh] at h;cases h
      · rw [HV] at h;cases h
     have FL:=k1.trans (Same.kt s5);have HW:=zO.mono FL;rw [AtK] at HW;refine hid fun ZZ kZ=>?_;obtain ⟨FU,yl,L9,yF⟩:=HW;refine kZ ?_;have y4:yl.length=ks.length:=yF.length;rw [Th.size] at hlen;have GZ:=bL ks;rw [Th.noCall] at HU;rw [Th.tall] at Jq;refine ⟨_,rfl,.inl ⟨rfl,_,SqL.of (s5 _ _ Bl)⟩,_,rfl,_,rfl,ta,_,rfl,L9,fun p2 H6 s6 e6=>?_⟩
     have Q2:TK K H6 p2 [.str n]:=by
      have e7:TK K H6 p2 (dJ (V.str n::yl.map V.ref) none (some 1)):=e6;rw [qX] at e7;exact e7
     refine ⟨_,rfl,ta,_,rfl,.inr ((L9.mono (Same.kt s6)).sq),_,_,rfl,rfl,ai (by show 2<=1000000;decide),fun tp EY=>?_⟩
     have HX:((V.str n::yl.map V.ref).length:Int) - 1=((ks.length:Nat):Int):=by
      rw [To,S6];omega
     dsimp only [dU,qF];rw [HX];have s7:L2.Same H6 (upd H6 tp (.tup [.ref p2,.int (ks.length:Nat)])):=ad EY _;have e7:(upd H6 tp (.tup [.ref p2,.int (ks.length:Nat)])) tp=some (.tup [.ref p2,.int (ks.length:Nat)]):=ab;generalize (upd H6 tp (.tup [.ref p2,.int (ks.length:Nat)]))=H7 at s7 e7 ⊢;have FV:=s5.trans (s6.trans s7);have G0:=FV _ _ Bl;refine ⟨tl,_,_,rfl,rfl,G0,aH (by rw [S6];omega),?_⟩;have k8:KT H7 (upd H7 tl (.lst (ts.map V.ref++[.ref tp]))):=aT G0;have Ma:L2.Same H (upd H7 tl (.lst (ts.map V.ref++[.ref tp]))):=aw (BU.trans FV) Ff;have Ov:(upd H7 tl (.lst (ts.map V.ref++[.ref tp]))) tl=some (.lst ((ts++[tp]).map V.ref)):=by rw [ab,Tu];rfl
     have G1:(upd H7 tl (.lst (ts.map V.ref++[.ref tp]))) ah=some (.lst (yg.map V.ref)):=by rw [ak yk];exact FV _ _ EV
     generalize (upd H7 tl (.lst (ts.map V.ref++[.ref tp])))=H8 at k8 Ma Ov G1 ⊢;have Mb:=(Same.kt (s6.trans s7)).trans k8;have D':=FL.trans Mb
     have Mc:T3 (TopAtK K H8) ((Ts++[Th.knot n (dS D pre 0 ks)]).map (dX Th.call)) (ts++[tp]):=by
      rw [Tu];refine P2.append (dH D' a1) (.cons ⟨p2,?_,FU,Q2.mono ((Same.kt s7).trans k8)⟩ .nil);show H8 tp=some (.tup [.ref p2,.int ((dS D pre 0 ks).length:Nat)]);rw [i8];exact k8 _ _ e7
     try dsimp only [aF]
     -- kids
     refine ⟨_,rfl,1,rfl,ta,_,rfl,(L9.mono Mb).sq,?_,fun p3 HY=>?_⟩
     · rintro ⟨z,_⟩;rw [To,show (1:Int)=((1:Nat):Int) by rfl,HT.sIx_nat] at z;omega
     dsimp only;rw [dA];have s9:L2.Same H8 (upd H8 p3 (.tup (yl.map V.ref))):=ad HY _;have e9:(upd H8 p3 (.tup (yl.map V.ref))) p3=some (.tup (yl.map V.ref)):=ab;generalize (upd H8 p3 (.tup (yl.map V.ref)))=H9 at s9 e9 ⊢;have Md:=s9 _ _ (D' _ _ zY);have Me:=yF.mono (Mb.trans (Same.kt s9));refine ⟨p3,rfl,⟨_,SqT.of e9⟩,?_⟩;intro Dl Fh;refine ⟨yl.length,fun j yO=>An3 (j<=yl.length) (L2.Same H9 yO) (Ex1 fun (bs:List Ta)=>An2 (yO Dl=some (.lst (bs.map V.ref))) (PsAtK K yO ((cR pre 0 ks).take j) bs)),⟨TZ _,ad Fh _,[],ab,.nil⟩,?_⟩;rintro j yO ⟨hj,yG,bs,eD,yw⟩;by_cases Bz:j=yl.length
     · left;refine ⟨⟨_,SqT.of (yG _ _ e9),by rw [S6];exact Bz.symm⟩,?_⟩;have xY:(cR pre 0 ks).take j=cR pre 0 ks:=by rw [Bz,y4,<- f8 pre 0 ks,VG]
       rw [xY] at yw;have Fi:=yG _ _ (s9 _ _ G1);have HZ:=yG _ _ (s9 _ _ Ov)
       have zy:bs.length=ks.length:=by
        have:=Tp yw;rw [f8] at this;exact this.symm
       try dsimp only [aF]
       refine ⟨_,rfl,.inl ⟨rfl,_,SqL.of Fi⟩,_,rfl,true,Dl,_,rfl,SqB.l (SqL.of eD),fun l hl=>?_⟩;have Ag:ah≠l:=aI Fi hl;have Cs:tl≠l:=aI HZ hl;have Ia:(upd yO l (.lst (bs.map V.ref).reverse)) ah=some (.lst (yg.map V.ref)):=by rw [ak Ag];exact Fi
       refine ⟨ah,l,_,_,rfl,rfl,Ia,ab,ai ?_,?_⟩
       · rw [S6,UP,S6];omega
       have Ib:KT yO (upd (upd yO l (.lst (bs.map V.ref).reverse)) ah (.lst (yg.map V.ref++(bs.map V.ref).reverse))):=(dM hl).trans (aT Ia);have Ic:=(Same.kt (s9.trans yG)).trans Ib;have Mf:=D'.trans Ic;refine ⟨szP (Us++(cR pre 0 ks).reverse),?_,ts++[tp],yg++bs.reverse,Ts++[.knot n (dS D pre 0 ks)],Us++(cR pre 0 ks).reverse,_,_,_,rfl,?_,?_,?_,dH Ic Mc,P2.append (PsAtK.mono Mf a3) (P2.reverse (PsAtK.mono Ib yw)),?_,?_,?_,rfl⟩
       · rw [cD,j1,iT,C9,Th.size];omega
       · exact aw (aw ((Ma.trans s9).trans yG) ((Ma.trans s9).trans yG |>.free hl)) zN
       · rw [ak yk.symm,ak Cs];exact HZ
       · rw [ab,Tu,X7]
       · rw [<- hw,UB,UY,UY,Vq,oB,mL];show Ts++([Th.knot n (dS D pre 0 ks)]++(walks (dS D pre 0 ks)++ip D Us.reverse))=Ts++ip D ((pre,Th.knot n ks)::Us.reverse);have:ip D ((pre,Th.knot n ks)::Us.reverse)=((Th.knot n ks).cut D pre).walk++ip D Us.reverse:=by unfold ip;rw [YV]
         rw [this,Fg,Th.walk];rfl
       · intro p hp;rcases Ul.mp hp with hp | hp
         · exact hb p (Uq _ hp)
         · obtain ⟨g1,g2⟩:=kI pre 0 ks p (List.mem_reverse.mp hp);have:=bW g2;exact ⟨by omega,dh HU g2⟩
       · rw [TC,cD,j1,iT];show Ts.length+1+(szP Us+aq ks)<=200;omega
     · right;have yn:j<yl.length:=by omega
       refine ⟨yn,⟨_,.ref yl[j],SqT.of (yG _ _ e9),by rw [Tn,S9 yn];rfl⟩,?_⟩;rintro y zd ⟨p,v,hp,rfl,rfl,hv⟩;have yM:=hv _ (SqT.of (yG _ _ e9));obtain ⟨kd,rfl,Ct⟩:=aU yM;obtain ⟨tk,zS,K2⟩:=Me.get Ct;have zp:L2.Same yO (upd yO p (.tup [.int (j:Nat),.ref kd])):=ad hp _;refine ⟨p,_,rfl,SqT.of ab,rfl,_,_,rfl,_,_,rfl,rfl,?_⟩;generalize (upd yO p (.tup [.int (j:Nat),.ref kd]))=zd at zp ⊢;refine ⟨_,rfl,_,rfl,ai (by show 1<=1000000;decide),fun n1 Jr=>?_⟩;have yI:L2.Same zd (upd zd n1 (.tup [.int (j:Nat)])):=ad Jr _;have BF:(upd zd n1 (.tup [.int (j:Nat)])) n1=some (.tup [.int (j:Nat)]):=ab;generalize (upd zd n1 (.tup [.int (j:Nat)]))=Cz at yI BF ⊢;refine lK (yI _ _ (zp _ _ (yG _ _ Md))) BF (by rw [S6];show pre.length+1<=1000000;omega) fun n2 Du DA JJ=>?_;refine ⟨_,rfl,ai (by show 2<=1000000;decide),fun n3 Ea=>?_⟩;have CZ:L2.Same yO (upd Du n3 (.tup [.ref n2,.ref kd])):=(zp.trans (yI.trans DA)).trans (ad Ea _);have Ie:=CZ _ _ eD;refine ⟨_,Ie,aH ?_,yn,?_,bs++[n3],?_,?_⟩
       · have:=Tp yw;rw [Uc] at this;rw [S6];omega
       · exact aw (yG.trans CZ) Fh
       · rw [ab,Tu];rfl
       · have JK:KT (upd Du n3 (.tup [.ref n2,.ref kd])) (upd (upd Du n3 (.tup [.ref n2,.ref kd])) Dl (.lst (bs.map V.ref++[.ref n3]))):=aT Ie;rw [UN,kw pre 0 ks j tk zS];refine P2.append (PsAtK.mono ((Same.kt CZ).trans JK) yw) (.cons ⟨n2,kd,JK _ _ ab,JK _ _ (ad Ea _ _ _ ?_),?_⟩ .nil)
         · rw [JJ,Tu,U7];rfl
         · exact K2.mono ((Same.kt (yG.trans CZ)).trans JK)
 · have hz:as=[]:=by
    cases as with
    | nil=>rfl
    | cons y ys=>simp at c
   subst hz;have CS:As=[]:=UZ.mp (Tp a2);subst CS;have ET:Ts=(t.cut D []).walk:=by simpa [ip] using hw
   subst ET;obtain ⟨b1,b2⟩:=qQ Th.call (t.cut D []);rw [rg] at b1;refine ⟨_,rfl,tl,ts,_,t.cut D [],rfl,em,a1,by rw [S6];omega,b2,?_,b1,fun r H4 s4 Q3=>k r H4 (sm.trans s4) Q3⟩;intro u hu;obtain ⟨y,hy,e⟩:=Um.mp hu;cases y with
   | knot n us=>cases e
   | call sn kn =>
     cases e;rw [Th.size];decide
def fw (ins:List (TY×Int)) (rows:List (List Th)):List aB:=(T7 rows.length).flatMap fun s=>((mkF ins rows (s:Nat)).pl []).map fun x=>nk (s:Nat) x.1
theorem kN {α β:Type} {f:α->List β} {B:Nat}:∀ {l:List α},(∀ x∈l,(f x).length<=B)->(l.flatMap f).length<=l.length * B
 | [],_=>TZ _
 | x::l,h=>by
   rw [YV,TC,To,Nat.succ_mul];have h1:=h x (T1 ..);have h2:=kN (l:=l) fun y hy=>h y (TQ _ hy);omega
theorem sI {ins outs:List (TY×Int)} {rows:List (List Th)} (F:FrK ins outs rows):(fw ins rows).length<=1000000:=by
 have h:=kN (l:=T7 rows.length) (f:=fun s=>((mkF ins rows (s:Nat)).pl []).map fun x=>nk (s:Nat) x.1) (B:=200) fun s hs=>by
  rw [S6,Th.pl_len];have yX:=VZ.mp hs;obtain ⟨row,p,_,_,e,z,_⟩:=F.mkd (l:=(s:Nat)) (by omega) (by omega);rw [e];exact z
 rw [T8] at h;have:=F.le;show ((T7 rows.length).flatMap _).length<=_;omega
theorem om {ins:List (TY×Int)} {rows:List (List Th)} {s:Nat} (hs:s<rows.length) {x:List Int×Th} (hx:x∈(mkF ins rows (s:Nat)).pl []):nk (s:Nat) x.1∈fw ins rows:=List.mem_flatMap.mpr ⟨s,VZ.mpr hs,Um.mpr ⟨x,hx,rfl⟩⟩
theorem uy {ins:List (TY×Int)} {rows:List (List Th)} {s:Nat} (hs:s<rows.length) {x:List Int×Th} (hx:x∈(frS ins rows s).pl []):nk (s:Nat) x.1∈fw ins rows:=by
 obtain ⟨u,hu⟩:=sU _ _ _ x hx;exact om (x:=(x.1,u)) hs hu
theorem xg {P:Tv} {w:TN} {Vl:VlT} {H H':Hp} {pt:Ta} {f':List (aB×V)} {Al:List aB} (h:Pt P w Vl H pt f' Al) (k:KT H H') (e:∀ o,H pt=some o->H' pt=some o):Pt P w Vl H' pt f' Al:=⟨qB h.dm k e,h.nd,h.al,fun j p hp=>(h.vl j p hp).mono k⟩
theorem n6 {p:Ta} {H0 H H':Hp} (hb:But p H H') (s:L2.Same H0 H) (h0:H0 p=none):L2.Same H0 H':=fun c o e=>hb c o (fun z=>by rw [z,h0] at e;cases e) (s c o e)
theorem pJ {ins outs:List (TY×Int)} {rows:List (List Th)} (F:FrK ins outs rows) {s:Nat} (hs:s<rows.length):(frS ins rows s).size<=200/\(frS ins rows s).tall<=100/\(frS ins rows s).noCall:=by
 refine hid fun ZZ kZ=>?_;obtain ⟨row,p,hr,hp,e,z1,z2,hf⟩:=F.mkd (l:=(s:Nat)) (by omega) (by omega);refine kZ ?_;have h:=i0 (mkF ins rows) (mkF ins rows (s:Nat)) ((rows[s]?).getD []);have hn:(mkF ins rows (s:Nat)).noCall:=by rw [e];exact gB _ _ (Td _) hf
 unfold frS;rw [e] at h hn;rw [e];exact ⟨by omega,by omega,iB hn _⟩
theorem pI {outs:List (TY×Int)} (go:bV outs) {S C:Int} {t v:Th} {pl:List Int} (h:t.FitS outs S C) (hi:In t pl v):v.isHole=false:=by
 have:=hi.fit h;cases v with
 | call a b=>rw [Th.isHole]
 | knot m ks =>
   rw [Th.FitS] at this;rw [Th.isHole,decide_eq_false_iff_not];rintro ⟨rfl,_⟩;exact oP (go.low _ this.1).1 rfl
theorem sC {ins outs:List (TY×Int)} {rows:List (List Th)} (F:FrK ins outs rows) (go:bV outs) {s:Nat} (hs:s<rows.length):∀ x∈(mkF ins rows (s:Nat)).pl [],x.2.isHole=false:=fun x hx=>by
 refine hid fun ZZ kZ=>?_;obtain ⟨_,p,_,_,e,_,_,f⟩:=F.mkd (l:=(s:Nat)) (by omega) (by omega);refine kZ ?_;rw [e] at hx;exact pI go f (In.of _ (Td _) (pl:=x.1) (v:=x.2) hx)
inductive eX (P:Tv) (w:TN) (K:S8) (vs:List V) (H:Hp) (Q:VK) (_E:XK):Prop
 | mk (b:Ta) (ins outs:List (TY×Int)) (head:Th) (rows:List (List Th)) (yd:vs=[.ref b]) (ye:Bk H ins outs head rows b) (yj:FrK ins outs rows) (yq:bV outs) (yC:∀ (r fl pt:Ta) (fs:List Ta) (f':List (aB×V)) (H':Hp),L2.Same H H'->H' r=some (.tup [.ref fl,.ref pt])->H' fl=some (.lst (fs.map V.ref))->T3 (fun s a=>AtK K H' ((frS ins rows s).cut (Dk f' (s:Nat)) []) a) (T7 rows.length) fs->Pt P w (Vl0 ins rows) H' pt f' (fw ins rows)->FrD ins rows (f'.map (·.1))->KeyM ins rows f'->Q (.ref r) H'):eX P w K vs H Q _E
def jU (P:Tv) (w:TN) (K:S8):Sp:=eX P w K
set_option maxHeartbeats 4000000 in
theorem fO:bi P w K mg base CX0 7 T.g_found_fronts.f T.g_found_fronts.d ["book"] (jU P w K):=by
 refine T.g_found_fronts.F.ok bz (fun vs H Q E h=>?_) (fun yb A outer s0 H vs Q E hr h=>?_)
 · obtain ⟨b,ins,outs,head,rows,rfl,_⟩:=h;rfl
 obtain ⟨b,ins,outs,head,rows,rfl,hB,F,go,k⟩:=h
 refine ⟨_,(ae (av (i:=1) bz.nd rfl (XE rfl) (pcF T.g_first_makings (jq T) hr (aa (pv 0) ac)))
  (ae (av (i:=2) bz.nd rfl (XE rfl) n9)
  (ae (fo (i:=3) (N:=[Ti "state",Ti "book",Ti "made",Ti "partings"]) (js:=[none,some 0,some 1,some 2]) (g:=(aF 0)) (tt:=bP) (te:=(g9 (gw P w K) [] E0 (bA (bC 1) (bA (bC 0) (bA (bC 2) (bA (bC 3) dU)))))) bz.nd rfl (Tz rfl) rfl (cG rfl (by decide +kernel) (by decide +kernel) rfl rfl rfl) (bx rfl T.n_range (aa (pcF T.g_states_of (ni T) hr (aa (pv 0) ac)) ac)) (fun _ _ _ _ _ _=>(aj (i:=0) xC rfl (Tz rfl))) (aS rfl) (fun _ _ _ _ _ _=>bT) (fun _ _ _ _ _ _=>(pcF T.g_first_front (lB T) hr (aa (pv 1) (aa (pv 0) (aa (pv 2) (aa (pv 3) ac)))))))
  (ae (av (i:=4) bz.nd rfl (Tz rfl) n9)
  (ae (bv T2 rfl (kY rfl T.n_enumerate (pv 3)) (bu rfl (au (aj (i:=5) bz.nd rfl (Tz rfl)) (au (aj (i:=6) bz.nd rfl (Tz rfl)) aX))) (ag (aP (pcF T.g_put_links (nT T) hr (aa (pv 0) (aa (pv 5) (aa (pv 6) (aa (pv 4) ac))))))))
  (ae (aP (pcF T.g_spread (sr T) hr (aa (pcF T.g_ins_of (eU T) hr (aa (pv 0) ac)) (aa (pv 4) (aa (pv 2) ac)))))
  (ag (aC (aJ (aa (cw (N:=[Ti "state",Ti "front",Ti "partings"]) (js:=[none,none,some 2]) (g:=(lX K 2 (cT (aF 0) (cT (aF 1) lR)))) (tt:=bP) (te:=(g9 (iK P w K) [] E0 (bA (bC 1) (bA (bC 0) (bA (bC 2) dU))))) rfl (cG rfl (by decide +kernel) (by decide +kernel) rfl rfl rfl) (kY rfl T.n_enumerate (pv 3)) (fun _ _ _ _ _ _=>(bu rfl (au (aj (i:=0) wR rfl (Tz rfl)) (au (aj (i:=1) wR rfl (Tz rfl)) aX)))) (gf (bR aW (aS rfl) (bR aW (aS rfl) f7))) (fun _ _ _ _ _ _=>bT) (fun _ _ _ _ _ _=>(pcF T.g_cut_front (nD T) hr (aa (pv 1) (aa (pv 0) (aa (pv 2) ac)))))) (aa (pv 2) ac))))))))))),?_⟩
 try dsimp only [yv,xW]
 have hle:=F.le;refine ⟨_,rfl,b,ins,outs,head,rows,rfl,hB,F.gi,by omega,fun row xV=>(F.fit.row row xV).1,fun md Ab H1 s1 Q4 FO E6=>?_⟩;intro pt H2 Ig s2 Ow;have Mg:=hB.mono (Same.kt s1);refine hid fun ZZ kZ=>?_;obtain ⟨ia,oa,ha,ra,ya,yp,yK,CT⟩:=id Mg;have Dm:rows.length=yK.length:=Tp CT.rw;have JA:=sI F;obtain ⟨JG,BG⟩:=cr Ow;refine kZ ?_;refine ⟨_,rfl,b,_,_,_,ra,_,rfl,s2 _ _ CT.bk,s2 _ _ CT.rl,_,rfl,by omega,by rw [S6];omega,fun D hD=>?_⟩;have HV:D≠pt:=fun z=>by rw [z,BG] at hD;cases hD
 have Q5:H1 D=none:=s2.free hD;refine ⟨rows.length,fun j H'=>An3 (j<=rows.length) (L2.Same H1 H') (Ex2 fun (as:List Ta) (f':List (aB×V))=>An4 (H' D=some (.lst (as.map V.ref))) (T3 (fun s a=>AtK K H' (frS ins rows s) a) (T7 j) as) (Pt P w (Vl0 ins rows) H' pt f' (fw ins rows)) (∀ (s i:Nat) (row:List Th),s<j->rows[s]?=some row->i<=row.length->∀ x∈(frF (mkF ins rows) (mkF ins rows (s:Nat)) (row.take i)).pl [],x.2.isHole=true->nk (s:Nat) x.1∈f'.map (·.1))),⟨TZ _,s2.trans (ad hD _),[],[],ab,.nil,⟨Ow.mono (ad hD _),XI,fun p hp=>(Wm hp).elim,fun j p hp=>by simp at hp⟩,fun s i row hs=>by omega⟩,?_⟩;rintro j H' ⟨hj,sj,as,f',eD,has,FW,Ih⟩;obtain ⟨Sy,DC⟩:=cr FW.dm;by_cases Bz:j=rows.length
 · left;subst Bz;refine ⟨by show _<=_;rw [S6];omega,?_⟩;intro la H5 Ag s5 Q6;have L0:LkI P w ins (fw ins rows) (Lk0 ins rows) H' H5 la [] 0:=⟨s5,Ag,Q6,XI,XI,fun g hg=>(Wm hg).elim,Td _⟩;have Dn:(T7 rows.length).length=as.length:=Tp has;rw [T8] at Dn;refine ⟨_,rfl,D,rfl,⟨_,SqL.of (s5 _ _ eD)⟩,?_⟩
   refine mo (K:=K) (a:=D) (xs:=as.map V.ref) (fun i σ H6=>Ex3 fun (c5 c6:Option V) (G:LG)=>An3 (σ=[some (.ref b),some (.ref md),some (.ref pt),some (.ref D),some (.ref la),c5,c6]) (LkI P w ins (fw ins rows) (Lk0 ins rows) H' H6 la G (i * 640000)) (∀ s<i,∀ row,rows[s]?=some row->LDone H6 G s row (frS ins rows s)))
    ⟨none,none,[],rfl,by rw [Nat.zero_mul];exact L0,fun s hs=>by omega⟩ (fun i σ H6 _ ⟨_,_,_,_,L,_⟩=>SqL.of (L.sm _ _ eD)) ?_ ?_
   · rintro i x pr σ H6 hx zk ⟨c5,c6,G,rfl,L,Bo⟩;obtain ⟨fa,rfl,yP⟩:=aU hx;have zx:=(Te.mp yP).1;have El:i<rows.length:=by omega
     obtain ⟨s',yX,zD⟩:=P2.get' has yP;rw [Ux El] at yX;cases yX;obtain ⟨row,xV⟩:∃ row,rows[i]?=some row:=⟨_,S9 El⟩;have s7:L2.Same H6 (upd H6 pr (.tup [.int ((i:Nat):Int),.ref fa])):=ad zk _;have e7:(upd H6 pr (.tup [.int ((i:Nat):Int),.ref fa])) pr=some (.tup [.int ((i:Nat):Int),.ref fa]):=ab;generalize (upd H6 pr (.tup [.int ((i:Nat):Int),.ref fa]))=H7 at s7 e7 ⊢;refine ⟨pr,_,rfl,SqT.of e7,rfl,_,_,rfl,_,_,rfl,rfl,?_⟩;dsimp only [aF];have L7:=L.same s7;obtain ⟨z1,z2,z3⟩:=pJ F El;refine ⟨_,rfl,_,rfl,_,rfl,_,rfl,b,fa,la,i,ins,outs,head,rows,row,frS ins rows i,H',G,i * 640000,fw ins rows,Lk0 ins rows,rfl,Mg.mono (Same.kt (sj.trans L7.sm)),F,xV,zD.mono (Same.kt L7.sm),z1,z2,L7,by omega,fun x hx=>uy El hx,fun i2 p kd c u x hp hk hc hu hx=>⟨i,row,i2,p,c.1,x.1,c.2.1,rfl,xV,hp,hk,In.iff.mp (ga.mp hc),rfl,rfl,u,x.2,hu,hx⟩,fun G' H8 k8 L8 Mh Ii=>?_⟩;refine ⟨_,_,G',rfl,by rw [Nat.succ_mul];exact L8,fun s hs AZ CD=>?_⟩;by_cases Q7:s=i
     · subst Q7;rw [xV] at CD;cases CD;exact Ii
     · exact ((Bo s (by omega) AZ CD).sub (LSub.kt (Same.kt s7) _)).sub Mh
   · rintro σ H6 ⟨c5,c6,G,rfl,L,Bo⟩;rw [S6,<- Dn] at Bo;have Ij:=FW.same L.sm;obtain ⟨QB,BD⟩:=cr Ij.dm;have FY:=sj.trans L.sm
     have yV:pt≠la:=fun z=>by
      rw [z] at DC;rw [L.la0] at DC;cases DC
     refine ⟨_,rfl,b,_,_,_,_,rfl,FY _ _ CT.bk,_,rfl,_,rfl,ia,la,pt,ya,ins,G,f',fw ins rows,Vl0 ins rows,Lk0 ins rows,rfl,FY _ _ CT.inE,CT.inK.mono (Same.kt FY),F.gi,L.r,Ij,JA,yV,vQ F,fun yU H7 FZ Fj zb Mi=>?_⟩;have Ox:L2.Same H1 H7:=n6 FZ FY Ig;have BC:=(Same.kt L.sm).trans (FZ.kt BD);have JL:H7 D=some (.lst (as.map V.ref)):=FZ _ _ HV (L.sm _ _ eD);refine ⟨_,rfl,D,rfl,⟨_,SqL.of JL⟩,fun Dl Fh=>?_⟩;have Q8:H1 Dl=none:=Ox.free Fh;refine ⟨rows.length,fun j H8=>An3 (j<=rows.length) (L2.Same H7 H8) (Ex1 fun (bs:List Ta)=>An2 (H8 Dl=some (.lst (bs.map V.ref))) (T3 (fun s a=>AtK K H8 ((frS ins rows s).cut (Dk yU (s:Nat)) []) a) (T7 j) bs)),⟨TZ _,ad Fh _,[],ab,.nil⟩,?_⟩;rintro j H8 ⟨Sz,s8,bs,Oy,yw⟩;by_cases Q9:j=rows.length
     · left;subst Q9;refine ⟨⟨_,SqL.of (s8 _ _ JL),by rw [S6];exact Dn.symm⟩,?_⟩;refine ⟨_,rfl,ai (by show 2<=1000000;decide),fun r Ra=>?_⟩;have s9:L2.Same H8 (upd H8 r (.tup [.ref Dl,.ref pt])):=ad Ra _
       have Oz:FrD ins rows (yU.map (·.1)):=⟨fun s i row hr hi x hx hh=>zb _ (Ih s i row (Te.mp hr).1 hr hi x hx hh),fun s row xV p hp c hc u hu x hx hk=>by
        have hs:=(Te.mp xV).1;exact Mi _ hk _ _ (LSub.kt (FZ.kt BD) G _ _ _ (Bo s hs row xV p hp c hc u hu x hx))⟩
       refine k r Dl pt bs yU _ (s1.trans (Ox.trans (s8.trans s9))) ab (s9 _ _ Oy) (P2.mp (fun _ _ h=>h.mono (Same.kt s9)) yw) (Fj.same (s8.trans s9)) Oz (uN F Oz fun p hp=>by
        refine hid fun ZZ kZ=>?_;obtain ⟨j,hj⟩:=TJ.mp hp;obtain ⟨_,_,_,t1,t2,_,_,_,_,hv⟩:=Fj.vl j p hj;refine kZ ?_;exact ⟨j,t1,t2,hv⟩)
     · right;have yn:j<rows.length:=by omega
       obtain ⟨fa,yP⟩:∃ fa,as[j]?=some fa:=⟨_,S9 (by omega)⟩;refine ⟨yn,⟨_,.ref fa,SqL.of (s8 _ _ JL),by rw [Tn,yP];rfl⟩,?_⟩;rintro y H9 ⟨p,v,hp,rfl,rfl,hv⟩;have yM:=hv _ (SqL.of (s8 _ _ JL));rw [Tn,yP] at yM;cases yM;obtain ⟨s',yX,zD⟩:=P2.get' has yP;rw [Ux yn] at yX;cases yX;have s9:L2.Same H8 (upd H8 p (.tup [.int (j:Nat),.ref fa])):=ad hp _;refine ⟨p,_,rfl,SqT.of ab,rfl,_,_,rfl,_,_,rfl,rfl,?_⟩;generalize (upd H8 p (.tup [.int (j:Nat),.ref fa]))=H9 at s9 ⊢;obtain ⟨z1,z2,z3⟩:=pJ F yn;refine ⟨_,rfl,_,rfl,_,rfl,fa,pt,j,frS ins rows j,yU,fw ins rows,Vl0 ins rows,rfl,zD.mono (BC.trans (Same.kt (s8.trans s9))),z1,z2,z3,Fj.same (s8.trans s9),fun q yO yG hq=>?_⟩;have Ik:=(s9.trans yG) _ _ Oy;have zy:(T7 j).length=bs.length:=Tp yw;rw [T8] at zy;have Ib:KT yO (upd yO Dl (.lst (bs.map V.ref++[.ref q]))):=aT Ik;refine ⟨_,Ik,aH (by rw [S6];omega),yn,aw (s8.trans (s9.trans yG)) Fh,bs++[q],by rw [ab,Tu];rfl,?_⟩;rw [Yi];exact P2.append (P2.mp (fun _ _ h=>h.mono ((Same.kt (s9.trans yG)).trans Ib)) yw) (.cons (hq.mono Ib) .nil)
 · right;have yn:j<rows.length:=by omega
   obtain ⟨row,xV⟩:∃ row,rows[j]?=some row:=⟨_,S9 yn⟩;refine ⟨yn,by show _<_;rw [S6];omega,?_⟩;rintro y H9 ⟨rfl,rfl⟩;rw [U7];refine ⟨_,rfl,_,rfl,_,rfl,_,rfl,b,md,pt,j,ins,outs,head,rows,row,Ab,f',fw ins rows,Vl0 ins rows,rfl,Mg.mono (Same.kt sj),F,xV,sj _ _ FO,E6.mono (Same.kt sj),FW,JA,fun x hx=>om yn hx,sC F go yn,uG F go xV,fun r yU H4 F0 zD Mj zf Il=>?_⟩;have Fc:=F0.kt DC;have G9:=F0 _ _ HV eD;have zI:(T7 j).length=as.length:=Tp has;rw [T8] at zI;have k5:KT H4 (upd H4 D (.lst (as.map V.ref++[.ref r]))):=aT G9;rw [<- tT xV] at zD;refine ⟨_,G9,aH (by rw [S6];omega),yn,aw (n6 F0 sj Ig) Q5,as++[r],yU,by rw [ab,Tu];rfl,?_,xg Mj k5 (fun o e=>by rw [ak HV.symm];exact e),fun s i AZ hs Bx hi x hx hh=>?_⟩
   · rw [Yi];exact P2.append (P2.mp (fun _ _ h=>h.mono (Fc.trans k5)) has) (.cons (zD.mono k5) .nil)
   · by_cases Rb:s=j
     · subst Rb;rw [xV] at Bx;cases Bx;exact Il i hi x hx hh
     · exact zf _ (Ih s i AZ (by omega) Bx hi x hx hh)
inductive gb (vs:List V) (H:Hp) (Q:VK) (_E:XK):Prop
 | mk (c k:Int) (yd:vs=[.int c,.int k]) (ye:∀ z:Int,Q (.int z) H):gb  vs H Q _E
def lW:Sp:=gb
theorem eI:bi P w K mg base CX0 1 T.g__law_mixed.f T.g__law_mixed.d ["cell","k"] lW:=by
 refine T.g__law_mixed.F.ok eM (fun vs H Q E h=>?_) (fun yb A outer s H vs Q E hr h=>?_)
 · obtain ⟨c,k,rfl,_⟩:=h;rfl
 obtain ⟨c,k,rfl,q⟩:=h
 refine ⟨_,(ae (av (i:=2) eM.nd rfl (Tz rfl) (ax bH (ax bG (ax bG (ax cW (ax bH (pv 0) (ax qc af af)) af) (ax cW af (pv 1))) af) af))
  (ae (av (i:=2) eM.nd rfl (Tz rfl) (ax bH (ax cW (pv 2) (pv 2)) af))
  (ag (aC (ax bG (ax cW (pv 2) af) (ax cW af (pv 1))))))),?_⟩
 try dsimp only [yv,xW]
 refine ⟨_,rfl,_,_,rfl,rfl,⟨by decide,by decide,by decide⟩,_,_,rfl,rfl,(by show (0:Int)<10 ^ 40;decide),_,_,rfl,rfl,.inr ⟨by decide,by decide⟩,_,rfl,_,_,rfl,rfl,.inl ⟨by decide,by decide⟩,_,_,rfl,rfl,_,_,rfl,rfl,_,_,rfl,rfl,(by show (0:Int)<2305843009213693951;decide),?_⟩
 try dsimp only [aF]
 generalize c%(10:Int) ^ (40:Int).toNat * 99999999977+7919 * k+1234567890123=z;have z0:=UO z (show (2305843009213693951:Int)≠0 by decide);have z1:=UI z (show (0:Int)<2305843009213693951 by decide);generalize z%2305843009213693951=y at z0 z1;refine ⟨_,rfl,_,rfl,_,_,rfl,rfl,.inl ⟨by omega,by omega⟩,_,_,rfl,rfl,(by show (0:Int)<2305843009213693951;decide),?_⟩;exact ⟨_,rfl,_,_,rfl,rfl,.inr ⟨by decide,by decide⟩,_,rfl,_,_,rfl,rfl,.inl ⟨by decide,by decide⟩,_,_,rfl,rfl,q _⟩
theorem rM (ns:List Int) (lo hi:Option Int):∃ cs:List Int,dJ (ns.map V.int) lo hi=cs.map V.int/\cs.length<=ns.length:=by
 unfold dJ;rw [<- YE,<- List.map_take];exact ⟨_,rfl,by rw [Uc,UL];omega⟩
inductive fH (vs:List V) (H:Hp) (Q:VK) (_E:XK):Prop
 | mk (a:Ta) (cs:List Int) (many:Int) (yd:vs=[.ref a,.int many]) (ye:H a=some (.lst (cs.map V.int))) (yj:cs.length<=1000) (yq:1<=many) (yC:many<=1000) (zj:∀ (r:Ta) (ds:List Int) (H':Hp),L2.Same H H'->H' r=some (.lst (ds.map V.int))->ds.length=many.toNat->Q (.ref r) H'):fH  vs H Q _E
def kx:Sp:=fH
set_option maxHeartbeats 1000000 in
theorem k9:bi P w K mg base CX0 1 T.g__law_folded.f T.g__law_folded.d ["cells","many"] kx:=by
 refine T.g__law_folded.F.ok dI (fun vs H Q E h=>?_) (fun yb A outer s H vs Q E hr h=>?_)
 · obtain ⟨a,cs,many,rfl,_⟩:=h;rfl
 obtain ⟨a,cs,many,rfl,ea,AA,m1,m2,q⟩:=h
 refine ⟨_,(ae (fo (i:=2) (N:=[Ti "k",Ti "cells"]) (js:=[none,some 0]) (g:=(aF 0)) (tt:=bP) (te:=(tIf (qL (tOp (rI0 fun i j=>.bl (decide (i<j))) (bC 0) (tCB (tP K) (bA (bC 1) dU)))) (tOp (vX K) (bC 1) (bC 0)) (tC (.int 0)))) dI.nd rfl (Tz rfl) rfl (cG rfl (by decide +kernel) (by decide +kernel) rfl rfl rfl) (bx rfl T.n_range (aa (pv 1) ac)) (fun _ _ _ _ _ _=>(aj (i:=0) xH rfl (Tz rfl))) (aS rfl) (fun _ _ _ _ _ _=>bT) (fun _ _ _ _ _ _=>(uc (aK mG (pv 0) (ay ao rfl T.n_len TU (aa (pv 1) ac)) (aO _)) (az aL (pv 1) (pv 0) (fun _ _=>rfl)) af)))
  (ae (bv T2 rfl (ji rfl T.n_range (aa (pv 1) (aa (ay ao rfl T.n_len TU (aa (pv 0) ac)) ac))) (aj (i:=3) dI.nd rfl (Tz rfl)) (ag (cK (ax bG (ax bH (ax cW (az aL (pv 2) (ax bH (pv 3) (pv 1)) (fun _ _=>rfl)) af) (ax qc af af)) (ax bH (az aL (pv 0) (pv 3) (fun _ _=>rfl)) (ax qc af af))) (jh (pv 2) (ax bH (pv 3) (pv 1)) set_list))))
  (ag (aC (pv 2))))),?_⟩
 try dsimp only [yv,xW]
 refine ⟨_,rfl,many,rfl,by omega,by omega,nP (xs:=(T7 many.toNat).map fun (i:Nat)=>V.int (0+(i:Int))) ((T7 many.toNat).map fun (i:Nat)=>cs.getD i 0) V.int (by rw [S6,S6]) (by rw [S6,T8];omega) (fun i Hx sx hi=>by rw [S6,T8] at hi;exact hi) (fun Hx sx=>by rw [S6,T8];exact Td _) (fun i Hx x Hy sx hi hy=>⟨hy.1,?_⟩) (fun i x z Hx R W' hx hz sx hR=>?_) (fun kl H2 y4 s2 e2=>?_)⟩
 · rw [S6,T8] at hi;rw [hy.2,Tn,Ux hi];rfl
 · have hi:i<many.toNat:=by
    have:=(Te.mp hz).1;rw [S6,T8] at this;exact this
   rw [Tn,Ux hi] at hx hz;cases hx;cases hz;refine ⟨_,rfl,_,rfl,a,_,rfl,.inl (SqL.of (sx _ _ ea)),_,_,rfl,rfl,_,rfl,?_⟩;refine cQ (fun c=>?_) (fun c=>?_)
   · have c':(0+(i:Int))<(((cs.map V.int).length:Nat):Int):=of_decide_eq_true c;rw [S6] at c';refine ⟨_,rfl,_,rfl,a,_,_,.int (cs.getD i 0),rfl,rfl,SqL.of (sx _ _ ea),at_nonneg (by omega) ?_,hR _ (.refl _)⟩;rw [show (0+(i:Int)).toNat=i by omega,Tn,List.getD,S9 (by omega)];rfl
   · have c':¬ (0+(i:Int))<(((cs.map V.int).length:Nat):Int):=fun z=>c (decide_eq_true z);rw [S6] at c';have:cs.getD i 0=0:=by rw [List.getD,Vk (by omega)];rfl
     dsimp only at hR;rw [this] at hR;exact hR _ (.refl _)
 have Rc:H kl=none:=y4;refine ⟨_,rfl,_,rfl,a,_,rfl,.inl (SqL.of (s2 _ _ ea)),many,_,rfl,⟨by omega,by omega,by omega,by rw [S6];omega⟩,?_⟩
 refine bF (n:=((((cs.map V.int).length:Nat):Int) - many).toNat) (fun i σ H3=>Ex2 fun (kv:Option V) (ds:List Int)=>An4 (σ=[some (.ref a),some (.int many),some (.ref kl),kv]) (L2.Same H H3) (H3 kl=some (.lst (ds.map V.int))) (ds.length=many.toNat))
  ⟨none,_,rfl,s2,e2,by rw [S6,T8]⟩ ?_ ?_
 · rintro i σ H3 hi ⟨kv,ds,rfl,s3,e3,BS⟩
   have yA:(i:Int)<((cs.length:Nat):Int) - many:=by
    have h1:i<((((cs.map V.int).length:Nat):Int) - many).toNat:=hi;rw [S6] at h1;omega
   have y0:=UO (many+(i:Int)) (show many≠0 by omega);have y1:=UI (many+(i:Int)) (show 0<many by omega);refine hid fun ZZ kZ=>?_;obtain ⟨ix,CY⟩:∃ ix:Nat,(many+(i:Int))%many=(ix:Int):=⟨_,(Wj y0).symm⟩;obtain ⟨c,hc⟩:∃ c,ds[ix]?=some c:=⟨_,S9 (by omega)⟩;obtain ⟨x,hx⟩:∃ x,cs[(many+(i:Int)).toNat]?=some x:=⟨_,S9 (by omega)⟩;refine kZ ?_;refine ⟨_,rfl,_,rfl,_,rfl,_,_,rfl,rfl,(by show 0<many;omega),kl,_,_,.int c,rfl,rfl,SqL.of e3,at_nonneg y0 (by rw [CY,Uw,Tn,hc];rfl),_,_,rfl,rfl,.inr ⟨by decide,by decide⟩,?_⟩;refine ⟨_,_,rfl,rfl,⟨by decide,by decide,by decide⟩,_,_,rfl,rfl,(by show (0:Int)<10 ^ 40;decide),?_⟩;refine ⟨_,rfl,_,rfl,a,_,_,.int x,rfl,rfl,SqL.of (s3 _ _ ea),at_nonneg (by omega) (by rw [Tn,hx];rfl),_,_,rfl,rfl,⟨by decide,by decide,by decide⟩,_,_,rfl,rfl,(by show (0:Int)<10 ^ 40;decide),_,_,rfl,rfl,?_⟩;refine ⟨_,rfl,_,rfl,_,rfl,_,_,rfl,rfl,(by show 0<many;omega),kl,_,_,ix,rfl,rfl,e3,?_,?_⟩
   · rw [CY];unfold ixN;rw [if_pos (by omega),if_pos (by rw [S6];omega)];simp
   · refine ⟨_,ds.set ix (c * 31%10 ^ 40+x%10 ^ 40),rfl,aw s3 Rc,?_,by rw [Yj];exact BS⟩;rw [ab,List.map_set];rfl
 · rintro σ H3 ⟨kv,ds,rfl,s3,e3,BS⟩;exact ⟨_,rfl,q kl ds H3 s3 e3 BS⟩
def l3:Sp:=fun vs H Q _=>∃ c:Int,vs=[.int c]/\∀ (r:Ta) (ws:List TY) (H':Hp),L2.Same H H'->H' r=some (.lst (ws.map V.str))->qC ws->Q (.ref r) H'
set_option maxHeartbeats 1000000 in
theorem gX:bi P w K mg base CX0 1 T.g__law_names.f T.g__law_names.d ["cell"] l3:=by
 refine T.g__law_names.F.ok bc (fun vs H Q E h=>?_) (fun yb A outer s H vs Q E hr h=>?_)
 · obtain ⟨c,rfl,_⟩:=h;rfl
 obtain ⟨c,rfl,q⟩:=h
 refine ⟨_,(ae (av (i:=1) bc.nd rfl (Tz rfl) gg)
  (ae (av (i:=2) bc.nd rfl (Tz rfl) (ax bG af (ax bH (ax bZ (pv 0) af) af)))
  (ae (av (i:=3) bc.nd rfl (Tz rfl) (ax bZ (pv 0) af))
  (ae (av (i:=4) bc.nd rfl (Tz rfl) gg)
  (ae (bv T2 rfl (bx rfl T.n_range (aa af ac)) (aj (i:=5) bc.nd rfl (Tz rfl)) (ag (av (i:=4) bc.nd rfl (Tz rfl) (ax iE (pv 4) (az tF (pv 1) (ax bH (ax bZ (pv 3) (ax bG (pv 5) af)) af) (fun _ _=>rfl))))))
  (ae (av (i:=6) bc.nd rfl (Tz rfl) (bw ac))
  (ae (bv T2 rfl (bx rfl T.n_range (aa af ac)) (aj (i:=5) bc.nd rfl (Tz rfl)) (ae (av (i:=7) bc.nd rfl (Tz rfl) (az tF (pv 1) (ax bH (ax bG (pv 3) (ax cW (ax cW af (pv 2)) (pv 5))) af) (fun _ _=>rfl)))
  (ag (bE (aK cM (ax bH (pv 0) af) af (aO _)) (ag (aP (bJ Tr TM TL aN (pv 6) (aa (pv 7) ac)))) (ag (bE (aK cM (ax bH (pv 0) af) af (aO _)) (ag (aP (bJ Tr TM TL aN (pv 6) (aa (ax iE (pv 7) (bq qd (pv 4) (bB af) (bB af))) ac)))) (ag (bE (aK cM (ax bH (pv 0) af) af (aO _)) (ag (aP (bJ Tr TM TL aN (pv 6) (aa (ax iE (bq qd (pv 4) bS (bB af)) (pv 7)) ac)))) (ag (aP (bJ Tr TM TL aN (pv 6) (aa (bq qd (pv 4) bS (bB (ax bG (ax cW af (pv 5)) af))) ac))))))))))))
  (ag (aC (pv 6)))))))))),?_⟩
 try dsimp only [yv,xW]
 have z0:=UO (c / 4) (show (4:Int)≠0 by decide);have z1:=UI (c / 4) (show (0:Int)<4 by decide);refine ⟨_,rfl,_,_,rfl,rfl,⟨by decide,by decide⟩,_,_,rfl,rfl,(by show (0:Int)<4;decide),_,_,rfl,rfl,?_⟩;refine ⟨_,rfl,_,_,rfl,rfl,⟨by decide,by decide⟩,?_⟩
 try dsimp only [aF]
 have FF:1<=1+c / 4%4:=by omega
 have OA:1+c / 4%4<=4:=by omega
 generalize 1+c / 4%4=st at FF OA ⊢;generalize c / 16=a;refine ⟨8,rfl,by decide,by decide,?_⟩
 refine bF (n:=8) (fun i σ H2=>Ex2 fun (word:TY) (kv:Option V)=>An4 (σ=[some (.int c),some (.str dl),some (.int st),some (.int a),some (.str word),kv,none,none]) (H2=H) (Low word) (word.length=i))
  ⟨Ti "",none,rfl,rfl,(fun x hx=>by have:x∈([]:List Nat):=hx;cases this),rfl⟩ ?_ ?_
 · rintro i σ H2 hi ⟨word,kv,rfl,rfl,CF,hlen⟩;have CU:i<8:=hi;have y0:=UO (a / (0+(i:Int)+1)) (show (26:Int)≠0 by decide);have y1:=UI (a / (0+(i:Int)+1)) (show (0:Int)<26 by decide);refine ⟨_,rfl,_,rfl,_,rfl,_,rfl,_,_,rfl,rfl,_,_,rfl,rfl,⟨by show (0:Int)<0+(i:Int)+1;omega,by show 0+(i:Int)+1<1073741824;omega⟩,_,_,rfl,rfl,(by show (0:Int)<26;decide),dl,_,_,rfl,rfl,ai (by rw [jQ];decide),mx y0 y1,?_⟩;refine ⟨_,_,rfl,rfl,ai (by show word.length+1<=1000000;omega),_,_,rfl,rfl,mT CF (j3 (by omega) (by omega)),?_⟩;rw [strLen_append];show word.length+1=i+1;omega
 rintro σ H2 ⟨word,kv,rfl,rfl,CF,hlen⟩;have CG:word.length=8:=hlen;refine ⟨ai (by show 0<=1000000;decide),fun nl Dx=>?_⟩;refine ⟨4,rfl,by decide,by decide,?_⟩
 refine bF (n:=4) (fun i σ H3=>Ex3 fun (kv tv:Option V) (ws:List TY)=>An5 (σ=[some (.int c),some (.str dl),some (.int st),some (.int a),some (.str word),kv,some (.ref nl),tv]) (L2.Same H2 H3) (H3 nl=some (.lst (ws.map V.str))) (ws.length=i) (∀ (j:Nat) (x:TY),ws[j]?=some x->x=je (c%4) a st word j))
  ⟨kv,none,[],rfl,ad Dx _,ab,rfl,fun j x hj=>by simp at hj⟩ ?_ ?_
 · rintro i σ H3 hi ⟨kv,tv,ws,rfl,s3,e3,AM,yL⟩;have OB:i<4:=hi;have y0:=UO (a+5 * st * (0+(i:Int))) (show (26:Int)≠0 by decide);have y1:=UI (a+5 * st * (0+(i:Int))) (show (0:Int)<26 by decide);refine ⟨_,rfl,_,rfl,_,rfl,_,_,rfl,rfl,.inl ⟨by decide,by decide⟩,_,rfl,_,_,rfl,rfl,.inl ⟨by omega,by omega⟩,_,_,rfl,rfl,_,_,rfl,rfl,(by show (0:Int)<26;decide),dl,_,_,rfl,rfl,ai (by rw [jQ];decide),mx y0 y1,?_⟩;have F1:97+((a+5 * st * (0+(i:Int)))%26).toNat=gO a st i:=by unfold gO;rw [U7]
   try dsimp only
   rw [F1]
   have fin:∀ x,x=je (c%4) a st word i->∀ xS,xS=[some (.int c),some (.str dl),some (.int st),some (.int a),some (.str word),some (.int (0+(i:Int))),some (.ref nl),some (.str ⟨#[gO a st i]⟩)]->Ex3 fun (kv tv:Option V) (Bp:List TY)=>An5 (xS=[some (.int c),some (.str dl),some (.int st),some (.int a),some (.str word),kv,some (.ref nl),tv]) (L2.Same H2 (upd H3 nl (.lst (ws.map V.str++[.str x])))) ((upd H3 nl (.lst (ws.map V.str++[.str x]))) nl=some (.lst (Bp.map V.str))) (Bp.length=i+1) (∀ (j:Nat) (x:TY),Bp[j]?=some x->x=je (c%4) a st word j):=fun x hx xS Mk=>by
    refine ⟨_,_,ws++[x],Mk,aw s3 Dx,by rw [ab,Tu];rfl,by rw [TC,AM];rfl,fun j y hj=>?_⟩;by_cases HS:j<ws.length
    · rw [VA HS] at hj;exact yL j y hj
    · have AU:=(Te.mp hj).1;rw [TC] at AU
      have:j=ws.length:=by
       have:([x]:List TY).length=1:=rfl;omega
      subst this;rw [V0 (Td _),YS] at hj;have:x=y:=by simpa using hj
      rw [<- this,hx,AM]
   have Rf:ws.length<=4:=by omega
   refine ⟨_,rfl,_,_,rfl,rfl,(by show (0:Int)<4;decide),rfl,_,rfl,?_⟩;refine cQ (fun c0=>?_) (fun c0=>?_)
   · have h0:c%4=0:=V.int.inj (of_decide_eq_true c0);exact ⟨_,rfl,.inl ⟨rfl,_,SqL.of e3⟩,_,rfl,nl,_,_,rfl,rfl,e3,aH (by rw [S6];omega),fin _ (by unfold je;rw [if_pos h0]) _ rfl⟩
   have n0:¬ c%4=0:=fun z=>c0 (decide_eq_true (congrArg V.int z));refine ⟨_,rfl,_,_,rfl,rfl,(by show (0:Int)<4;decide),rfl,_,rfl,?_⟩;refine cQ (fun c1=>?_) (fun c1=>?_)
   · have h1:c%4=1:=V.int.inj (of_decide_eq_true c1);refine ⟨_,rfl,.inl ⟨rfl,_,SqL.of e3⟩,_,rfl,_,rfl,_,rfl,_,rfl,_,rfl,ai (by omega),_,_,rfl,rfl,ai (by rw [pk CG];show 1+3<=1000000;decide),nl,_,_,rfl,rfl,e3,aH (by rw [S6];omega),fin _ (by unfold je;rw [if_neg n0,if_pos h1]) _ rfl⟩
   have n1:¬ c%4=1:=fun z=>c1 (decide_eq_true (congrArg V.int z));refine ⟨_,rfl,_,_,rfl,rfl,(by show (0:Int)<4;decide),rfl,_,rfl,?_⟩;refine cQ (fun c2=>?_) (fun c2=>?_)
   · have h2:c%4=2:=V.int.inj (of_decide_eq_true c2);have SD:=(eP (z:=word) (n:=5) (by omega)).2;refine ⟨_,rfl,.inl ⟨rfl,_,SqL.of e3⟩,_,rfl,_,rfl,_,rfl,ai (by omega),_,rfl,_,_,rfl,rfl,ai (by show (dW word none (some ((5:Nat):Int))).length+1<=1000000;omega),nl,_,_,rfl,rfl,e3,aH (by rw [S6];omega),fin _ (by unfold je;rw [if_neg n0,if_neg n1,if_pos h2]) _ rfl⟩
   have n2:¬ c%4=2:=fun z=>c2 (decide_eq_true (congrArg V.int z));refine ⟨_,rfl,.inl ⟨rfl,_,SqL.of e3⟩,_,rfl,_,rfl,_,_,rfl,rfl,.inl ⟨by decide,by decide⟩,_,_,rfl,rfl,_,rfl,_,rfl,ai (by omega),nl,_,_,rfl,rfl,e3,aH (by rw [S6];omega),fin _ (by unfold je;rw [if_neg n0,if_neg n1,if_neg n2,U7]) _ rfl⟩
 · rintro σ H3 ⟨kv,tv,ws,rfl,s3,e3,AM,yL⟩;refine ⟨_,rfl,q nl ws H3 s3 e3 ⟨AM,fun x hx=>?_,fun i j x hi hj=>?_⟩⟩
   · obtain ⟨j,hj⟩:=TJ.mp hx;have AU:=(Te.mp hj).1;rw [yL j x hj];exact t4 CF CG (by omega)
   · have zx:=(Te.mp hi).1;have AU:=(Te.mp hj).1;have h1:=yL i x hi;have h2:=yL j x hj;exact sQ FF OA CG (by omega) (by omega) (h1.symm.trans h2)
inductive fW (vs:List V) (H:Hp) (Q:VK) (_E:XK):Prop
 | mk (c:Int) (na:Ta) (ws:List TY) (yd:vs=[.int c,.ref na]) (ye:H na=some (.lst (ws.map V.str))) (yj:qC ws) (yq:∀ (r:Ta) (as:List Ta) (ks:List (TY×Int)) (H':Hp),L2.Same H H'->H' r=some (.tup (as.map V.ref))->KsAt H' ks as->bV ks->ks.length<=4->Q (.ref r) H'):fW  vs H Q _E
def lT:Sp:=fW
set_option maxHeartbeats 1000000 in
theorem g7:bi P w K mg base CX0 1 T.g__law_kinds.f T.g__law_kinds.d ["cell","names"] lT:=by
 refine T.g__law_kinds.F.ok bp (fun vs H Q E h=>?_) (fun yb A outer s H vs Q E hr h=>?_)
 · obtain ⟨c,na,ws,rfl,_⟩:=h;rfl
 obtain ⟨c,na,ws,rfl,Ml,yL,q⟩:=h
 refine ⟨_,(ae (av (i:=2) bp.nd rfl (Tz rfl) (ax bG af (ax bH (pv 0) af)))
  (ae (av (i:=3) bp.nd rfl (Tz rfl) (ax bH (ax bZ (pv 0) af) (pv 2)))
  (ae (av (i:=4) bp.nd rfl (Tz rfl) (ax bZ (pv 0) af))
  (ae (av (i:=5) bp.nd rfl (Tz rfl) (bw ac))
  (ae (bv T2 rfl (bx rfl T.n_range (aa (pv 2) ac)) (aj (i:=6) bp.nd rfl (Tz rfl)) (ae (av (i:=7) bp.nd rfl (Tz rfl) (ax bH (pv 4) af))
  (ae (av (i:=4) bp.nd rfl (Tz rfl) (ax bZ (pv 4) af))
  (ae (bE (aK cM (pv 6) (pv 3) (aO _)) (ag (av (i:=7) bp.nd rfl (Tz rfl) af)) bj)
  (ag (aP (bJ Tr TM TL aN (pv 5) (aa (aJ (aa (az aL (pv 1) (pv 6) (fun _ _=>rfl)) (aa (pv 7) ac))) ac))))))))
  (ag (aC (cV cz rfl T.n_tuple U9 (aa (pv 5) ac))))))))),?_⟩
 try dsimp only [yv,xW]
 have z0:=UO c (show (3:Int)≠0 by decide);have z1:=UI c (show (0:Int)<3 by decide);refine ⟨_,rfl,_,_,rfl,rfl,(by show (0:Int)<3;decide),_,_,rfl,rfl,?_⟩
 try dsimp only [aF]
 have m2:2<=2+c%3:=by omega
 have m4:2+c%3<=4:=by omega
 generalize 2+c%3=many at m2 m4 ⊢;have y0:=UO (c / 3) (show many≠0 by omega);have y1:=UI (c / 3) (show 0<many by omega);refine ⟨_,rfl,_,_,rfl,rfl,⟨by decide,by decide⟩,_,rfl,_,_,rfl,rfl,(by show 0<many;omega),?_⟩
 try dsimp only [aF]
 generalize c / 3%many=leaf at y0 y1 ⊢;refine ⟨_,rfl,_,_,rfl,rfl,⟨by decide,by decide⟩,?_⟩;refine ⟨ai (by show 0<=1000000;decide),fun kl y4=>?_⟩;refine ⟨_,rfl,many,rfl,by omega,by omega,?_⟩;have AM:=yL.len
 refine bF (n:=many.toNat) (fun i σ H3=>Ex5 fun (rest:Int) (kv cv:Option V) (as:List Ta) (ks:List (TY×Int))=>An6 (σ=[some (.int c),some (.ref na),some (.int many),some (.int leaf),some (.int rest),some (.ref kl),kv,cv]) (L2.Same H H3) (H3 kl=some (.lst (as.map V.ref))) (KsAt H3 ks as) (ks.length=i) (∀ (j:Nat) (k:TY×Int),ks[j]?=some k->ws[j]?=some k.1/\0<=k.2/\k.2<=3/\((j:Int)=leaf->k.2=0)))
  ⟨c / 12,none,none,[],[],rfl,ad y4 _,ab,.nil,rfl,fun j k hj=>by simp at hj⟩ ?_ ?_
 · rintro i σ H3 hi ⟨rest,kv,cv,as,ks,rfl,s3,e3,zK,Mm,hinv⟩;have OB:i<many.toNat:=hi;have x0:=UO rest (show (4:Int)≠0 by decide);have x1:=UI rest (show (0:Int)<4 by decide);refine ⟨_,rfl,_,_,rfl,rfl,(by show (0:Int)<4;decide),?_⟩
   try dsimp only [aF]
   refine ⟨_,rfl,_,_,rfl,rfl,⟨by decide,by decide⟩,?_⟩
   try dsimp only [aF]
   refine jf (fun xS H'=>An2 (H3=H') (Ex1 fun (ct:Int)=>An4 (0<=ct) (ct<=3) (((i:Int)=leaf->ct=0)) (xS=[some (.int c),some (.ref na),some (.int many),some (.int leaf),some (.int (rest / 4)),some (.ref kl),some (.int (0+(i:Int))),some (.int ct)]))) (fun kk hk=>?_) ?_
   · refine ⟨_,rfl,_,rfl,rfl,_,rfl,?_⟩;refine cQ (fun c1=>?_) (fun c1=>?_)
     · exact hk _ _ ⟨rfl,0,by decide,by decide,fun _=>rfl,rfl⟩
     · exact hk _ _ ⟨rfl,_,x0,by omega,fun z=>absurd (decide_eq_true (by rw [<- z];congr 1;omega)) c1,rfl⟩
   rintro xS H' ⟨rfl,ct,Rg,Rh,Ri,rfl⟩;obtain ⟨x,hx⟩:∃ x,ws[i]?=some x:=⟨_,S9 (by omega)⟩;have zI:ks.length=as.length:=Tp zK;refine ⟨_,rfl,.inl ⟨rfl,_,SqL.of e3⟩,_,rfl,_,rfl,na,_,_,.str x,rfl,rfl,SqL.of (s3 _ _ Ml),at_nonneg (by omega) (by rw [show (0+(i:Int)).toNat=i by omega,Tn,hx];rfl),_,rfl,ai (by show 2<=1000000;decide),fun p hp=>?_⟩;have s4:L2.Same H3 (upd H3 p (.tup [.str x,.int ct])):=ad hp _;have e4:(upd H3 p (.tup [.str x,.int ct])) p=some (.tup [.str x,.int ct]):=ab;generalize (upd H3 p (.tup [.str x,.int ct]))=H4 at s4 e4 ⊢;have OC:=s4 _ _ e3;refine ⟨kl,_,_,rfl,rfl,OC,aH (by rw [S6];omega),?_⟩;have kt:KT H4 (upd H4 kl (.lst (as.map V.ref++[.ref p]))):=aT OC;refine ⟨_,_,_,as++[p],ks++[(x,ct)],rfl,aw (s3.trans s4) y4,by rw [ab,Tu];rfl,?_,by rw [TC,Mm];rfl,fun j k hj=>?_⟩
   · exact P2.append (P2.mp (fun _ _ e=>kt _ _ (s4 _ _ e)) zK) (.cons (kt _ _ e4) .nil)
   · by_cases HS:j<ks.length
     · rw [VA HS] at hj;exact hinv j k hj
     · have AU:=(Te.mp hj).1;rw [TC] at AU
       have:j=ks.length:=by
        have:([(x,ct)]:List (TY×Int)).length=1:=rfl;omega
       subst this;rw [V0 (Td _),YS] at hj;have:(x,ct)=k:=by simpa using hj
       rw [<- this,Mm];exact ⟨hx,Rg,Rh,Ri⟩
 · rintro σ H3 ⟨rest,kv,cv,as,ks,rfl,s3,e3,zK,Mm,hinv⟩;refine ⟨_,rfl,kl,_,rfl,.inl ⟨SqL.of e3,fun p hp=>?_⟩⟩;have s4:=ad hp (.tup (as.map V.ref));refine q p as ks _ (s3.trans s4) ab (zK.mono (Same.kt s4)) ⟨by omega,by omega,fun k hk=>?_,fun k hk=>?_,?_,fun i j k l hk hl e=>?_⟩ (by omega)
   · obtain ⟨j,hj⟩:=TJ.mp hk;exact yL.low _ (Tb (hinv j k hj).1)
   · obtain ⟨j,hj⟩:=TJ.mp hk;exact ⟨(hinv j k hj).2.1,(hinv j k hj).2.2.1⟩
   · have hl:leaf.toNat<ks.length:=by omega
     exact ⟨ks[leaf.toNat],Xo hl,(hinv leaf.toNat _ (S9 hl)).2.2.2 (by omega)⟩
   · refine yL.inj i j k.1 (hinv i k hk).1 ?_;rw [e];exact (hinv j l hl).1
inductive gx (n:Nat) (vs:List V) (H:Hp) (Q:VK) (_E:XK):Prop
 | mk (l oa:Ta) (x b:Int) (yp:List Ta) (outs:List (TY×Int)) (S C:Int) (yd:vs=[.ref l,.ref oa,.int S,.int C]) (ye:H l=some (.lst [.int x,.int b])) (yj:H oa=some (.tup (yp.map V.ref))) (yq:KsAt H outs yp) (yC:bV outs) (zj:S<1000000) (Bi:C<1000000) (Bt:0<=b) (Dj:b<(n:Int)) (FN:∀ (t:Th) (r:Ta) (x' b':Int) (H':Hp),SameB l H H'->H' l=some (.lst [.int x',.int b'])->At H' t r->t.FitS outs S C->0<=b'->(t.size:Int)+b'=b+1->Q (.ref r) H'):gx n vs H Q _E
def lM (n:Nat):Sp:=gx n
set_option maxHeartbeats 2000000 in
theorem cB:∀ n:Nat,bi P w K mg base CX0 (n+1) T.g__law_thing.f T.g__law_thing.d ["left","outs","states","kids"] (lM n)
 | 0=>⟨fun _ _ _ _ h=>by obtain ⟨_,_,_,_,_,_,_,_,_,_,_,_,_,_,_,h1,h2,_⟩:=h;omega,fun _ _ _ _ _ _ _ _ _ _ _ _ _ h=>by obtain ⟨_,_,_,_,_,_,_,_,_,_,_,_,_,_,_,h1,h2,_⟩:=h;omega⟩
 | n+1=>by
   have ih:=cB n;refine T.g__law_thing.F.ok bo (fun vs H Q E h=>?_) (fun yb A outer s H vs Q E hr h=>?_)
   · obtain ⟨l,oa,x,b,yp,outs,S,C,rfl,_⟩:=h;rfl
   obtain ⟨l,oa,x,b,yp,outs,S,C,rfl,el,eo,zK,g,Rj,Rk,b0,b1,q⟩:=h
   refine ⟨_,(ae (av (i:=4) bo.nd rfl (Tz rfl) (ax bH (az aL (pv 0) af (fun _ _=>rfl)) af))
    (ae (cK (ax bZ (az aL (pv 0) af (fun _ _=>rfl)) af) (jh (pv 0) af set_list))
    (ae (bE (PW.pt (t9 (aK mN (pv 2) af (aO _)) (t9 (aK mN (pv 3) af (aO _)) (uZ (aK mG (pv 4) af (aO _)))))) (ae (av (i:=5) bo.nd rfl (Tz rfl) (ax bH (az aL (pv 0) af (fun _ _=>rfl)) (pv 2)))
    (ae (cK (ax bZ (az aL (pv 0) af (fun _ _=>rfl)) (pv 2)) (jh (pv 0) af set_list))
    (ae (av (i:=6) bo.nd rfl (Tz rfl) (ax bH (az aL (pv 0) af (fun _ _=>rfl)) (pv 3)))
    (ae (cK (ax bZ (az aL (pv 0) af (fun _ _=>rfl)) (pv 3)) (jh (pv 0) af set_list))
    (ag (aC (aJ (aa gg (aa (pv 5) (aa (pv 6) ac)))))))))) bj)
    (ae (fo (i:=7) (N:=[Ti "kind",Ti "left"]) (js:=[none,some 0]) (g:=(aF 0)) (tt:=(qL (tOp (rI0 fun i j=>.bl (decide (i<=j))) (tOp (uT K) (bC 0) (tC (.int 1))) (tOp (vX K) (bC 1) (tC (.int 1)))))) (te:=(bC 0)) bo.nd rfl (Tz rfl) rfl (cG rfl (by decide +kernel) (by decide +kernel) rfl rfl rfl) (jz (pv 1)) (fun _ _ _ _ _ _=>(aj (i:=0) xp rfl (Tz rfl))) (aS rfl) (fun _ _ _ _ _ _=>j5 (aK wB (az aD (pv 0) af (fun _ _=>rfl)) (az aL (pv 1) af (fun _ _=>rfl)) (aO _))) (fun _ _ _ _ _ _=>(pv 0)))
    (ae (av (i:=8) bo.nd rfl (Tz rfl) (az aL (pv 7) (ax bH (az aL (pv 0) af (fun _ _=>rfl)) (ay ao rfl T.n_len TU (aa (pv 7) ac))) (fun _ _=>rfl)))
    (ae (cK (ax bZ (az aL (pv 0) af (fun _ _=>rfl)) (ay ao rfl T.n_len TU (aa (pv 7) ac))) (jh (pv 0) af set_list))
    (ae (cK (ax fT (az aL (pv 0) af (fun _ _=>rfl)) (az aD (pv 8) af (fun _ _=>rfl))) (jh (pv 0) af set_list))
    (ae (av (i:=9) bo.nd rfl (Tz rfl) (aJ (aa (az aD (pv 8) af (fun _ _=>rfl)) ac)))
    (ae (bv T2 rfl (bx rfl T.n_range (aa (az aD (pv 8) af (fun _ _=>rfl)) ac)) (aj (i:=10) bo.nd rfl (Tz rfl)) (ag (av (i:=9) bo.nd rfl (Tz rfl) (ax de (pv 9) (aJ (aa (gH (ih) (hr.mono (Td _)) rfl T.g__law_thing.m T.g__law_thing.F.kp T.g__law_thing.b .nil mj (aa (pv 0) (aa (pv 1) (aa (pv 2) (aa (pv 3) ac))))) ac))))))
    (ag (aC (pv 9)))))))))))),?_⟩
   try dsimp only [yv,xW]
   have y4:outs.length=yp.length:=Tp zK;have SE:=g.le;have JM:=g.ne;have Pd:oa≠l:=fJ eo el (by intro z;cases z);refine ⟨_,rfl,l,_,0,.int x,rfl,rfl,SqL.of el,at0,_,_,rfl,rfl,(by show (0:Int)<7;decide),?_⟩
   try dsimp only [aF]
   generalize x%7=digit;refine ⟨_,rfl,l,_,0,.int x,rfl,rfl,SqL.of el,at0,_,_,rfl,rfl,⟨by decide,by decide⟩,_,rfl,l,_,_,0,rfl,rfl,el,rfl,?_⟩;have s1:SameB l H (upd H l (.lst [.int (x / 7),.int b])):=.set;have e1:(upd H l (.lst [.int (x / 7),.int b])) l=some (.lst [.int (x / 7),.int b]):=ab
   try dsimp only [List.set]
   generalize (upd H l (.lst [.int (x / 7),.int b]))=H1 at s1 e1 ⊢;generalize x / 7=x1 at e1;have OD:KT H H1:=s1.kt el;refine jf (fun xS H'=>An2 (H1=H') (xS=[some (.ref l),some (.ref oa),some (.int S),some (.int C),some (.int digit),none,none,none,none,none,none])) (fun kk hk=>?_) ?_
   · refine eZ (fun c H'=>An2 (H1=H') ((c=true->0<S/\0<C))) (fun k2 AF=>?_) (fun H' hb=>?_) (fun H' hb=>?_)
     · refine ⟨_,rfl,_,_,rfl,rfl,_,rfl,?_⟩;refine cQ (fun c1=>?_) (fun c1=>AF _ _ ⟨rfl,fun z=>by cases z⟩);refine ⟨_,rfl,_,_,rfl,rfl,_,rfl,?_⟩;refine cQ (fun c2=>?_) (fun c2=>AF _ _ ⟨rfl,fun z=>by cases z⟩);exact ⟨_,rfl,_,_,rfl,rfl,_,rfl,AF _ _ ⟨rfl,fun _=>⟨of_decide_eq_true c1,of_decide_eq_true c2⟩⟩⟩
     · obtain ⟨rfl,hb⟩:=hb;obtain ⟨hS,hC⟩:=hb rfl;have d0:=UO x1 (show S≠0 by omega);have d1:=UI x1 hS;refine ⟨_,rfl,l,_,0,.int x1,rfl,rfl,SqL.of e1,at0,_,rfl,_,_,rfl,rfl,hS,?_⟩;refine ⟨_,rfl,l,_,0,.int x1,rfl,rfl,SqL.of e1,at0,_,rfl,_,_,rfl,rfl,⟨hS,by omega⟩,_,rfl,l,_,_,0,rfl,rfl,e1,rfl,?_⟩;have s2:SameB l H1 (upd H1 l (.lst [.int (x1 / S),.int b])):=.set;have e2:(upd H1 l (.lst [.int (x1 / S),.int b])) l=some (.lst [.int (x1 / S),.int b]):=ab
       try dsimp only [List.set]
       generalize (upd H1 l (.lst [.int (x1 / S),.int b]))=H2 at s2 e2 ⊢;generalize x1 / S=x2 at e2;have c0:=UO x2 (show C≠0 by omega);have c1:=UI x2 hC;refine ⟨_,rfl,l,_,0,.int x2,rfl,rfl,SqL.of e2,at0,_,rfl,_,_,rfl,rfl,hC,?_⟩;refine ⟨_,rfl,l,_,0,.int x2,rfl,rfl,SqL.of e2,at0,_,rfl,_,_,rfl,rfl,⟨hC,by omega⟩,_,rfl,l,_,_,0,rfl,rfl,e2,rfl,?_⟩;have s3:SameB l H2 (upd H2 l (.lst [.int (x2 / C),.int b])):=.set;have e3:(upd H2 l (.lst [.int (x2 / C),.int b])) l=some (.lst [.int (x2 / C),.int b]):=ab
       try dsimp only [List.set]
       generalize (upd H2 l (.lst [.int (x2 / C),.int b]))=H3 at s3 e3 ⊢;refine ⟨_,rfl,_,rfl,ai (by show 3<=1000000;decide),fun ca G7=>?_⟩;have s4:=ad G7 (.tup [.str BB.q,.int (x1%S),.int (x2%C)]);refine q (.call (x1%S) (x2%C)) ca _ b _ (s1.trans (s2.trans (s3.trans (.of s4)))) (s4 _ _ e3) ?_ ?_ b0 ?_
       · rw [At];exact ab
       · rw [Th.FitS];exact ⟨d0,d1,c0,c1⟩
       · rw [Th.size];show (1:Int)+b=b+1;omega
     · obtain ⟨rfl,_⟩:=hb;exact hk _ _ ⟨rfl,rfl⟩
   rintro xS H' ⟨rfl,rfl⟩;have Mn:H1 oa=some (.tup (yp.map V.ref)):=OD _ _ eo;have Im:=zK.mono OD;obtain ⟨kz,GZ,Rl⟩:=g.zero;refine ⟨_,rfl,oa,rfl,⟨_,SqT.of Mn⟩,pM (K:=K) (fun k=>decide (k.2<=b)) Mn Im (by omega) ⟨kz,GZ,decide_eq_true (by omega)⟩ (fun z ka H2 R sm hz r=>?_) (fun ka H2 R r=>⟨_,rfl,r⟩) (fun D bs H2 hD e' CT SF yw=>?_)⟩
   · exact ⟨_,rfl,ka,_,1,_,rfl,rfl,SqT.of hz,at1,_,rfl,l,_,1,.int b,rfl,rfl,SqL.of (sm _ _ e1),at1,_,_,rfl,rfl,_,rfl,r⟩
   have s2:L2.Same H1 H2:=by rw [e'];exact ad hD _
   have eD:H2 D=some (.lst (bs.map fun z=>V.ref z.2)):=by rw [e'];exact ab
   have Fh:D≠l:=fun z=>by rw [z,e1] at hD;cases hD
   have JN:=s2 _ _ e1;clear e';have Cs:0<((bs.map fun z=>V.ref z.2).length:Int):=by rw [S6];omega
   have y0:=UO x1 (show ((bs.map fun z=>V.ref z.2).length:Int)≠0 by omega);have y1:=UI x1 Cs;refine hid fun ZZ kZ=>?_;obtain ⟨z,hz⟩:∃ z,bs[(x1%((bs.map fun z=>V.ref z.2).length:Int)).toNat]?=some z:=⟨_,S9 (by rw [S6] at y1 ⊢;omega)⟩;obtain ⟨zq,gp,FI⟩:=yw z (Tb hz);obtain ⟨k0,ka⟩:=z;refine kZ ?_;dsimp only at zq gp FI hz;have SG:k0.2<=b:=of_decide_eq_true gp;have By:=g.num k0 zq;refine ⟨_,rfl,_,rfl,l,_,0,.int x1,rfl,rfl,SqL.of JN,at0,_,rfl,D,_,rfl,.inl (SqL.of eD),_,_,rfl,rfl,Cs,D,_,_,.ref ka,rfl,rfl,SqL.of eD,at_nonneg y0 (by rw [Tn,hz];rfl),?_⟩
   try dsimp only [aF]
   refine ⟨_,rfl,l,_,0,.int x1,rfl,rfl,SqL.of JN,at0,_,rfl,D,_,rfl,.inl (SqL.of eD),_,_,rfl,rfl,⟨Cs,by rw [S6];omega⟩,_,rfl,l,_,_,0,rfl,rfl,JN,rfl,?_⟩;have s3:SameB l H2 (upd H2 l (.lst [.int (x1 / ((bs.map fun z=>V.ref z.2).length:Int)),.int b])):=.set;have e3:(upd H2 l (.lst [.int (x1 / ((bs.map fun z=>V.ref z.2).length:Int)),.int b])) l=some (.lst [.int (x1 / ((bs.map fun z=>V.ref z.2).length:Int)),.int b]):=ab
   try dsimp only [List.set]
   generalize (upd H2 l (.lst [.int (x1 / ((bs.map fun z=>V.ref z.2).length:Int)),.int b]))=H3 at s3 e3 ⊢;generalize x1 / ((bs.map fun z=>V.ref z.2).length:Int)=x3 at e3;have Hu:KT H2 H3:=s3.kt JN;have Io:H3 ka=some (.tup [.str k0.1,.int k0.2]):=Hu _ _ (s2 _ _ FI);refine ⟨_,rfl,l,_,1,.int b,rfl,rfl,SqL.of e3,at1,_,rfl,ka,_,1,.int k0.2,rfl,rfl,SqT.of Io,at1,_,_,rfl,rfl,_,rfl,l,_,_,1,rfl,rfl,e3,rfl,?_⟩;have s4:SameB l H3 (upd H3 l (.lst [.int x3,.int (b - k0.2)])):=.set;have e4:(upd H3 l (.lst [.int x3,.int (b - k0.2)])) l=some (.lst [.int x3,.int (b - k0.2)]):=ab
   try dsimp only [List.set]
   generalize (upd H3 l (.lst [.int x3,.int (b - k0.2)]))=H4 at s4 e4 ⊢;have Fc:KT H3 H4:=s4.kt e3;have Ip:=Fc _ _ Io;refine ⟨_,rfl,ka,_,0,.str k0.1,rfl,rfl,SqT.of Ip,at0,ai (by show 1<=1000000;decide),fun ma Rm=>?_⟩;have s5:L2.Same H4 (upd H4 ma (.tup [.str k0.1])):=ad Rm _;have e5:(upd H4 ma (.tup [.str k0.1])) ma=some (.tup (.str k0.1::([]:List Ta).map V.ref)):=ab
   try dsimp only
   generalize (upd H4 ma (.tup [.str k0.1]))=H5 at s5 e5 ⊢;have Iq:KT H1 H5:=(Same.kt s2).trans (Hu.trans (Fc.trans (Same.kt s5)));have Mo:=s5 _ _ Ip;have OE:=s5 _ _ e4;have AE:SameB l H H5:=s1.trans ((SameB.of s2).trans (s3.trans (s4.trans (.of s5))));refine ⟨_,rfl,ka,_,1,_,rfl,rfl,SqT.of Mo,at1,k0.2,rfl,by omega,by omega,?_⟩
   refine bF (n:=k0.2.toNat) (fun i σ H6=>Ex6 fun (kv:Option V) (ma:Ta) (Bm:List Ta) (ts:List Th) (x' b':Int)=>An9 (σ=[some (.ref l),some (.ref oa),some (.int S),some (.int C),some (.int digit),none,none,some (.ref D),some (.ref ka),some (.ref ma),kv]) (SameB l H5 H6) (H6 l=some (.lst [.int x',.int b'])) (H6 ma=some (.tup (.str k0.1::Bm.map V.ref))) (Ats H6 ts Bm) (ts.length=i) ((∀ t∈ts,t.FitS outs S C)) (0<=b') ((aq ts:Int)+b'=b - k0.2+(i:Int)))
    ⟨none,ma,[],[],x3,b - k0.2,rfl,.refl,OE,e5,.nil,rfl,(fun t ht=>by cases ht),by omega,by rw [aq];show (0:Int)+(b - k0.2)=b - k0.2+0;omega⟩ ?_ ?_
   · rintro i σ H6 hi ⟨kv,ma,Bm,ts,x',b',rfl,s6,Ir,Mp,DD,yy,xY,Iu,Mq⟩;have SH:i<k0.2.toNat:=hi;have CV:KT H5 H6:=s6.kt OE;have hsz:=bL ts;refine ⟨_,rfl,_,rfl,_,rfl,_,rfl,_,rfl,l,oa,x',b',yp,outs,S,C,rfl,Ir,(Iq.trans CV) _ _ Mn,Im.mono (Iq.trans CV),g,Rj,Rk,Iu,by omega,fun t r x7 b7 H7 s7 Rn zD Cn FZ Ro=>?_⟩;have BC:KT H6 H7:=s7.kt Ir;refine ⟨ai (by show 1<=1000000;decide),fun p1 zW=>?_⟩;have s8:L2.Same H7 (upd H7 p1 (.tup [.ref r])):=ad zW _;have e8:(upd H7 p1 (.tup [.ref r])) p1=some (.tup [.ref r]):=ab;generalize (upd H7 p1 (.tup [.ref r]))=H8 at s8 e8 ⊢;have zy:Bm.length=ts.length:=DD.length;refine lK (s8 _ _ (BC _ _ Mp)) e8 (by rw [To,S6];show Bm.length+1+1<=1000000;omega) fun p H9 s9 e9=>?_;have JO:=s8.trans s9;refine ⟨_,p,Bm++[r],ts++[t],x7,b7,rfl,s6.trans (s7.trans (.of JO)),JO _ _ Rn,?_,?_,?_,?_,FZ,?_⟩
     · rw [e9,Tu];rfl
     · exact (DD.mono (BC.trans (Same.kt JO))).append (.cons (zD.mono (Same.kt JO)) .nil)
     · rw [TC,yy];rfl
     · intro u hu;rcases Ul.mp hu with hu | hu
       · exact xY u hu
       · rw [TR.mp hu];exact Cn
     · rw [bd,aq,aq];omega
   · rintro σ H6 ⟨kv,ma,Bm,ts,x',b',rfl,s6,Ir,Mp,DD,yy,xY,Iu,Mq⟩;have CF:=(g.low k0 zq).1;refine ⟨_,rfl,q (.knot k0.1 ts) ma x' b' H6 (AE.trans s6) Ir ?_ ?_ Iu ?_⟩
     · rw [At];exact ⟨qM CF,Bm,Mp,DD⟩
     · rw [Th.FitS];refine ⟨?_,FitSs.of xY⟩
       have:(k0.1,(ts.length:Int))=k0:=by
        rw [yy];exact Prod.ext rfl (by show ((k0.2.toNat:Nat):Int)=k0.2;omega)
       rw [this];exact zq
     · rw [Th.size];have:((k0.2.toNat:Nat):Int)=k0.2:=by omega
       omega
def PlAt (H:Hp) (p:List Int) (b:Ta):Prop:=H b=some (.tup (p.map V.int))
theorem PlAt.mono {H H':Hp} (k:KT H H') {p:List Int} {b:Ta} (h:PlAt H p b):PlAt H' p b:=k _ _ h
inductive fK (n:Nat) (vs:List V) (H:Hp) (Q:VK) (_E:XK):Prop
 | mk (a:Ta) (t:Th) (yd:vs=[.ref a]) (ye:At H t a) (yj:t.tall<=n) (yq:t.size<=1000) (yC:∀ (r:Ta) (ps:List (List Int)) (bs:List Ta) (H':Hp),L2.Same H H'->H r=none->H' r=some (.lst (bs.map V.ref))->T3 (PlAt H') ps bs->1<=ps.length->ps.length<=t.size->(∀ p∈ps,p.length+1<=t.tall/\∃ u,t.sub p=some u)->Q (.ref r) H'):fK n vs H Q _E
def ku (n:Nat):Sp:=fK n
set_option maxHeartbeats 1000000 in
theorem gu:∀ n:Nat,bi P w K mg base CX0 n T.g__law_places.f T.g__law_places.d ["thing"] (ku n)
 | 0=>⟨fun _ _ _ _ h=>by obtain ⟨_,t,_,_,h1,_⟩:=h;have:=t.tall_eq;omega,fun _ _ _ _ _ _ _ _ _ _ _ _ _ h=>by obtain ⟨_,t,_,_,h1,_⟩:=h;have:=t.tall_eq;omega⟩
 | n+1=>by
   have ih:=gu n;refine T.g__law_places.F.ok cH (fun vs H Q E h=>?_) (fun yb A outer s H vs Q E hr h=>?_)
   · obtain ⟨a,t,rfl,_⟩:=h;rfl
   obtain ⟨a,t,rfl,hA,yy,hsz,q⟩:=h
   refine ⟨_,(ae (av (i:=1) cH.nd rfl (Tz rfl) (bw (aa (aJ ac) ac)))
    (ae (bE (aK o9 (az aD (pv 0) af (fun _ _=>rfl)) gg (aO _)) (ag (bv T2 rfl (ji rfl T.n_range (aa af (aa (ay ao rfl T.n_len TU (aa (pv 0) ac)) ac))) (aj (i:=2) cH.nd rfl (XE rfl)) (ag (av (i:=1) cH.nd rfl (Tz rfl) (ax tY (pv 1) (cw (N:=[Ti "place",Ti "k"]) (js:=[none,some 2]) (g:=(aF 0)) (tt:=bP) (te:=(tOp (kb K) (jS (bA (tOp (rI0 fun i j=>.int (i - j)) (bC 1) (tC (.int 1))) dU)) (bC 0))) rfl (cG rfl (by decide +kernel) (by decide +kernel) rfl rfl rfl) (ck (gH (ih) (hr.mono (Td _)) rfl T.g__law_places.m T.g__law_places.F.kp T.g__law_places.b .nil mj (aa (az aD (pv 0) (pv 2) (fun _ _=>rfl)) ac))) (fun _ _ _ _ _ _=>(aj (i:=0) vC rfl (Tz rfl))) (aS rfl) (fun _ _ _ _ _ _=>bT) (fun _ _ _ _ _ _=>(ax de (aJ (aa (ax fT (pv 1) af) ac)) (pv 0))))))))) bj)
    (ag (aC (pv 1))))),?_⟩
   try dsimp only [yv,xW]
   refine ⟨ai (by show 0<=1000000;decide),fun ep Mr=>?_⟩;have s1:L2.Same H (upd H ep (.tup [])):=ad Mr _;have e1:PlAt (upd H ep (.tup [])) [] ep:=ab;generalize (upd H ep (.tup []))=H1 at s1 e1 ⊢;refine ⟨ai (by show 1<=1000000;decide),fun fl Ac=>?_⟩;have s2:L2.Same H1 (upd H1 fl (.lst [.ref ep])):=ad Ac _;have e2:(upd H1 fl (.lst [.ref ep])) fl=some (.lst ([ep].map V.ref)):=ab;have Em:H fl=none:=s1.free Ac
   try dsimp only [aF]
   generalize (upd H1 fl (.lst [.ref ep]))=H2 at s2 e2 ⊢;have yI:=s1.trans s2;have JP:=hA.mono (Same.kt yI);cases t with
   | call sn kn =>
     rw [At] at JP;refine ⟨_,rfl,a,_,0,.str BB.q,rfl,rfl,SqT.of JP,at0,rfl,_,rfl,?_⟩;refine cO ?_;refine ⟨_,rfl,q fl [[]] [ep] H2 yI Em e2 (.cons (e1.mono (Same.kt s2)) .nil) (Td _) (by rw [Th.size];exact Td _) (fun p hp=>?_)⟩;rw [TR.mp hp,Th.tall];exact ⟨Td _,_,iU _⟩
   | knot m ks =>
     rw [At] at JP;refine hid fun ZZ kZ=>?_;obtain ⟨JQ,yl,ea,yF⟩:=JP;refine kZ ?_;rw [Th.tall] at yy;rw [Th.size] at hsz;have y4:=yF.length;have zK:=bL ks;refine ⟨_,rfl,a,_,0,.str m,rfl,rfl,SqT.of ea,at0,rfl,_,rfl,?_⟩
     have yk:(!decide (V.str m=V.str (Ti "?")))=true:=by
      have:decide (V.str m=V.str (Ti "?"))=false:=decide_eq_false fun z=>JQ (V.str.inj z);rw [this];rfl
     rw [yk];refine oF ?_;refine ⟨_,rfl,a,_,rfl,.inr (SqT.of ea),1,_,rfl,⟨by decide,by decide,by rw [To,S6];omega,by rw [To,S6];omega⟩,?_⟩;have En:((((V.str m::yl.map V.ref).length:Nat):Int) - 1).toNat=ks.length:=by rw [To,S6];omega
     rw [En]
     refine bF (n:=ks.length) (fun i σ H3=>Ex4 fun (kv:Option V) (fl:Ta) (ps:List (List Int)) (bs:List Ta)=>An9 (σ=[some (.ref a),some (.ref fl),kv]) (L2.Same H H3) (H fl=none) (H3 fl=some (.lst (bs.map V.ref))) (T3 (PlAt H3) ps bs) (1<=ps.length) (ps.length<=1+aq (ks.take i)) ((∀ p∈ps,p.length+1<=bD ks+1/\∃ u,(Th.knot m ks).sub p=some u)) (L2.Same H2 H3))
      ⟨none,fl,[[]],[ep],rfl,yI,Em,e2,.cons (e1.mono (Same.kt s2)) .nil,Td _,by rw [Wl,aq];exact Td _,(fun p hp=>by rw [TR.mp hp];exact ⟨by show 0+1<=bD ks+1;omega,_,iU _⟩),.refl _⟩ ?_ ?_
     · rintro i σ H3 hi ⟨kv,fl,ps,bs,rfl,s3,Em,e3,yH,zW,yV,xY,JR⟩;have yA:i<ks.length:=hi;have FK:=JR _ _ ea;have Iv:=yF.mono (Same.kt JR);refine hid fun ZZ kZ=>?_;obtain ⟨ka,yT⟩:∃ ka,yl[i]?=some ka:=⟨_,S9 (by omega)⟩;obtain ⟨u,hu,Iw⟩:=Iv.get yT;refine kZ ?_;have F2:=Tb hu;have Jx:=bW F2;have Rq:=lj F2
       have yQ:aq (ks.take i)+u.size<=aq ks:=by
        have h1:aq (ks.take (i+1))+aq (ks.drop (i+1))=aq ks:=by rw [<- bd,List.take_append_drop]
        rw [take_snoc hu,bd,aq,aq] at h1;omega
       refine ⟨_,rfl,_,rfl,_,rfl,a,_,_,.ref ka,rfl,rfl,SqT.of FK,at_nonneg (by omega) (by rw [show (1+(i:Int)).toNat=i+1 by omega,Uy,Tn,yT];rfl),ka,u,rfl,Iw,by omega,by omega,fun r JS Ba H4 s4 nr er CH Rr Rt Eo=>?_⟩;have DE:JS.length=Ba.length:=Tp CH;have zy:ps.length=bs.length:=Tp yH;refine ⟨r,rfl,⟨_,SqL.of er⟩,iX (F:=PlAt) (xs:=Ba.map V.ref) (JS.map fun p=>(i:Int)::p) (fun H1 H2 z p kt h=>h.mono kt) (by rw [S6,S6];exact DE) (by rw [S6];omega) (fun j Hx sx hj=>⟨_,_,SqL.of (sx _ _ er),S9 hj⟩) (fun Hx sx=>⟨_,SqL.of (sx _ _ er),Td _⟩) (fun j Hx x Hy sx hj hy=>⟨hy.1,hy.2 _ (SqL.of (sx _ _ er))⟩) (fun j x z Hx R W' hx Au sx hR=>?_) (fun D H5 CI hD s5 eD AY=>?_)⟩
       · obtain ⟨pb,rfl,Bn⟩:=aU hx;rw [Tn] at Au;obtain ⟨p,hp,rfl⟩:=T4.mp Au;have Mt:PlAt Hx p pb:=(ja CH hp Bn).mono (Same.kt sx);have Fl:=(Eo p (Tb hp)).1;have Mu:=cF u;refine ⟨_,rfl,_,_,rfl,rfl,ai (by show 1<=1000000;decide),fun k1 JM=>?_⟩;have t1:L2.Same Hx (upd Hx k1 (.tup [.int (1+(i:Int) - 1)])):=ad JM _;have f1:(upd Hx k1 (.tup [.int (1+(i:Int) - 1)])) k1=some (.tup [.int (i:Int)]):=by rw [ab,show 1+(i:Int) - 1=(i:Int) by omega]
         try dsimp only
         generalize (upd Hx k1 (.tup [.int (1+(i:Int) - 1)]))=Hy at t1 f1 ⊢;refine ⟨_,rfl,?_⟩;refine lK f1 (t1 _ _ Mt) (by rw [S6];show 1+p.length<=1000000;omega) fun p3 H7 s7 e7=>?_;exact hR H7 p3 (t1.trans s7) e7
       have CJ:(JS.map fun p=>(i:Int)::p).length=CI.length:=Tp AY;rw [S6] at CJ;have Mv:=(s4.trans s5) _ _ e3;refine ⟨fl,D,_,_,rfl,rfl,Mv,eD,ai (by rw [S6,S6];omega),fun nl Dx=>?_⟩;have s6:L2.Same H5 (upd H5 nl (.lst (bs.map V.ref++CI.map V.ref))):=ad Dx _;have CK:=s4.trans (s5.trans s6);refine ⟨_,nl,ps++JS.map (fun p=>(i:Int)::p),bs++CI,rfl,s3.trans CK,(s3.trans (s4.trans s5)).free Dx,by rw [ab,Tu],?_,?_,?_,fun p hp=>?_,JR.trans CK⟩
       · exact P2.append (P2.mp (fun _ _ e=>PlAt.mono (Same.kt CK) e) yH) (P2.mp (fun _ _ e=>PlAt.mono (Same.kt s6) e) AY)
       · rw [TC];omega
       · rw [TC,S6,take_snoc hu,bd,aq,aq];omega
       · rcases Ul.mp hp with hp | hp
         · exact xY p hp
         · obtain ⟨p2,zX,rfl⟩:=Um.mp hp;obtain ⟨h1,v,hv⟩:=Eo p2 zX;refine ⟨by rw [To];omega,v,?_⟩;rw [n8 (u:=u) (by omega) (by show ks[(i:Int).toNat]?=some u;rw [Uw];exact hu)];exact hv
     · rintro σ H3 ⟨kv,fl,ps,bs,rfl,s3,Em,e3,yH,zW,yV,xY,JR⟩;rw [UT (Td _)] at yV;exact ⟨_,rfl,q fl ps bs H3 s3 Em e3 yH zW (by rw [Th.size];omega) (by rw [Th.tall];exact xY)⟩
inductive i4 (n:Nat) (vs:List V) (H:Hp) (Q:VK) (_E:XK):Prop
 | mk (a pa oa:Ta) (t o u:Th) (p:List Int) (yd:vs=[.ref a,.ref pa,.ref oa]) (ye:At H t a) (yj:H pa=some (.tup (p.map V.int))) (yq:At H o oa) (yC:t.sub p=some u) (zj:p.length<n) (Bi:t.size<=1000) (Bt:∀ (r:Ta) (H':Hp),L2.Same H H'->At H' (t.put p o) r->Q (.ref r) H'):i4 n vs H Q _E
def o0 (n:Nat):Sp:=i4 n
set_option maxHeartbeats 1000000 in
theorem jI:∀ n:Nat,bi P w K mg base CX0 n T.g__law_put.f T.g__law_put.d ["thing","place","other"] (o0 n)
 | 0=>⟨fun _ _ _ _ h=>by obtain ⟨_,_,_,_,_,_,_,_,_,_,_,_,h1,_⟩:=h;omega,fun _ _ _ _ _ _ _ _ _ _ _ _ _ h=>by obtain ⟨_,_,_,_,_,_,_,_,_,_,_,_,h1,_⟩:=h;omega⟩
 | n+1=>by
   have ih:=jI n;refine T.g__law_put.F.ok jC (fun vs H Q E h=>?_) (fun yb A outer s H vs Q E hr h=>?_)
   · obtain ⟨a,pa,oa,t,o,u,p,rfl,_⟩:=h;rfl
   obtain ⟨a,pa,oa,t,o,u,p,rfl,hA,zY,hO,zf,yV,hsz,q⟩:=h
   refine ⟨_,(ae (bE (aK cM (ay ao rfl T.n_len TU (aa (pv 1) ac)) af (aO _)) (ag (aC (pv 2))) bj)
    (ae (av (i:=3) jC.nd rfl (Tz rfl) (ax bG (az aD (pv 1) af (fun _ _=>rfl)) af))
    (ag (aC (ax de (ax de (bq eO (pv 0) bS (bB (pv 3))) (aJ (aa (gH (ih) (hr.mono (Td _)) rfl T.g__law_put.m T.g__law_put.F.kp T.g__law_put.b .nil mj (aa (az aD (pv 0) (pv 3) (fun _ _=>rfl)) (aa (bq eO (pv 1) (bB af) bS) (aa (pv 2) ac)))) ac))) (bq eO (pv 0) (bB (ax bG (pv 3) af)) bS)))))),?_⟩
   try dsimp only [yv,xW]
   refine ⟨_,rfl,pa,_,rfl,.inr (SqT.of zY),rfl,_,rfl,?_⟩;cases p with
   | nil =>
     refine oF ?_;exact ⟨_,rfl,q oa H (.refl _) (by rw [ny];exact hO)⟩
   | cons i r =>
     have BN:decide (V.int (((((i::r).map V.int).length:Nat)):Int)=V.int 0)=false:=decide_eq_false fun z=>by
      have:=V.int.inj z;rw [S6,To] at this;omega
     rw [BN];refine cO ?_;refine hid fun ZZ kZ=>?_;obtain ⟨h0,v,hv,Ru⟩:=nJ zf;refine kZ ?_;cases t with
     | call sn kn=>rw [Th.kids] at hv;simp at hv
     | knot m ks =>
     rw [Th.kids] at hv;have OF:=hA;rw [At] at OF;obtain ⟨JQ,yl,ea,yF⟩:=OF;rw [Th.size] at hsz;have y4:=yF.length;have zK:=bL ks;have zx:=(Te.mp hv).1;obtain ⟨j,rfl⟩:∃ j:Nat,i=(j:Int):=⟨_,(Wj h0).symm⟩;rw [Uw] at hv zx;refine ⟨_,rfl,pa,_,0,.int (j:Int),rfl,rfl,SqT.of zY,at0,_,_,rfl,rfl,?_⟩
     try dsimp only [aF]
     have ej:(j:Int)+1=((j+1:Nat):Int):=by omega
     rw [ej];refine ⟨_,rfl,_,rfl,_,rfl,a,_,rfl,SqT.of ea,?_,fun p1 zW=>?_⟩
     · rintro ⟨_,z⟩;rw [HT.sIx_nat,To,S6] at z;omega
     try dsimp only
     have Jy:dJ (V.str m::yl.map V.ref) none (some ((j+1:Nat):Int))=V.str m::(yl.take j).map V.ref:=by
      rw [uV (by rw [To,S6];omega),List.take_succ_cons,List.map_take]
     rw [Jy];have s1:L2.Same H (upd H p1 (.tup (V.str m::(yl.take j).map V.ref))):=ad zW _;have e1:(upd H p1 (.tup (V.str m::(yl.take j).map V.ref))) p1=some (.tup (V.str m::(yl.take j).map V.ref)):=ab;generalize (upd H p1 (.tup (V.str m::(yl.take j).map V.ref)))=H1 at s1 e1 ⊢;have Mw:=s1 _ _ ea;refine hid fun ZZ kZ=>?_;obtain ⟨ka,yT⟩:∃ ka,yl[j]?=some ka:=⟨_,S9 (by omega)⟩;obtain ⟨v',yM,Rv⟩:=(yF.mono (Same.kt s1)).get yT;refine kZ ?_;rw [hv] at yM;cases yM;refine ⟨_,rfl,_,rfl,a,_,_,.ref ka,rfl,rfl,SqT.of Mw,at_nonneg (by omega) (by rw [Uw,Uy,Tn,yT];rfl),?_⟩;refine ⟨_,rfl,1,rfl,pa,_,rfl,SqT.of (s1 _ _ zY),?_,fun p2 zX=>?_⟩
     · rintro ⟨z,_⟩;rw [Up,To,show (1:Int)=((1:Nat):Int) by rfl,HT.sIx_nat] at z;omega
     try dsimp only
     rw [Up,dA];have s2:L2.Same H1 (upd H1 p2 (.tup (r.map V.int))):=ad zX _;have e2:(upd H1 p2 (.tup (r.map V.int))) p2=some (.tup (r.map V.int)):=ab;generalize (upd H1 p2 (.tup (r.map V.int)))=H2 at s2 e2 ⊢;have yI:=s1.trans s2;have BQ:=lj (Tb hv);rw [To] at yV;refine ⟨_,rfl,ka,p2,oa,v,o,u,r,rfl,Rv.mono (Same.kt s2),e2,hO.mono (Same.kt yI),Ru,by omega,by omega,fun r3 H3 s3 h3=>?_⟩;refine ⟨ai (by show 1<=1000000;decide),fun p4 Mx=>?_⟩;have s4:L2.Same H3 (upd H3 p4 (.tup [.ref r3])):=ad Mx _;have e4:(upd H3 p4 (.tup [.ref r3])) p4=some (.tup [.ref r3]):=ab;generalize (upd H3 p4 (.tup [.ref r3]))=H4 at s4 e4 ⊢;refine lK ((s2.trans (s3.trans s4)) _ _ e1) e4 (by rw [To,S6,Uc];show min j yl.length+1+1<=1000000;omega) fun p5 H5 s5 e5=>?_;have AE:=yI.trans (s3.trans (s4.trans s5));refine ⟨_,rfl,_,rfl,_,_,rfl,rfl,_,rfl,a,_,rfl,SqT.of (AE _ _ ea),?_,fun p6 Rw=>?_⟩
     · rintro ⟨z,_⟩;have Rx:((j+1:Nat):Int)+1=((j+2:Nat):Int):=by omega
       rw [Rx,HT.sIx_nat,To,S6] at z;omega
     try dsimp only
     have BL:dJ (V.str m::yl.map V.ref) (some (((j+1:Nat):Int)+1)) none=(yl.drop (j+1)).map V.ref:=by
      rw [show ((j+1:Nat):Int)+1=((j+2:Nat):Int) by omega,jt (by rw [To,S6];omega),Yy,YE]
     rw [BL];have s6:L2.Same H5 (upd H5 p6 (.tup ((yl.drop (j+1)).map V.ref))):=ad Rw _;have e6:(upd H5 p6 (.tup ((yl.drop (j+1)).map V.ref))) p6=some (.tup ((yl.drop (j+1)).map V.ref)):=ab;generalize (upd H5 p6 (.tup ((yl.drop (j+1)).map V.ref)))=H6 at s6 e6 ⊢;refine lK (s6 _ _ e5) e6 (by rw [TC,To,S6,Uc,S6,UL];show min j yl.length+1+1+(yl.length - (j+1))<=1000000;omega) fun p7 H7 s7 e7=>?_;have Iy:=s4.trans (s5.trans (s6.trans s7));have OG:=AE.trans (s6.trans s7);refine q p7 H7 OG ?_;have JT:(Th.knot m ks).kids[(j:Int).toNat]?=some v:=by rw [Uw];exact hv
     rw [lF JT,At];refine ⟨JQ,yl.set j r3,?_,?_⟩
     · rw [e7];have:yl.set j r3=yl.take j++r3::yl.drop (j+1):=List.set_eq_take_append_cons_drop .. |>.trans (if_pos (by omega));rw [this];simp [Th.nm]
     · rw [Uw];exact (yF.mono (Same.kt OG)).set _ (h3.mono (Same.kt Iy))
theorem gK {l:Ta} {o:HO} {H H':Hp} (hl:H l=none) (h:SameB l (upd H l o) H'):L2.Same H H':=fun b ob e=>h b ob (aI e hl) (by rw [ak (aI e hl)];exact e)
def vo (ins outs:List (TY×Int)) (S:Int) (m:Nat) (rows:List (List Th)):Prop:=∀ row∈rows,row.length=ins.length/\∀ (j:Nat) (t:Th) (k:TY×Int),row[j]?=some t->ins[j]?=some k->t.FitS outs S k.2/\t.size<=m
inductive hG (vs:List V) (H:Hp) (Q:VK) (_E:XK):Prop
 | mk (ca ia oa:Ta) (cs:List Int) (ya yp:List Ta) (ins outs:List (TY×Int)) (S:Int) (yd:vs=[.ref ca,.ref ia,.ref oa,.int S]) (ye:H ca=some (.lst (cs.map V.int))) (yj:H ia=some (.tup (ya.map V.ref))) (yq:KsAt H ins ya) (yC:bV ins) (zj:H oa=some (.tup (yp.map V.ref))) (Bi:KsAt H outs yp) (Bt:bV outs) (Dj:0<=S) (FN:S<=1000) (E4:S.toNat * (ins.length+1)<=cs.length) (E5:cs.length<=100000) (My:∀ (r:Ta) (yK:List Ta) (rows:List (List Th)) (H':Hp),L2.Same H H'->H' r=some (.tup (yK.map V.ref))->T3 (RowAt H') rows yK->(rows.length:Int)=S->vo ins outs S 9 rows->Q (.ref r) H'):hG  vs H Q _E
def nH:Sp:=hG
set_option maxHeartbeats 4000000 in
theorem nV:bi P w K mg base CX0 10 T.g__law_rows.f T.g__law_rows.d ["cells","ins","outs","states"] nH:=by
 refine T.g__law_rows.F.ok bf (fun vs H Q E h=>?_) (fun yb A outer s H vs Q E hr h=>?_)
 · obtain ⟨ca,ia,oa,cs,ya,yp,ins,outs,S,rfl,_⟩:=h;rfl
 obtain ⟨ca,ia,oa,cs,ya,yp,ins,outs,S,rfl,JU,Fm,zP,gi,Aq,DF,go,S0,S1,AA,Hw,q⟩:=h
 refine ⟨_,(ae (av (i:=4) bf.nd rfl (Tz rfl) (bw ac))
  (ae (bv T2 rfl (bx rfl T.n_range (aa (pv 3) ac)) (aj (i:=5) bf.nd rfl (Tz rfl)) (ae (av (i:=6) bf.nd rfl (Tz rfl) (bq nG (pv 0) (bB (ax cW (pv 5) (ax bG (ay ao rfl T.n_len TU (aa (pv 1) ac)) af))) bS))
  (ae (av (i:=7) bf.nd rfl (Tz rfl) (pcF T.g__law_thing (cB T 7) hr (aa (bw (aa (pcF T.g__law_mixed (eI T) hr (aa (az aL (pv 6) af (fun _ _=>rfl)) (aa (ax cW af (pv 5)) ac))) (aa af ac))) (aa (pv 2) (aa af (aa af ac))))))
  (ae (av (i:=8) bf.nd rfl (Tz rfl) (pcF T.g__law_places (gu T 8) hr (aa (pv 7) ac)))
  (ae (av (i:=9) bf.nd rfl (Tz rfl) (bw ac))
  (ae (bv T2 rfl (bx rfl T.n_range (aa (ay ao rfl T.n_len TU (aa (pv 1) ac)) ac)) (aj (i:=10) bf.nd rfl (Tz rfl)) (ae (av (i:=11) bf.nd rfl (Tz rfl) (pcF T.g__law_mixed (eI T) hr (aa (az aL (pv 6) (ax bG (pv 10) af) (fun _ _=>rfl)) (aa (ax bG (ax cW af (pv 10)) (pv 5)) ac))))
  (ag (bE (aK cM (ax bH (pv 11) af) af (aO _)) (ag (aP (bJ Tr TM TL aN (pv 9) (aa (pcF T.g__law_thing (cB T 7) hr (aa (bw (aa (ax bZ (pv 11) af) (aa af ac))) (aa (pv 2) (aa (pv 3) (aa (az aD (az aD (pv 1) (pv 10) (fun _ _=>rfl)) af (fun _ _=>rfl)) ac))))) ac)))) (ae (av (i:=12) bf.nd rfl (Tz rfl) (az aL (pv 8) (ax bH (ax bZ (pv 11) af) (ay ao rfl T.n_len TU (aa (pv 8) ac))) (fun _ _=>rfl)))
  (ae (av (i:=13) bf.nd rfl (Tz rfl) (pcF T.g__law_thing (cB T 7) hr (aa (bw (aa (ax bZ (ax bZ (pv 11) af) (ay ao rfl T.n_len TU (aa (pv 8) ac))) (aa af ac))) (aa (pv 2) (aa (pv 3) (aa (az aD (az aD (pv 1) (pv 10) (fun _ _=>rfl)) af (fun _ _=>rfl)) ac))))))
  (ag (aP (bJ Tr TM TL aN (pv 9) (aa (pcF T.g__law_put (jI T 8) hr (aa (pv 7) (aa (pv 12) (aa (pv 13) ac)))) ac))))))))))
  (ag (aP (bJ Tr TM TL aN (pv 4) (aa (cV cz rfl T.n_tuple U9 (aa (pv 9) ac)) ac))))))))))
  (ag (aC (cV cz rfl T.n_tuple U9 (aa (pv 4) ac)))))),?_⟩
 try dsimp only [yv,xW]
 have zx:ins.length=ya.length:=Tp zP;have CU:=gi.le;refine ⟨ai (by show 0<=1000000;decide),fun rl D9=>?_⟩;refine ⟨_,rfl,S,rfl,by omega,by omega,?_⟩
 refine bF (n:=S.toNat) (fun i σ H3=>ww fun (c5 c6 c7 c8 c9 zm DG BZ B0:Option V) (yK:List Ta) (rows:List (List Th))=>An6 (σ=[some (.ref ca),some (.ref ia),some (.ref oa),some (.int S),some (.ref rl),c5,c6,c7,c8,c9,zm,DG,BZ,B0]) (L2.Same H H3) (H3 rl=some (.lst (yK.map V.ref))) (T3 (RowAt H3) rows yK) (rows.length=i) (vo ins outs S 9 rows))
  ⟨none,none,none,none,none,none,none,none,none,[],[],rfl,ad D9 _,ab,.nil,rfl,fun row h=>by cases h⟩ ?_ ?_
 · rintro i σ H3 hi ⟨c5,c6,c7,c8,c9,zm,DG,BZ,B0,yK,rows,rfl,s3,e3,F3,En,F4⟩;have SI:i<S.toNat:=hi
   have hmul:i * (ins.length+1)+(ins.length+1)<=cs.length:=by
    have h1:(i+1) * (ins.length+1)<=S.toNat * (ins.length+1):=Yr _ (by omega);rw [Nat.add_mul,Nat.one_mul] at h1;omega
   have Mz:=s3 _ _ JU;have Fn:=s3 _ _ Fm;refine ⟨_,rfl,_,rfl,_,rfl,ia,_,rfl,.inr (SqT.of Fn),_,_,rfl,rfl,_,_,rfl,rfl,.inl ⟨by omega,by omega⟩,_,rfl,ca,_,rfl,SqL.of Mz,fun ow how=>?_⟩
   have CY:(0+(i:Int)) * ((((ya.map V.ref).length:Nat):Int)+1)=((i * (ins.length+1):Nat):Int):=by
    rw [S6,<- zx,U7];simp
   try dsimp only [aF]
   rw [CY,jt (by rw [S6];omega),<- YE];have BS:(cs.drop (i * (ins.length+1))).length=cs.length - i * (ins.length+1):=UL;generalize cs.drop (i * (ins.length+1))=ds at BS ⊢;have s4:L2.Same H3 (upd H3 ow (.lst (ds.map V.int))):=ad how _;have e4:(upd H3 ow (.lst (ds.map V.int))) ow=some (.lst (ds.map V.int)):=ab;generalize (upd H3 ow (.lst (ds.map V.int)))=H4 at s4 e4 ⊢;obtain ⟨d0,BR⟩:∃ d0,ds[0]?=some d0:=⟨_,S9 (by omega)⟩;refine ⟨_,rfl,ow,_,0,.int d0,rfl,rfl,SqL.of e4,at_nonneg (by decide) (by show (ds.map V.int)[0]?=_;rw [Tn,BR];rfl),_,rfl,_,_,rfl,rfl,.inl ⟨by decide,by decide⟩,_,_,rfl,fun z=>?_⟩;refine ⟨ai (by show 2<=1000000;decide),fun l1 ze=>?_⟩;have s5:L2.Same H4 (upd H4 l1 (.lst [.int z,.int 6])):=ad ze _;have e5:(upd H4 l1 (.lst [.int z,.int 6])) l1=some (.lst [.int z,.int 6]):=ab;have BX:=s4.trans s5;refine ⟨_,rfl,l1,oa,z,6,yp,outs,0,0,rfl,e5,(s3.trans BX) _ _ Aq,DF.mono (Same.kt (s3.trans BX)),go,by decide,by decide,by decide,by decide,fun bt ba x' b' H6 s6 Ir OH Ry Iu SJ=>?_⟩;have CK:L2.Same H4 H6:=gK ze s6;clear s5 e5 BX s6;have yw:bt.size<=7:=by omega
   have SK:=cF bt;refine ⟨_,rfl,ba,bt,rfl,OH,by omega,by omega,fun sp ps bs H7 s7 _ Rz yH zW yV xY=>?_⟩;have zy:ps.length=bs.length:=Tp yH;have FV:=CK.trans s7;have MA:=OH.mono (Same.kt s7);refine ⟨ai (by show 0<=1000000;decide),fun B1 Cw=>?_⟩;have Iy:=s4.trans FV;refine ⟨_,rfl,ia,_,rfl,.inr (SqT.of (ad Cw _ _ _ (Iy _ _ Fn))),_,rfl,by omega,by rw [S6];omega,?_⟩
   refine bF (n:=(((ya.map V.ref).length:Nat):Int).toNat) (fun j σ H8=>Ex6 fun (zm DG BZ B0:Option V) (AG:List Ta) (ts:List Th)=>An6 (σ=[some (.ref ca),some (.ref ia),some (.ref oa),some (.int S),some (.ref rl),some (.int (0+(i:Int))),some (.ref ow),some (.ref ba),some (.ref sp),some (.ref B1),zm,DG,BZ,B0]) (L2.Same H7 H8) (H8 B1=some (.lst (AG.map V.ref))) (Ats H8 ts AG) (ts.length=j) (∀ (j:Nat) (t:Th) (k:TY×Int),ts[j]?=some t->ins[j]?=some k->t.FitS outs S k.2/\t.size<=9))
    ⟨_,_,_,_,[],[],rfl,ad Cw _,ab,.nil,rfl,fun j t k h=>by simp at h⟩ ?_ ?_
   · rintro j σ H8 hj ⟨zm,DG,BZ,B0,AG,ts,rfl,s8,e8,DD,F1,MB⟩
     have yn:j<ins.length:=by
      have h1:j<(((ya.map V.ref).length:Nat):Int).toNat:=hj;rw [S6] at h1;omega
     have Fp:=Iy.trans s8;have RA:=(FV.trans s8) _ _ e4;obtain ⟨d1,EX⟩:∃ d1,ds[j+1]?=some d1:=⟨_,S9 (by omega)⟩;refine ⟨_,rfl,_,rfl,_,_,rfl,rfl,ow,_,_,.int d1,rfl,rfl,SqL.of RA,at_nonneg (by omega) (by rw [show (0+(j:Int)+1).toNat=j+1 by omega,Tn,EX];rfl),_,rfl,_,_,rfl,rfl,.inl ⟨by decide,by decide⟩,_,rfl,_,_,rfl,rfl,_,_,rfl,fun nb=>?_⟩;refine hid fun ZZ kZ=>?_;obtain ⟨k0,zC⟩:∃ k0,ins[j]?=some k0:=⟨_,S9 yn⟩;obtain ⟨ka,yT,FI⟩:=P2.get zP zC;refine kZ ?_;have By:=gi.num k0 (Tb zC);have Iz:H8 ka=some (.tup [.str k0.1,.int k0.2]):=(s3.trans Fp) _ _ FI;have IC:=Fp _ _ Fn;have DE:=DD.length
     have BP:∀ (t:Th) (ta:Ta) (H9:Hp) (BZ B0:Option V),L2.Same H8 H9->At H9 t ta->t.FitS outs S k0.2->t.size<=9->∀ xS,xS=[some (.ref ca),some (.ref ia),some (.ref oa),some (.int S),some (.ref rl),some (.int (0+(i:Int))),some (.ref ow),some (.ref ba),some (.ref sp),some (.ref B1),some (.int (0+(j:Int))),some (.int nb),BZ,B0]->Ex6 fun (zm DG BZ B0:Option V) (DH:List Ta) (MC:List Th)=>An6 (xS=[some (.ref ca),some (.ref ia),some (.ref oa),some (.int S),some (.ref rl),some (.int (0+(i:Int))),some (.ref ow),some (.ref ba),some (.ref sp),some (.ref B1),zm,DG,BZ,B0]) (L2.Same H7 (upd H9 B1 (.lst (AG.map V.ref++[.ref ta])))) ((upd H9 B1 (.lst (AG.map V.ref++[.ref ta]))) B1=some (.lst (DH.map V.ref))) (Ats (upd H9 B1 (.lst (AG.map V.ref++[.ref ta]))) MC DH) (MC.length=j+1) (∀ (j:Nat) (t:Th) (k:TY×Int),MC[j]?=some t->ins[j]?=some k->t.FitS outs S k.2/\t.size<=9):=fun t ta H9 BZ B0 s9 zD Cn hsz xS Mk=>by
      have e9:=s9 _ _ e8;have kt:KT H9 (upd H9 B1 (.lst (AG.map V.ref++[.ref ta]))):=aT e9;refine ⟨_,_,_,_,AG++[ta],ts++[t],Mk,aw (s8.trans s9) Cw,by rw [ab,Tu];rfl,(DD.mono ((Same.kt s9).trans kt)).append (.cons (zD.mono kt) .nil),by rw [TC,F1];rfl,fun m u k hu hk=>?_⟩;by_cases hm:m<ts.length
      · rw [VA hm] at hu;exact MB m u k hu hk
      · have Jw:=(Te.mp hu).1;rw [TC] at Jw
        have:m=ts.length:=by
         have:([t]:List Th).length=1:=rfl;omega
        subst this;rw [V0 (Td _),YS] at hu;have e1:t=u:=by simpa using hu
        rw [F1,zC] at hk;cases hk;rw [<- e1];exact ⟨Cn,hsz⟩
     refine ⟨_,rfl,_,_,rfl,rfl,(by show (0:Int)<4;decide),rfl,_,rfl,?_⟩;refine cQ (fun c1=>?_) (fun c1=>?_)
     · refine ⟨_,rfl,.inl ⟨rfl,_,SqL.of e8⟩,_,rfl,_,_,rfl,rfl,⟨by decide,by decide⟩,ai (by show 2<=1000000;decide),fun l2 yN=>?_⟩;have s9:L2.Same H8 (upd H8 l2 (.lst [.int (nb / 4),.int 6])):=ad yN _;have Ep:=(s3.trans Fp).trans s9;refine ⟨_,rfl,_,rfl,_,rfl,_,rfl,ia,_,_,.ref ka,rfl,rfl,SqT.of (s9 _ _ IC),at_nonneg (by omega) (by rw [show (0+(j:Int)).toNat=j by omega,Tn,yT];rfl),ka,_,1,.int k0.2,rfl,rfl,SqT.of (s9 _ _ Iz),at1,?_⟩;refine ⟨l2,oa,_,6,yp,outs,S,k0.2,rfl,ab,Ep _ _ Aq,DF.mono (Same.kt Ep),go,by omega,by omega,by decide,by decide,fun pt pa x2 b2 yO yG MD DI ME CP D7=>?_⟩;have Be:L2.Same H8 yO:=gK yN yG;refine ⟨B1,_,_,rfl,rfl,Be _ _ e8,aH (by rw [S6];omega),?_⟩;exact BP pt pa yO _ _ Be DI ME (by omega) _ rfl
     · have Fq:=s8 _ _ Rz;have Cs:0<(((bs.map V.ref).length:Nat):Int):=by rw [S6];omega
       have y0:=UO (nb / 4) (show (((bs.map V.ref).length:Nat):Int)≠0 by omega);have y1:=UI (nb / 4) Cs;refine hid fun ZZ kZ=>?_;obtain ⟨m,hm⟩:∃ m:Nat,nb / 4%(((bs.map V.ref).length:Nat):Int)=(m:Int):=⟨_,(Wj y0).symm⟩;have Jw:m<bs.length:=by rw [hm,S6] at y1;omega
       obtain ⟨pb,Bn⟩:∃ pb,bs[m]?=some pb:=⟨_,S9 Jw⟩;obtain ⟨p,hp⟩:∃ p,ps[m]?=some p:=⟨_,S9 (by omega)⟩;have Hl:PlAt H8 p pb:=(ja yH hp Bn).mono (Same.kt s8);obtain ⟨OI,u,zf⟩:=xY p (Tb hp);refine kZ ?_;refine ⟨_,rfl,_,rfl,_,_,rfl,rfl,⟨by decide,by decide⟩,_,rfl,sp,_,rfl,.inl (SqL.of Fq),_,_,rfl,rfl,Cs,sp,_,_,.ref pb,rfl,rfl,SqL.of Fq,at_nonneg y0 (by rw [hm,Uw,Tn,Bn];rfl),?_⟩;refine ⟨_,rfl,_,_,rfl,rfl,⟨by decide,by decide⟩,_,rfl,sp,_,rfl,.inl (SqL.of Fq),_,_,rfl,rfl,⟨Cs,by rw [S6];omega⟩,ai (by show 2<=1000000;decide),fun l2 yN=>?_⟩;have s9:L2.Same H8 (upd H8 l2 (.lst [.int (nb / 4 / (((bs.map V.ref).length:Nat):Int)),.int 2])):=ad yN _;have Ep:=(s3.trans Fp).trans s9;refine ⟨_,rfl,_,rfl,_,rfl,_,rfl,ia,_,_,.ref ka,rfl,rfl,SqT.of (s9 _ _ IC),at_nonneg (by omega) (by rw [show (0+(j:Int)).toNat=j by omega,Tn,yT];rfl),ka,_,1,.int k0.2,rfl,rfl,SqT.of (s9 _ _ Iz),at1,?_⟩;refine ⟨l2,oa,_,2,yp,outs,S,k0.2,rfl,ab,Ep _ _ Aq,DF.mono (Same.kt Ep),go,by omega,by omega,by decide,by decide,fun pt pa x2 b2 yO yG MD DI ME CP D7=>?_⟩;have Be:L2.Same H8 yO:=gK yN yG;refine ⟨_,rfl,.inl ⟨rfl,_,SqL.of (Be _ _ e8)⟩,_,rfl,_,rfl,_,rfl,?_⟩;refine ⟨ba,pb,pa,bt,pt,u,p,rfl,MA.mono (Same.kt (s8.trans Be)),Hl.mono (Same.kt Be),DI,zf,by omega,by omega,fun ra zd zp ID=>?_⟩;have IE:=Be.trans zp;have RB:=px p bt u pt zf;have RC:=size_pos u;refine ⟨B1,_,_,rfl,rfl,IE _ _ e8,aH (by rw [S6];omega),?_⟩;exact BP (bt.put p pt) ra zd _ _ IE ID (oT p bt u pt zf (FitS.up Ry) ME) (by omega) _ rfl
   · rintro σ H8 ⟨zm,DG,BZ,B0,AG,ts,rfl,s8,e8,DD,F1,MB⟩
     have MF:ts.length=ins.length:=by
      rw [F1,S6];omega
     have Fp:=Iy.trans s8;have OJ:=Fp _ _ e3;refine ⟨_,rfl,.inl ⟨rfl,_,SqL.of OJ⟩,_,rfl,B1,_,rfl,.inl ⟨SqL.of e8,fun tp EY=>?_⟩⟩;have s9:L2.Same H8 (upd H8 tp (.tup (AG.map V.ref))):=ad EY _;have e9:(upd H8 tp (.tup (AG.map V.ref))) tp=some (.tup (AG.map V.ref)):=ab;generalize (upd H8 tp (.tup (AG.map V.ref)))=H9 at s9 e9 ⊢;have OK:=s9 _ _ OJ;have RD:rows.length=yK.length:=Tp F3;refine ⟨rl,_,_,rfl,rfl,OK,aH (by rw [S6];omega),?_⟩;have kt:KT H9 (upd H9 rl (.lst (yK.map V.ref++[.ref tp]))):=aT OK;have Ep:=Fp.trans s9;refine ⟨_,_,_,_,_,_,_,_,_,yK++[tp],rows++[ts],rfl,aw (s3.trans Ep) D9,by rw [ab,Tu];rfl,?_,by rw [TC,En];rfl,fun row xV=>?_⟩
     · refine P2.append (P2.mp (fun _ _ e=>RowAt.mono ((Same.kt Ep).trans kt) e) F3) (.cons ⟨AG,kt _ _ e9,DD.mono ((Same.kt s9).trans kt)⟩ .nil)
     · rcases Ul.mp xV with h | h
       · exact F4 row h
       · rw [TR.mp h];exact ⟨MF,MB⟩
 · rintro σ H3 ⟨c5,c6,c7,c8,c9,zm,DG,BZ,B0,yK,rows,rfl,s3,e3,F3,En,F4⟩;refine ⟨_,rfl,rl,_,rfl,.inl ⟨SqL.of e3,fun p hp=>?_⟩⟩;have s4:=ad hp (.tup (yK.map V.ref));exact q p yK rows _ (s3.trans s4) ab (P2.mp (fun _ _ e=>RowAt.mono (Same.kt s4) e) F3) (by omega) F4
inductive hZ (K:S8) (vs:List V) (H:Hp) (Q:VK) (_E:XK):Prop
 | mk (a:Ta) (ns:List Int) (k:Int) (yd:vs=[.ref a,.int k]) (ye:SqL K H a (ns.map V.int)) (yj:0<=k) (yq:∀ c:Int,Q (.int c) H):hZ K vs H Q _E
def m8 (K:S8):Sp:=hZ K
theorem cN:bi P w K mg base CX0 1 T.g__law_cell.f T.g__law_cell.d ["script","k"] (m8 K):=by
 refine T.g__law_cell.F.ok m7 (fun vs H Q E h=>?_) (fun yb A outer s H vs Q E hr h=>?_)
 · obtain ⟨a,ns,k,rfl,_⟩:=h;rfl
 obtain ⟨a,ns,k,rfl,hS,h0,q⟩:=h
 refine ⟨_,(ae (bE (aK mG (pv 1) (ay ao rfl T.n_len TU (aa (pv 0) ac)) (aO _)) (ag (aC (az aL (pv 0) (pv 1) (fun _ _=>rfl)))) bj)
  (ag (aC af))),?_⟩
 try dsimp only [yv,xW]
 refine ⟨_,rfl,_,rfl,a,_,rfl,.inl hS,_,_,rfl,rfl,_,rfl,?_⟩;refine cQ (fun c=>?_) (fun c=>q 0);have c':k<(((ns.map V.int).length:Nat):Int):=of_decide_eq_true c;rw [S6] at c';exact ⟨_,rfl,_,rfl,a,_,k,_,rfl,rfl,hS,int_at h0 c',q _⟩
inductive ii (vs:List V) (H:Hp) (Q:VK) (_E:XK):Prop
 | mk (ca ia oa:Ta) (cs:List Int) (ya yp:List Ta) (ins outs:List (TY×Int)) (S:Int) (yd:vs=[.ref ca,.ref ia,.ref oa,.int S]) (ye:H ca=some (.lst (cs.map V.int))) (yj:H ia=some (.tup (ya.map V.ref))) (yq:KsAt H ins ya) (yC:bV ins) (zj:H oa=some (.tup (yp.map V.ref))) (Bi:KsAt H outs yp) (Bt:bV outs) (Dj:0<=S) (FN:S<=1000) (E4:1+S.toNat * (ins.length+1)<=cs.length) (E5:cs.length<=100000) (My:∀ (r:Ta) (head:Th) (rows:List (List Th)) (H':Hp),L2.Same H H'->Bk H' ins outs head rows r->vk ins outs S 9 head rows->head.size<=5->Q (.ref r) H'):ii  vs H Q _E
def mZ:Sp:=ii
set_option maxHeartbeats 1000000 in
theorem mY:bi P w K mg base CX0 11 T.g__law_book.f T.g__law_book.d ["cells","ins","outs","states"] mZ:=by
 refine T.g__law_book.F.ok i6 (fun vs H Q E h=>?_) (fun yb A outer s H vs Q E hr h=>?_)
 · obtain ⟨ca,ia,oa,cs,ya,yp,ins,outs,S,rfl,_⟩:=h;rfl
 obtain ⟨ca,ia,oa,cs,ya,yp,ins,outs,S,rfl,JU,Fm,zP,gi,Aq,DF,go,S0,S1,AA,Hw,q⟩:=h
 refine ⟨_,(ae (av (i:=4) i6.nd rfl (Tz rfl) (pcF T.g__law_thing (cB T 6) hr (aa (bw (aa (pcF T.g__law_mixed (eI T) hr (aa (az aL (pv 0) af (fun _ _=>rfl)) (aa af ac))) (aa af ac))) (aa (pv 2) (aa (pv 3) (aa af ac))))))
  (ag (aC (aJ (aa (pv 1) (aa (pv 2) (aa (pv 4) (aa (pcF T.g__law_rows (nV T) hr (aa (bq nG (pv 0) (bB af) bS) (aa (pv 1) (aa (pv 2) (aa (pv 3) ac))))) ac)))))))),?_⟩
 try dsimp only [yv,xW]
 obtain ⟨d0,BR⟩:∃ d0,cs[0]?=some d0:=⟨_,S9 (by omega)⟩;refine ⟨_,rfl,ca,_,0,.int d0,rfl,rfl,SqL.of JU,at_nonneg (by decide) (by show (cs.map V.int)[0]?=_;rw [Tn,BR];rfl),_,_,rfl,fun z=>?_⟩;refine ⟨ai (by show 2<=1000000;decide),fun l1 ze=>?_⟩;have s5:L2.Same H (upd H l1 (.lst [.int z,.int 4])):=ad ze _;refine ⟨_,rfl,_,rfl,l1,oa,z,4,yp,outs,S,1,rfl,ab,s5 _ _ Aq,DF.mono (Same.kt s5),go,by omega,by decide,by decide,by decide,fun ht ha x' b' H1 RE SM hA hF Iu hz=>?_⟩;have s1:L2.Same H H1:=gK ze RE;refine ⟨_,rfl,_,rfl,_,rfl,_,rfl,1,rfl,ca,_,rfl,SqL.of (s1 _ _ JU),fun cl MG=>?_⟩
 try dsimp only
 rw [show (some (1:Int))=some ((1:Nat):Int) from rfl,jt (by rw [S6];omega),<- YE];have s2:L2.Same H1 (upd H1 cl (.lst ((cs.drop 1).map V.int))):=ad MG _;have e2:(upd H1 cl (.lst ((cs.drop 1).map V.int))) cl=some (.lst ((cs.drop 1).map V.int)):=ab;generalize (upd H1 cl (.lst ((cs.drop 1).map V.int)))=H2 at s2 e2 ⊢;have yI:=s1.trans s2;refine ⟨_,rfl,_,rfl,_,rfl,cl,ia,oa,cs.drop 1,ya,yp,ins,outs,S,rfl,e2,yI _ _ Fm,zP.mono (Same.kt yI),gi,yI _ _ Aq,DF.mono (Same.kt yI),go,S0,S1,by rw [UL];omega,by rw [UL];omega,fun r yK rows H3 s3 er F3 En F4=>?_⟩;refine ⟨ai (by show 4<=1000000;decide),fun p hp=>?_⟩;have s4:=ad hp (.tup [.ref ia,.ref oa,.ref ha,.ref r]);have DJ:=s3.trans s4;have Er:=yI.trans DJ;refine q p ht rows _ Er ⟨ia,oa,ha,r,ya,yp,yK,ab,Er _ _ Fm,zP.mono (Same.kt Er),Er _ _ Aq,DF.mono (Same.kt Er),hA.mono (Same.kt (s2.trans DJ)),s4 _ _ er,P2.mp (fun _ _ e=>RowAt.mono (Same.kt s4) e) F3⟩ ⟨En,fun row h=>(F4 row h).1,fun row h=>(F4 row h).2,hF,by omega⟩ (by omega)
inductive fV (K:S8) (vs:List V) (H:Hp) (Q:VK) (_E:XK):Prop
 | mk (a:Ta) (ns:List Int) (most:Int) (yd:vs=[.ref a,.int most]) (ye:SqL K H a (ns.map V.int)) (yj:ns.length<=63) (yq:1<=most) (yC:most<=16) (zj:∀ (r:Ta) (ins outs:List (TY×Int)) (S:Int) (head:Th) (rows:List (List Th)) (H':Hp),L2.Same H H'->Bk H' ins outs head rows r->bV ins->bV outs->S<=16->vk ins outs S 9 head rows->head.size<=5->Q (.ref r) H'):fV K vs H Q _E
def lL (K:S8):Sp:=fV K
set_option maxHeartbeats 1000000 in
theorem lN:bi P w K mg base CX0 12 T.g__law_drawn.f T.g__law_drawn.d ["script","most"] (lL K):=by
 refine T.g__law_drawn.F.ok cA (fun vs H Q E h=>?_) (fun yb A outer s H vs Q E hr h=>?_)
 · obtain ⟨a,ns,most,rfl,_⟩:=h;rfl
 obtain ⟨a,ns,most,rfl,hS,CM,m1,m2,q⟩:=h
 refine ⟨_,(ae (av (i:=2) cA.nd rfl (Tz rfl) (pcF T.g__law_kinds (g7 T) hr (aa (pcF T.g__law_cell (cN T) hr (aa (pv 0) (aa af ac))) (aa (pcF T.g__law_names (gX T) hr (aa (pcF T.g__law_cell (cN T) hr (aa (pv 0) (aa af ac))) ac)) ac))))
  (ae (av (i:=3) cA.nd rfl (Tz rfl) (pcF T.g__law_kinds (g7 T) hr (aa (pcF T.g__law_cell (cN T) hr (aa (pv 0) (aa af ac))) (aa (pcF T.g__law_names (gX T) hr (aa (ax bG (ax bZ (pcF T.g__law_cell (cN T) hr (aa (pv 0) (aa af ac))) af) af) ac)) ac))))
  (ae (av (i:=4) cA.nd rfl (Tz rfl) (ax bG af (ax bH (pcF T.g__law_cell (cN T) hr (aa (pv 0) (aa af ac))) (pv 1))))
  (ae (av (i:=5) cA.nd rfl (Tz rfl) (pcF T.g__law_folded (k9 T) hr (aa (bq nG (pv 0) (bB af) bS) (aa (ax bG af (ax cW (pv 4) (ax bG (ay ao rfl T.n_len TU (aa (pv 2) ac)) af))) ac))))
  (ag (aC (pcF T.g__law_book (mY T) hr (aa (pv 5) (aa (pv 2) (aa (pv 3) (aa (pv 4) ac))))))))))),?_⟩
 try dsimp only [yv,xW]
 refine ⟨_,rfl,a,ns,1,rfl,hS,by decide,fun c1=>?_⟩;refine ⟨_,rfl,a,ns,0,rfl,hS,by decide,fun c0=>⟨c0,rfl,fun na ws H1 s1 Ml yL=>?_⟩⟩;refine ⟨c1,na,ws,rfl,Ml,yL,fun ia ya ins H2 s2 Fm zP gi OB=>?_⟩;have yI:=s1.trans s2;refine ⟨_,rfl,a,ns,2,rfl,yI.seq hS,by decide,fun c2=>?_⟩;refine ⟨_,rfl,a,ns,0,rfl,yI.seq hS,by decide,fun SN=>⟨_,_,rfl,rfl,⟨by decide,by decide⟩,_,_,rfl,rfl,_,rfl,fun nb wo H3 s3 RF E1=>?_⟩⟩;refine ⟨c2,nb,wo,rfl,RF,E1,fun oa yp outs H4 s4 Aq DF go SO=>?_⟩;have DJ:=s3.trans s4;have CZ:=yI.trans DJ;have zx:ins.length=ya.length:=Tp zP;refine ⟨_,rfl,a,ns,3,rfl,CZ.seq hS,by decide,fun c3=>?_⟩;have z0:=UO c3 (show most≠0 by omega);have z1:=UI c3 (show 0<most by omega);refine ⟨_,rfl,_,_,rfl,rfl,(by show 0<most;omega),_,_,rfl,rfl,?_⟩
 try dsimp only [aF]
 obtain ⟨S,Jj⟩:∃ S:Int,S=1+c3%most:=⟨_,rfl⟩;have S1:1<=S:=by omega
 have S2:S<=16:=by omega
 rw [<- Jj];refine ⟨_,rfl,4,rfl,a,_,rfl,CZ.seq hS,fun cl AA=>?_⟩;obtain ⟨cs,BM,LA⟩:=rM ns (some 4) none
 try dsimp only
 rw [BM];have s5:L2.Same H4 (upd H4 cl (.lst (cs.map V.int))):=ad AA _;have e5:(upd H4 cl (.lst (cs.map V.int))) cl=some (.lst (cs.map V.int)):=ab;generalize (upd H4 cl (.lst (cs.map V.int)))=H5 at s5 e5 ⊢;have OL:=DJ.trans s5;have MH:=OL _ _ Fm
 have MI:S * ((((ya.map V.ref).length:Nat):Int)+1)=((S.toNat * (ins.length+1):Nat):Int):=by
  rw [S6,<- zx];have:((S.toNat:Nat):Int)=S:=by omega
  simp [this]
 have SQ:S.toNat * (ins.length+1)<=100 * 5:=Nat.mul_le_mul (by omega) (by omega);refine ⟨_,rfl,_,rfl,ia,_,rfl,.inr (SqT.of MH),_,_,rfl,rfl,_,_,rfl,rfl,.inl ⟨by omega,by omega⟩,_,_,rfl,rfl,cl,cs,_,rfl,e5,by omega,by rw [MI];omega,by rw [MI];omega,fun r ds H6 s6 er BS=>?_⟩;rw [MI] at BS;have MJ:=OL.trans s6;have CK:=s5.trans s6;refine ⟨_,rfl,_,rfl,_,rfl,_,rfl,r,ia,oa,ds,ya,yp,ins,outs,S,rfl,er,MJ _ _ Fm,zP.mono (Same.kt MJ),gi,CK _ _ Aq,DF.mono (Same.kt CK),go,by omega,by omega,by omega,by omega,fun bk head rows H7 s7 JH hok OM=>?_⟩;exact q bk ins outs S head rows H7 (yI.trans (MJ.trans s7)) JH gi go (by omega) hok OM
inductive gS (P:Tv) (w:TN) (K:S8) (vs:List V) (H:Hp) (Q:VK) (_E:XK):Prop
 | mk (b:Ta) (ins outs:List (TY×Int)) (head:Th) (rows:List (List Th)) (yd:vs=[.ref b]) (ye:Bk H ins outs head rows b) (yj:FrK ins outs rows) (yq:bV outs) (yC:∀ (fl:Ta) (fs:List Ta) (f':List (aB×V)) (H':Hp),L2.Same H H'->H' fl=some (.lst (fs.map V.ref))->T3 (fun s a=>AtK K H' ((frS ins rows s).cut (Dk f' (s:Nat)) []) a) (T7 rows.length) fs->FrD ins rows (f'.map (·.1))->KeyM ins rows f'->Q (.ref fl) H'):gS P w K vs H Q _E
def no (P:Tv) (w:TN) (K:S8):Sp:=gS P w K
theorem nU:bi P w K mg base CX0 8 T.g_fronts_of.f T.g_fronts_of.d ["book"] (no P w K):=by
 refine T.g_fronts_of.F.ok fG (fun vs H Q E h=>?_) (fun yb A outer s0 H vs Q E hr h=>?_)
 · obtain ⟨b,ins,outs,head,rows,rfl,_⟩:=h;rfl
 obtain ⟨b,ins,outs,head,rows,rfl,hB,F,go,k⟩:=h
 refine ⟨_,(ae (cK (pcF T.g_found_fronts (fO T) hr (aa (pv 0) ac)) (bu rfl (au (aj (i:=1) fG.nd rfl (Tz rfl)) (au (aj (i:=2) fG.nd rfl (Tz rfl)) aX))))
  (ag (aC (pv 1)))),?_⟩
 try dsimp only [yv,xW]
 refine ⟨_,rfl,b,ins,outs,head,rows,rfl,hB,F,go,fun r fl pt fs f' H1 s1 er zE Ay FW hD hK=>?_⟩;exact ⟨r,_,rfl,SqT.of er,rfl,_,_,rfl,_,_,rfl,rfl,_,rfl,k fl fs f' H1 s1 zE Ay hD hK⟩
def cY (t:Th):List (List Int):=((t.pl []).filter fun p=>p.2.isHole).map (·.1)
theorem lq (t:Th):(cY t).length<=t.size:=by
 unfold cY;rw [S6];have:=V3 (fun p:List Int×Th=>p.2.isHole) (t.pl []);rw [Th.pl_len] at this;exact this
theorem kD {t:Th} {pl:List Int}:pl∈cY t↔∃ v,In t pl v/\v.isHole=true:=by
 unfold cY;constructor
 · intro h;obtain ⟨x,hx,rfl⟩:=Um.mp h;obtain ⟨h1,h2⟩:=Vb.mp hx;exact ⟨x.2,In.of _ (Td _) h1,h2⟩
 · rintro ⟨v,h1,h2⟩;exact Um.mpr ⟨(pl,v),Vb.mpr ⟨In.to h1,h2⟩,rfl⟩
theorem rp {D:List Int->Bool}:∀ (n:Nat) (t:Th) (pre pl:List Int) (v:Th),t.size<=n->t.noCall->In (t.cut D pre) pl v->v.isHole=true->D (pre++pl)=true∨∃ u,In t pl u/\u.isHole=true
 | 0,t,_,_,_,hn=>by have:=t.size_pos;omega
 | n+1,.call a b,_,_,_,_=>fun h=>by rw [Th.noCall] at h;exact h.elim
 | n+1,.knot m ks,pre,pl,v,hn=>fun hc hi hh=>by
   rw [Th.cut] at hi;by_cases hq:(Th.knot m ks).isHole=true∨D pre=true
   · rw [if_pos hq,hole] at hi;cases hi with
     | here =>
       rcases hq with h | h
       · exact .inr ⟨_,.here,h⟩
       · exact .inl (by rw [Ui];exact h)
     | kid hj _=>simp at hj
   · rw [if_neg hq] at hi;cases hi with
     | here =>
       exfalso;refine hq (.inl ?_);rw [Th.isHole,decide_eq_true_iff] at hh ⊢;refine ⟨hh.1,UZ.mp ?_⟩;rw [<- i8 (D:=D) (pre:=pre) (i:=0),hh.2];rfl
     | kid hj hr =>
       rename_i j u r
       rw [iZ,T4] at hj;obtain ⟨w,hw,rfl⟩:=hj;rw [Th.size] at hn;rw [Th.noCall] at hc;have hz:=aQ (Tb hw);rcases rp n w _ r v (by omega) (dh hc (Tb hw)) hr hh with h | ⟨u,h1,h2⟩
       · refine .inl ?_;rw [U7,UB] at h;exact h
       · exact .inr ⟨u,.kid hw h1,h2⟩
theorem oD (D:List Int->Bool):∀ (n:Nat) (t:Th) (pre:List Int),t.size<=n->(t.cut D pre).tall<=t.tall
 | 0,t,_,hn=>by have:=t.size_pos;omega
 | n+1,.call a b,pre,hn=>by rw [Th.cut,hole,Th.tall,Th.tall,bD];exact Td _
 | n+1,.knot m ks,pre,hn=>by
   rw [Th.cut];split
   · rw [hole,Th.tall,Th.tall,bD];omega
   · rw [Th.size] at hn;rw [Th.tall,Th.tall]
     have:bD (dS D pre 0 ks)<=bD ks:=mI fun t ht=>by
      obtain ⟨j,hj⟩:=TJ.mp ht;rw [iZ,T4] at hj;obtain ⟨u,hu,rfl⟩:=hj;have hm:=Tb hu;have h1:=aQ hm;have h2:=bW hm;have h3:=oD D n u (pre++[0+(j:Int)]) (by omega);omega
     omega
def PrL (H:Hp) (R:Nat->List Int->Th->Th->Prop) (fr:Nat->Th) (N:Nat) (pl:Ta) (ls:List Ta):Prop:=H pl=some (.lst (ls.map V.ref))/\T3 (fun s la=>∃ prs:List Ta,H la=some (.lst (prs.map V.ref))/\T3 (fun h pr=>PtV H (R s h) (.ref pr)) (cY (fr s)) prs) (T7 N) ls
def Rp (ins:List (TY×Int)) (rows:List (List Th)) (M:Nat) (s:Nat) (h:List Int) (t1 t2:Th):Prop:=∃ j,j<M/\Vl0 ins rows j (nk (s:Nat) h) t1 t2
theorem mB {α:Type} {f:α->V} {R:α->Ta->Prop}:∀ {zs:List α},(∀ z∈zs,∃ a,f z=.ref a/\R z a)->∃ as:List Ta,zs.map f=as.map V.ref/\T3 R zs as
 | [],_=>⟨[],rfl,.nil⟩
 | z::zs,h=>by
   refine hid fun ZZ kZ=>?_;obtain ⟨a,h1,h2⟩:=h z (T1 ..);obtain ⟨as,h3,h4⟩:=mB (zs:=zs) fun y hy=>h y (TQ _ hy);refine kZ ?_;exact ⟨a::as,by rw [Up,Up,h1,h3],.cons h2 h4⟩
inductive fP (P:Tv) (w:TN) (K:S8) (vs:List V) (H:Hp) (Q:VK) (_E:XK):Prop
 | mk (b:Ta) (ins outs:List (TY×Int)) (head:Th) (rows:List (List Th)) (yd:vs=[.ref b]) (ye:Bk H ins outs head rows b) (yj:FrK ins outs rows) (yq:bV outs) (yC:∀ (pl:Ta) (ls:List Ta) (f':List (aB×V)) (H':Hp),L2.Same H H'->FrD ins rows (f'.map (·.1))->KeyM ins rows f'->PrL H' (Rp ins rows (fw ins rows).length) (fun s=>(frS ins rows s).cut (Dk f' (s:Nat)) []) rows.length pl ls->Q (.ref pl) H'):fP P w K vs H Q _E
def kX (P:Tv) (w:TN) (K:S8):Sp:=fP P w K
set_option maxHeartbeats 1000000 in
theorem kq:bi P w K mg base CX0 8 T.g_partings_of.f T.g_partings_of.d ["book"] (kX P w K):=by
 refine T.g_partings_of.F.ok bX (fun vs H Q E h=>?_) (fun yb A outer s0 H vs Q E hr h=>?_)
 · obtain ⟨b,ins,outs,head,rows,rfl,_⟩:=h;rfl
 obtain ⟨b,ins,outs,head,rows,rfl,hB,F,go,k⟩:=h
 refine ⟨_,(ae (cK (pcF T.g_found_fronts (fO T) hr (aa (pv 0) ac)) (bu rfl (au (aj (i:=1) bX.nd rfl (Tz rfl)) (au (aj (i:=2) bX.nd rfl (XE rfl)) aX))))
  (ae (av (i:=3) bX.nd rfl (Tz rfl) (bw ac))
  (ae (bv T2 rfl (kY rfl T.n_enumerate (pv 1)) (bu rfl (au (aj (i:=4) bX.nd rfl (XE rfl)) (au (aj (i:=5) bX.nd rfl (Tz rfl)) aX))) (ag (aP (bJ Tr TM TL aN (pv 3) (aa (cw (N:=[Ti "place",Ti "partings",Ti "state"]) (js:=[none,some 2,some 4]) (g:=(aF 0)) (tt:=bP) (te:=(sS P w (bC 1) (jS (bA (bC 2) (bA (bC 0) dU))))) rfl (cG rfl (by decide +kernel) (by decide +kernel) rfl rfl rfl) (ck (pcF T.g_holes_in (jH T) hr (aa (pv 5) ac))) (fun _ _ _ _ _ _=>(aj (i:=0) wv rfl (Tz rfl))) (aS rfl) (fun _ _ _ _ _ _=>bT) (fun _ _ _ _ _ _=>(n5 (f6 hr) (pv 1) (aJ (aa (pv 2) (aa (pv 0) ac))) (fun _ _=>rfl)))) ac)))))
  (ag (aC (pv 3)))))),?_⟩
 try dsimp only [yv,xW]
 refine ⟨_,rfl,b,ins,outs,head,rows,rfl,hB,F,go,fun r fl pt fs f' H1 s1 er zE Ay FW hD hK=>?_⟩;refine ⟨r,_,rfl,SqT.of er,rfl,_,_,rfl,_,_,rfl,rfl,?_⟩;have hle:=F.le;have Ac:(T7 rows.length).length=fs.length:=Tp Ay;rw [T8] at Ac;refine ⟨ai (by show 0<=1000000;decide),fun tl yy=>?_⟩;have RG:H tl=none:=s1.free yy;have s2:L2.Same H1 (upd H1 tl (.lst [])):=ad yy _;have e2:(upd H1 tl (.lst [])) tl=some (.lst []):=ab;generalize (upd H1 tl (.lst []))=H2 at s2 e2 ⊢;refine ⟨_,rfl,fl,rfl,⟨_,SqL.of (s2 _ _ zE)⟩,?_⟩
 refine mo (K:=K) (a:=fl) (xs:=fs.map V.ref) (fun i σ H3=>Ex3 fun (c4 c5:Option V) (ls:List Ta)=>An4 (σ=[some (.ref b),some (.ref fl),some (.ref pt),some (.ref tl),c4,c5]) (L2.Same H1 H3) (H3 tl=some (.lst (ls.map V.ref))) (T3 (fun s la=>la≠tl/\∃ prs:List Ta,H3 la=some (.lst (prs.map V.ref))/\T3 (fun h pr=>PtV H3 (Rp ins rows (fw ins rows).length s h) (.ref pr)) (cY ((frS ins rows s).cut (Dk f' (s:Nat)) [])) prs) (T7 i) ls))
  ⟨none,none,[],rfl,s2,e2,.nil⟩ (fun i σ H3 _ ⟨_,_,_,_,s3,_,_⟩=>SqL.of (s3 _ _ zE)) ?_ ?_
 · rintro i x pr σ H3 hx zk ⟨c4,c5,ls,rfl,s3,e3,AB⟩;obtain ⟨fa,rfl,yP⟩:=aU hx;have zx:=(Te.mp yP).1;have El:i<rows.length:=by omega
   obtain ⟨s',yX,zD⟩:=P2.get' Ay yP;rw [Ux El] at yX;cases yX;obtain ⟨z1,z2,z3⟩:=pJ F El;have SR:=ki (Dk f' (i:Nat)) _ (frS ins rows i) [] (Td _);have SS:=oD (Dk f' (i:Nat)) _ (frS ins rows i) [] (Td _);have s4:L2.Same H3 (upd H3 pr (.tup [.int ((i:Nat):Int),.ref fa])):=ad zk _;have e4:(upd H3 pr (.tup [.int ((i:Nat):Int),.ref fa])) pr=some (.tup [.int ((i:Nat):Int),.ref fa]):=ab;generalize (upd H3 pr (.tup [.int ((i:Nat):Int),.ref fa]))=H4 at s4 e4 ⊢;refine ⟨pr,_,rfl,SqT.of e4,rfl,_,_,rfl,_,_,rfl,rfl,?_⟩;dsimp only [aF];have CZ:=s3.trans s4;refine ⟨_,rfl,.inl ⟨rfl,_,SqL.of (s4 _ _ e3)⟩,_,rfl,fa,_,rfl,zD.mono (Same.kt CZ),by omega,by omega,fun hl bs H5 s5 E7 yw=>?_⟩;have ON:=CZ.trans s5;have IF:T3 (fun (p:List Int) b=>H5 b=some (.tup (p.map V.int))) (cY ((frS ins rows i).cut (Dk f' (i:Nat)) [])) bs:=yw;have zy:(cY ((frS ins rows i).cut (Dk f' (i:Nat)) [])).length=bs.length:=Tp IF;have Ef:=lq ((frS ins rows i).cut (Dk f' (i:Nat)) []);have DK:=FW.same ON
   have zF:∀ h∈cY ((frS ins rows i).cut (Dk f' (i:Nat)) []),∃ pr,aV f' (nk (i:Nat) h)=some (.ref pr)/\PtV H5 (Rp ins rows (fw ins rows).length i h) (.ref pr):=fun h hh=>by
    obtain ⟨v,IG,JT⟩:=kD.mp hh
    have hm:nk (i:Nat) h∈f'.map (·.1):=by
     rcases rp _ _ [] h v (Td _) z3 IG JT with hd | ⟨u,h1,h2⟩
     · exact pN.mp hd
     · exact hD.hol i El (h,u) (In.to h1) h2
    obtain ⟨j,hj⟩:=TJ.mp hm;rw [Tn,T4] at hj;obtain ⟨kv,FR,HM⟩:=hj;obtain ⟨p0,ta,tb,t1,t2,ev,q1,q2,q3,q4⟩:=DK.vl j kv FR;have AU:=(Te.mp FR).1;have hlen:=DK.len;rw [HM] at q4;refine ⟨p0,?_,p0,ta,tb,t1,t2,rfl,q1,q2,q3,j,by omega,q4⟩;cases Dy:aV f' (nk (i:Nat) h) with
    | none=>exact absurd hm (cZ Dy)
    | some v' =>
      rw [<- HM] at Dy;rw [rc DK.nd FR Dy,ev]
   refine ⟨hl,rfl,⟨_,SqL.of E7⟩,nB (cY ((frS ins rows i).cut (Dk f' (i:Nat)) [])) (fun h=>(aV f' (nk (i:Nat) h)).getD .non) (SqL.of E7) (by rw [S6];exact zy) (by rw [S6];omega) (fun j x z H6 R W' hx hz s6 hR=>?_) (fun D H6 OO s6 e6=>?_)⟩
   · obtain ⟨pb,rfl,Bn⟩:=aU hx;have FP:=ja IF hz Bn;obtain ⟨p0,hv,_⟩:=zF z (Tb hz);refine ⟨_,rfl,_,rfl,_,rfl,ai (by show 2<=1000000;decide),fun kp BA=>?_⟩;have s7:L2.Same H6 (upd H6 kp (.tup [.int ((i:Nat):Int),.ref pb])):=ad BA _;refine ⟨pt,kp,nk (i:Nat) z,f',.ref p0,rfl,rfl,DK.dm.mono (s6.trans s7),kW ab ((s6.trans s7) _ _ FP),hv,?_⟩;have:=hR _ s7;rw [hv] at this;exact this
   · have yk:D≠tl:=fun z=>by rw [z,(s4.trans s5) _ _ e3] at OO;cases OO
     have FY:=ON.trans s6
     obtain ⟨prs,ep,hp⟩:∃ prs:List Ta,(cY ((frS ins rows i).cut (Dk f' (i:Nat)) [])).map (fun h=>(aV f' (nk (i:Nat) h)).getD .non)=prs.map V.ref/\T3 (fun h pr=>PtV H6 (Rp ins rows (fw ins rows).length i h) (.ref pr)) (cY ((frS ins rows i).cut (Dk f' (i:Nat)) [])) prs :=
      mB fun h hh=>by
       obtain ⟨p0,h1,h2⟩:=zF h hh;exact ⟨p0,by rw [h1];rfl,h2.mono (Same.kt s6)⟩
     rw [ep] at e6;have OP:=(s4.trans (s5.trans s6)) _ _ e3;have EK:(T7 i).length=ls.length:=Tp AB;rw [T8] at EK;refine ⟨tl,_,_,rfl,rfl,OP,aH (by rw [S6];omega),?_⟩;have k7:KT H6 (upd H6 tl (.lst (ls.map V.ref++[.ref D]))):=aT OP;refine ⟨_,_,ls++[D],rfl,aw FY yy,by rw [ab,Tu];rfl,?_⟩;rw [Yi];refine P2.append (P2.mp (fun s la ⟨h1,MK,h2,h3⟩=>⟨h1,MK,by rw [ak h1];exact (s4.trans (s5.trans s6)) _ _ h2,P2.mp (fun _ _ e=>(e.mono (Same.kt (s4.trans (s5.trans s6)))).mono k7) h3⟩) AB) (.cons ⟨yk,prs,by rw [ak yk];exact e6,P2.mp (fun _ _ e=>e.mono k7) hp⟩ .nil)
 · rintro σ H3 ⟨c4,c5,ls,rfl,s3,e3,AB⟩;rw [S6,<- Ac] at AB;exact ⟨_,rfl,k tl ls f' H3 (s1.trans s3) hD hK ⟨e3,P2.mp (fun _ _ ⟨_,h⟩=>h) AB⟩⟩
mutual
def Th.Fo (outs:List (TY×Int)):Th->Prop
 | .knot n ks=>(n=star/\ks=[])∨((n,(ks.length:Int))∈outs/\n≠star/\Fos outs ks)
 | .call _ _=>False
def Fos (outs:List (TY×Int)):List Th->Prop
 | []=>True
 | t::ts=>Th.Fo outs t/\Fos outs ts
end
theorem iW {outs:List (TY×Int)}:∀ {ts:List Th} {t:Th},Fos outs ts->t∈ts->Th.Fo outs t
 | [],t,_,h=>(Wm h).elim
 | u::ts,t,h,hm=>by
   rw [Fos] at h;rcases TF.mp hm with rfl | hm
   · exact h.1
   · exact iW h.2 hm
theorem nn {outs:List (TY×Int)}:∀ {ts:List Th},(∀ t∈ts,Th.Fo outs t)->Fos outs ts
 | [],_=>by rw [Fos];trivial
 | t::ts,h=>by rw [Fos];exact ⟨h t (T1 ..),nn fun u hu=>h u (TQ _ hu)⟩
def cX (K:S8):Nat->Sp
 | 0=>fun _ _ _ _=>False
 | n+1=>fun vs H Q _=>∃ (oa x:Ta) (yp:List Ta) (outs:List (TY×Int)) (f:Th),vs=[.ref oa,.ref x]/\H oa=some (.tup (yp.map V.ref))/\KsAt H outs yp/\AtK K H f x/\Th.Fo outs f/\f.size<=1000/\f.tall<=n+1/\∀ H',L2.Same H H'->Q (.bl true) H'
set_option maxHeartbeats 1000000 in
theorem eR:∀ n:Nat,bi P w K mg base CX0 n T.g__law_is_front.f T.g__law_is_front.d ["outs","front"] (cX K n)
 | 0=>⟨fun _ _ _ _ h=>h.elim,fun _ _ _ _ _ _ _ _ _ _ _ _ _ h=>h.elim⟩
 | n+1=>by
   have ih:=eR n;refine T.g__law_is_front.F.ok jy (fun vs H Q E h=>?_) (fun yb A outer s H vs Q E hr h=>?_)
   · obtain ⟨oa,x,yp,outs,f,rfl,_⟩:=h;rfl
   obtain ⟨oa,x,yp,outs,f,rfl,eo,Ai,hx,hF,hsz,yy,k⟩:=h
   refine ⟨_,(ae (bE (PW.pt (dL (dO (aY (ay (sE (T:="tuple")) rfl T.n_isinstance UR (aa (pv 1) (aa (ef (v:=.ty "tuple") rfl T.n_tuple U9 rfl) ac))) (fun _=>rfl))) (dL (aK cM (ay ao rfl T.n_len TU (aa (pv 1) ac)) af (aO _)) (dQ (dO (aY (ay (cE (T:="str")) rfl T.n_isinstance UR (aa (az aD (pv 1) af (fun _ _=>rfl)) (aa (ef (v:=.ty "str") rfl T.n_str PyProof.Rows.boot_str rfl) ac))) (fun _=>rfl))))))) (ag (aC d4)) bj)
    (ae (bE (aK cM (az aD (pv 1) af (fun _ _=>rfl)) gg (aO _)) (ag (aC (iY cM (ay ao rfl T.n_len TU (aa (pv 1) ac)) af (aO _)))) bj)
    (ae (bE (aK (mO (B:=50) (qT hr)) (aJ (aa (az aD (pv 1) af (fun _ _=>rfl)) (aa (ax fT (ay ao rfl T.n_len TU (aa (pv 1) ac)) af) ac))) (pv 0) (by with_unfolding_all rfl)) (ag (aC d4)) bj)
    (ag (aC (ay (pf rfl) rfl T.n_all PyProof.Rows.boot_all (aa (cw (N:=[Ti "part",Ti "outs"]) (js:=[none,some 0]) (g:=(aF 0)) (tt:=bP) (te:=(g9 (cX K _) [] E0 (bA (bC 1) (bA (bC 0) dU)))) rfl (cG rfl (by decide +kernel) (by decide +kernel) rfl rfl rfl) (jz (bq eO (pv 1) (bB af) bS)) (fun _ _ _ _ _ _=>(aj (i:=0) wU rfl (Tz rfl))) (aS rfl) (fun _ _ _ _ _ _=>bT) (fun _ _ _ _ _ _=>(gH (ih) (hr.mono (Td _)) rfl T.g__law_is_front.m T.g__law_is_front.F.kp T.g__law_is_front.b .nil mj (aa (pv 1) (aa (pv 0) ac))))) ac))))))),?_⟩
   try dsimp only [yv,xW]
   cases f with
   | call s k=>rw [Th.Fo] at hF;exact hF.elim
   | knot nm ks =>
   rw [AtK] at hx;refine hid fun ZZ kZ=>?_;obtain ⟨ML,ka,ea,yT⟩:=hx;refine kZ ?_;have y4:ka.length=ks.length:=yT.length;have GZ:=bL ks;rw [Th.size] at hsz;rw [Th.tall] at yy;rw [Th.Fo] at hF;have hle:outs.length=yp.length:=Tp Ai;have el:(((V.str nm::ka.map V.ref).length:Nat):Int)=(ks.length:Int)+1:=by rw [To,S6,y4];omega
   refine ⟨_,rfl,.inr ⟨_,_,_,rfl,ea.sq,pV,_,rfl,?_⟩⟩;refine cO ?_;refine ⟨_,rfl,x,_,rfl,.inr ea.sq,rfl,_,rfl,?_⟩;rw [el,decide_eq_false (show V.int ((ks.length:Int)+1)≠V.int 0 from fun z=>by have:=V.int.inj z;omega)];refine cO ?_;refine ⟨_,rfl,x,_,0,.str nm,rfl,rfl,ea.sq,at0,_,_,_,rfl,.str nm,tJ,_,rfl,?_⟩;refine cO ?_;refine ⟨_,rfl,x,_,0,.str nm,rfl,rfl,ea.sq,at0,rfl,_,rfl,?_⟩;refine cQ (fun c1=>?_) (fun c1=>?_)
   · have yQ:nm=star:=V.str.inj (of_decide_eq_true c1);rcases hF with ⟨_,rfl⟩ | ⟨_,h,_⟩
     · refine ⟨_,rfl,x,_,rfl,.inr ea.sq,rfl,?_⟩;rw [el];exact k H (.refl _)
     · exact absurd yQ h
   rcases hF with ⟨h,_⟩ | ⟨zq,CM,zK⟩
   · exact absurd (by rw [h];exact decide_eq_true rfl) c1
   refine ⟨_,rfl,x,_,0,.str nm,rfl,rfl,ea.sq,at0,_,rfl,x,_,rfl,.inr ea.sq,_,_,rfl,rfl,ai (by show 2<=1000000;decide),fun p hp=>?_⟩;rw [el];have C8:(ks.length:Int)+1 - 1=(ks.length:Int):=by omega
   dsimp only;rw [C8];have s1:L2.Same H (upd H p (.tup [.str nm,.int (ks.length:Int)])):=ad hp _;have e1:(upd H p (.tup [.str nm,.int (ks.length:Int)])) p=some (.tup [.str nm,.int (ks.length:Int)]):=ab;generalize (upd H p (.tup [.str nm,.int (ks.length:Int)]))=H1 at s1 e1 ⊢;have Ct:=kQ outs;refine ⟨_,rfl,oa,_,kDv (nm,(ks.length:Int)),outs.map kDv,rfl,SqT.of (s1 _ _ eo),?_,sR (Ai.mono (Same.kt s1)),by omega,fun r Bx=>⟨_,rfl,?_⟩⟩
   · rw [kDv,DAt];exact ⟨_,_,rfl,e1,.cons (by rw [DAt]) (.cons (by rw [DAt]) .nil)⟩
   have MM:r=false:=by
    cases r with
    | false=>rfl
    | true=>exact absurd (List.mem_map_of_mem zq) (Bx.mp rfl)
   subst MM;refine cO ?_;have Mw:=ea.mono (Same.kt s1);refine ⟨_,rfl,1,rfl,x,_,rfl,Mw.sq,?_,fun p3 HY=>?_⟩
   · rintro ⟨z,_⟩;rw [To,show (1:Int)=((1:Nat):Int) by rfl,HT.sIx_nat] at z;omega
   dsimp only;rw [dA];have s2:L2.Same H1 (upd H1 p3 (.tup (ka.map V.ref))):=ad HY _;have e2:(upd H1 p3 (.tup (ka.map V.ref))) p3=some (.tup (ka.map V.ref)):=ab;generalize (upd H1 p3 (.tup (ka.map V.ref)))=H2 at s2 e2 ⊢;have AD:=s1.trans s2;refine ⟨p3,rfl,⟨_,SqT.of e2⟩,?_⟩;intro D hD;refine ⟨ks.length,fun j H3=>An3 (j<=ks.length) (L2.Same H2 H3) (H3 D=some (.lst ((Vm j true).map V.bl))),⟨TZ _,ad hD _,ab⟩,?_⟩;rintro j H3 ⟨hj,s3,eD⟩;by_cases Bz:j=ks.length
   · left;refine ⟨⟨_,SqT.of (s3 _ _ e2),by rw [S6,y4,Bz];exact Td _⟩,?_⟩;refine ⟨D,Vm j true,rfl,SqL.of eD,?_⟩;rw [show (Vm j true).all id=true from Wn.mpr fun b hb=>(List.mem_replicate.mp hb).2];exact k H3 (AD.trans s3)
   · right;have yn:j<ks.length:=by omega
     refine hid fun ZZ kZ=>?_;obtain ⟨f,hf⟩:∃ f,ks[j]?=some f:=⟨_,S9 yn⟩;obtain ⟨fa,yP,RH⟩:=yT.at hf;refine kZ ?_;have MN:f∈ks:=Tb hf;have h1:=bW MN;have h2:=aQ MN;have h3:=f.tall_eq;refine ⟨yn,⟨_,.ref fa,SqT.of (s3 _ _ e2),by rw [Tn,yP];rfl⟩,?_⟩;rintro x' H4 ⟨Af,hv⟩;have Fs:H4=H3:=Af;subst Fs;have yM:=hv _ (SqT.of (s3 _ _ e2));rw [Tn,yP] at yM;cases yM;have E2:=AD.trans s3;obtain ⟨m,rfl⟩:∃ m,n=m+1:=⟨n - 1,by omega⟩;refine ⟨_,rfl,_,rfl,oa,fa,yp,outs,f,rfl,E2 _ _ eo,Ai.mono (Same.kt E2),RH.mono (Same.kt E2),iW zK MN,by omega,by omega,fun H5 s5=>?_⟩;have MO:=s5 _ _ eD;refine ⟨_,MO,aH (by rw [S6,WB];omega),yn,aw (s3.trans s5) hD,?_⟩;rw [ab,List.replicate_succ',Tu];rfl
theorem km (pre:List Int):∀ (a b:List Th) (i:Int),pls pre i (a++b)=pls pre i a++pls pre (i+(a.length:Int)) b
 | [],b,i=>by rw [Vy,pls,Vy];simp
 | t::a,b,i=>by
   rw [Vr,pls,pls,km pre a b (i+1),UB,To];rw [show i+1+(a.length:Int)=i+((a.length+1:Nat):Int) by omega]
def lO (ks:List Th) (i:Nat):List (List Int):=((pls [] 0 (ks.take i)).filter fun p=>p.2.isHole).map (·.1)
theorem mf (ks:List Th):lO ks 0=[]:=by unfold lO;rw [Wl,pls];rfl
theorem mC {ks:List Th} {i:Nat} {u:Th} (h:ks[i]?=some u):lO ks (i+1)=lO ks i++(cY u).map fun p=>(i:Int)::p:=by
 have hi:=(Te.mp h).1;unfold lO cY;rw [take_snoc h,km,Xb,Tu,pls,pls,Ui,Uc,Xy (by omega),U7];have e:=pL u [(i:Int)] [];rw [Ui] at e;rw [Vy,e,List.filter_map,Vv,Vv];rfl
theorem sF {n:TY} {ks:List Th} (h:(Th.knot n ks).isHole=false):cY (.knot n ks)=lO ks ks.length:=by
 unfold cY lO;rw [UT (Td _),Th.pl,Vf,if_neg (by rw [h];exact TH)]
theorem rX:cY hole=[[]]:=by
 unfold cY;rw [hole,Th.pl,pls,Vf,if_pos (by exact jL)];rfl
inductive fZ (K:S8) (n:Nat) (vs:List V) (H:Hp) (Q:VK) (_E:XK):Prop
 | mk (a:Ta) (t:Th) (outs:List (TY×Int)) (yd:vs=[.ref a]) (ye:AtK K H t a) (yj:Th.Fo outs t) (yq:t.tall<=n) (yC:t.size<=1000) (zj:∀ (r:Ta) (bs:List Ta) (H':Hp),L2.Same H H'->H r=none->H' r=some (.lst (bs.map V.ref))->T3 (PlAt H') (cY t) bs->Q (.ref r) H'):fZ K n vs H Q _E
def lQ (K:S8) (n:Nat):Sp:=fZ K n
set_option maxHeartbeats 1000000 in
theorem eG:∀ n:Nat,bi P w K mg base CX0 n T.g__law_holes.f T.g__law_holes.d ["front"] (lQ K n)
 | 0=>⟨fun _ _ _ _ h=>by obtain ⟨_,t,_,_,_,_,h1,_⟩:=h;have:=t.tall_eq;omega,fun _ _ _ _ _ _ _ _ _ _ _ _ _ h=>by obtain ⟨_,t,_,_,_,_,h1,_⟩:=h;have:=t.tall_eq;omega⟩
 | n+1=>by
   have ih:=eG n;refine T.g__law_holes.F.ok df (fun vs H Q E h=>?_) (fun yb A outer s H vs Q E hr h=>?_)
   · obtain ⟨a,t,outs,rfl,_⟩:=h;rfl
   obtain ⟨a,t,outs,rfl,hA,hF,yy,hsz,q⟩:=h
   refine ⟨_,(ae (bE (aK cM (az aD (pv 0) af (fun _ _=>rfl)) gg (aO _)) (ag (aC (bw (aa (aJ ac) ac)))) bj)
    (ae (av (i:=1) df.nd rfl (Tz rfl) (bw ac))
    (ae (bv T2 rfl (ji rfl T.n_range (aa af (aa (ay ao rfl T.n_len TU (aa (pv 0) ac)) ac))) (aj (i:=2) df.nd rfl (XE rfl)) (ag (av (i:=1) df.nd rfl (Tz rfl) (ax tY (pv 1) (cw (N:=[Ti "place",Ti "k"]) (js:=[none,some 2]) (g:=(aF 0)) (tt:=bP) (te:=(tOp (kb K) (jS (bA (tOp (rI0 fun i j=>.int (i - j)) (bC 1) (tC (.int 1))) dU)) (bC 0))) rfl (cG rfl (by decide +kernel) (by decide +kernel) rfl rfl rfl) (ck (gH (ih) (hr.mono (Td _)) rfl T.g__law_holes.m T.g__law_holes.F.kp T.g__law_holes.b .nil mj (aa (az aD (pv 0) (pv 2) (fun _ _=>rfl)) ac))) (fun _ _ _ _ _ _=>(aj (i:=0) vC rfl (Tz rfl))) (aS rfl) (fun _ _ _ _ _ _=>bT) (fun _ _ _ _ _ _=>(ax de (aJ (aa (ax fT (pv 1) af) ac)) (pv 0))))))))
    (ag (aC (pv 1)))))),?_⟩
   try dsimp only [yv,xW]
   cases t with
   | call s k=>rw [Th.Fo] at hF;exact hF.elim
   | knot nm ks =>
   have CS:=hA;rw [AtK] at hA;refine hid fun ZZ kZ=>?_;obtain ⟨ML,yl,ea,yF⟩:=hA;refine kZ ?_;have y4:yl.length=ks.length:=yF.length;have zK:=bL ks;rw [Th.size] at hsz;rw [Th.tall] at yy;refine ⟨_,rfl,a,_,0,.str nm,rfl,rfl,ea.sq,at0,rfl,_,rfl,?_⟩;rw [Th.Fo] at hF;refine cQ (fun c1=>?_) (fun c1=>?_)
   · have yQ:nm=star:=V.str.inj (of_decide_eq_true c1);rcases hF with ⟨_,rfl⟩ | ⟨_,h,_⟩
     · refine ⟨ai (by show 0<=1000000;decide),fun ep Mr=>?_⟩;refine ⟨ai (by show 1<=1000000;decide),fun fl Ac=>?_⟩;have s1:L2.Same H (upd H ep (.tup [])):=ad Mr _;have s2:=ad Ac (.lst [.ref ep]);refine q fl [ep] _ (s1.trans s2) (s1.free Ac) ab ?_;rw [yQ];show T3 _ (cY hole) _;rw [rX];exact .cons (s2 _ _ ab) .nil
     · exact absurd yQ h
   rcases hF with ⟨h,_⟩ | ⟨zq,CM,RI⟩
   · exact absurd (by rw [h];exact decide_eq_true rfl) c1
   have C7:(Th.knot nm ks).isHole=false:=by rw [Th.isHole,decide_eq_false_iff_not];exact fun z=>CM z.1
   refine ⟨ai (by show 0<=1000000;decide),fun fl Ac=>?_⟩;have s2:L2.Same H (upd H fl (.lst [])):=ad Ac _;have e2:(upd H fl (.lst [])) fl=some (.lst (([]:List Ta).map V.ref)):=ab
   try dsimp only [aF]
   generalize (upd H fl (.lst []))=H2 at s2 e2 ⊢;refine ⟨_,rfl,a,_,rfl,.inr ((ea.mono (Same.kt s2)).sq),1,_,rfl,⟨by decide,by decide,by rw [To,S6];omega,by rw [To,S6];omega⟩,?_⟩;have En:((((V.str nm::yl.map V.ref).length:Nat):Int) - 1).toNat=ks.length:=by rw [To,S6];omega
   rw [En]
   refine bF (n:=ks.length) (fun i σ H3=>Ex3 fun (kv:Option V) (fl:Ta) (bs:List Ta)=>An6 (σ=[some (.ref a),some (.ref fl),kv]) (L2.Same H H3) (H fl=none) (H3 fl=some (.lst (bs.map V.ref))) (T3 (PlAt H3) (lO ks i) bs) ((lO ks i).length<=aq (ks.take i)))
    ⟨none,fl,[],rfl,s2,Ac,e2,by rw [mf];exact .nil,by rw [mf];exact TZ _⟩ ?_ ?_
   · rintro i σ H3 hi ⟨kv,fl,bs,rfl,s3,Em,e3,yH,yV⟩;have yA:i<ks.length:=hi;have FK:=ea.mono (Same.kt s3);refine hid fun ZZ kZ=>?_;obtain ⟨u,hu⟩:∃ u,ks[i]?=some u:=⟨_,S9 yA⟩;obtain ⟨ka,yT,Iw⟩:=yF.at hu;refine kZ ?_;have F2:=Tb hu;have Jx:=bW F2;have Rq:=aQ F2
     have yQ:aq (ks.take i)+u.size<=aq ks:=by
      have h1:aq (ks.take (i+1))+aq (ks.drop (i+1))=aq ks:=by rw [<- bd,List.take_append_drop]
      rw [take_snoc hu,bd,aq,aq] at h1;omega
     refine ⟨_,rfl,_,rfl,_,rfl,a,_,_,.ref ka,rfl,rfl,FK.sq,at_nonneg (by omega) (by rw [show (1+(i:Int)).toNat=i+1 by omega,Uy,Tn,yT];rfl),ka,u,outs,rfl,Iw.mono (Same.kt s3),iW RI F2,by omega,by omega,fun r Ba H4 s4 nr er CH=>?_⟩;have DE:(cY u).length=Ba.length:=Tp CH;have zy:(lO ks i).length=bs.length:=Tp yH;have NK:=lq u;refine ⟨r,rfl,⟨_,SqL.of er⟩,iX (F:=PlAt) (xs:=Ba.map V.ref) ((cY u).map fun p=>(i:Int)::p) (fun H1 H2 z p kt h=>h.mono kt) (by rw [S6,S6];exact DE) (by rw [S6];omega) (fun j Hx sx hj=>⟨_,_,SqL.of (sx _ _ er),S9 hj⟩) (fun Hx sx=>⟨_,SqL.of (sx _ _ er),Td _⟩) (fun j Hx x Hy sx hj hy=>⟨hy.1,hy.2 _ (SqL.of (sx _ _ er))⟩) (fun j x z Hx R W' hx Au sx hR=>?_) (fun D H5 CI hD s5 eD AY=>?_)⟩
     · obtain ⟨pb,rfl,Bn⟩:=aU hx;rw [Tn] at Au;obtain ⟨p,hp,rfl⟩:=T4.mp Au;have Mt:PlAt Hx p pb:=(ja CH hp Bn).mono (Same.kt sx);obtain ⟨v,IG,JT⟩:=kD.mp (Tb hp);have Fl:=oX _ u [] (Td _) _ (In.to IG);have Mu:=cF u;rw [V9] at Fl;dsimp only at Fl;refine ⟨_,rfl,_,_,rfl,rfl,ai (by show 1<=1000000;decide),fun k1 JM=>?_⟩;have t1:L2.Same Hx (upd Hx k1 (.tup [.int (1+(i:Int) - 1)])):=ad JM _;have f1:(upd Hx k1 (.tup [.int (1+(i:Int) - 1)])) k1=some (.tup [.int (i:Int)]):=by rw [ab,show 1+(i:Int) - 1=(i:Int) by omega]
       try dsimp only
       generalize (upd Hx k1 (.tup [.int (1+(i:Int) - 1)]))=Hy at t1 f1 ⊢;refine ⟨_,rfl,?_⟩;refine lK f1 (t1 _ _ Mt) (by rw [S6];show 1+p.length<=1000000;omega) fun p3 H7 s7 e7=>?_;exact hR H7 p3 (t1.trans s7) e7
     have CJ:((cY u).map fun p=>(i:Int)::p).length=CI.length:=Tp AY;rw [S6] at CJ;have Mv:=(s4.trans s5) _ _ e3;refine ⟨fl,D,_,_,rfl,rfl,Mv,eD,ai (by rw [S6,S6];omega),fun nl Dx=>?_⟩;have s6:L2.Same H5 (upd H5 nl (.lst (bs.map V.ref++CI.map V.ref))):=ad Dx _;have CK:=s4.trans (s5.trans s6);refine ⟨_,nl,bs++CI,rfl,s3.trans CK,(s3.trans (s4.trans s5)).free Dx,by rw [ab,Tu],?_,?_⟩
     · rw [mC hu];exact P2.append (P2.mp (fun _ _ e=>PlAt.mono (Same.kt CK) e) yH) (P2.mp (fun _ _ e=>PlAt.mono (Same.kt s6) e) AY)
     · rw [mC hu,TC,S6,take_snoc hu,bd,aq,aq];omega
   · rintro σ H3 ⟨kv,fl,bs,rfl,s3,Em,e3,yH,yV⟩;rw [<- sF C7] at yH;exact ⟨_,rfl,q fl bs H3 s3 Em e3 yH⟩
def FrL (K:S8) (H:Hp) (N:Nat) (fr:Nat->Th) (fl:Ta) (fs:List Ta):Prop:=H fl=some (.lst (fs.map V.ref))/\T3 (fun s a=>AtK K H (fr s) a) (T7 N) fs
inductive cJ (K:S8) (vs:List V) (H:Hp) (Q:VK) (_E:XK):Prop
 | mk (b fl:Ta) (ins outs:List (TY×Int)) (head:Th) (rows:List (List Th)) (fs:List Ta) (fr:Nat->Th) (yd:vs=[.ref b,.ref fl]) (ye:Bk H ins outs head rows b) (yj:FrL K H rows.length fr fl fs) (yq:(∀ s<rows.length,Th.Fo outs (fr s)/\(fr s).size<=200/\(fr s).tall<=9)) (yC:rows.length<=20) (zj:∀ H',L2.Same H H'->Q (.bl true) H'):cJ K vs H Q _E
def fS (K:S8):Sp:=cJ K
set_option maxHeartbeats 1000000 in
theorem fR:bi P w K mg base CX0 11 T.g__law_fronts_formed.f T.g__law_fronts_formed.d ["book","fronts"] (fS K):=by
 refine T.g__law_fronts_formed.F.ok fQ (fun vs H Q E h=>?_) (fun yb A outer s H vs Q E hr h=>?_)
 · obtain ⟨b,fl,ins,outs,head,rows,fs,fr,rfl,_⟩:=h;rfl
 obtain ⟨b,fl,ins,outs,head,rows,fs,fr,rfl,hB,⟨zE,Ay⟩,DL,hle,k⟩:=h;refine hid fun ZZ kZ=>?_;obtain ⟨ia,oa,ha,ra,ya,yp,yK,hB⟩:=hB;refine kZ ?_
 refine ⟨_,(ae (bE (PW.pt (dL (dO (aY (ay (cE (T:="list")) rfl T.n_isinstance UR (aa (pv 1) (aa (ef (v:=.ty "list") rfl T.n_list Xf rfl) ac))) (fun _=>rfl))) (dQ (aK o9 (ay ao rfl T.n_len TU (aa (pv 1) ac)) (ay ao rfl T.n_len TU (aa (az aD (pv 0) af (fun _ _=>rfl)) ac)) (aO _))))) (ag (aC d4)) bj)
  (ag (aC (ay (pf rfl) rfl T.n_all PyProof.Rows.boot_all (aa (cw (N:=[Ti "front",Ti "book"]) (js:=[none,some 0]) (g:=(aF 0)) (tt:=bP) (te:=(g9 (cX K _) [] E0 (bA (tOp (uT K) (bC 1) (tC (.int 1))) (bA (bC 0) dU)))) rfl (cG rfl (by decide +kernel) (by decide +kernel) rfl rfl rfl) (ck (pv 1)) (fun _ _ _ _ _ _=>(aj (i:=0) wK rfl (Tz rfl))) (aS rfl) (fun _ _ _ _ _ _=>bT) (fun _ _ _ _ _ _=>(pcF T.g__law_is_front (eR T 10) hr (aa (az aD (pv 1) af (fun _ _=>rfl)) (aa (pv 0) ac))))) ac))))),?_⟩
 try dsimp only [yv,xW]
 have Dm:rows.length=yK.length:=Tp hB.rw;have Ac:(T7 rows.length).length=fs.length:=Tp Ay;rw [T8] at Ac;refine ⟨_,rfl,_,_,_,rfl,.lst zE,pH,_,rfl,?_⟩;refine cO ?_;refine ⟨_,rfl,fl,_,rfl,.inl (SqL.of zE),_,rfl,b,_,3,.ref ra,rfl,rfl,SqT.of hB.bk,at_nonneg (by decide) rfl,ra,_,rfl,.inr (SqT.of hB.rl),rfl,_,rfl,?_⟩;have hlen:(fs.map V.ref).length=(yK.map V.ref).length:=by rw [S6,S6];omega
 refine cQ (fun c4=>by rw [hlen,decide_eq_true rfl] at c4;cases c4) (fun c4=>?_);refine ⟨_,rfl,fl,rfl,⟨_,SqL.of zE⟩,fun D hD=>?_⟩;refine ⟨rows.length,fun j H3=>An3 (j<=rows.length) (L2.Same H H3) (H3 D=some (.lst ((Vm j true).map V.bl))),⟨TZ _,ad hD _,ab⟩,?_⟩;rintro j H3 ⟨hj,s3,eD⟩;by_cases Bz:j=rows.length
 · left;refine ⟨⟨_,SqL.of (s3 _ _ zE),by rw [S6];omega⟩,?_⟩;refine ⟨D,Vm j true,rfl,SqL.of eD,?_⟩;rw [show (Vm j true).all id=true from Wn.mpr fun b hb=>(List.mem_replicate.mp hb).2];exact k H3 s3
 · right;have yn:j<rows.length:=by omega
   refine hid fun ZZ kZ=>?_;obtain ⟨fa,yP⟩:∃ fa,fs[j]?=some fa:=⟨_,S9 (by omega)⟩;obtain ⟨s',yX,zD⟩:=P2.get' Ay yP;rw [Ux yn] at yX;cases yX;obtain ⟨z1,z2,z3⟩:=DL j yn;refine kZ ?_;refine ⟨yn,⟨_,.ref fa,SqL.of (s3 _ _ zE),by rw [Tn,yP];rfl⟩,?_⟩;rintro x' H4 ⟨Af,hv⟩;have Fs:H4=H3:=Af;subst Fs;have yM:=hv _ (SqL.of (s3 _ _ zE));rw [Tn,yP] at yM;cases yM;refine ⟨_,rfl,b,_,1,.ref oa,rfl,rfl,SqT.of (s3 _ _ hB.bk),at1,_,rfl,oa,fa,yp,outs,fr j,rfl,s3 _ _ hB.outE,hB.outK.mono (Same.kt s3),zD.mono (Same.kt s3),z1,by omega,(by show _<=9+1;omega),fun H5 s5=>?_⟩;have MO:=s5 _ _ eD;refine ⟨_,MO,aH (by rw [S6,WB];omega),yn,aw (s3.trans s5) hD,?_⟩;rw [ab,List.replicate_succ',Tu];rfl
inductive eV (vs:List V) (H:Hp) (Q:VK) (_E:XK):Prop
 | mk (b ta pa:Ta) (s:Int) (ins outs:List (TY×Int)) (head:Th) (rows:List (List Th)) (t:Th) (pl:List Int) (m:TY) (yd:vs=[.ref b,.int s,.ref ta,.ref pa]) (ye:Bk H ins outs head rows b) (yj:bV ins) (yq:At H t ta) (yC:H pa=some (.tup (pl.map V.int))) (zj:pl.length<=1000) (Bi:pR ins rows s t pl m) (Bt:∀ H',L2.Same H H'->Q (.str m) H'):eV  vs H Q _E
def jX:Sp:=eV
def NmI (ins:List (TY×Int)) (rows:List (List Th)) (b pa nl:Ta) (s:Int) (pl:List Int) (m:TY) (H:Hp) (n:Nat) (σ:St) (H3:Hp):Prop:=∃ (ta ha:Ta) (at':Nat) (p t:Th),σ=[some (.ref b),some (.int s),some (.ref ta),some (.ref pa),some (.ref nl),some (.ref ha),some (.int (at':Nat))]/\H3=H/\At H p ha/\At H t ta/\at'<=pl.length/\NmAt ins rows n p t (pl.drop at') m
set_option maxHeartbeats 1000000 in
theorem fL:bi P w K mg base CX0 1 T.g__law_name_at.f T.g__law_name_at.d ["book","state","tree","place"] jX:=by
 refine T.g__law_name_at.F.ok bg (fun vs H Q E h=>?_) (fun yb A outer s0 H vs Q E hr h=>?_)
 · obtain ⟨b,ta,pa,s,ins,outs,head,rows,t,pl,m,rfl,_⟩:=h;rfl
 obtain ⟨b,ta,pa,s,ins,outs,head,rows,t,pl,m,rfl,hB,g,zO,zY,yV,ML,q⟩:=h;refine hid fun ZZ kZ=>?_;obtain ⟨ia,oa,ha,ra,ya,yp,yK,bk⟩:=hB;refine kZ ?_
 refine ⟨_,(ae (fo (i:=4) (N:=[Ti "kind"]) (js:=[none]) (g:=(aF 0)) (tt:=bP) (te:=(tOp (uT K) (bC 0) (tC (.int 0)))) bg.nd rfl (Tz rfl) rfl (cG rfl (by decide +kernel) (by decide +kernel) rfl rfl rfl) (jz (az aD (pv 0) af (fun _ _=>rfl))) (fun _ _ _ _ _ _=>(aj (i:=0) wO rfl (Tz rfl))) (aS rfl) (fun _ _ _ _ _ _=>bT) (fun _ _ _ _ _ _=>(az aD (pv 0) af (fun _ _=>rfl))))
  (ae (av (i:=5) bg.nd rfl (Tz rfl) (az aD (az aD (az aD (pv 0) af (fun _ _=>rfl)) (pv 1) (fun _ _=>rfl)) (bJ Tr Wk X3 mv (pv 4) (aa (az aD (pv 2) af (fun _ _=>rfl)) ac)) (fun _ _=>rfl)))
  (ae (av (i:=6) bg.nd rfl (Tz rfl) af)
  (ae (dF T2 (PW.pt (dL (aK cM (az aD (pv 5) af (fun _ _=>rfl)) gg (aO _)) (dQ (aK mG (pv 6) (ay ao rfl T.n_len TU (aa (pv 3) ac)) (aO _))))) (ag (bE (aK cM (az aD (pv 5) af (fun _ _=>rfl)) gg (aO _)) (ae (av (i:=2) bg.nd rfl (Tz rfl) (az aD (pv 2) (ax bG af (az aD (pv 5) af (fun _ _=>rfl))) (fun _ _=>rfl)))
  (ag (av (i:=5) bg.nd rfl (Tz rfl) (az aD (az aD (az aD (pv 0) af (fun _ _=>rfl)) (az aD (pv 5) af (fun _ _=>rfl)) (fun _ _=>rfl)) (bJ Tr Wk X3 mv (pv 4) (aa (az aD (pv 2) af (fun _ _=>rfl)) ac)) (fun _ _=>rfl))))) (ag (bE (aK mG (az aD (pv 3) (pv 6) (fun _ _=>rfl)) (ax fT (ay ao rfl T.n_len TU (aa (pv 5) ac)) af) (aO _)) (ae (av (i:=5) bg.nd rfl (Tz rfl) (az aD (pv 5) (ax bG af (az aD (pv 3) (pv 6) (fun _ _=>rfl))) (fun _ _=>rfl)))
  (ag (av (i:=6) bg.nd rfl (Tz rfl) (ax bG (pv 6) af)))) (ag (aC pY)))))))
  (ag (aC (az aD (pv 5) af (fun _ _=>rfl)))))))),?_⟩
 try dsimp only [yv,xW]
 have zx:ins.length=ya.length:=Tp bk.inK;have CU:=g.le;refine ⟨_,rfl,b,_,0,.ref ia,rfl,rfl,SqT.of bk.bk,at0,ia,rfl,⟨_,SqT.of bk.inE⟩,oq ins (fun k=>V.str k.1) (SqT.of bk.inE) (by rw [S6];exact zx) (by rw [S6];omega) (fun i x z H2 R W' hx hz s2 hR=>?_) (fun D H1 hD s1 e1=>?_)⟩
 · obtain ⟨ka,rfl,yT⟩:=aU hx;obtain ⟨z',zG,ez⟩:=P2.get' bk.inK yT;rw [hz] at zG;cases zG;exact ⟨_,rfl,ka,_,0,.str z.1,rfl,rfl,SqT.of (s2 _ _ ez),at0,hR H2 (.refl _)⟩
 have en:ins.map (fun k=>V.str k.1)=(ins.map (·.1)).map V.str:=by rw [Vv];rfl
 rw [en] at e1;refine hid fun ZZ kZ=>?_;obtain ⟨vm,vs,row,j,kd,p,n,RJ,rfl,xV,hj,Ct,hp,hN⟩:=ML;have F5:=bk.mono (Same.kt s1);have IH:=zO.mono (Same.kt s1);have DN:=s1 _ _ zY;have II:=IH;rw [At] at II;obtain ⟨JQ,bs,eta,yw⟩:=II;obtain ⟨zL,Av,AG,MP,IJ⟩:=P2.get F5.rw xV;have yN:=IJ.length;have RK:=(Te.mp hp).1;obtain ⟨OQ,IK⟩:∃ a,AG[j]?=some a:=⟨_,S9 (by omega)⟩;obtain ⟨t2,EO,MQ⟩:=IJ.get IK;refine kZ ?_;rw [hp] at EO;cases EO;refine ⟨_,rfl,b,_,3,.ref ra,rfl,rfl,SqT.of F5.bk,ci (j:=3) rfl,_,rfl,ra,_,_,.ref zL,rfl,rfl,SqT.of F5.rl,at_nonneg RJ (by rw [Tn,Av];rfl),_,rfl,.inl ⟨rfl,_,SqL.of e1⟩,_,rfl,ta,_,0,.str vm,rfl,rfl,SqT.of eta,at0,D,ins.map (·.1),vm,j,rfl,rfl,SqL.of e1,by rw [Tn,hj,<- Ct];rfl,fun i hi hz=>?_,by rw [S6];omega,zL,_,(j:Int),.ref OQ,rfl,rfl,SqT.of MP,ci (by rw [Tn,IK];rfl),?_⟩
 · rw [Tn] at hz;obtain ⟨k',zg,e⟩:=T4.mp hz;have:=g.nd i j k' kd zg hj (e.trans Ct.symm);omega
 refine ⟨NmI ins rows b pa D s pl m H1,⟨_,ta,OQ,0,p,.knot vm vs,rfl,rfl,MQ,IH,TZ _,by rw [VM];exact hN⟩,?_⟩;rintro n σ H2 ⟨ta,ha,at',p,t,rfl,rfl,DI,OR,MR,hN⟩
 have MS:∀ (j:Int) (r:List Int),pl.drop at'=j::r->at'<pl.length/\pl[at']?=some j/\pl.drop (at'+1)=r:=fun j r e=>by
  have yf:at'<pl.length:=by
   have:=congrArg Wf e;rw [UL,To] at this;omega
  rw [WV yf] at e;injection e with e1 e2;exact ⟨yf,by rw [S9 yf,e1],e2⟩
 generalize Eb:pl.drop at'=dr at hN;cases hN with
 | here =>
   rename_i ks
   rw [At] at DI;refine hid fun ZZ kZ=>?_;obtain ⟨FU,yl,eh,yF⟩:=DI;refine kZ ?_
   have zH:at'=pl.length:=by
    have:=congrArg Wf Eb;rw [UL,V9] at this;omega
   have JV:decide (V.str m=V.str (Ti "?"))=false:=decide_eq_false fun z=>FU (V.str.inj z);refine ⟨_,rfl,ha,_,0,.str m,rfl,rfl,SqT.of eh,at0,rfl,_,rfl,?_⟩;rw [JV];refine cO ?_;refine ⟨_,rfl,_,rfl,pa,_,rfl,.inr (SqT.of DN),_,_,rfl,rfl,_,rfl,?_⟩;rw [S6,zH,decide_eq_false (by omega)];refine cO ?_;exact ⟨_,rfl,ha,_,0,.str m,rfl,rfl,SqT.of eh,at0,q _ s1⟩
 | step hu hN =>
   rename_i n nm ks j u r
   rw [At] at DI;refine hid fun ZZ kZ=>?_;obtain ⟨FU,yl,eh,yF⟩:=DI;obtain ⟨yf,MT,MU⟩:=MS _ _ Eb;have y4:=yF.length;have AU:=(Te.mp hu).1;obtain ⟨ua,Hj,MV⟩:=yF.at hu;refine kZ ?_;have JV:decide (V.str nm=V.str (Ti "?"))=false:=decide_eq_false fun z=>FU (V.str.inj z);refine ⟨_,rfl,ha,_,0,.str nm,rfl,rfl,SqT.of eh,at0,rfl,_,rfl,?_⟩;rw [JV];refine cO ?_;refine ⟨_,rfl,_,rfl,pa,_,rfl,.inr (SqT.of DN),_,_,rfl,rfl,_,rfl,?_⟩;rw [S6,decide_eq_true (by omega)];refine oF ?_;refine ⟨fun xS H'=>∃ m',m'<n+1/\NmI ins rows b pa D s pl m H2 m' xS H',fun xS H' h=>h,?_⟩;refine ⟨_,rfl,ha,_,0,.str nm,rfl,rfl,SqT.of eh,at0,rfl,_,rfl,?_⟩;rw [JV];refine cO ?_;have CY:atI (pl.map V.int) ((at':Nat):Int)=some (.int (j:Int)):=ci (by rw [Tn,MT];rfl);refine ⟨_,rfl,_,rfl,pa,_,_,.int (j:Int),rfl,rfl,SqT.of DN,CY,_,rfl,ha,_,rfl,.inr (SqT.of eh),_,_,rfl,rfl,_,_,rfl,rfl,_,rfl,?_⟩;rw [To,S6,decide_eq_true (by omega)];refine oF ?_;refine ⟨_,rfl,_,rfl,_,rfl,pa,_,_,.int (j:Int),rfl,rfl,SqT.of DN,CY,_,_,rfl,rfl,ha,_,_,.ref ua,rfl,rfl,SqT.of eh,at_nonneg (by omega) (by rw [show (1+(j:Int)).toNat=j+1 by omega,Uy,Tn,Hj];rfl),?_⟩;refine ⟨_,rfl,_,_,rfl,rfl,n,by omega,ta,ua,at'+1,u,t,by rfl,rfl,MV,OR,by omega,by rw [MU];exact hN⟩
 | call hk hs hu hr hi hn hp hN =>
   rename_i n s' k tm OS us SU AZ i' NJ p'
   have IL:=DI;rw [At] at IL;have IM:=OR;rw [At] at IM;refine hid fun ZZ kZ=>?_;obtain ⟨SV,SW,et,MW⟩:=IM;obtain ⟨va,RL,IP⟩:=MW.at hu;have Es:=IP;rw [At] at Es;obtain ⟨SX,SY,ev,RM⟩:=Es;obtain ⟨Et,Ft,DH,IQ,Eu⟩:=P2.get F5.rw hr;have S3:=Eu.length;have RN:=(Te.mp hp).1;obtain ⟨OT,IS⟩:∃ a,DH[i']?=some a:=⟨_,S9 (by omega)⟩;obtain ⟨t3,OU,MX⟩:=Eu.get IS;refine kZ ?_;rw [hp] at OU;cases OU;refine ⟨_,rfl,ha,_,0,.str (Ti "?"),rfl,rfl,SqT.of IL,at0,rfl,_,rfl,?_⟩;refine vt rfl ?_;refine oF ?_;refine ⟨fun xS H'=>∃ m',m'<n+1/\NmI ins rows b pa D s pl m H2 m' xS H',fun xS H' h=>h,?_⟩;refine ⟨_,rfl,ha,_,0,.str (Ti "?"),rfl,rfl,SqT.of IL,at0,rfl,_,rfl,?_⟩;refine vt rfl ?_;refine ⟨_,rfl,_,rfl,ha,_,2,.int k,rfl,rfl,SqT.of IL,at2,_,_,rfl,rfl,ta,_,_,.ref va,rfl,rfl,SqT.of et,at_nonneg (by omega) (by rw [show (1+k).toNat=k.toNat+1 by omega,Uy,Tn,RL];rfl),?_⟩;refine ⟨_,rfl,b,_,3,.ref ra,rfl,rfl,SqT.of F5.bk,ci (j:=3) rfl,_,rfl,ha,_,1,.int s',rfl,rfl,SqT.of IL,at1,ra,_,_,.ref Et,rfl,rfl,SqT.of F5.rl,at_nonneg hs (by rw [Tn,Ft];rfl),_,rfl,.inl ⟨rfl,_,SqL.of e1⟩,_,rfl,va,_,0,.str OS,rfl,rfl,SqT.of ev,at0,D,ins.map (·.1),OS,i',rfl,rfl,SqL.of e1,by rw [Tn,hi,<- hn];rfl,fun i Hn hz=>?_,by rw [S6];omega,Et,_,(i':Int),.ref OT,rfl,rfl,SqT.of IQ,ci (by rw [Tn,IS];rfl),?_⟩
   · rw [Tn] at hz;obtain ⟨k',zg,e⟩:=T4.mp hz;have:=g.nd i i' k' NJ zg hi (e.trans hn.symm);omega
   exact ⟨n,by omega,va,OT,at',p',_,by rfl,rfl,MX,IP,MR,by rw [Eb];exact hN⟩
def szW:List (Th×Int)->Nat
 | []=>0
 | p::ps=>p.1.size+szW ps
theorem fq:∀ a b:List (Th×Int),szW (a++b)=szW a+szW b
 | [],b=>by rw [Vy,szW];omega
 | p::a,b=>by rw [Vr,szW,szW,fq a b];omega
theorem lD (d:Int):∀ ks:List Th,szW (ks.map fun t=>(t,d))=aq ks
 | []=>by rw [VI,szW,aq]
 | t::ks=>by rw [Up,szW,aq,lD d ks]
theorem qI:∀ a:List (Th×Int),a.length<=szW a
 | []=>TZ _
 | p::a=>by rw [To,szW];have:=qI a;have:=p.1.size_pos;omega
def WAt (H:Hp) (p:Th×Int) (a:Ta):Prop:=∃ xa,H a=some (.tup [.ref xa,.int p.2])/\At H p.1 xa
theorem WAt.mono {H H':Hp} (k:KT H H') {p:Th×Int} {a:Ta} (h:WAt H p a):WAt H' p a:=by
 obtain ⟨xa,h1,h2⟩:=h;exact ⟨xa,k _ _ h1,h2.mono k⟩
inductive fc (vs:List V) (H:Hp) (Q:VK) (_E:XK):Prop
 | mk (ia ta:Ta) (most:Int) (ya:List Ta) (ins:List (TY×Int)) (t:Th) (yd:vs=[.ref ia,.ref ta,.int most]) (ye:H ia=some (.tup (ya.map V.ref))) (yj:KsAt H ins ya) (yq:ins.length<=8) (yC:At H t ta) (zj:t.FitS ins 0 0) (Bi:(t.tall:Int)<=most) (Bt:t.size<=2000) (Dj:∀ H',L2.Same H H'->Q (.bl true) H'):fc  vs H Q _E
def jW:Sp:=fc
def wG (ins:List (TY×Int)) (ia ta wl:Ta) (most:Int) (H:Hp) (m:Nat) (σ:St) (H3:Hp):Prop:=∃ (ws:List Ta) (Ws:List (Th×Int)) (mn:Nat) (c5 c6:Option V),σ=[some (.ref ia),some (.ref ta),some (.int most),some (.ref wl),some (.int (mn:Nat)),c5,c6]/\L2.Same H H3/\H3 wl=some (.lst (ws.map V.ref))/\T3 (WAt H3) Ws ws/\(∀ p∈Ws,p.1.FitS ins 0 0/\p.2+(p.1.tall:Int)<=most+1)/\mn+szW Ws<=2000/\m=szW Ws
set_option maxHeartbeats 1000000 in
theorem fM:bi P w K mg base CX0 1 T.g__law_is_tree.f T.g__law_is_tree.d ["ins","tree","most"] jW:=by
 refine T.g__law_is_tree.F.ok bK (fun vs H Q E h=>?_) (fun yb A outer s0 H vs Q E hr h=>?_)
 · obtain ⟨ia,ta,most,ya,ins,t,rfl,_⟩:=h;rfl
 obtain ⟨ia,ta,most,ya,ins,t,rfl,ei,zP,CU,zO,hf,yy,hsz,q⟩:=h
 refine ⟨_,(ae (av (i:=3) bK.nd rfl (Tz rfl) (bw (aa (aJ (aa (pv 1) (aa af ac))) ac)))
  (ae (av (i:=4) bK.nd rfl (Tz rfl) af)
  (ae (dF T2 (aK mN (ay ao rfl T.n_len TU (aa (pv 3) ac)) af (aO _)) (ae (cK (ju Tr V2 V1 jl (pv 3)) (bu rfl (au (aj (i:=5) bK.nd rfl (Tz rfl)) (au (aj (i:=6) bK.nd rfl (XE rfl)) aX))))
  (ae (av (i:=4) bK.nd rfl (Tz rfl) (ax bG (pv 4) af))
  (ae (bE (PW.pt (dL (dO (aY (ay (cE (T:="tuple")) rfl T.n_isinstance UR (aa (pv 5) (aa (ef (v:=.ty "tuple") rfl T.n_tuple U9 rfl) ac))) (fun _=>rfl))) (dL (aK cM (ay ao rfl T.n_len TU (aa (pv 5) ac)) af (aO _)) (dL (dO (aY (ay (cE (T:="str")) rfl T.n_isinstance UR (aa (az aD (pv 5) af (fun _ _=>rfl)) (aa (ef (v:=.ty "str") rfl T.n_str PyProof.Rows.boot_str rfl) ac))) (fun _=>rfl))) (dQ (aK mN (pv 6) (pv 2) (aO _))))))) (ag (aC d4)) bj)
  (ae (bE (PW.pt (dL (aK (mO (B:=50) (qT hr)) (aJ (aa (az aD (pv 5) af (fun _ _=>rfl)) (aa (ax fT (ay ao rfl T.n_len TU (aa (pv 5) ac)) af) ac))) (pv 0) (by with_unfolding_all rfl)) (dQ (aK mN (pv 4) af (aO _))))) (ag (aC d4)) bj)
  (ag (aP (bJ Tr Wh Wg gE (pv 3) (aa (cw (N:=[Ti "kid",Ti "deep"]) (js:=[none,some 6]) (g:=(aF 0)) (tt:=bP) (te:=(jS (bA (bC 0) (bA (tOp (rI0 fun i j=>.int (i+j)) (bC 1) (tC (.int 1))) dU)))) rfl (cG rfl (by decide +kernel) (by decide +kernel) rfl rfl rfl) (jz (bq eO (pv 5) (bB af) bS)) (fun _ _ _ _ _ _=>(aj (i:=0) wW rfl (Tz rfl))) (aS rfl) (fun _ _ _ _ _ _=>bT) (fun _ _ _ _ _ _=>(aJ (aa (pv 0) (aa (ax bG (pv 1) af) ac))))) ac)))))))))
  (ag (aC d4))))),?_⟩
 try dsimp only [yv,xW]
 have zx:ins.length=ya.length:=Tp zP;refine ⟨_,rfl,ai (by show 2<=1000000;decide),fun p1 zW=>?_⟩;refine ⟨ai (by show 1<=1000000;decide),fun wl AM=>?_⟩;have s1:L2.Same H (upd H p1 (.tup [.ref ta,.int 1])):=ad zW _;have e1:(upd H p1 (.tup [.ref ta,.int 1])) p1=some (.tup [.ref ta,.int 1]):=ab;generalize (upd H p1 (.tup [.ref ta,.int 1]))=H1 at s1 e1 AM ⊢;have Hf:H wl=none:=s1.free AM;have s2:L2.Same H1 (upd H1 wl (.lst [.ref p1])):=ad AM _;have e2:(upd H1 wl (.lst [.ref p1])) wl=some (.lst ([p1].map V.ref)):=ab
 try dsimp only [aF]
 generalize (upd H1 wl (.lst [.ref p1]))=H2 at s2 e2 ⊢;have yI:=s1.trans s2;refine ⟨wG ins ia ta wl most H,⟨_,[p1],[(t,1)],0,none,none,rfl,yI,e2,.cons ⟨ta,s2 _ _ e1,zO.mono (Same.kt yI)⟩ .nil,fun p hp=>by rw [TR.mp hp];exact ⟨hf,by dsimp only;omega⟩,by rw [szW,szW];dsimp only;omega,rfl⟩,?_⟩;rintro m σ H3 ⟨ws,Ws,mn,c5,c6,rfl,s3,ew,OV,hW,Ji,rfl⟩;have S4:Ws.length=ws.length:=Tp OV;refine ⟨_,rfl,wl,_,rfl,.inl (SqL.of ew),_,_,rfl,rfl,_,rfl,?_⟩;refine cQ (fun c=>?_) (fun c=>?_)
 · refine ⟨fun xS H'=>∃ m',m'<szW Ws/\wG ins ia ta wl most H m' xS H',fun xS H' h=>h,?_⟩;have yZ:ws≠[]:=by intro z;subst z;simp at c
   refine hid fun ZZ kZ=>?_;obtain ⟨Bp,b,rfl⟩:∃ yg b,ws=yg++[b]:=⟨ws.dropLast,ws.getLast yZ,(Vp yZ).symm⟩;obtain ⟨Us,⟨x,d⟩,rfl,a3,xa,eb,Jv⟩:=P2.snoc_inv OV;dsimp only at eb Jv;have C9:szW (Us++[(x,d)])=szW Us+x.size:=by rw [fq,szW,szW];rfl
   rw [C9] at Ji;obtain ⟨MY,OW⟩:=hW (x,d) (by simp);refine kZ ?_;dsimp only at MY OW;have N0:Us.length=Bp.length:=Tp a3;have q4:Us.length<=szW Us:=qI Us;refine ⟨_,rfl,.inl ⟨rfl,_,SqL.of ew⟩,wl,_,.ref b,rfl,rfl,ew,by simp,?_⟩;have d1:((Bp++[b]).map V.ref).dropLast=Bp.map V.ref:=by simp
   rw [d1];have k1:KT H3 (upd H3 wl (.lst (Bp.map V.ref))):=aT ew;have BU:L2.Same H (upd H3 wl (.lst (Bp.map V.ref))):=aw s3 Hf;have MZ:(upd H3 wl (.lst (Bp.map V.ref))) wl=some (.lst (Bp.map V.ref)):=ab;generalize (upd H3 wl (.lst (Bp.map V.ref)))=H4 at k1 BU MZ ⊢;refine ⟨b,_,rfl,SqT.of (k1 _ _ eb),rfl,_,_,rfl,_,_,rfl,rfl,?_⟩
   try dsimp only [aF]
   cases x with
   | call u v=>rw [Th.FitS] at MY;omega
   | knot nm ks =>
   have IT:=Jv.mono k1;rw [At] at IT;refine hid fun ZZ kZ=>?_;obtain ⟨FU,yl,ex,yF⟩:=IT;refine kZ ?_;have y4:yl.length=ks.length:=yF.length;have GZ:=bL ks;rw [Th.size] at Ji C9;rw [Th.tall] at OW;have Fu:=MY;rw [Th.FitS] at Fu;have el:(((V.str nm::yl.map V.ref).length:Nat):Int)=(ks.length:Int)+1:=by rw [To,S6,y4];omega
   refine ⟨_,rfl,_,_,rfl,rfl,?_⟩
   try dsimp only [aF]
   refine ⟨_,rfl,_,_,_,rfl,.tup ex,pV,_,rfl,?_⟩;refine cO ?_;refine ⟨_,rfl,xa,_,rfl,.inr (SqT.of ex),rfl,_,rfl,?_⟩;rw [el,decide_eq_false (show V.int ((ks.length:Int)+1)≠V.int 0 from fun z=>by have:=V.int.inj z;omega)];refine cO ?_;refine ⟨_,rfl,xa,_,0,.str nm,rfl,rfl,SqT.of ex,at0,_,_,_,rfl,.str nm,tJ,_,rfl,?_⟩;refine cO ?_;refine ⟨_,rfl,_,rfl,_,_,rfl,rfl,_,rfl,?_⟩;rw [decide_eq_false (by omega)];refine cO ?_
   -- Az kind
   refine ⟨_,rfl,xa,_,0,.str nm,rfl,rfl,SqT.of ex,at0,_,rfl,xa,_,rfl,.inr (SqT.of ex),_,_,rfl,rfl,ai (by show 2<=1000000;decide),fun p hp=>?_⟩;rw [el];have C8:(ks.length:Int)+1 - 1=(ks.length:Int):=by omega
   dsimp only;rw [C8];have s5:L2.Same H4 (upd H4 p (.tup [.str nm,.int (ks.length:Int)])):=ad hp _;have e5:(upd H4 p (.tup [.str nm,.int (ks.length:Int)])) p=some (.tup [.str nm,.int (ks.length:Int)]):=ab;generalize (upd H4 p (.tup [.str nm,.int (ks.length:Int)]))=H5 at s5 e5 ⊢;have Ct:=kQ ins;have AE:=BU.trans s5;refine ⟨_,rfl,ia,_,kDv (nm,(ks.length:Int)),ins.map kDv,rfl,SqT.of (AE _ _ ei),?_,sR (zP.mono (Same.kt AE)),by omega,fun r Bx=>⟨_,rfl,?_⟩⟩
   · rw [kDv,DAt];exact ⟨_,_,rfl,e5,.cons (by rw [DAt]) (.cons (by rw [DAt]) .nil)⟩
   have MM:r=false:=by
    cases r with
    | false=>rfl
    | true=>exact absurd (List.mem_map_of_mem Fu.1) (Bx.mp rfl)
   subst MM;refine cO ?_;refine ⟨_,rfl,_,_,rfl,rfl,_,rfl,?_⟩;rw [decide_eq_false (by omega)];refine cO ?_
   -- kids
   refine ⟨_,rfl,.inl ⟨rfl,_,SqL.of (s5 _ _ MZ)⟩,_,rfl,1,rfl,xa,_,rfl,SqT.of (s5 _ _ ex),?_,fun p3 HY=>?_⟩
   · rintro ⟨z,_⟩;rw [To,show (1:Int)=((1:Nat):Int) by rfl,HT.sIx_nat] at z;omega
   dsimp only;rw [dA];have s6:L2.Same H5 (upd H5 p3 (.tup (yl.map V.ref))):=ad HY _;have e6:(upd H5 p3 (.tup (yl.map V.ref))) p3=some (.tup (yl.map V.ref)):=ab;generalize (upd H5 p3 (.tup (yl.map V.ref)))=H6 at s6 e6 ⊢;refine ⟨p3,rfl,⟨_,SqT.of e6⟩,iX (F:=WAt) (xs:=yl.map V.ref) (ks.map fun t=>(t,d+1)) (fun H1 H2 z p kt h=>h.mono kt) (by rw [S6,S6];omega) (by rw [S6];omega) (fun j Hx sx hj=>⟨_,_,SqT.of (sx _ _ e6),S9 hj⟩) (fun Hx sx=>⟨_,SqT.of (sx _ _ e6),Td _⟩) (fun j Hx x Hy sx hj hy=>⟨hy.1,hy.2 _ (SqT.of (sx _ _ e6))⟩) (fun j x z Hx R W' hx Au sx hR=>?_) (fun D H7 CI hD s7 eD AY=>?_)⟩
   · obtain ⟨ka,rfl,yT⟩:=aU hx;rw [Tn] at Au;obtain ⟨u,hu,rfl⟩:=T4.mp Au;obtain ⟨u',zA,Iw⟩:=yF.get yT;rw [hu] at zA;cases zA;refine ⟨_,rfl,_,rfl,_,_,rfl,rfl,ai (by show 2<=1000000;decide),fun p4 Mx=>?_⟩;have s8:=ad Mx (.tup [.ref ka,.int (d+1)]);exact hR _ p4 s8 ⟨ka,ab,Iw.mono (Same.kt (s5.trans (s6.trans (sx.trans s8))))⟩
   · have CJ:(ks.map fun t=>(t,d+1)).length=CI.length:=Tp AY;rw [S6] at CJ;have OX:=(s5.trans (s6.trans s7)) _ _ MZ;refine ⟨wl,D,_,_,rfl,rfl,OX,eD,ai (by rw [S6,S6];omega),?_⟩;have k8:KT H7 (upd H7 wl (.lst (Bp.map V.ref++CI.map V.ref))):=aT OX;refine ⟨szW (Us++ks.map fun t=>(t,d+1)),by rw [fq,lD,C9];omega,Bp++CI,Us++ks.map (fun t=>(t,d+1)),mn+1,_,_,rfl,aw (BU.trans (s5.trans (s6.trans s7))) Hf,by rw [ab,Tu],?_,fun p' y3=>?_,?_,rfl⟩
     · exact P2.append (P2.mp (fun _ _ e=>(e.mono (k1.trans (Same.kt (s5.trans (s6.trans s7))))).mono k8) a3) (P2.mp (fun _ _ e=>e.mono k8) AY)
     · rcases Ul.mp y3 with y3 | y3
       · exact hW p' (Uq _ y3)
       · obtain ⟨u,hu,rfl⟩:=Um.mp y3;have:=bW hu;exact ⟨FitSs.mem' Fu.2 u hu,by dsimp only;omega⟩
     · rw [fq,lD];omega
 · exact q H3 s3
def vh (ins:List (TY×Int)) (R:Nat->List Int->Th->Th->Prop):Prop:=∀ s h t1 t2,R s h t1 t2->(t1.FitS ins 0 0/\t1.size<=500)/\(t2.FitS ins 0 0/\t2.size<=500)
inductive cU (K:S8) (vs:List V) (H:Hp) (Q:VK) (_E:XK):Prop
 | mk (b fl pl:Ta) (ins outs:List (TY×Int)) (head:Th) (rows:List (List Th)) (fs ls:List Ta) (fr:Nat->Th) (R:Nat->List Int->Th->Th->Prop) (yd:vs=[.ref b,.ref fl,.ref pl]) (ye:Bk H ins outs head rows b) (yj:ins.length<=8) (yq:FrL K H rows.length fr fl fs) (yC:(∀ s<rows.length,Th.Fo outs (fr s)/\(fr s).size<=200/\(fr s).tall<=9)) (zj:rows.length<=20) (Bi:PrL H R fr rows.length pl ls) (Bt:vh ins R) (Dj:∀ H',L2.Same H H'->Q (.bl true) H'):cU K vs H Q _E
def f9 (K:S8):Sp:=cU K
set_option maxHeartbeats 1000000 in
theorem fU:bi P w K mg base CX0 11 T.g__law_pairs_formed.f T.g__law_pairs_formed.d ["book","fronts","pairs"] (f9 K):=by
 refine T.g__law_pairs_formed.F.ok cu (fun vs H Q E h=>?_) (fun yb A outer s H vs Q E hr h=>?_)
 · obtain ⟨b,fl,pl,ins,outs,head,rows,fs,ls,fr,R,rfl,_⟩:=h;rfl
 obtain ⟨b,fl,pl,ins,outs,head,rows,fs,ls,fr,R,rfl,hB,CU,⟨zE,Ay⟩,DL,hle,⟨BY,AB⟩,hR,k⟩:=h;refine hid fun ZZ kZ=>?_;obtain ⟨ia,oa,ha,ra,ya,yp,yK,hB⟩:=hB;refine kZ ?_
 refine ⟨_,(ae (bE (PW.pt (dL (dO (aY (ay (cE (T:="list")) rfl T.n_isinstance UR (aa (pv 2) (aa (ef (v:=.ty "list") rfl T.n_list Xf rfl) ac))) (fun _=>rfl))) (dQ (aK o9 (ay ao rfl T.n_len TU (aa (pv 2) ac)) (ay ao rfl T.n_len TU (aa (pv 1) ac)) (aO _))))) (ag (aC d4)) bj)
  (ae (bv T2 rfl (bx rfl T.n_range (aa (ay ao rfl T.n_len TU (aa (pv 1) ac)) ac)) (aj (i:=3) cu.nd rfl (Tz rfl)) (ae (bE (PW.pt (dL (dO (aY (ay (cE (T:="list")) rfl T.n_isinstance UR (aa (az aL (pv 2) (pv 3) (fun _ _=>rfl)) (aa (ef (v:=.ty "list") rfl T.n_list Xf rfl) ac))) (fun _=>rfl))) (dQ (aK o9 (ay ao rfl T.n_len TU (aa (az aL (pv 2) (pv 3) (fun _ _=>rfl)) ac)) (ay ao rfl T.n_len TU (aa (pcF T.g__law_holes (eG T 10) hr (aa (az aL (pv 1) (pv 3) (fun _ _=>rfl)) ac)) ac)) (aO _))))) (ag (aC d4)) bj)
  (ag (bv T2 rfl (ck (az aL (pv 2) (pv 3) (fun _ _=>rfl))) (aj (i:=4) cu.nd rfl (Tz rfl)) (ae (bE (PW.pt (dL (dO (aY (ay (cE (T:="tuple")) rfl T.n_isinstance UR (aa (pv 4) (aa (ef (v:=.ty "tuple") rfl T.n_tuple U9 rfl) ac))) (fun _=>rfl))) (dQ (aK o9 (ay ao rfl T.n_len TU (aa (pv 4) ac)) af (aO _))))) (ag (aC d4)) bj)
  (ag (bE (PW.pt (dL (dO (aY (pcF T.g__law_is_tree (fM T) hr (aa (az aD (pv 0) af (fun _ _=>rfl)) (aa (az aD (pv 4) af (fun _ _=>rfl)) (aa af ac)))) (fun _=>rfl))) (dQ (dO (aY (pcF T.g__law_is_tree (fM T) hr (aa (az aD (pv 0) af (fun _ _=>rfl)) (aa (az aD (pv 4) af (fun _ _=>rfl)) (aa af ac)))) (fun _=>rfl)))))) (ag (aC d4)) bj)))))))
  (ag (aC d4)))),?_⟩
 try dsimp only [yv,xW]
 have Ac:(T7 rows.length).length=fs.length:=Tp Ay;have EK:(T7 rows.length).length=ls.length:=Tp AB;rw [T8] at Ac EK;refine ⟨_,rfl,_,_,_,rfl,.lst BY,pH,_,rfl,?_⟩;refine cO ?_;refine ⟨_,rfl,pl,_,rfl,.inl (SqL.of BY),_,rfl,fl,_,rfl,.inl (SqL.of zE),rfl,_,rfl,?_⟩;have hlen:(ls.map V.ref).length=(fs.map V.ref).length:=by rw [S6,S6];omega
 refine cQ (fun c4=>by rw [hlen,decide_eq_true rfl] at c4;cases c4) (fun c4=>?_);dsimp only [rj,vP];refine ⟨_,rfl,fl,_,rfl,.inl (SqL.of zE),_,rfl,by omega,by rw [S6];omega,?_⟩;refine bF (n:=(((fs.map V.ref).length:Nat):Int).toNat) (fun i σ H3=>Ex2 fun (c3 c4:Option V)=>An2 (σ=[some (.ref b),some (.ref fl),some (.ref pl),c3,c4]) (L2.Same H H3)) ⟨none,none,rfl,.refl _⟩ ?_ ?_
 · rintro i σ H3 hi ⟨c3,c4,rfl,s3⟩
   have yA:i<rows.length:=by
    have h1:i<(((fs.map V.ref).length:Nat):Int).toNat:=hi;rw [S6] at h1;omega
   refine hid fun ZZ kZ=>?_;obtain ⟨fa,yP⟩:∃ fa,fs[i]?=some fa:=⟨_,S9 (by omega)⟩;obtain ⟨s',yX,zD⟩:=P2.get' Ay yP;rw [Ux yA] at yX;cases yX;obtain ⟨la,Ag⟩:∃ la,ls[i]?=some la:=⟨_,S9 (by omega)⟩;obtain ⟨s',yX,prs,Fv,Aw⟩:=P2.get' AB Ag;rw [Ux yA] at yX;cases yX;obtain ⟨z1,z2,z3⟩:=DL i yA;refine kZ ?_;have yV:(cY (fr i)).length=prs.length:=Tp Aw;have B2:∀ (xs:List Ta) (a:Ta),xs[i]?=some a->atI (xs.map V.ref) (0+(i:Int))=some (.ref a):=fun xs a h=>at_nonneg (by omega) (by rw [show (0+(i:Int)).toNat=i by omega,Tn,h];rfl);refine eZ (fun bb H'=>An2 (bb=false) (L2.Same H H')) (fun k2 AF=>?_) (fun H' hb=>absurd hb.1 (by decide)) (fun H4 hb=>?_)
   · refine ⟨_,rfl,_,rfl,pl,_,_,.ref la,rfl,rfl,SqL.of (s3 _ _ BY),B2 ls la Ag,_,_,_,rfl,.lst (s3 _ _ Fv),pH,_,rfl,?_⟩;refine cO ?_;refine ⟨_,rfl,_,rfl,pl,_,_,.ref la,rfl,rfl,SqL.of (s3 _ _ BY),B2 ls la Ag,la,_,rfl,.inl (SqL.of (s3 _ _ Fv)),_,rfl,_,rfl,fl,_,_,.ref fa,rfl,rfl,SqL.of (s3 _ _ zE),B2 fs fa yP,fa,fr i,outs,rfl,zD.mono (Same.kt s3),z1,by omega,by omega,fun r bs H4 s4 nr er yH=>⟨r,_,rfl,.inl (SqL.of er),rfl,_,rfl,?_⟩⟩;have zy:(cY (fr i)).length=bs.length:=Tp yH;have IU:(prs.map V.ref).length=(bs.map V.ref).length:=by rw [S6,S6];omega
     rw [IU,decide_eq_true rfl];exact AF _ _ ⟨rfl,s3.trans s4⟩
   have s4:=hb.2;refine ⟨_,rfl,_,rfl,pl,_,_,.ref la,rfl,rfl,SqL.of (s4 _ _ BY),B2 ls la Ag,la,rfl,⟨_,SqL.of (s4 _ _ Fv)⟩,?_⟩;refine dD (K:=K) (a:=la) (xs:=prs.map V.ref) (fun j σ H5=>Ex1 fun (c4:Option V)=>An2 (σ=[some (.ref b),some (.ref fl),some (.ref pl),some (.int (0+(i:Int))),c4]) (L2.Same H H5)) ⟨_,rfl,s4⟩ (fun j σ H5 _ ⟨_,_,s5⟩=>SqL.of (s5 _ _ Fv)) ?_ ?_
   · rintro j x σ H5 hx ⟨c4,rfl,s5⟩;refine hid fun ZZ kZ=>?_;obtain ⟨pr,rfl,zk⟩:=aU hx;obtain ⟨h,hh,p0,ta,tb,t1,t2,e0,BV,zO,HN,M0⟩:=P2.get' Aw zk;refine kZ ?_;cases e0;refine hid fun ZZ kZ=>?_;obtain ⟨⟨f1,g1⟩,⟨f2,g2⟩⟩:=hR _ _ _ _ M0;refine kZ ?_;have y1:=cF t1;have y2:=cF t2;have Fw:=s5 _ _ BV;refine ⟨_,rfl,_,_,_,rfl,.tup Fw,pV,_,rfl,?_⟩;refine cO ?_;refine ⟨_,rfl,pr,_,rfl,.inr (SqT.of Fw),rfl,_,rfl,?_⟩;refine cO ?_;dsimp only [rj];refine ⟨_,rfl,b,_,0,.ref ia,rfl,rfl,SqT.of (s5 _ _ hB.bk),at0,_,rfl,pr,_,0,.ref ta,rfl,rfl,SqT.of Fw,at0,ia,ta,600,ya,ins,t1,rfl,s5 _ _ hB.inE,hB.inK.mono (Same.kt s5),CU,zO.mono (Same.kt s5),f1,by omega,by omega,fun H6 s6=>⟨_,rfl,?_⟩⟩;refine cO ?_;have B3:=s5.trans s6;refine ⟨_,rfl,b,_,0,.ref ia,rfl,rfl,SqT.of (B3 _ _ hB.bk),at0,_,rfl,pr,_,1,.ref tb,rfl,rfl,SqT.of (B3 _ _ BV),at1,ia,tb,600,ya,ins,t2,rfl,B3 _ _ hB.inE,hB.inK.mono (Same.kt B3),CU,HN.mono (Same.kt B3),f2,by omega,by omega,fun H7 s7=>⟨_,rfl,?_⟩⟩;refine cO ?_;exact ⟨_,rfl,B3.trans s7⟩
   · rintro σ H5 ⟨c4,rfl,s5⟩;exact ⟨_,_,rfl,s5⟩
 · rintro σ H3 ⟨c3,c4,rfl,s3⟩;exact k H3 s3
def qG (ins:List (TY×Int)) (rows:List (List Th)) (R:Nat->List Int->Th->Th->Prop):Prop:=∀ s h t1 t2,R s h t1 t2->∃ m1 m2,m1≠m2/\pR ins rows (s:Nat) t1 h m1/\pR ins rows (s:Nat) t2 h m2
inductive dk (K:S8) (vs:List V) (H:Hp) (Q:VK) (_E:XK):Prop
 | mk (b fl pl:Ta) (ins outs:List (TY×Int)) (head:Th) (rows:List (List Th)) (fs ls:List Ta) (fr:Nat->Th) (R:Nat->List Int->Th->Th->Prop) (yd:vs=[.ref b,.ref fl,.ref pl]) (ye:Bk H ins outs head rows b) (yj:bV ins) (yq:FrL K H rows.length fr fl fs) (yC:(∀ s<rows.length,Th.Fo outs (fr s)/\(fr s).size<=200/\(fr s).tall<=9)) (zj:rows.length<=20) (Bi:PrL H R fr rows.length pl ls) (Bt:qG ins rows R) (Dj:∀ H',L2.Same H H'->Q (.bl true) H'):dk K vs H Q _E
def iy (K:S8):Sp:=dk K
set_option maxHeartbeats 1000000 in
theorem iA:bi P w K mg base CX0 11 T.g__law_pairs_part.f T.g__law_pairs_part.d ["book","fronts","pairs"] (iy K):=by
 refine T.g__law_pairs_part.F.ok bm (fun vs H Q E h=>?_) (fun yb A outer s H vs Q E hr h=>?_)
 · obtain ⟨b,fl,pl,ins,outs,head,rows,fs,ls,fr,R,rfl,_⟩:=h;rfl
 obtain ⟨b,fl,pl,ins,outs,head,rows,fs,ls,fr,R,rfl,hB,g,⟨zE,Ay⟩,DL,hle,⟨BY,AB⟩,hR,k⟩:=h
 refine ⟨_,(ae (bv T2 rfl (bx rfl T.n_range (aa (ay ao rfl T.n_len TU (aa (pv 1) ac)) ac)) (aj (i:=3) bm.nd rfl (Tz rfl)) (ae (av (i:=4) bm.nd rfl (Tz rfl) (pcF T.g__law_holes (eG T 10) hr (aa (az aL (pv 1) (pv 3) (fun _ _=>rfl)) ac)))
  (ag (bv T2 rfl (bx rfl T.n_range (aa (ay ao rfl T.n_len TU (aa (pv 4) ac)) ac)) (aj (i:=5) bm.nd rfl (Tz rfl)) (ae (av (i:=6) bm.nd rfl (Tz rfl) (pcF T.g__law_name_at (fL T) hr (aa (pv 0) (aa (pv 3) (aa (az aD (az aL (az aL (pv 2) (pv 3) (fun _ _=>rfl)) (pv 5) (fun _ _=>rfl)) af (fun _ _=>rfl)) (aa (az aL (pv 4) (pv 5) (fun _ _=>rfl)) ac))))))
  (ae (av (i:=7) bm.nd rfl (Tz rfl) (pcF T.g__law_name_at (fL T) hr (aa (pv 0) (aa (pv 3) (aa (az aD (az aL (az aL (pv 2) (pv 3) (fun _ _=>rfl)) (pv 5) (fun _ _=>rfl)) af (fun _ _=>rfl)) (aa (az aL (pv 4) (pv 5) (fun _ _=>rfl)) ac))))))
  (ag (bE (PW.pt (dL (aK t6 (pv 6) pY (aO _)) (dL (aK t6 (pv 7) pY (aO _)) (dQ (aK cM (pv 6) (pv 7) (aO _)))))) (ag (aC d4)) bj))))))))
  (ag (aC d4))),?_⟩
 try dsimp only [yv,xW]
 have Ac:(T7 rows.length).length=fs.length:=Tp Ay;have EK:(T7 rows.length).length=ls.length:=Tp AB;rw [T8] at Ac EK;refine ⟨_,rfl,fl,_,rfl,.inl (SqL.of zE),_,rfl,by omega,by rw [S6];omega,?_⟩;refine bF (n:=(((fs.map V.ref).length:Nat):Int).toNat) (fun i σ H3=>Ex5 fun (c3 c4 c5 c6 c7:Option V)=>An2 (σ=[some (.ref b),some (.ref fl),some (.ref pl),c3,c4,c5,c6,c7]) (L2.Same H H3)) ⟨none,none,none,none,none,rfl,.refl _⟩ ?_ ?_
 · rintro i σ H3 hi ⟨c3,c4,c5,c6,c7,rfl,s3⟩
   have yA:i<rows.length:=by
    have h1:i<(((fs.map V.ref).length:Nat):Int).toNat:=hi;rw [S6] at h1;omega
   refine hid fun ZZ kZ=>?_;obtain ⟨fa,yP⟩:∃ fa,fs[i]?=some fa:=⟨_,S9 (by omega)⟩;obtain ⟨s',yX,zD⟩:=P2.get' Ay yP;rw [Ux yA] at yX;cases yX;obtain ⟨la,Ag⟩:∃ la,ls[i]?=some la:=⟨_,S9 (by omega)⟩;obtain ⟨s',yX,prs,Fv,Aw⟩:=P2.get' AB Ag;rw [Ux yA] at yX;cases yX;obtain ⟨z1,z2,z3⟩:=DL i yA;refine kZ ?_;have yV:(cY (fr i)).length=prs.length:=Tp Aw;have D7:=lq (fr i);have B2:∀ (xs:List Ta) (a:Ta) (j:Nat),xs[j]?=some a->atI (xs.map V.ref) (0+(j:Int))=some (.ref a):=fun xs a j h=>at_nonneg (by omega) (by rw [show (0+(j:Int)).toNat=j by omega,Tn,h];rfl);refine ⟨_,rfl,_,rfl,fl,_,_,.ref fa,rfl,rfl,SqL.of (s3 _ _ zE),B2 fs fa i yP,fa,fr i,outs,rfl,zD.mono (Same.kt s3),z1,by omega,by omega,fun sl bs H4 s4 nr er yH=>?_⟩;have zy:(cY (fr i)).length=bs.length:=Tp yH
   try dsimp only [aF]
   have Er:=s3.trans s4;refine ⟨_,rfl,sl,_,rfl,.inl (SqL.of er),_,rfl,by omega,by rw [S6];omega,?_⟩;refine bF (n:=(((bs.map V.ref).length:Nat):Int).toNat) (fun j σ H5=>Ex3 fun (c5 c6 c7:Option V)=>An2 (σ=[some (.ref b),some (.ref fl),some (.ref pl),some (.int (0+(i:Int))),some (.ref sl),c5,c6,c7]) (L2.Same H4 H5)) ⟨_,_,_,rfl,.refl _⟩ ?_ ?_
   · rintro j σ H5 hj ⟨c5,c6,c7,rfl,s5⟩
     have yn:j<bs.length:=by
      have h1:j<(((bs.map V.ref).length:Nat):Int).toNat:=hj;rw [S6] at h1;omega
     refine hid fun ZZ kZ=>?_;obtain ⟨pb,Bn⟩:∃ a,bs[j]?=some a:=⟨_,S9 yn⟩;obtain ⟨pr,zk⟩:∃ a,prs[j]?=some a:=⟨_,S9 (by omega)⟩;obtain ⟨h,hh,p0,ta,tb,t1,t2,e0,BV,zO,HN,M0⟩:=P2.get' Aw zk;refine kZ ?_;cases e0;refine hid fun ZZ kZ=>?_;obtain ⟨h',Jo,FP⟩:=P2.get' yH Bn;rw [hh] at Jo;cases Jo;obtain ⟨m1,m2,yk,n1,n2⟩:=hR _ _ _ _ M0;obtain ⟨v,IG,_⟩:=kD.mp (Tb hh);refine kZ ?_;have hd:=oX _ (fr i) [] (Td _) _ (In.to IG);rw [V9] at hd;dsimp only at hd;have AE:=Er.trans s5;refine ⟨_,rfl,_,rfl,_,rfl,_,rfl,pl,_,_,.ref la,rfl,rfl,SqL.of (AE _ _ BY),B2 ls la i Ag,_,rfl,la,_,_,.ref pr,rfl,rfl,SqL.of (AE _ _ Fv),B2 prs pr j zk,pr,_,0,.ref ta,rfl,rfl,SqT.of (AE _ _ BV),at0,_,rfl,_,rfl,sl,_,_,.ref pb,rfl,rfl,SqL.of (s5 _ _ er),B2 bs pb j Bn,b,ta,pb,_,ins,outs,head,rows,t1,h,m1,rfl,hB.mono (Same.kt AE),g,zO.mono (Same.kt AE),s5 _ _ FP,by omega,by rw [U7];exact n1,fun H6 s6=>?_⟩
     try dsimp only [aF]
     have B3:=AE.trans s6;refine ⟨_,rfl,_,rfl,_,rfl,_,rfl,pl,_,_,.ref la,rfl,rfl,SqL.of (B3 _ _ BY),B2 ls la i Ag,_,rfl,la,_,_,.ref pr,rfl,rfl,SqL.of (B3 _ _ Fv),B2 prs pr j zk,pr,_,1,.ref tb,rfl,rfl,SqT.of (B3 _ _ BV),at1,_,rfl,_,rfl,sl,_,_,.ref pb,rfl,rfl,SqL.of ((s5.trans s6) _ _ er),B2 bs pb j Bn,b,tb,pb,_,ins,outs,head,rows,t2,h,m2,rfl,hB.mono (Same.kt B3),g,HN.mono (Same.kt B3),(s5.trans s6) _ _ FP,by omega,by rw [U7];exact n2,fun H7 s7=>?_⟩
     try dsimp only [aF]
     refine ⟨_,rfl,rfl,_,rfl,?_⟩;refine cO ?_;refine ⟨_,rfl,rfl,_,rfl,?_⟩;refine cO ?_;refine ⟨_,rfl,_,rfl,rfl,_,rfl,?_⟩;rw [decide_eq_false (show V.str m1≠V.str m2 from fun z=>yk (V.str.inj z))];refine cO ?_;exact ⟨_,_,_,rfl,s5.trans (s6.trans s7)⟩
   · rintro σ H5 ⟨c5,c6,c7,rfl,s5⟩;exact ⟨_,_,_,_,_,rfl,Er.trans s5⟩
 · rintro σ H3 ⟨c3,c4,c5,c6,c7,rfl,s3⟩;exact k H3 s3
theorem qA (outs:List (TY×Int)):Th.Fo outs hole:=by rw [hole,Th.Fo];exact .inl ⟨rfl,rfl⟩
theorem t7 {outs:List (TY×Int)} (g:bV outs) {S:Int}:∀ (n:Nat) (t:Th),t.size<=n->t.FitS outs S 0->Th.Fo outs t
 | 0,t,h,_=>by have:=t.size_pos;omega
 | n+1,.call a b,_,h=>by rw [Th.FitS] at h;omega
 | n+1,.knot m ks,hn,h=>by
   rw [Th.FitS] at h;rw [Th.size] at hn;rw [Th.Fo];exact .inr ⟨h.1,oP (g.low _ h.1).1,nn fun t ht=>t7 g n t (by have:=aQ ht;omega) (gI h.2 t ht)⟩
theorem tz {outs:List (TY×Int)}:∀ (n:Nat) (l r:Th),l.size<=n->Th.Fo outs l->Th.Fo outs (l.com r)
 | 0,l,_,h,_=>by have:=l.size_pos;omega
 | n+1,l,r,hn,h=>by
   rw [ij];by_cases hs:aG l r=true
   · rw [if_pos hs];obtain ⟨m,ks,us,rfl,rfl,hl,hh⟩:=bM hs;rw [Th.Fo] at h;rw [Th.size] at hn;rcases h with ⟨h1,h2⟩ | ⟨h1,h2,h3⟩
     · rw [Th.isHole,decide_eq_true ⟨h1,h2⟩] at hh;cases hh
     · show Th.Fo outs (.knot m ((ks.zip us).map fun p=>p.1.com p.2));rw [Th.Fo];refine .inr ⟨by rw [S6,Wz,<- hl,Yb];exact h1,h2,nn fun t ht=>?_⟩;obtain ⟨p,hp,rfl⟩:=Um.mp ht;have hm:=(Wy hp).1;exact tz n p.1 p.2 (by have:=aQ hm;omega) (iW h3 hm)
   · rw [if_neg hs];exact qA _
theorem sW {outs:List (TY×Int)} (mk:Int->Th):∀ (row:List Th) (m:Th),Th.Fo outs m->Th.Fo outs (frF mk m row)
 | [],m,h=>h
 | p::row,m,h=>sW mk row _ (tz _ m _ (Td _) h)
theorem tq {outs:List (TY×Int)} (D:List Int->Bool):∀ (n:Nat) (t:Th) (pre:List Int),t.size<=n->Th.Fo outs t->Th.Fo outs (t.cut D pre)
 | 0,t,_,h,_=>by have:=t.size_pos;omega
 | n+1,.call a b,_,_,h=>by rw [Th.Fo] at h;exact h.elim
 | n+1,.knot m ks,pre,hn,h=>by
   rw [Th.cut];by_cases hc:(Th.knot m ks).isHole=true∨D pre=true
   · rw [if_pos hc];exact qA _
   · rw [if_neg hc];rw [Th.Fo] at h;rw [Th.size] at hn;rcases h with ⟨h1,h2⟩ | ⟨h1,h2,h3⟩
     · exact absurd (.inl (by rw [Th.isHole];exact decide_eq_true ⟨h1,h2⟩)) hc
     · rw [Th.Fo];refine .inr ⟨by rw [i8];exact h1,h2,nn fun t ht=>?_⟩;obtain ⟨j,hj⟩:=TJ.mp ht;rw [iZ,T4] at hj;obtain ⟨u,hu,rfl⟩:=hj;have hm:=Tb hu;exact tq D n u _ (by have:=aQ hm;omega) (iW h3 hm)
inductive qw (K:S8) (vs:List V) (H:Hp) (Q:VK) (_E:XK):Prop
 | mk (a:Ta) (ns:List Int) (yd:vs=[.ref a]) (ye:SqL K H a (ns.map V.int)) (yj:ns.length<=63) (yq:∀ H',Q (.bl true) H'):qw K vs H Q _E
def nu (K:S8):Sp:=qw K
theorem r8 {ins:List (TY×Int)} {rows:List (List Th)} {B:Nat} (h:∀ s<rows.length,(mkF ins rows (s:Nat)).size<=B):(fw ins rows).length<=rows.length * B:=by
 have h2:=kN (l:=T7 rows.length) (f:=fun s=>((mkF ins rows (s:Nat)).pl []).map fun x=>nk (s:Nat) x.1) (B:=B) fun s hs=>by
  rw [S6,Th.pl_len];exact h s (VZ.mp hs)
 rw [T8] at h2;exact h2
theorem wQ {ins outs:List (TY×Int)} {rows:List (List Th)} (F:FrK ins outs rows) (go:bV outs) {B:Nat} (hB:∀ row∈rows,∀ p∈row,p.size<=B) (f':List (aB×V)):∀ s<rows.length,Th.Fo outs ((frS ins rows s).cut (Dk f' (s:Nat)) [])/\((frS ins rows s).cut (Dk f' (s:Nat)) []).size<=B/\(mkF ins rows (s:Nat)).size<=B:=fun s hs=>by
 refine hid fun ZZ kZ=>?_;obtain ⟨row,p,hr,hp,e,z1,z2,hf⟩:=F.mkd (l:=(s:Nat)) (by omega) (by omega);refine kZ ?_;have h9:=hB row (Tb hr) p (Tb hp);have hz:=i0 (mkF ins rows) (mkF ins rows (s:Nat)) ((rows[s]?).getD []);have hc:=ki (Dk f' (s:Nat)) _ (frS ins rows s) [] (Td _);have RO:(frS ins rows s).size<=(mkF ins rows (s:Nat)).size:=hz.1;rw [e] at RO;refine ⟨tq _ _ _ [] (Td _) (sW _ _ _ ?_),by omega,by rw [e];exact h9⟩;rw [e];exact t7 go _ _ (Td _) hf
theorem vR {ins:List (TY×Int)} {rows:List (List Th)} {M:Nat} (hM:M<=150):vh ins (Rp ins rows M):=fun s h t1 t2 ⟨j,hj,hv⟩=>by
 refine hid fun ZZ kZ=>?_;obtain ⟨s',pl,m1,m2,_,_,_,⟨f1,g1,_⟩,⟨f2,g2,_⟩⟩:=hv;refine kZ ?_;exact ⟨⟨f1,by omega⟩,⟨f2,by omega⟩⟩
theorem tO {ins:List (TY×Int)} {rows:List (List Th)} {M:Nat}:qG ins rows (Rp ins rows M):=fun s h t1 t2 ⟨j,hj,hv⟩=>by
 refine hid fun ZZ kZ=>?_;obtain ⟨s',pl,m1,m2,e,_,yk,⟨_,_,n1⟩,⟨_,_,n2⟩⟩:=hv;obtain ⟨e4,rfl⟩:=qo e;refine kZ ?_;have:s=s':=by omega
 subst this;exact ⟨m1,m2,yk,n1,n2⟩
set_option maxHeartbeats 1000000 in
theorem vZ:bi P w K mg base CX0 22 T.g_law.f T.g_law.d ["script"] (nu K):=by
 refine T.g_law.F.ok mU (fun vs H Q E h=>?_) (fun yb A outer s H vs Q E hr h=>?_)
 · obtain ⟨a,ns,rfl,_⟩:=h;rfl
 obtain ⟨a,ns,rfl,hS,CM,k⟩:=h
 refine ⟨_,(ae (av (i:=1) mU.nd rfl (Tz rfl) (pcF T.g__law_drawn (lN T) hr (aa (pv 0) (aa af ac))))
  (ae (av (i:=2) mU.nd rfl (Tz rfl) (pcF T.g_fronts_of (nU T) hr (aa (pv 1) ac)))
  (ae (bE (dO (aY (pcF T.g__law_fronts_formed (fR T) hr (aa (pv 1) (aa (pv 2) ac))) (fun _=>rfl))) (ag (aC d4)) bj)
  (ae (av (i:=3) mU.nd rfl (Tz rfl) (pcF T.g_partings_of (kq T) hr (aa (pv 1) ac)))
  (ag (aC (nI (pcF T.g__law_pairs_formed (fU T) hr (aa (pv 1) (aa (pv 2) (aa (pv 3) ac)))) (pK (pcF T.g__law_pairs_part (iA T) hr (aa (pv 1) (aa (pv 2) (aa (pv 3) ac)))))))))))),?_⟩
 try dsimp only [yv,xW]
 refine ⟨_,rfl,a,ns,4,rfl,hS,CM,by decide,by decide,fun b ins outs S head rows H1 s1 hb gi go RP hok OM=>?_⟩;have hlen:=hok.len
 have IV:∀ row∈rows,∀ p∈row,∃ k:TY×Int,p.FitS outs S k.2/\p.size<=9:=fun row xV p hp=>by
  obtain ⟨j,hj⟩:=TJ.mp hp;have D9:=hok.row row xV;obtain ⟨k0,zC⟩:∃ k0,ins[j]?=some k0:=⟨_,S9 (by have:=(Te.mp hj).1;omega)⟩;exact ⟨k0,hok.fit row xV j p k0 hj zC⟩
 have F:FrK ins outs rows:=⟨gi,⟨rfl,fun row xV=>⟨hok.row row xV,fun j p k0 hp hk=>by rw [hlen];exact (hok.fit row xV j p k0 hp hk).1⟩⟩,by omega,fun row xV p hp=>by
  obtain ⟨_,_,h⟩:=IV row xV p hp;have:=cF p;exact ⟨by omega,by omega⟩⟩
 refine ⟨_,rfl,b,ins,outs,head,rows,rfl,hb,F,go,fun fl fs f' H2 s2 zE Ay hD hK=>?_⟩;have OY:=wQ F go (B:=9) (fun row xV p hp=>(IV row xV p hp).choose_spec.2) f'
 have DL:∀ s<rows.length,Th.Fo outs ((frS ins rows s).cut (Dk f' (s:Nat)) [])/\((frS ins rows s).cut (Dk f' (s:Nat)) []).size<=200/\((frS ins rows s).cut (Dk f' (s:Nat)) []).tall<=9:=fun s hs=>by
  obtain ⟨y1,y2,_⟩:=OY s hs;have:=cF ((frS ins rows s).cut (Dk f' (s:Nat)) []);exact ⟨y1,by omega,by omega⟩
 have hM:(fw ins rows).length<=150:=by
  have:=r8 fun s hs=>(OY s hs).2.2;omega
 have yo:=hb.mono (Same.kt s2);refine ⟨_,rfl,_,rfl,b,fl,ins,outs,head,rows,fs,fun s=>(frS ins rows s).cut (Dk f' (s:Nat)) [],rfl,yo,⟨zE,Ay⟩,DL,by omega,fun H3 s3=>?_⟩;refine ⟨_,rfl,?_⟩;refine cO ?_;dsimp only [rj];have Ju:=yo.mono (Same.kt s3);refine ⟨_,rfl,b,ins,outs,head,rows,rfl,Ju,F,go,fun pl ls M1 H4 s4 S5 RQ M3=>?_⟩;have RR:(fun s=>(frS ins rows s).cut (Dk M1 (s:Nat)) [])=fun (s:Nat)=>(frS ins rows s).cut (Dk f' (s:Nat)) []:=funext fun s=>by rw [RQ.eq hK s]
 rw [RR] at M3;have F0:=Ju.mono (Same.kt s4);have DJ:=s3.trans s4;refine ⟨_,rfl,_,rfl,_,rfl,b,fl,pl,ins,outs,head,rows,fs,ls,fun s=>(frS ins rows s).cut (Dk f' (s:Nat)) [],Rp ins rows (fw ins rows).length,rfl,F0,by have:=gi.le;omega,⟨DJ _ _ zE,P2.mp (fun _ _ h=>h.mono (Same.kt DJ)) Ay⟩,DL,by omega,M3,vR hM,fun H5 s5=>?_⟩;refine ⟨_,rfl,?_⟩;rw [if_pos rfl];have BX:=DJ.trans s5;obtain ⟨BY,AB⟩:=M3;exact ⟨_,rfl,_,rfl,_,rfl,b,fl,pl,ins,outs,head,rows,fs,ls,fun s=>(frS ins rows s).cut (Dk f' (s:Nat)) [],Rp ins rows (fw ins rows).length,rfl,F0.mono (Same.kt s5),gi,⟨BX _ _ zE,P2.mp (fun _ _ h=>h.mono (Same.kt BX)) Ay⟩,DL,by omega,⟨s5 _ _ BY,P2.mp (fun s la ⟨prs,h1,h2⟩=>⟨prs,s5 _ _ h1,P2.mp (fun _ _ e=>e.mono (Same.kt s5)) h2⟩) AB⟩,tO,fun H6 s6=>k H6⟩
end
set_option maxHeartbeats 8000000 in
theorem all_mk {l:PySem.W.OpenLaw} {w:TN} {K:S8} {h:UM} {mg:TY->Option Tc} {fa:Ta} (X:K.In h) (G:h.Ns Ue mg) (yP:mg "law"=some (.ref fa))
 {IW:Ta} {M4 IX:Option Ta} {M5:Array (Option Tc)} {M6 IY IZ I0 Fx Ja:Tc} {OZ:Tok} {FJ:Tok} {M7:Ta} {M8:Option Ta} {RS:Nat} {M9:Array (Option Tc)} {Jb:Tok}
 (g_kids_of:FX K mg "kids_of" jj ["thing"])
 (g_walked:FX K mg "walked" kJ ["thing"])
 (g_placed:FX K mg "placed" lr ["thing"])
 (g_built:FX K mg "built" m9 ["tops"])
 (g_places:FX K mg "places" kH ["tree"])
 (g_is_call:FX K mg "is_call" jg ["thing"])
 (g_is_hole:FX K mg "is_hole" jm ["thing"])
 (g_is_knot:FX K mg "is_knot" jd ["thing"])
 (g_called_by:FX K mg "called_by" gy ["call"])
 (g_calls_in:FX K mg "calls_in" iD ["pattern"])
 (g_holes_in:FX K mg "holes_in" iF ["front"])
 (g_top_of:FX K mg "top_of" kM ["part"])
 (g_filled:FX K mg "filled" lc ["pattern","table"])
 (g_same_top:FX K mg "same_top" iG ["one","two"])
 (g_side_by_side:FX K mg "side_by_side" dP ["one","two"])
 (g_common:FX K mg "common" kT ["one","two"])
 (g_ins_of:FX K mg "ins_of" lm ["book"])
 (g_rules_of:FX K mg "rules_of" iw ["book"])
 (g_states_of:FX K mg "states_of" gd ["book"])
 (g_small_tree:FX K mg "small_tree" fF ["ins"])
 (g_knot_above:FX K mg "knot_above" fB ["ins","kind","kids"])
 (g_first_makings:FX K mg "first_makings" di ["book"])
 (g_first_front:FX K mg "first_front" eE ["book","state","made","partings"])
 (g_put_links:FX K mg "put_links" fY ["book","state","front","links"])
 (g_spread:FX K mg "spread" ky ["ins","links","partings"])
 (g_cut_front:FX K mg "cut_front" gz ["front","state","partings"])
 (g_found_fronts:FX K mg "found_fronts" dz ["book"])
 (g_fronts_of:FX K mg "fronts_of" fX ["book"])
 (g_partings_of:FX K mg "partings_of" eN ["book"])
 (g__law_cell:FX K mg "_law_cell" gv ["script","k"])
 (g__law_folded:FX K mg "_law_folded" eC ["cells","many"])
 (g__law_names:FX K mg "_law_names" fj ["cell"])
 (g__law_kinds:FX K mg "_law_kinds" fC ["cell","names"])
 (g__law_thing:FX K mg "_law_thing" fx ["left","outs","states","kids"])
 (g__law_places:FX K mg "_law_places" eF ["thing"])
 (g__law_put:FX K mg "_law_put" ik ["thing","place","other"])
 (g__law_mixed:FX K mg "_law_mixed" fh ["cell","k"])
 (g__law_rows:FX K mg "_law_rows" gA ["cells","ins","outs","states"])
 (g__law_book:FX K mg "_law_book" gC ["cells","ins","outs","states"])
 (g__law_drawn:FX K mg "_law_drawn" ft ["script","most"])
 (g__law_name_at:FX K mg "_law_name_at" dR ["book","state","tree","place"])
 (g__law_is_tree:FX K mg "_law_is_tree" dN ["ins","tree","most"])
 (g__law_is_front:FX K mg "_law_is_front" dj ["outs","front"])
 (g__law_holes:FX K mg "_law_holes" fA ["front"])
 (g__law_fronts_formed:FX K mg "_law_fronts_formed" cp ["book","fronts"])
 (g__law_pairs_formed:FX K mg "_law_pairs_formed" cy ["book","fronts","pairs"])
 (g__law_pairs_part:FX K mg "_law_pairs_part" cI ["book","fronts","pairs"])
 (a47:Vd K Ue "law"=some (some (.ref IW))) (l47:K.lookup IW=some ⟨M6,M4,.func (WQ "law" "law" (cn i3) (b8 i3) (am i3) .none IY IZ I0 IX Fx Ja),M5⟩) (c47:Yq K Fx "law"=true) (k47:Yp K (.ref IW)=true)
 (z0:Vd K Ue "all"=some none)
 (z1:Vd K Ue "dict"=some none)
 (z2:Vd K Ue "enumerate"=some none)
 (z3:Vd K Ue "isinstance"=some none)
 (z4:Vd K Ue "len"=some none)
 (z5:Vd K Ue "list"=some none)
 (z6:Vd K Ue "range"=some none)
 (z7:Vd K Ue "reversed"=some none)
 (z8:Vd K Ue "str"=some none)
 (z9:Vd K Ue "tuple"=some none)
 (z10:Vd K Ue "zip"=some none)
 (y0:Vd K Ue "CALL_SIGN"=some (some (.str (Ti "?") OZ)))
 (y1:Vd K Ue "MOST_KIDS"=some (some (.int (3) FJ)))
 (y2:Vd K Ue "HOLE"=some (some (.ref M7)))
 (w2:K.lookup M7=some ⟨.type "tuple",M8,.seq #[.str (Ti "*") Jb] RS,M9⟩) :
 ∃ fd:WK,(∀ (s:Tj) (v:Tc),BindsTo s fd ⟨[v],[]⟩ [("script",v)])/\∀ base:UM,K.In base->base.Ns Ue mg->bi l.prog w K mg base CX0 22 fa fd ["script"] (nu K):=by
 have e0:=yP.symm.trans (XW X G a47);have e:IW=fa:=(Value.ref.inj (TV e0)).symm;subst e;have O0:=fu (st:=i3) l47 c47 k47;have RT:=O0.binds (ps:=["script"]) fun _ _ _ _ _ _ us hl=>by obtain ⟨y0,rfl⟩:=us1 hl;rfl
 let T:TX K mg:=⟨⟨OZ,XW X G y0⟩,⟨FJ,XW X G y1⟩,M7,XW X G y2,fun H=>.inr ⟨_,_,_,w2,rfl,rfl,(by show 1<=TB;decide),.cons ⟨_,rfl⟩ (.nil)⟩,g_kids_of,g_walked,g_placed,g_built,g_places,g_is_call,g_is_hole,g_is_knot,g_called_by,g_calls_in,g_holes_in,g_top_of,g_filled,g_same_top,g_side_by_side,g_common,g_ins_of,g_rules_of,g_states_of,g_small_tree,g_knot_above,g_first_makings,g_first_front,g_put_links,g_spread,g_cut_front,g_found_fronts,g_fronts_of,g_partings_of,g__law_cell,g__law_folded,g__law_names,g__law_kinds,g__law_thing,g__law_places,g__law_put,g__law_mixed,g__law_rows,g__law_book,g__law_drawn,g__law_name_at,g__law_is_tree,g__law_is_front,g__law_holes,g__law_fronts_formed,g__law_pairs_formed,g__law_pairs_part,⟨IW,_,O0,RT,XW X G a47⟩,U3 X G z0,U3 X G z1,U3 X G z2,U3 X G z3,U3 X G z4,U3 X G z5,U3 X G z6,U3 X G z7,U3 X G z8,U3 X G z9,U3 X G z10⟩
 refine ⟨WQ "law" "law" (cn i3) (b8 i3) (am i3) .none IY IZ I0 IX Fx Ja,fun s v=>.of_eq rfl,fun base _ _=>?_⟩;exact vZ T
theorem walk {l:PySem.W.OpenLaw} {q:Tv} {loose:List TY} {XP:(TY->Option Tc)->UM->Prop} {YP:TN->UM->Prop} {d:DefRec} {K:Params->S8} (hn:l.most=some 63) (hdf:d.params.defaults=[])
 (hY:∀ (w:TN) (h:UM),YP w h->(K w.params).In h)
 (F:∀ (w:TN) (mg:TY->Option Tc) (fa:Ta) (h:UM),(K w.params).In h->h.Ns Ue mg->mg d.name=some (.ref fa) →
  ∃ fd:WK,(∀ (s:Tj) (u:Tc),BindsTo s fd ⟨[u],[]⟩ [("script",u)])/\∀ base:UM,(K w.params).In base->base.Ns Ue mg->bi l.prog w (K w.params) mg base CX0 22 fa fd ["script"] (nu (K w.params))) :
 PySem.W.WalkO q loose XP YP l.row.toRowW d [] (fun f vs=>PySem.call f vs) :=
 L2.uu (n:=63) (k:=22) (x:="script") (CX:=fun _=>CX0) (sp:=fun w=>nu (K w.params)) hn (by decide) hdf ⟨rfl,by decide,by decide⟩ hY F (fun _ _ a ns hl _ hS=>⟨a,ns,rfl,hS,hl,fun _=>rfl⟩) fun _ _ _ _ _ z=>z
end LAW
open PySem PySem.W PyProof.Rows
set_option maxRecDepth 100000 in
set_option maxHeartbeats 0 in
theorem PySem.Challenge.cw_boughbook_k58_partings_part_holds : PySem.Challenge.rw_boughbook_k58_partings_part.Holds := by
 w_on;o_law;(refine holds_open (q:=LAW.vw) (N:=90000) (loose:=[]) (XP:=XL LAW.vw []) (Yf:=Hook.obs (kHook LAW.d0.heap_1 LAW.ks LAW.ke)) (Ya:=Hook.val (kHook LAW.d0.heap_1 LAW.ks LAW.ke)) (YP:=Hook.says (kHook LAW.d0.heap_1 LAW.ks LAW.ke)) (Xt:=LAW.xt) (HD.sh (by kernel_rfl) (by kernel_rfl) (fun _=>by kernel_rfl) LAW.lk0 LAW.lk1 LAW.lk2 LAW.lk3 LAW.lk4 LAW.lk5 (HD.Pc.k LAW.kp)) (Hook.of (kHook LAW.d0.heap_1 LAW.ks LAW.ke)) (Hook.keeps (kHook LAW.d0.heap_1 LAW.ks LAW.ke)) (fun s e=>xl_of s (Yw.mp e).1) XL.keeps (by rfl) (by rfl) (by rfl) (fun s e=>recFacts_of (Yw.mp e).2) (by rfl) (by assumption) (by decide +kernel) ⟨rfl,rfl,rfl,rfl,rfl,by decide +kernel⟩ ?_ ?_);w_witness2
 k_fill
 refine LAW.walk (l:=PySem.Challenge.rw_boughbook_k58_partings_part) rfl rfl (fun w h Y=>PySem.W.kIn_of Y) ?F
 case F =>
  intro w mg fa h KX G Gp;refine' LAW.all_mk KX G Gp (LAW.fx1 KX G) (LAW.fx1 KX G) (LAW.fx1 KX G) (LAW.fx1 KX G) (LAW.fx1 KX G) (LAW.fx1 KX G) (LAW.fx1 KX G) (LAW.fx1 KX G) (LAW.fx1 KX G) (LAW.fx1 KX G) (LAW.fx1 KX G) (LAW.fx1 KX G) (LAW.fx2 KX G) (LAW.fx2 KX G) (LAW.fx2 KX G) (LAW.fx2 KX G) (LAW.fx1 KX G) (LAW.fx1 KX G) (LAW.fx1 KX G) (LAW.fx1 KX G) (LAW.fx3 KX G) (LAW.fx1 KX G) (LAW.fx4 KX G) (LAW.fx4 KX G) (LAW.fx3 KX G) (LAW.fx3 KX G) (LAW.fx1 KX G) (LAW.fx1 KX G) (LAW.fx1 KX G) (LAW.fx2 KX G) (LAW.fx2 KX G) (LAW.fx1 KX G) (LAW.fx2 KX G) (LAW.fx4 KX G) (LAW.fx1 KX G) (LAW.fx3 KX G) (LAW.fx2 KX G) (LAW.fx4 KX G) (LAW.fx4 KX G) (LAW.fx2 KX G) (LAW.fx4 KX G) (LAW.fx3 KX G) (LAW.fx2 KX G) (LAW.fx1 KX G) (LAW.fx2 KX G) (LAW.fx3 KX G) (LAW.fx3 KX G) ?a47 ?l47 ?c47 ?k47 ?z0 ?z1 ?z2 ?z3 ?z4 ?z5 ?z6 ?z7 ?z8 ?z9 ?z10 ?y0 ?y1 ?y2 ?w2
  (case a47=>k_is)
  (case l47=>k_is)
  (case c47=>k_is)
  (case k47=>k_is)
  (case z0=>k_is)
  (case z1=>k_is)
  (case z2=>k_is)
  (case z3=>k_is)
  (case z4=>k_is)
  (case z5=>k_is)
  (case z6=>k_is)
  (case z7=>k_is)
  (case z8=>k_is)
  (case z9=>k_is)
  (case z10=>k_is)
  (case y0=>k_is)
  (case y1=>k_is)
  (case y2=>k_is)
  (case w2=>k_is)
