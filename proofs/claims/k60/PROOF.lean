import PyProof.Rows.All
import Wide.All
import OpenK.AllK
import Wide.FinOn
import Lean
import PyProof.EqAt
import PyProof.EqKinds
import PyProof.TupleCall
import KE.KRevIter
import PyProof.ListNew
import PyProof.Draws
import PyProof.EnumMake
import PyProof.Rows.EnumRows
import PyProof.ZipIter
import PyProof.ConsumeWalk
import KE.LcSums
import PyProof.AttrMissHeap
import KE.KDictOf
import PyProof.DictWalks
import PyProof.ListMulRoad
import PyProof.FactsAll.tuple
import PyProof.NeKinds
import KE.RegKTryMore
import KE.RegKIsAll
import PyProof.StrWalks
import PyProof.Rows.SetFrom
import PyProof.FString5
import Wide.Txt
import PyProof.Rows.SeqMore
import PyProof.StrOps2
import KE.KEqDict
import PyProof.CollectIter
import PyProof.JoinWalk
import PyProof.CallStr
import PyProof.DictRoadsH
import PyProof.MeetsDictList
import PyProof.DictTruth
import PyProof.StrLawsChain
import PyProof.StrCalls6
import PyProof.ToksMono
import PyProof.StrCalls2
import KE.KWords
import PyProof.MeetsStr2
import KE.KLam
import KE.KDictLaws
import PyProof.DictItems
import PyProof.DictValues
import PyProof.DictItemsLoops
import PySem.Challenge.RW_boughbook_k60_whole_long_chains
set_option Elab.async false
set_option linter.all false
set_option maxRecDepth 100000
set_option genInjectivity false
set_option genSizeOf false
local macro_rules | `(tactic| omega) => `(tactic| lia)
open List renaming length_map→Te,getElem?_eq_getElem→Ti,mem_of_getElem?→Tj,getElem?_eq_some_iff→Tq,getElem?_map→Tw,length_cons→Tx,size_toArray→Tz,map_append→TH,mem_cons→TR,mem_iff_getElem?→TU,mem_singleton→TY,length_append→TZ,mem_cons_of_mem→T1,mem_cons_self→T2,range→Ue,length_range→Uh,mem_append_right→Uj,length_take→Ul,append_nil→Up,getElem?_range→Uv,mem_map→Uw,mem_append_left→Ux,append_assoc→Uy,mem_append→UA,map_cons→UE,getElem?_cons_succ→UH,reverse_cons→UJ,length_eq_zero_iff→UO,length_reverse→UT,take_of_length_le→UY,take_add_one→UZ,replicate→U0,reverse_append→U5,length_drop→Vf,getElem?_eq_none→Vr,nil_append→Vv,dropLast_concat_getLast→Vw,reverse_reverse→Vy,filter_cons→Vz,cons_append→VA,map_map→VE,mem_filter→VG,map_nil→VO,drop_zero→VR,take_length→V1,not_mem_nil→V2,lookup_cons→V3,all_eq_true→V4,mem_range→V7,length_replicate→Wa,getElem?_zip_eq_some→Wg,getElem?_append_left→Wh,length_nil→Wi,find?_cons→Wj,length→Wo,of_mem_zip→WD,take_zero→WN,drop_eq_getElem_cons→WY,map_congr_left→W0,filterMap_cons→W2,nodup_cons→Xd,length_zip→Xe,forIn_cons→Xf,zip_cons_cons→Xi,length_filter_le→Xw,getElem_mem→Xx,take_append_of_le_length→XF,zip_nil_right→XQ,nodup_nil→XR,map_inj_right→XS,getElem?_append_right→XT,filter_append→XU,zip_nil_left→XZ,nodup_append→X0,getElem?_inj→X1,ext_getElem?→X2,eq_of_mem_replicate→Yb,map_reverse→Yk,range_succ→Yt,length_set→Yu,replicate_succ'→YC,mem_of_mem_take→YD,getElem?_set_ne→YE,forIn_nil→YF,drop_succ_cons→YK,mem_replicate→YV,mem_filterMap→YW,filterMap_map→YX,flatMap_cons→Y7
open PySem renaming wpAny_bind→Tf,Addr→Tn,Value→Tp,wpAny_pure→Tt,Shared→Tv,Program→TF,wpAny→TM,sizeLine→TN,World→T3,Str→T6,boot_len→T7,Paired→Ud,model→Ug,mainGlobals→Uo,Around→Ut,wpAny_field→Uz,starEach→UD,wpAny_callSpecial?_slot→UI,wpAny_newObj_type→UL,wpAny_call_entry→UM,Expr→UP,Heap→US,builtinLookup_eq_fast→UU,wpAny_seqItems→U2,wpAny_holding→U3,wpAny_specialOf→Vb,wpAny_Call_Name_kw→Ve,cLine→Vk,wpAny_updateSeq→Vo,sysModules→Vs,typeLookup_type→VC,Stmt→VD,wpAny_mono→VI,Obj→VN,IsPair→VP,rawInt→VX,eval→VY,NameKind→V6,wpAny_typeOf→Wb,Builtin→We,wpAny_isInstance→Wf,wpAny_setField_rec→Wl,wpAny_rule→Wm,wpAny_attempt→Wx,pyNext→Wy,plainId_quiet→Wz,isSubtype_type→WC,wpAny_typeNameOfWhole_keyiter→WH,wpAny_of_eq→WI,wpAny_pyIter_tuple→WJ,wpAny_passesOwn→WL,FuncData→WO,wpAny_truthy_bool→WX,mem_of_lookup→WZ,wpAny_setField→W4,typeLookup→W5,atKey→W6,compareOp→Xh,wpAny_typeNameOf_keyiter→Xk,binaryOp→Xl,codeAny_builtin→Xp,tupleKind_room_in1→Xq,sliceBounds→Xr,sizeLine_eq→Xs,Scope→Xu,Pos→Xv,tupleKeyHash→Xz,getItem→XA,firstArgMember→XB,codeAny→XC,backTo→XD,bootBuiltins→X4,OsState→X7,updateSeq→Yd,call_meets→Ye,wpAny_pyIter_enum→Yo,wpAny_letGo→Yp,wpAny_dictEntries→Yq,storedH→Yr,atKey_none_of_get→Ys,behindInMarks→Yw,tupleKind→Yz,IsZip→YG,assignEach→YJ,IsPart→YL,wpAny_ite_split→YM,wpAny_execs_nil→YN,letOwnedTupleGo→YO,importedModules→YQ,wpAny_notOrdered_dict→YT,wpAny_updateSeq_pair→YY,slicePicked→YZ,callType_codes→Y0,bindArgs→Y1,ZipApart→Y2
open PySem.W renaming Frag→Tg,mg_none_of→Vc,kia_one→Vj,nsIn→Vm,boot_heap→Wn,kitOne→WM,fnOf→WT,mg_of→X5,keepIn→YA,codeIn→YB,methodObj→Y3
open Nat renaming le_refl→To,zero_le→T4,ne_of_lt→Ui,lt_of_lt_of_le→UG,lt_irrefl→U8,le_trans→Vu,le_add_right→V0,ne_of_gt→WU,lt_trans→WV,le_of_lt→WW,not_lt_zero→Xc,lt_succ_of_lt→Xn,mul_le_mul_right→XE,min_eq_left→XI,not_lt→XO,add_assoc→X9,min_self→Yn,lt_of_le_of_lt→YU,sub_zero→Y5,le_of_eq→Y6
open PySem.Heap renaming get?_push_of_some→Tr,get?_push_size→TC,lt_size→TJ,get?_update_self→Uq,get?_update_other→Uu,size_push→UR,SameBut→Vq,size_update→XM,ExtBut→Y9
open PySem.Str renaming ofString→Tu
open PySem.Paired renaming length→TB
open PySem.F renaming plainAttrs_list→TL,type_list_append→Ua,slot_list_append→Ub,plain_extend_loop→Va,slot_dict_keyiterator_next→V5,type_list_pop→V8,slot_list_pop→V9,type_list_extend→Wq,slot_list_extend→Wr,slot_list_index→Wv,slot_dict_get→WE,slot_zip_next→WR,slot_tuple_iterator_next→W8,slot_dict_setdefault→XG,entry_extend_loop→X3,args_tuple_add_2→X6,type_list_index→Yg,plainAttrs_dict→Yh,entry_tuple_add→Yi,args_dict_get_3→Yj,slot_tuple_add→Yl,entry_dict_get→Ym,slot_tuple_hash→Yv,slot_list_getattribute→Yy
open Or renaming inl→TQ,inr→X8
open Bool renaming false_ne_true→TV,false_eq_true→UQ,eq_false_iff→U9,and_eq_true→VB,false_or→Xb,eq_iff_iff→Xg,not_true→Xy,and_false→XX,and_eq_true_iff→YI,or_false→YS
open Option.some renaming inj→T5
open Option renaming map_eq_some_iff→T8,isSome_iff_exists→W7,map_some→XH,isSome_map→Y4
open PySem.PassesOwn renaming never→T9
open PySem.Value renaming ref→Uc,none→U4,type→VZ
open Array renaming length_toList→Uk,getElem?_eq_getElem→VH,getElem?_toList→WG,toList_append→W3,forIn_toList→Xj,getElem?_eq_none→Xo,getElem?_eq_some_iff→XY,toList→Za
open Sum renaming inl→Um,inr→WS
open PyProof.Rows renaming slot_tuple_getitem→Ur,callWith_type1→UB,boot_isinstance→UW,boot_tuple→Vx,IsTup→WB,boot_list→Xm,boot_all→Yx
open PySem.Builtin.SmallTypes renaming nextOf→UC,ownedTupleIsFree→UK
open PySem.Obj renaming mapSeq→UN,data_mapFields→VS,isFreed_of_fields→XJ
open PySem.NameKind renaming free→UX,cell→XN
open Int renaming emod_lt_of_pos→U1,zero_add→U6,emod_nonneg→U7,toNat_natCast→Vh,toNat_of_nonneg→Wu,ediv_one→Y8
open PySem.Builtin.Slice renaming slicePlaces→Vd,sliceAdjust→Wt,sliceApplied→Xa
open PySem.Calls renaming spliced_cons→Vg,spliced_nil→VJ,callWith_builtin→WK,evalArgs_plain→XW
open PySem.Builtin.Tuple renaming tupleExact→Vi,tupleHashOf→VQ,tupleItemsOf→W9
open PySem.Value.type renaming inj→Vn
open Ne renaming symm→Vp
open PySem.Builtin.List renaming listExtendWith→VF,listTooLong→VT,listSameRef→VU,listLengthHint→Wc,listItems→Wd,listUpdate→YH
open PySem.Heap.SameBut renaming update→VL
open True renaming intro→VM
open PySem.AutoSeq1 renaming wpAny_loadPart'→VW
open ForInStep renaming yield→Wk
open PySem.Around renaming under_plainId→Ww
open Sum.inl renaming inj→WA
open False renaming elim→WQ
open PySem.Builtin.Str renaming strSliceIndices→Yc
open List.cons renaming inj→YR
namespace HD
open PySem PySem.W PySem.Calls PyProof.Rows
def jT (tb:String->Option We) (p:TF) (w:T3) (m:Nat) (ann:Option Tp):Nat->SharedT->Thread->Option SharedT
 | 0,_,_=>none
 | n+1,s,t=>match through t with
   | true=>some s
   | false=>match stepOk m ann t with
     | false=>none
     | true=>match stepT (denote tb) p w s t with
       | some (s',t')=>jT tb p w m ann n s' t'
       | none=>none
theorem lC {tb:String->Option We} {p:TF} {w:T3} {m:Nat} {ann:Option Tp}:∀ {n:Nat} {s s':SharedT} {t:Thread},jT tb p w m ann n s t=some s'->topRun tb p w m ann n s.abs t=some s'.abs
 | 0,_,_,_,h=>by cases h
 | n+1,s,s',t,h=>by
   unfold jT at h;unfold topRun;cases he:through t with
   | true=>rw [he] at h;cases h;rfl
   | false =>
     rw [he] at h;cases hk:stepOk m ann t with
     | false=>rw [hk] at h;cases h
     | true =>
       rw [hk] at h;cases hs:stepT (denote tb) p w s t with
       | none=>rw [hs] at h;cases h
       | some r =>
         obtain ⟨s2,t2⟩:=r;rw [hs] at h;rw [stepT_spec hs];exact lC h
def sM:List VN->Nat->BT->BT
 | [],_,t=>t
 | o::l,n,t=>sM l (n+1) (t.ins n o)
def uA:List VN->Nat->BT->Bool
 | [],_,_=>true
 | o::l,n,t=>((t.ins n o).get n).isSome && uA l (n+1) (t.ins n o)
theorem mE:∀ (l:List VN) (n:Nat) (t:BT),uA l n t=true->(sM l n t).list (n+l.length)=t.list n++l
 | [],n,t,_=>by rw [Up];rfl
 | o::l,n,t,h=>by
   obtain ⟨h1,h2⟩:=YI.mp h;have e:=absHeap_ins (life:=default) h1
   have e2:(t.ins n o).list (n+1)=t.list n++[o]:=by
    have:=congrArg (fun x:US=>x.objs.toList) e;simpa [absHeap,Heap.push] using this
   have ih:=mE l (n+1) (t.ins n o) h2;rw [e2,Uy] at ih;rw [Tx,show n+(l.length+1)=n+1+l.length by omega];exact ih
theorem vA {h:US} (ok:uA h.objs.toList 0 .nil=true):absHeap (sM h.objs.toList 0 .nil) h.objs.size h.life=h:=by
 have e:=mE _ _ _ ok;rw [Nat.zero_add] at e;unfold absHeap;rw [<- Uk,e];rfl
noncomputable abbrev nw (p:TF) (N:Nat) (w:T3) (os:X7):Option SharedT :=
 jT treeTable p w 11 (some (.ref 6)) N ⟨sM (Wn w.params).objs.toList 0 .nil,11,(Wn w.params).life,Array.mk [],boot_drawn,boot_toks,os⟩ (topStub p)
theorem ux (P:Params):(uA (Wn P).objs.toList 0 .nil,(Wn P).isNs Uo,(Wn P).objs.size,(Wn P).nsMap Uo "__annotations__")=(true,true,11,some (.ref 6)):=by kernel_rfl
theorem map_some {α β:Type} {o:Option α} {a:α} {f:α->β} {b:β} (h:o=some a) (e:o.map f=some b):f a=b:=by rw [h] at e;exact T5 e
abbrev Tr0 (p q:TF) (loose:List T6) (Xt:Tv->Bool) (N:Nat) (g0:Bool):Prop:=∀ (w:T3) (os:X7),((nw p N w os).map fun s=>(staticsOk (YQ p.main.body) (Wn w.params) s.abs.heap && namesBound p s.abs.heap && gensDone s.abs && laidKept (Wn w.params) s.abs.heap,s.abs.heap.bltView,pinSeenD q (drecsOf q) s.abs,plainSeenD q loose s.abs,clsSeenW q loose s.abs,(s.abs.heap.accountedOkI (YQ p.main.body),s.abs.heap.isNs Uo,s.abs.heap.isNs builtinsNs,tablesOk q s.abs.heap,Xt s.abs,(if g0 then s.abs.gens.size == 0 else !leftWithCleanup s.abs.gens))))=some (true,bltViewBooted,pinGoodD (drecsOf q),plainGoodD q loose,clsGoodW q loose,(true,true,true,true,true,true))
abbrev Tr1 (p q:TF) (N:Nat):Prop:=∀ (w:T3) (os:X7),((nw p N w os).map fun s=>seen ((recsOf q).map (·.name)) (ownsOf q) [] { s.abs with gens:=#[] })=some (expectedOf q)
abbrev Tr2 (p q:TF) (loose:List T6) (N:Nat):Prop:=∀ (w:T3) (os:X7),((nw p N w os).map fun s=>s.abs.heap.keysOk (looseW q loose) ((recsOf q).map (·.name)) ((litsOf q).map (·.1)) ((clssOf q (looseW q loose)).map (·.name)))=some true
abbrev Tr3 (p q:TF) (N:Nat):Prop:=∀ (w:T3) (os:X7),((nw p N w os).map fun s=>tabsOk q s.abs)=some true
abbrev Tr4 (p q:TF) (loose:List T6) (N:Nat):Prop:=∀ (w:T3) (os:X7),((nw p N w os).map fun s=>plainSeenE q (looseW q loose) s.abs)=some (plainGoodE q (looseW q loose))
abbrev Tr5 (p q:TF) (N:Nat):Prop:=∀ (w:T3) (os:X7),((nw p N w os).map fun s=>wideSeen q s.abs)=some (wideGood q)
theorem rW {p q:TF} {loose:List T6} {Xt:Tv->Bool} {α:Type} {Yf:Tv->α} {Ya:T3->α} {N:Nat} {g0:Bool}
 (e:opening p=plainProg p.main.scope.names) (hN:Nat.ble 600 N=true) (f:∀ s,fenceModules? p s=some s)
 (r0:Tr0 p q loose Xt N g0)
 (r1:Tr1 p q N)
 (r2:Tr2 p q loose N)
 (r3:Tr3 p q N)
 (r4:Tr4 p q loose N)
 (r5:Tr5 p q N)
 (rY:∀ (w:T3) (os:X7),((nw p N w os).map fun s=>Yf s.abs)=some (Ya w)) :
 LeftO p q loose Xt Yf Ya N g0:=fun w=>by
 obtain ⟨⟨h,gs,d,k,os⟩,e1,e'⟩:=T8.mp (boot_open e hN f w);obtain ⟨rfl,rfl,rfl,rfl⟩:h=Wn w.params/\gs=Array.mk []/\d=boot_drawn/\k=boot_toks:=by simpa using e'
 have Jd:=ux w.params;have z0:=congrArg Prod.fst Jd;have z1:=congrArg (fun x=>x.2.1) Jd;have z2:=congrArg (fun x=>x.2.2.1) Jd;have z3:=congrArg (fun x=>x.2.2.2) Jd;dsimp only at z0 z1 z2 z3;obtain ⟨s1,Et,hY⟩:=T8.mp (rY w os);have q0:=map_some Et (r0 w os);have q1:=map_some Et (r1 w os);have q2:=map_some Et (r2 w os);have q3:=map_some Et (r3 w os);have q4:=map_some Et (r4 w os);have q5:=map_some Et (r5 w os);have rr:=lC Et
 have JZ:SharedT.abs ⟨sM (Wn w.params).objs.toList 0 .nil,11,(Wn w.params).life,Array.mk [],boot_drawn,boot_toks,os⟩=⟨Wn w.params,Array.mk [],boot_drawn,boot_toks,os⟩:=by
  unfold SharedT.abs;dsimp only;rw [<- z2,vA z0]
 rw [JZ] at rr;have a0:=congrArg Prod.fst q0;have a1:=congrArg (fun x=>x.2.1) q0;have a2:=congrArg (fun x=>x.2.2.1) q0;have a3:=congrArg (fun x=>x.2.2.2.1) q0;have a4:=congrArg (fun x=>x.2.2.2.2.1) q0;have b0:=congrArg (fun x=>x.2.2.2.2.2.1) q0;have b1:=congrArg (fun x=>x.2.2.2.2.2.2.1) q0;have b2:=congrArg (fun x=>x.2.2.2.2.2.2.2.1) q0;have b3:=congrArg (fun x=>x.2.2.2.2.2.2.2.2.1) q0;have b4:=congrArg (fun x=>x.2.2.2.2.2.2.2.2.2.1) q0;have b5:=congrArg (fun x=>x.2.2.2.2.2.2.2.2.2.2) q0;dsimp only at a0 a1 a2 a3 a4 b0 b1 b2 b3 b4 b5
 have l2:openSeen q loose (YQ p.main.body) Xt g0 s1.abs=openGood q loose:=by
  unfold openSeen openGood;rw [q1,a1,q2,b0,b1,b2,b3,b4,b5,q3,a2,q4,a3,q5,a4];rfl
 have t:topFrom treeTable p w N ⟨Wn w.params,Array.mk [],boot_drawn,boot_toks,os⟩=some s1.abs:=by
  unfold topFrom;dsimp only;rw [z1,z2,z3,rr];show (match staticsOk (YQ p.main.body) (Wn w.params) s1.abs.heap && namesBound p s1.abs.heap && gensDone s1.abs && laidKept (Wn w.params) s1.abs.heap with | true=>_ | false=>_)=_;rw [a0]
 unfold openEnds;rw [e1];show (topFrom treeTable p w N _).map _=_;rw [t];exact congrArg some (Prod.ext l2 hY)
def p0:Params:={ strHash:=fun _=>0,shareClass:=fun _=>0,mergeTok:=fun t=>t,idOf:=fun _=>0,idOfShared:=fun _ _=>0,followText:=fun _=>false,idOfImm:=fun _=>0 }
structure Pc (p:TF) (N:Nat) (as:List Tn) (vs:T3->List (Option VN)):Prop where
 out:∀ (w:T3) (os:X7),((nw p N w os).map fun s=>as.map s.abs.heap.get?)=some (vs w)
theorem Pc.k {p:TF} {N:Nat} {as:List Tn} {K:Params->Frag} {e:∀ P,as=(K P).map (·.1)} (h:Pc p N as fun w=>(K w.params).map fun p=>some p.2):∀ (w:T3) (os:X7),((nw p N w os).map fun s=>(kHook K as e).obs s.abs)=some ((kHook K as e).val w):=h.out
end HD
section
open PySem PySem.W PyProof.Rows
def LAW.vw:TF:=PySem.W.view PySem.Challenge.pw_boughbook_k60_whole_long_chains [1,2,3,4,5,6,7,9,10,11,12,13,14,15,16,17,18,19,20,22,23,24,26,27,28,29,30,31,32,33,34,35,37,38,39,40,41,42,43,44,45,46,47,48,49,50,51,52]
def LAW.xt (s:Tv):Bool:=xlAt LAW.vw [] s && recOk (RowW.records (OpenRow.toRowW (OpenLaw.row PySem.Challenge.rw_boughbook_k60_whole_long_chains))) s
set_option maxHeartbeats 0 in
theorem LAW.lk0:HD.Tr0 PySem.Challenge.pw_boughbook_k60_whole_long_chains LAW.vw [] LAW.xt 90000 true:=fun _ _=>by kernel_rfl
set_option maxHeartbeats 0 in
theorem LAW.lk1:HD.Tr1 PySem.Challenge.pw_boughbook_k60_whole_long_chains LAW.vw 90000:=fun _ _=>by kernel_rfl
set_option maxHeartbeats 0 in
theorem LAW.lk2:HD.Tr2 PySem.Challenge.pw_boughbook_k60_whole_long_chains LAW.vw [] 90000:=fun _ _=>by kernel_rfl
set_option maxHeartbeats 0 in
theorem LAW.lk3:HD.Tr3 PySem.Challenge.pw_boughbook_k60_whole_long_chains LAW.vw 90000:=fun _ _=>by kernel_rfl
set_option maxHeartbeats 0 in
theorem LAW.lk4:HD.Tr4 PySem.Challenge.pw_boughbook_k60_whole_long_chains LAW.vw [] 90000:=fun _ _=>by kernel_rfl
set_option maxHeartbeats 0 in
theorem LAW.lk5:HD.Tr5 PySem.Challenge.pw_boughbook_k60_whole_long_chains LAW.vw 90000:=fun _ _=>by kernel_rfl
section
local macro_rules | `(tactic| o_head $_H) => `(tactic| assumption)
set_option maxHeartbeats 0 in
theorem LAW.d0 (h:OpenRow.Holds (OpenLaw.row PySem.Challenge.rw_boughbook_k60_whole_long_chains)):OpenRow.Holds (OpenLaw.row PySem.Challenge.rw_boughbook_k60_whole_long_chains):=by
 k_head
end
noncomputable def LAW.ks:List Tn:=(LAW.d0.heap_1 HD.p0).map (·.1)
theorem LAW.ke:∀ P,LAW.ks=(LAW.d0.heap_1 P).map (·.1):=fun _=>by kernel_rfl
set_option maxHeartbeats 0 in
theorem LAW.kp:HD.Pc PySem.Challenge.pw_boughbook_k60_whole_long_chains 90000 LAW.ks fun w=>(LAW.d0.heap_1 w.params).map fun p=>some p.2:=⟨fun _ _=>by kernel_rfl⟩
end
namespace L2
open PySem PySem.Spec PyProof.Rows
abbrev Key:=Sum Int T6
def gN:Key->Tp->Bool
 | .inl k,v=>Value.isInt k v
 | .inr x,v=>Value.isStrOf x v
def xi (w:T3):Key->Int
 | .inl k=>hashInt k
 | .inr x=>hashStr w x
theorem bh:∀ {k:Key} {v:Tp},gN k v=true->(∃ i t,k=Um i/\v=Value.int i t)∨(∃ x t,k=WS x/\v=Value.str x t)
 | .inl i,v,h=>by
   obtain ⟨t,e⟩:=Value.isInt_shape (k:=i) (v:=v) h;exact .inl ⟨i,t,rfl,e⟩
 | .inr x,v,h=>by
   obtain ⟨t,e⟩:=Value.isStrOf_shape (x:=x) (v:=v) h;exact .inr ⟨x,t,rfl,e⟩
theorem sw (i:Int) (t:Tok):gN (.inl i) (.int i t)=true:=by simp [gN,Value.isInt]
theorem rS (x:T6) (t:Tok):gN (.inr x) (.str x t)=true:=by simp [gN,Value.isStrOf]
theorem vK (a b:Int):decide ((Um a:Key)=Um b)=(a == b):=by
 by_cases e:a=b
 · subst e;simp
 · have h:¬ (Um a:Key)=Um b:=fun q=>e (WA q);rw [decide_eq_false h];exact (beq_eq_false_iff_ne.mpr e).symm
theorem v8 (a b:T6):decide ((WS a:Key)=WS b)=decide (a=b):=by
 by_cases e:a=b
 · subst e;simp
 · have h:¬ (WS a:Key)=WS b:=fun q=>e (Sum.inr.inj q);rw [decide_eq_false h,decide_eq_false e]
theorem vC (a:Int) (b:T6):decide ((Um a:Key)=WS b)=false:=decide_eq_false (fun q=>nomatch q)
theorem vM (a:T6) (b:Int):decide ((WS a:Key)=Um b)=false:=decide_eq_false (fun q=>nomatch q)
def aF (prog:TF) (w:T3):PySem.KeyKind prog w Key where
 is:=gN
 hash:=xi w
 inj:=fun v a b ha hb=>by
  rcases bh ha with ⟨i,t,rfl,rfl⟩ | ⟨x,t,rfl,rfl⟩
  · rcases bh hb with ⟨j,u,rfl,e⟩ | ⟨y,u,rfl,e⟩
    · injection e with e1 _;rw [e1]
    · exact nomatch e
  · rcases bh hb with ⟨j,u,rfl,e⟩ | ⟨y,u,rfl,e⟩
    · exact nomatch e
    · injection e with e1 _;rw [e1]
 byValue:=fun k v h=>by
  rcases bh h with ⟨i,t,rfl,rfl⟩ | ⟨x,t,rfl,rfl⟩ <;> rfl
 pyHash:=fun hv h=>by
  rcases bh hv with ⟨i,t,rfl,rfl⟩ | ⟨x,t,rfl,rfl⟩
  · exact wpAny_pyHash_int h
  · exact wpAny_pyHash_str h
 eqBool:=fun hu hv h=>by
  rcases bh hu with ⟨i,t,rfl,rfl⟩ | ⟨x,t,rfl,rfl⟩
  · rcases bh hv with ⟨j,u,rfl,rfl⟩ | ⟨y,u,rfl,rfl⟩
    · rw [vK] at h;exact wpAny_eqBool_int h
    · rw [vC] at h;exact SeqAt.EqAt.int_str i t y u _ _ _ _ h
  · rcases bh hv with ⟨j,u,rfl,rfl⟩ | ⟨y,u,rfl,rfl⟩
    · rw [vM] at h;exact SeqAt.EqAt.str_int x t j u _ _ _ _ h
    · rw [v8] at h;exact wpAny_eqBool_str h
 «strs»:=fun k x t v h=>by
  rcases bh h with ⟨i,u,rfl,e⟩ | ⟨y,u,rfl,e⟩
  · exact nomatch e
  · injection e with e1 _;subst e1;cases v <;> rfl
theorem oq (prog:TF) (w:T3) (i:Int) (t:Tok):(aF prog w).is (.inl i) (.int i t)=true:=sw i t
theorem oS (prog:TF) (w:T3) (x:T6) (t:Tok):(aF prog w).is (.inr x) (.str x t)=true:=rS x t
end L2
namespace L2
open PySem PySem.Spec PyProof.Rows
set_option genInjectivity true in
inductive V where
 | non | bl (b:Bool) | int (i:Int) | str (x:T6) | byt (b:Array UInt8) | flt (b:UInt64) | ref (a:Tn) | ty (n:String)
 deriving DecidableEq
def RelV:V->Tp->Prop
 | .non,u=>u=U4
 | .bl b,u=>u=Value.bool b
 | .int i,u=>∃ t,u=Value.int i t
 | .str x,u=>∃ t,u=Value.str x t
 | .byt b,u=>∃ t,u=Value.bytes b t
 | .flt b,u=>∃ t,u=Value.float b t
 | .ref a,u=>u=Uc a
 | .ty n,u=>u=VZ n
abbrev Vals:List V->List Tp->Prop:=Ud RelV
theorem Vals.length {xs:List V} {us:List Tp} (r:Vals xs us):xs.length=us.length:=TB r
theorem Vals.get:∀ {xs:List V} {us:List Tp} {i:Nat} {x:V},Vals xs us->xs[i]?=some x->∃ u,us[i]?=some u/\RelV x u
 | _,_,_,_,.nil,e=>by simp at e
 | _,_,0,_,.cons r _,e=>by simp at e;subst e;exact ⟨_,rfl,r⟩
 | _,_,i+1,x,.cons _ t,e=>by
   obtain ⟨u,h1,h2⟩:=Vals.get (i:=i) (x:=x) t (by simpa using e);exact ⟨u,by simpa using h1,h2⟩
theorem Vals.set {x:V} {u:Tp} (r:RelV x u):∀ {xs:List V} {us:List Tp} (i:Nat),Vals xs us->Vals (xs.set i x) (us.set i u)
 | _,_,_,.nil=>.nil
 | _,_,0,.cons _ t=>.cons r t
 | _,_,i+1,.cons q t=>.cons q (Vals.set r i t)
theorem Vals.append:∀ {xs ys:List V} {us ws:List Tp},Vals xs us->Vals ys ws->Vals (xs++ys) (us++ws)
 | _,_,_,_,.nil,s=>s
 | _,_,_,_,.cons r t,s=>.cons r (Vals.append t s)
theorem Vals.take:∀ {xs:List V} {us:List Tp} (n:Nat),Vals xs us->Vals (xs.take n) (us.take n)
 | _,_,0,_=>.nil
 | _,_,_+1,.nil=>.nil
 | _,_,n+1,.cons r t=>.cons r (Vals.take n t)
theorem Vals.drop:∀ {xs:List V} {us:List Tp} (n:Nat),Vals xs us->Vals (xs.drop n) (us.drop n)
 | _,_,0,r=>r
 | _,_,_+1,.nil=>.nil
 | _,_,n+1,.cons _ t=>Vals.drop n t
def RelO:Option V->Option Tp->Prop
 | some v,some u=>RelV v u
 | none,none=>True
 | _,_=>False
def KV {κ:Type}:List (κ×V)->List (κ×Tp)->Prop:=Ud fun (p:κ×V) (q:κ×Tp)=>p.1=q.1/\RelV p.2 q.2
def kV:Key->V
 | .inl i=>.int i
 | .inr x=>.str x
inductive HO where
 /-- a list -/
 | lst (xs:List V)
 /-- a tuple (never changes) -/
 | tup (xs:List V)
 /-- a dict F6 keys are ints and texts;one F6 keys are tuples of ints and texts (Ap empty one is both) -/
 | dK (f':List (Key×V)) | dT (f':List (List Key×V))
 /-- a set of ints: its members,its size -/
 | set (S:Int->Bool) (n:Nat)
 /-- an instance of Ap class at C,its dict at dx,its attributes -/
 | ins (C dx:Tn) (fs:List (T6×V))
 /-- Ap dict of Ap instance at x -/
 | own (x:Tn)
 /-- Ap dict of an exception -/
 | xd (fs:List (T6×V))
 /-- a bound method,f of x -/
 | met (f x:Tn)
 /-- a range object lo,lo+1,.. below hi -/
 | rng (lo hi:Int)
 /-- a thing Pf is known to Ap object (Ap script;a dict while a loop walks it): read,never written while it is so -/
 | frz (o:VN) (u:HO)
 /-- a code F7 table -/
 | tbl (ps:Array Tp)
 /-- any other thing,by J0 is true of its one object (a def of Nm own: Pg a S n:=HO.ext fun h=>..) -/
 | ext (φ:US->Prop)
abbrev Hp:=Tn->Option HO
def upd (H:Hp) (a:Tn) (o:HO):Hp:=fun b=>if b=a then some o else H b
theorem ab {H:Hp} {a:Tn} {o:HO}:upd H a o a=some o:=by unfold upd;rw [if_pos rfl]
theorem ak {H:Hp} {a b:Tn} {o:HO} (h:b≠a):upd H a o b=H b:=by unfold upd;rw [if_neg h]
theorem nB {H:Hp} {a:Tn} {o u:HO}:upd (upd H a o) a u=upd H a u:=by
 funext b;unfold upd;split <;> rfl
theorem gR {H:Hp} {a b:Tn} {o u:HO} (h:H a=some o) (h':H b=some u) (d:o≠u):a≠b:=by
 intro e;subst e;rw [h] at h';exact d (T5 h')
theorem aL {H:Hp} {a b:Tn} {o:HO} (h:H a=some o) (h':H b=none):a≠b:=by
 intro e;subst e;rw [h] at h';cases h'
section
variable (P:TF) (w:T3)
def ObjOk (H:Hp) (h:US) (a:Tn):HO->Prop
 | .lst xs=>xs.length<=TN/\∃ (its:List Tp) (n:Nat),Vals xs its/\h.get? a=some { cls:=.type "list",data:=.seq its.toArray n }
 | .tup xs=>xs.length<=TN/\∃ (its:List Tp) (n:Nat),Vals xs its/\h.get? a=some { cls:=.type "tuple",data:=.seq its.toArray n }
 | .dK f'=>f'.length<=TN/\(a == Vs)=false/\∃ vs,KV f' vs/\h.DictOf (aF P w) a vs
 | .dT f'=>f'.length<=TN/\(a == Vs)=false/\∃ xs:List (List Key×Tn×Tp),
  Ud (fun (p:List Key×V) (q:List Key×Tn×Tp)=>p.1=q.1/\H q.2.1=some (.tup (p.1.map kV))/\RelV p.2 q.2.2) f' xs ∧
  ∃ o es ep,h.get? a=some o/\o.ExactDict/\o.data=.dict es ep/\es.toList=xs.map (entryOfKey (Yz (aF P w)))/\(xs.map (·.1)).Nodup
 | .set S n=>h.SetOf (intKind P w) a S n
 | .ins C dx fs=>H dx=some (.own a)/\fs.length<=1000/\dx≠a/\h.get? a=some (PySem.W.instObj C dx) ∧
  ∃ mA,h.Ns1 dx mA/\(∀ f,RelO (fs.lookup f) (mA f))/\PySem.Within mA (fs.map (·.1))
 | .own _=>∃ o,h.get? a=some o
 | .xd fs=>∃ mA,h.Ns1 a mA/\∀ f,RelO (fs.lookup f) (mA f)
 | .rng lo hi=>∃ t u v,h.get? a=some { cls:=.type "range",data:=.fields #[.int lo t,.int hi u,.int 1 v] }
 | .frz o u=>h.get? a=some o/\ObjOk H h a u
 | .tbl ps=>h.get? a=some { cls:=.none,data:=.fields ps }
 | .met f x=>h.get? a=some (Y3 (.ref f) (.ref x))
 | .ext φ=>φ h/\(∃ o,h.get? a=some o)/\∀ h1 h2:US,φ h1->(∀ o,h1.get? a=some o->h2.get? a=some o)->φ h2
def HOk (H:Hp) (h:US):Prop:=∀ a o,H a=some o->ObjOk P w H h a o
end
section
variable {P:TF} {w:T3} {H H':Hp} {h h':US} {a:Tn} {o:HO}
theorem ObjOk.lt (x:ObjOk P w H h a o):a<h.objs.size:=by
 cases o with
 | lst xs=>obtain ⟨_,_,_,_,e⟩:=x;exact TJ e
 | tup xs=>obtain ⟨_,_,_,_,e⟩:=x;exact TJ e
 | dK f'=>obtain ⟨_,_,_,_,o,_,_,e,_⟩:=x;exact TJ e
 | dT f'=>obtain ⟨_,_,_,_,o,_,_,e,_⟩:=x;exact TJ e
 | set S n=>obtain ⟨o,_,_,_,e,_⟩:=x;exact TJ e
 | ins C dx fs=>obtain ⟨_,_,_,e,_⟩:=x;exact TJ e
 | own y=>obtain ⟨_,e⟩:=x;exact TJ e
 | xd fs=>obtain ⟨_,⟨_,_,_,e,_⟩,_⟩:=x;exact TJ e
 | rng lo hi=>obtain ⟨_,_,_,e⟩:=x;exact TJ e
 | frz ob u=>obtain ⟨e,_⟩:=x;exact TJ e
 | tbl ps=>exact TJ (show h.get? a=some _ from x)
 | met f y=>exact TJ (show h.get? a=some _ from x)
 | ext φ=>obtain ⟨_,⟨_,e⟩,_⟩:=x;exact TJ e
theorem Ud.mapP {α β:Type} {F G:α->β->Prop}:∀ {F8:List α} {F9:List β},Ud F F8 F9->(∀ a b,F a b->G a b)->Ud G F8 F9
 | _,_,.nil,_=>.nil
 | _,_,.cons r t,f=>.cons (f _ _ r) (Ud.mapP t f)
theorem ObjOk.stay (x:ObjOk P w H h a o) (k:∀ b u,(b=a∨H b=some (.own a))->h.get? b=some u->h'.get? b=some u)
 (ho:∀ b,H b=some (.own a)->H' b=some (.own a)) (ht:∀ b xs,H b=some (.tup xs)->H' b=some (.tup xs)):ObjOk P w H' h' a o:=by
 induction o with
 | lst xs=>obtain ⟨z,its,n,r,e⟩:=x;exact ⟨z,its,n,r,k _ _ (.inl rfl) e⟩
 | tup xs=>obtain ⟨z,its,n,r,e⟩:=x;exact ⟨z,its,n,r,k _ _ (.inl rfl) e⟩
 | dK f'=>obtain ⟨z,y,vs,r,ob,es,ep,e,c⟩:=x;exact ⟨z,y,vs,r,ob,es,ep,k _ _ (.inl rfl) e,c⟩
 | dT f' =>
   obtain ⟨z,y,xs,r,ob,es,ep,e,c⟩:=x;exact ⟨z,y,xs,Ud.mapP r fun p q z=>⟨z.1,ht _ _ z.2.1,z.2.2⟩,ob,es,ep,k _ _ (.inl rfl) e,c⟩
 | set S n=>obtain ⟨ob,es,ep,t,e,c⟩:=x;exact ⟨ob,es,ep,t,k _ _ (.inl rfl) e,c⟩
 | ins C dx fs =>
   obtain ⟨d,z,ne,e,mA,⟨od,es,ep,e2,c⟩,r⟩:=x;exact ⟨ho _ d,z,ne,k _ _ (.inl rfl) e,mA,⟨od,es,ep,k _ _ (.inr d) e2,c⟩,r⟩
 | own y=>obtain ⟨ob,e⟩:=x;exact ⟨ob,k _ _ (.inl rfl) e⟩
 | xd fs=>obtain ⟨mA,⟨od,es,ep,e,c⟩,r⟩:=x;exact ⟨mA,⟨od,es,ep,k _ _ (.inl rfl) e,c⟩,r⟩
 | rng lo hi=>obtain ⟨t,u,v,e⟩:=x;exact ⟨t,u,v,k _ _ (.inl rfl) e⟩
 | frz ob u ih=>obtain ⟨e,q⟩:=x;exact ⟨k _ _ (.inl rfl) e,ih q⟩
 | tbl ps =>
   have e:h.get? a=some { cls:=.none,data:=.fields ps }:=x;show h'.get? a=some { cls:=.none,data:=.fields ps };exact k a _ (.inl rfl) e
 | met f y =>
   have e:h.get? a=some (Y3 (.ref f) (.ref y)):=x;show h'.get? a=some (Y3 (.ref f) (.ref y));exact k a _ (.inl rfl) e
 | ext φ=>obtain ⟨p,⟨o,e⟩,st⟩:=x;exact ⟨st _ _ p fun o q=>k _ _ (.inl rfl) q,⟨o,k _ _ (.inl rfl) e⟩,st⟩
theorem HOk.lt (x:HOk P w H h) (e:H a=some o):a<h.objs.size:=(x a o e).lt
theorem HOk.fresh (x:HOk P w H h) (e:h.objs.size<=a):H a=none:=by
 cases q:H a with
 | none=>rfl
 | some u=>exact absurd (UG (x.lt q) e) (U8 _)
theorem HOk.kept (x:HOk P w H h) (k:∀ b u,h.get? b=some u->h'.get? b=some u):HOk P w H h':=fun a o e =>
 (x a o e).stay (fun b u _ q=>k b u q) (fun _ q=>q) fun _ _ q=>q
theorem HOk.laid (x:HOk P w H h) (k:∀ b u,h.get? b=some u->h'.get? b=some u) (hp:h.objs.size<=a) (new:ObjOk P w (upd H a o) h' a o):HOk P w (upd H a o) h':=fun b u e=>by
 have hn:=x.fresh hp;by_cases hb:b=a
 · subst hb;rw [ab] at e;cases e;exact new
 · rw [ak hb] at e;exact (x b u e).stay (fun c v _ q=>k c v q) (fun c q=>by rw [ak (aL q hn)];exact q) fun c xs q=>by rw [ak (aL q hn)];exact q
end
def Rd (H:Hp) (a:Tn) (u:HO):Prop:=H a=some u∨∃ o,H a=some (.frz o u)
theorem Rd.ok {P:TF} {w:T3} {H:Hp} {h:US} {a:Tn} {u:HO} (r:Rd H a u) (x:HOk P w H h):ObjOk P w H h a u:=by
 rcases r with r | ⟨o,r⟩
 · exact x a u r
 · obtain ⟨_,q⟩:=x a _ r;exact q
def Mut:Option HO->Prop
 | some (.lst _)=>True
 | some (.dK _)=>True
 | some (.dT _)=>True
 | some (.set _ _)=>True
 | some (.ins _ _ _)=>True
 | some (.ext _)=>True
 | _=>False
section
variable {P:TF} {w:T3} {H:Hp} {h h':US} {x e:Tn} {o':HO}
theorem HOk.write (ok:HOk P w H h) (mu:Mut (H x)) (he:e=x∨H e=some (.own x)) (k:∀ b u,b≠e->h.get? b=some u->h'.get? b=some u) (FD:∃ u,h'.get? e=some u)
 (new:ObjOk P w (upd H x o') h' x o'):HOk P w (upd H x o') h':=fun b u q=>by
 have F':∀ c y,H c=some (.own y)->c≠x:=fun c y r z=>by subst z;rw [r] at mu;exact mu
 have J1:∀ c xs,H c=some (.tup xs)->c≠x:=fun c xs r z=>by subst z;rw [r] at mu;exact mu
 by_cases hb:b=x
 · subst hb;rw [ab] at q;cases q;exact new
 · rw [ak hb] at q;by_cases Bg:b=e
   · have q':H b=some (.own x):=by
      rcases he with z | z
      · exact absurd (Bg.trans z) hb
      · rw [Bg];exact z
     rw [q] at q';cases q';obtain ⟨v,hv⟩:=FD;exact ⟨v,by rw [Bg];exact hv⟩
   · refine (ok b u q).stay (fun c v hc r=>k c v ?_ r) (fun c r=>by rw [ak (F' c b r)];exact r) fun c xs r=>by rw [ak (J1 c xs r)];exact r
     rcases hc with rfl | hc
     · exact Bg
     · rintro rfl;rcases he with z | z
       · exact F' c b hc z
       · rw [hc] at z;cases z;exact hb rfl
end
structure Un (fs ex:List Tn) (H H':Hp) (h h':US):Prop where
 keep:∀ b o,h.get? b=some o->H b=none->b∉fs->b∉ex->h'.get? b=some o
 slot:∀ b o,h.get? b=some o->H b=none->b∈fs->b∉ex->∃ sl,h'.get? b=some { o with slots:=sl }
 free:∀ b o,h.get? b=some o->H b=none->b∉ex->H' b=none
 there:∀ b o,h.get? b=some o->b∉ex->∃ o',h'.get? b=some o'
 tups:∀ b xs,H b=some (.tup xs)->H' b=some (.tup xs)
 frzs:∀ b o u,H b=some (.frz o u)->H' b=some (.frz o u)
 tbls:∀ b ps,H b=some (.tbl ps)->∃ more,H' b=some (.tbl (ps++more))
section
variable {fs Ph ex R1:List Tn} {H H1 H2:Hp} {h h1 h2 h':US} {a x e:Tn} {o:HO}
theorem Un.any (u:Un fs ex H H1 h h1) {b:Tn} {ob:VN} (q:h.get? b=some ob) (n:H b=none) (hx:b∉ex):∃ sl,h1.get? b=some { ob with slots:=sl }:=by
 by_cases hb:b∈fs
 · exact u.slot b ob q n hb hx
 · exact ⟨ob.slots,u.keep b ob q n hb hx⟩
theorem Un.kept (k:∀ b u,h.get? b=some u->h'.get? b=some u):Un fs ex H H h h' :=
 ⟨fun b ob q _ _ _=>k b ob q,fun b ob q _ _ _=>⟨ob.slots,k b ob q⟩,fun _ _ _ n _=>n,fun b ob q _=>⟨ob,k b ob q⟩,fun _ _ q=>q,fun _ _ _ q=>q,fun _ ps q=>⟨#[],by rw [q];simp⟩⟩
theorem Un.refl:Un fs ex H H h h:=Un.kept fun _ _ q=>q
theorem Un.laid (k:∀ b u,h.get? b=some u->h'.get? b=some u) (hp:h.objs.size<=a) (hn:H a=none):Un fs ex H (upd H a o) h h' where
 keep:=fun b u q _ _ _=>k b u q
 slot:=fun b u q _ _ _=>⟨u.slots,k b u q⟩
 free:=fun b u q n _=>by rw [ak (Ui (UG (TJ q) hp))];exact n
 there:=fun b u q _=>⟨u,k b u q⟩
 tups:=fun b xs q=>by rw [ak (aL q hn)];exact q
 frzs:=fun b u xs q=>by rw [ak (aL q hn)];exact q
 tbls:=fun b ps q=>⟨#[],by rw [ak (aL q hn),q];simp⟩
theorem Un.write (mu:Mut (H x)) (he:e=x∨H e=some (.own x)) (k:∀ b u,b≠e->h.get? b=some u->h'.get? b=some u) (FD:∃ u,h'.get? e=some u):Un fs ex H (upd H x o) h h':=by
 have hx:∀ b,H b=none->b≠x:=fun b n z=>by subst z;rw [n] at mu;exact mu
 have hb:∀ b,H b=none->b≠e:=fun b n z=>by
  subst z;rcases he with r | r
  · exact hx b n r
  · rw [n] at r;cases r
 have hm:∀ b u,H b=some u->¬ Mut (some u)->b≠x:=fun b u q nm z=>by subst z;rw [q] at mu;exact nm mu
 refine ⟨fun b u q n _ _=>k b u (hb b n) q,fun b u q n _ _=>⟨u.slots,k b u (hb b n) q⟩,fun b u q n _=>by rw [ak (hx b n)];exact n,fun b u q _=>?_,
  fun b xs q=>by rw [ak (hm b _ q fun z=>z)];exact q,fun b u xs q=>by rw [ak (hm b _ q fun z=>z)];exact q,fun b ps q=>⟨#[],by rw [ak (hm b _ q fun z=>z),q];simp⟩⟩
 by_cases Bg:b=e
 · subst Bg;exact FD
 · exact ⟨u,k b u Bg q⟩
end
def trk (h:US) (H:Hp):List Tn:=(Ue h.objs.size).filter fun a=>(H a).isSome
def nM (h:US) (H:Hp):US:=PySem.W.hideAll h (trk h H)
theorem sg (h:US) (H:Hp):(nM h H).objs.size=h.objs.size:=PySem.W.hideAll_size _ _
theorem sQ {h:US} {H:Hp} {b:Tn} {o:VN} (e:h.get? b=some o) (n:H b=none):(nM h H).get? b=some o :=
 PySem.W.hideAll_get _ e fun hm=>by
  have q:(H b).isSome=true:=(VG.mp hm).2;rw [n] at q;simp at q
theorem uC {h:US} {H:Hp} {b:Tn} {o:VN} (e:(nM h H).get? b=some o):h.get? b=some o/\H b=none:=by
 have e':h.get? b=some o:=PySem.W.of_hideAll (trk h H) e;refine ⟨e',?_⟩;cases q:H b with
 | none=>rfl
 | some x =>
   have hm:b∈trk h H:=VG.mpr ⟨V7.mpr (TJ e'),by simp [q]⟩;have z:(nM h H).get? b=none:=PySem.W.hideAll_none (trk h H) hm;rw [z] at e;cases e
end L2
namespace L2
open PySem PySem.Spec PyProof.Rows
structure Mod (K:Tg) (mg:T6->Option Tp) (base:US):Prop where
 kin:K.In base
 glob:base.Ns Uo mg
 blt:∃ mb,base.Ns builtinsNs mb/\∀ x:T6,x≠"__name__"->mb x=X4 x
 nolimit:base.NoLimit
set_option genInjectivity true in
structure Cx where
 prog:TF
 w:T3
 K:Tg
 mg:T6->Option Tp
 base:US
 A:Ut
 N:List T6
 s₀:Tv
 H₀:Hp
 env:Env
 outer:List Env
 stack:List Env
 ex:List Tn
 fn:T6->Bool
 calm:Bool
 pn:List (Tn×VN)
 xe:Tp->Tv->Prop
def frs (l:List Env):List Tn:=l.filterMap (·.frame)
abbrev Cx.fs (X:Cx):List Tn:=frs X.outer
def Vis (sc:Xu) (x:T6):Prop:=sc.names.lookup x=some .local∨sc.names.lookup x=some .cell∨sc.names.lookup x=some .free
def Loc (sc:Xu) (x:T6):Prop:=sc.names.lookup x=some .local∨sc.names.lookup x=some .cell
def Look (env:Env) (h:US) (m:T6->Option Tp) (x:T6) (u:Tp):Prop :=
 (env.kindOf x=some .local/\m x=some u)∨((env.kindOf x=some .cell∨env.kindOf x=some .free)/\∃ c,env.cells.lookup x=some c/\h.IsCell c (some u))
structure Cx.Ok (X:Cx):Prop where
 mod:Mod X.K X.mg X.base
 kind:X.env.scope.kind=.function
 glob:X.env.globals=Uo
 blt:X.env.builtins=builtinsNs
 above:X.s₀.heap.objs.size<=X.env.locals
 inj:∀ x y c,X.env.cells.lookup x=some c->X.env.cells.lookup y=some c->x=y
 has:∀ x,(X.env.kindOf x=some .cell∨X.env.kindOf x=some .free)->∃ c,X.env.cells.lookup x=some c
 cab:∀ x c,X.fn x=true->X.env.cells.lookup x=some c->X.s₀.heap.objs.size<=c
 hd:X.calm=true->X.A.handled=none
 frames:X.A.frames=some X.stack
 stk:X.stack=X.outer∨(X.stack=X.env::X.outer/\X.env.frame=some X.env.locals)
 exf:∀ b∈X.ex,b≠X.env.locals/\∀ x c,X.env.cells.lookup x=some c->c≠b
 bs:∀ b o,X.base.get? b=some o->X.s₀.heap.get? b=some o/\X.H₀ b=none
 bsz:X.base.objs.size<=X.s₀.heap.objs.size
 noex:∀ b o,X.base.get? b=some o->b∉X.ex
 exfs:∀ b∈X.ex,b∉X.fs
 funs:X.s₀.heap.FunFrames X.base X.outer
 frf:∀ b∈X.fs,X.H₀ b=none
structure Inv (X:Cx) (pins:List (Tn×VN)) (σ:List (Option V)) (H:Hp) (s:Tv):Prop where
 ok:X.Ok
 os:s.os=X.s₀.os
 bare:AllBare s.gens
 base:Un X.fs X.ex X.H₀ H X.s₀.heap s.heap
 loc:∃ m,s.heap.Ns X.env.locals m/\∀ (i:Nat) (x:T6) (v:V),X.N[i]?=some x->σ[i]?=some (some v)->Vis X.env.scope x->∃ u,RelV v u/\Look X.env s.heap m x u
 cell:∀ x c,X.env.cells.lookup x=some c->∃ v,s.heap.IsCell c v
 free:H X.env.locals=none
 freeC:∀ x c,X.env.cells.lookup x=some c->H c=none
 pin:∀ p∈X.pn++pins,s.heap.get? p.1=some p.2/\H p.1=none/\p.1≠X.env.locals/\p.1∉X.fs/\∀ v,p.2.data≠.cell v
 hok:HOk X.prog X.w H s.heap
 len:σ.length=X.N.length
section
variable {X:Cx} {pins:List (Tn×VN)} {σ:List (Option V)} {H H':Hp} {s:Tv} {h':US}
theorem Cx.Ok.nofr (ok:X.Ok) {b:Tn} {o:VN} (e:X.base.get? b=some o):b∉X.fs:=fun hb=>by
 have:=(ok.funs.mem hb).1;rw [e] at this;cases this
theorem Inv.bs (I:Inv X pins σ H s):∀ b o,X.base.get? b=some o->s.heap.get? b=some o/\H b=none:=fun b o e =>
 ⟨I.base.keep b o (I.ok.bs b o e).1 (I.ok.bs b o e).2 (I.ok.nofr e) (I.ok.noex b o e),I.base.free b o (I.ok.bs b o e).1 (I.ok.bs b o e).2 (I.ok.noex b o e)⟩
theorem Inv.bk (I:Inv X pins σ H s):∀ b o,X.base.get? b=some o->s.heap.get? b=some o:=fun b o e=>(I.bs b o e).1
theorem Inv.mod (I:Inv X pins σ H s):Mod X.K X.mg X.base:=I.ok.mod
theorem Inv.kIn (I:Inv X pins σ H s):X.K.In s.heap:=I.ok.mod.kin.keeps I.bk
theorem Inv.lt (I:Inv X pins σ H s):X.env.locals<s.heap.objs.size:=let ⟨_,hn,_⟩:=I.loc;hn.lt
theorem Inv.sz (I:Inv X pins σ H s):X.s₀.heap.objs.size<=s.heap.objs.size:=Vu I.ok.above (WW I.lt)
theorem Inv.nofs (I:Inv X pins σ H s) {a:Tn} (h:s.heap.objs.size<=a):a∉X.fs:=fun hb=>by
 obtain ⟨_,o,ho,_⟩:=I.ok.funs.mem hb;exact absurd (UG (TJ ho) (Vu I.sz h)) (U8 _)
theorem Inv.cne (I:Inv X pins σ H s):∀ x c,X.env.cells.lookup x=some c->c≠X.env.locals:=fun x c e z=>by
 obtain ⟨v,o,ho,hd⟩:=I.cell x c e;obtain ⟨m,⟨o',es,ep,zK,zu,_⟩,_⟩:=I.loc;rw [z,zK] at ho;cases ho;rw [zu] at hd;cases hd
theorem Inv.funs (I:Inv X pins σ H s):s.heap.FunFrames X.base X.outer:=by
 have all:∀ (l:List Env),(∀ b∈frs l,b∈X.fs)->X.s₀.heap.FunFrames X.base l->s.heap.FunFrames X.base l:=by
  intro l;induction l with
  | nil=>intro _ _;trivial
  | cons env r ih =>
    intro hs hl;obtain ⟨hk,⟨L,o,hf,hn,ho,hd⟩,hr⟩:=hl;have hL:L∈X.fs:=hs L (by unfold frs;rw [W2,hf];exact T2);obtain ⟨sl,e⟩:=I.base.slot L o ho (I.ok.frf L hL) hL fun z=>I.ok.exfs L z hL;exact ⟨hk,⟨L,_,hf,hn,e,hd⟩,ih (fun b hb=>hs b (by unfold frs;rw [W2,hf];exact T1 _ hb)) hr⟩
 exact all X.outer (fun _ hb=>hb) I.ok.funs
theorem Inv.stack (I:Inv X pins σ H s):s.heap.FunFrames X.base X.stack:=by
 rcases I.ok.stk with e | ⟨e,hf⟩
 · rw [e];exact I.funs
 · rw [e];obtain ⟨m,hn,_⟩:=I.loc;refine .cons (by rw [I.ok.kind];decide) hf hn ?_ I.funs;exact Heap.get?_none_of_le (Vu I.ok.bsz I.ok.above)
theorem Inv.stkSub (I:Inv X pins σ H s):∀ b∈frs X.stack,b∈X.env.locals::X.fs:=fun b hb=>by
 rcases I.ok.stk with e | ⟨e,hf⟩
 · rw [e] at hb;exact T1 _ hb
 · rw [e] at hb;unfold frs at hb;rw [W2,hf] at hb;exact hb
theorem Inv.stkFree (I:Inv X pins σ H s):∀ b∈frs X.stack,H b=none:=fun b hb=>by
 rcases TR.mp (I.stkSub b hb) with e | hb
 · rw [e];exact I.free
 · obtain ⟨_,o,ho,_⟩:=I.ok.funs.mem hb;exact I.base.free b o ho (I.ok.frf b hb) fun z=>I.ok.exfs b z hb
theorem Inv.step {g':Array GenState} {t':Nat} {d':Drawn} {ch:List Tn} (I:Inv X pins σ H s)
 (CD:∀ b∈ch,(b∈X.ex∨X.s₀.heap.objs.size<=b)/\b≠X.env.locals/\(∀ x c,X.env.cells.lookup x=some c->c≠b)/\∀ p∈X.pn++pins,p.1≠b)
 (keep:∀ b o,b≠X.env.locals->b∉X.fs->b∉ch->s.heap.get? b=some o->H b=none->h'.get? b=some o)
 (slot:∀ b o,b≠X.env.locals->b∈X.fs->b∉ch->s.heap.get? b=some o->H b=none->∃ sl,h'.get? b=some { o with slots:=sl }) (free:∀ b o,b∉ch->s.heap.get? b=some o->H b=none->H' b=none)
 (there:∀ b o,b∉ch->s.heap.get? b=some o->∃ o',h'.get? b=some o')
 (tups:∀ b xs,H b=some (.tup xs)->H' b=some (.tup xs)) (frzs:∀ b o u,H b=some (.frz o u)->H' b=some (.frz o u)) (tbls:∀ b ps,H b=some (.tbl ps)->∃ more,H' b=some (.tbl (ps++more)))
 (ns:∀ m,s.heap.Ns X.env.locals m->h'.Ns X.env.locals m) (hok:HOk X.prog X.w H' h') (hg:AllBare g') :
 Inv X pins σ H' { s with heap:=h',gens:=g',drawn:=d',toks:=t' }:=by
 have Nn:∀ b o,X.s₀.heap.get? b=some o->b≠X.env.locals:=fun b o e=>Ui (UG (TJ e) I.ok.above)
 have Je:∀ b o,X.s₀.heap.get? b=some o->b∉X.ex->b∉ch:=fun b o e hx hb=>by
  rcases (CD b hb).1 with z | z
  · exact hx z
  · exact absurd (UG (TJ e) z) (U8 _)
 have cellK:∀ x c,X.env.cells.lookup x=some c->∀ v,s.heap.IsCell c v->h'.IsCell c v:=fun x c e v ⟨o,ho,hd⟩=>by
  have Ga:c∉ch:=fun z=>(CD c z).2.2.1 x c e rfl;by_cases hc:c∈X.fs
  · obtain ⟨sl,q⟩:=slot c o (I.cne x c e) hc Ga ho (I.freeC x c e);exact ⟨_,q,hd⟩
  · exact ⟨o,keep c o (I.cne x c e) hc Ga ho (I.freeC x c e),hd⟩
 refine ⟨I.ok,I.os,hg,⟨fun b o e n hb hx=>?_,fun b o e n hb hx=>?_,fun b o e n hx=>?_,fun b o e hx=>?_,fun b xs e=>tups b xs (I.base.tups b xs e),fun b o xs e=>frzs b o xs (I.base.frzs b o xs e),fun b ps e=>?_⟩,?_,fun x c e=>?_,?_,fun x c e=>?_,fun p hp=>?_,hok,I.len⟩
 · exact keep b o (Nn b o e) hb (Je b o e hx) (I.base.keep b o e n hb hx) (I.base.free b o e n hx)
 · obtain ⟨sl,e1⟩:=I.base.slot b o e n hb hx;obtain ⟨Pj,e2⟩:=slot b _ (Nn b o e) hb (Je b o e hx) e1 (I.base.free b o e n hx);exact ⟨Pj,e2⟩
 · obtain ⟨o',e1⟩:=I.base.there b o e hx;exact free b o' (Je b o e hx) e1 (I.base.free b o e n hx)
 · obtain ⟨o',e1⟩:=I.base.there b o e hx;exact there b o' (Je b o e hx) e1
 · obtain ⟨m1,e1⟩:=I.base.tbls b ps e;obtain ⟨m2,e2⟩:=tbls b _ e1;exact ⟨m1++m2,by rw [e2,Array.append_assoc]⟩
 · obtain ⟨m,hn,hl⟩:=I.loc;refine ⟨m,ns m hn,fun i x v e1 e2 e3=>?_⟩;obtain ⟨u,r,l⟩:=hl i x v e1 e2 e3;refine ⟨u,r,?_⟩;rcases l with l | ⟨k,c,e,z⟩
   · exact .inl l
   · exact .inr ⟨k,c,e,cellK x c e _ z⟩
 · obtain ⟨v,z⟩:=I.cell x c e;exact ⟨v,cellK x c e v z⟩
 · obtain ⟨m,⟨o,_,_,ho,_⟩,_⟩:=I.loc;exact free _ o (fun z=>(CD _ z).2.1 rfl) ho I.free
 · obtain ⟨v,o,ho,hd⟩:=I.cell x c e;exact free c o (fun z=>(CD c z).2.2.1 x c e rfl) ho (I.freeC x c e)
 · obtain ⟨e,n,ne,nf,d⟩:=I.pin p hp;have Ga:p.1∉ch:=fun z=>(CD p.1 z).2.2.2 p hp rfl;exact ⟨keep p.1 p.2 ne nf Ga e n,free p.1 p.2 Ga e n,ne,nf,d⟩
theorem Inv.un {t':Nat} (I:Inv X pins σ H s) (u:Un X.fs [] H H' s.heap h') (hok:HOk X.prog X.w H' h'):Inv X pins σ H' { s with heap:=h',toks:=t' }:=by
 obtain ⟨m,⟨o,es,ep,ho,r⟩,_⟩:=id I.loc;obtain ⟨sl,hL⟩:=u.any ho I.free (by simp)
 exact I.step (g':=s.gens) (d':=s.drawn) (ch:=[]) (fun _ z=>nomatch z) (fun b o _ hb _ e n=>u.keep b o e n hb (by simp)) (fun b o _ hb _ e n=>u.slot b o e n hb (by simp)) (fun b o _ e n=>u.free b o e n (by simp)) (fun b o _ e=>u.there b o e (by simp)) u.tups u.frzs u.tbls (fun m' hm=>by
  obtain ⟨o',J2,J3,zK,r'⟩:=hm;rw [ho] at zK;cases zK;exact ⟨_,J2,J3,hL,r'⟩) hok I.bare
theorem Inv.call {g':Array GenState} {t':Nat} {d':Drawn} {ch:List Tn} (I:Inv X pins σ H s) (u:Un (frs X.stack) ch H H' s.heap h') (hok:HOk X.prog X.w H' h') (hg:AllBare g')
 (CD:∀ b∈ch,(b∈X.ex∨X.s₀.heap.objs.size<=b)/\b≠X.env.locals/\(∀ x c,X.env.cells.lookup x=some c->c≠b)/\∀ p∈X.pn++pins,p.1≠b) :
 Inv X pins σ H' { s with heap:=h',gens:=g',drawn:=d',toks:=t' }:=by
 obtain ⟨m,⟨o,es,ep,ho,r⟩,_⟩:=id I.loc;obtain ⟨sl,hL⟩:=u.any ho I.free fun z=>(CD _ z).2.1 rfl
 exact I.step (ch:=ch) CD (fun b o hL hb hc e n=>u.keep b o e n (fun z=>(TR.mp (I.stkSub b z)).elim hL hb) hc) (fun b o _ _ hc e n=>u.any e n hc) (fun b o hc e n=>u.free b o e n hc) (fun b o hc e=>u.there b o e hc) u.tups u.frzs u.tbls (fun m' hm=>by
  obtain ⟨o',J2,J3,zK,r'⟩:=hm;rw [ho] at zK;cases zK;exact ⟨_,J2,J3,hL,r'⟩) hok hg
theorem Inv.turned {t':Nat} {it:Tn} (I:Inv X pins σ H s) (k:∀ b o,b≠it->s.heap.get? b=some o->h'.get? b=some o) (hn:H it=none) (hL:it≠X.env.locals)
 (h1:it∈X.ex∨X.s₀.heap.objs.size<=it) (h2:∀ x c,X.env.cells.lookup x=some c->c≠it) (h3:∀ p∈X.pn++pins,p.1≠it):Inv X pins σ H { s with heap:=h',toks:=t' }:=by
 have Ge:∀ b u,H b=some u->b≠it:=fun b u e z=>by rw [z,hn] at e;cases e
 refine I.step (g':=s.gens) (d':=s.drawn) (ch:=[it]) (fun b hb=>?_) (fun b o _ _ hc e _=>k b o (fun z=>hc (by simp [z])) e) (fun b o _ _ hc e _=>⟨o.slots,k b o (fun z=>hc (by simp [z])) e⟩) (fun _ _ _ _ n=>n)
  (fun b o hc e=>⟨o,k b o (fun z=>hc (by simp [z])) e⟩) (fun _ _ e=>e) (fun _ _ _ e=>e) (fun b ps e=>⟨#[],by rw [e];simp⟩) (fun m hm=>?_) (fun b u e=>?_) I.bare
 · have e:b=it:=by simpa using hb
   subst e;exact ⟨h1,hL,h2,h3⟩
 · obtain ⟨o,es,ep,ho,r⟩:=hm;exact ⟨o,es,ep,k _ o (Vp hL) ho,r⟩
 · refine (I.hok b u e).stay (fun c v hc q=>k c v ?_ q) (fun _ q=>q) fun _ _ q=>q;rcases hc with z | z
   · rw [z];exact Ge b u e
   · exact Ge c _ z
theorem Inv.tok (I:Inv X pins σ H s) (t:Nat):Inv X pins σ H { s with toks:=t }:=I.un (h':=s.heap) (t':=t) Un.refl I.hok
theorem Inv.kept {t':Nat} (I:Inv X pins σ H s) (k:∀ b u,s.heap.get? b=some u->h'.get? b=some u):Inv X pins σ H { s with heap:=h',toks:=t' }:=I.un (Un.kept k) (I.hok.kept k)
theorem Inv.laid {a:Tn} {o:HO} {t':Nat} (I:Inv X pins σ H s) (k:∀ b u,s.heap.get? b=some u->h'.get? b=some u) (hp:s.heap.objs.size<=a) (new:ObjOk X.prog X.w (upd H a o) h' a o) :
 Inv X pins σ (upd H a o) { s with heap:=h',toks:=t' }:=I.un (Un.laid k hp (I.hok.fresh hp)) (I.hok.laid k hp new)
theorem Inv.write {x e:Tn} {o:HO} {t':Nat} (I:Inv X pins σ H s) (mu:Mut (H x)) (he:e=x∨H e=some (.own x)) (k:∀ b u,b≠e->s.heap.get? b=some u->h'.get? b=some u) (FD:∃ u,h'.get? e=some u)
 (new:ObjOk X.prog X.w (upd H x o) h' x o):Inv X pins σ (upd H x o) { s with heap:=h',toks:=t' }:=I.un (Un.write mu he k FD) (I.hok.write mu he k FD new)
theorem Inv.weak {xM:List (Option V)} (I:Inv X pins σ H s) (hl:xM.length=σ.length) (w:∀ (i:Nat) v,xM[i]?=some (some v)->σ[i]?=some (some v)):Inv X pins xM H s :=
 ⟨I.ok,I.os,I.bare,I.base,let ⟨m,hn,J4⟩:=I.loc;⟨m,hn,fun i x v e1 e2 e3=>J4 i x v e1 (w i v e2) e3⟩,I.cell,I.free,I.freeC,I.pin,I.hok,hl.trans I.len⟩
theorem Inv.pins_of {DG:List (Tn×VN)} (I:Inv X pins σ H s) (h:∀ p∈DG,s.heap.get? p.1=some p.2/\H p.1=none/\p.1≠X.env.locals/\p.1∉X.fs/\∀ v,p.2.data≠.cell v):Inv X DG σ H s :=
 ⟨I.ok,I.os,I.bare,I.base,I.loc,I.cell,I.free,I.freeC,fun p hp=>(UA.mp hp).elim (fun z=>I.pin p (Ux _ z)) (h p),I.hok,I.len⟩
theorem o8 {N:List T6} (hN:N.Nodup) {i j:Nat} {x:T6} (a:N[i]?=some x) (b:N[j]?=some x):i=j:=by
 obtain ⟨h1,e1⟩:=Tq.mp a;obtain ⟨h2,e2⟩:=Tq.mp b;exact (List.getElem_inj hN).mp (e1.trans e2.symm)
theorem mH {M:Model} {A:Ut} {E:Tp->Tv->Prop} {i:Nat} {x:T6} {v:V} {u:Tp} {Q:Unit->Tv->Prop} (I:Inv X pins σ H s) (hN:X.N.Nodup) (hi:X.N[i]?=some x) (hx:Loc X.env.scope x) (r:RelV v u)
 (h:∀ s',Inv X pins (σ.set i (some v)) H s'->(∃ a,Vq a s.heap s'.heap/\(a=X.env.locals∨X.env.cells.lookup x=some a))->Q () s') (hf:X.fn x=true∨X.env.scope.names.lookup x=some .local:=by first | exact .inl rfl | exact .inr rfl | assumption):TM M A (storeName X.env x u) Q E s:=by
 obtain ⟨m,hn,hl⟩:=id I.loc;have J5:(X.env.scope.kind == .class || (X.env.scope.kind == .module && X.env.locals != X.env.globals))=false:=by rw [I.ok.kind];rfl
 have Gf:i<σ.length:=by rw [I.len];exact (Tq.mp hi).1
 have cne:=I.cne
 have tracked:∀ {a:Tn} {h':US},(∃ o,s.heap.get? a=some o/\H a=none)->Vq a s.heap h'->HOk X.prog X.w H h':=fun {a h'} ha hs b ob e=>by
  obtain ⟨_,_,DH⟩:=ha;refine (I.hok b ob e).stay (fun c w' hc q=>(hs.2 c ?_).trans q) (fun _ q=>q) fun _ _ q=>q;rintro rfl;rcases hc with rfl | hc
  · rw [DH] at e;cases e
  · rw [DH] at hc;cases hc
 rcases hx with hk | hk
 · refine wpAny_storeName_local hk hn (fun h' Pk hs=>?_) J5;obtain ⟨oL,_,_,Pl,_⟩:=id hn;refine h _ ⟨I.ok,I.os,I.bare,⟨fun b o e n hb hx=>?_,fun b o e n hb hx=>?_,I.base.free,fun b o e hx=>?_,I.base.tups,I.base.frzs,I.base.tbls⟩,⟨_,Pk,fun j y v' e1 e2 e3=>?_⟩,fun y c e=>?_,I.free,I.freeC,fun p hp=>?_,tracked ⟨oL,Pl,I.free⟩ hs,by simpa using I.len⟩ ⟨_,hs,.inl rfl⟩
   · exact (hs.2 b (Ui (UG (TJ e) I.ok.above))).trans (I.base.keep b o e n hb hx)
   · obtain ⟨sl,e1⟩:=I.base.slot b o e n hb hx;exact ⟨sl,(hs.2 b (Ui (UG (TJ e) I.ok.above))).trans e1⟩
   · obtain ⟨o',e1⟩:=I.base.there b o e hx;exact ⟨o',(hs.2 b (Ui (UG (TJ e) I.ok.above))).trans e1⟩
   · by_cases hj:j=i
     · subst hj;rw [hi] at e1;cases e1;rw [List.getElem?_set_self Gf] at e2;cases e2;exact ⟨u,r,.inl ⟨hk,by simp⟩⟩
     · rw [YE (Vp hj)] at e2;obtain ⟨u',r',q⟩:=hl j y v' e1 e2 e3;refine ⟨u',r',?_⟩;rcases q with ⟨k,e⟩ | ⟨k,c,e,z⟩
       · refine .inl ⟨k,?_⟩;have:y≠x:=fun e=>hj (o8 hN e1 (e ▸ hi));simp [this,e]
       · exact .inr ⟨k,c,e,z.sameBut hs (cne y c e)⟩
   · obtain ⟨w',z⟩:=I.cell y c e;exact ⟨w',z.sameBut hs (cne y c e)⟩
   · obtain ⟨e,n,ne,nf,d⟩:=I.pin p hp;exact ⟨(hs.2 p.1 ne).trans e,n,ne,nf,d⟩
 · have Eu:X.fn x=true:=by
    rcases hf with z | z
    · exact z
    · rw [z] at hk;cases hk
   obtain ⟨c,hc⟩:=I.ok.has x (.inl hk);obtain ⟨w',z⟩:=I.cell x c hc;refine wpAny_storeName_cell I.ok.kind hk hc z (fun h' y8 hs=>?_);obtain ⟨oc,Np,J6⟩:=id z;refine h { s with heap:=h' } ⟨I.ok,I.os,I.bare,⟨fun b o e n hb hx=>?_,fun b o e n hb hx=>?_,I.base.free,fun b o e hx=>?_,I.base.tups,I.base.frzs,I.base.tbls⟩,⟨m,hn.sameBut hs (Vp (cne x c hc)),fun j y v' e1 e2 e3=>?_⟩,fun y c' e=>?_,I.free,I.freeC,fun p hp=>?_,tracked ⟨oc,Np,I.freeC x c hc⟩ hs,by simpa using I.len⟩ ⟨c,hs,.inr hc⟩
   · exact (hs.2 b (Ui (UG (TJ e) (I.ok.cab x c Eu hc)))).trans (I.base.keep b o e n hb hx)
   · obtain ⟨sl,e1⟩:=I.base.slot b o e n hb hx;exact ⟨sl,(hs.2 b (Ui (UG (TJ e) (I.ok.cab x c Eu hc)))).trans e1⟩
   · obtain ⟨o',e1⟩:=I.base.there b o e hx;exact ⟨o',(hs.2 b (Ui (UG (TJ e) (I.ok.cab x c Eu hc)))).trans e1⟩
   · by_cases hj:j=i
     · subst hj;rw [hi] at e1;cases e1;rw [List.getElem?_set_self Gf] at e2;cases e2;exact ⟨u,r,.inr ⟨.inl hk,c,hc,y8⟩⟩
     · rw [YE (Vp hj)] at e2;obtain ⟨u',r',q⟩:=hl j y v' e1 e2 e3;refine ⟨u',r',?_⟩;rcases q with q | ⟨k,c',e,z'⟩
       · exact .inl q
       · refine .inr ⟨k,c',e,z'.sameBut hs ?_⟩;rintro rfl;exact hj (o8 hN e1 (I.ok.inj _ _ _ e hc ▸ hi))
   · by_cases Ew:c'=c
     · subst Ew;exact ⟨_,y8⟩
     · obtain ⟨w2,z2⟩:=I.cell y c' e;exact ⟨w2,z2.sameBut hs Ew⟩
   · obtain ⟨e,n,ne,nf,d⟩:=I.pin p hp;refine ⟨(hs.2 p.1 ?_).trans e,n,ne,nf,d⟩;intro q;rw [q,Np] at e;have q':oc=p.2:=T5 e;exact d w' (by rw [<- q'];exact J6)
theorem kR {M:Model} {A:Ut} {E:Tp->Tv->Prop} {i:Nat} {x:T6} {v:V} {u:Tp} {Q:Unit->Tv->Prop} (I:Inv X pins σ H s) (hN:X.N.Nodup) (hi:X.N[i]?=some x) (hx:Loc X.env.scope x) (r:RelV v u)
 (h:∀ s',Inv X pins (σ.set i (some v)) H s'->Q () s') (hf:X.fn x=true∨X.env.scope.names.lookup x=some .local:=by first | exact .inl rfl | exact .inr rfl | assumption):TM M A (storeName X.env x u) Q E s :=
 mH I hN hi hx r (fun s' I' _=>h s' I') hf
theorem Inv.call' {s':Tv} {ch:List Tn} (I:Inv X pins σ H s) (ho:s'.os=s.os) (u:Un (frs X.stack) ch H H' s.heap s'.heap) (hok:HOk X.prog X.w H' s'.heap) (hg:AllBare s'.gens)
 (CD:∀ b∈ch,(b∈X.ex∨X.s₀.heap.objs.size<=b)/\b≠X.env.locals/\(∀ x c,X.env.cells.lookup x=some c->c≠b)/\∀ p∈X.pn++pins,p.1≠b):Inv X pins σ H' s':=by
 obtain ⟨h',g',d',t',o'⟩:=s';have e:o'=s.os:=ho;subst e;exact I.call (g':=g') (t':=t') (d':=d') u hok hg CD
end
abbrev XK:=Tp->Option Tn->Hp->Prop
abbrev St:=List (Option V)
abbrev VK:=V->Hp->Prop
abbrev TE:=St->Hp->VK->Prop
abbrev TT:=St->Hp->(Bool->Hp->Prop)->Prop
abbrev TA:=St->Hp->(List V->Hp->Prop)->Prop
structure Ends where
 nx:St->Hp->Prop
 rt:VK
 bk:St->Hp->Prop:=fun _ _=>False
 ct:St->Hp->Prop:=fun _ _=>False
abbrev TS:=Ends->St->Hp->Prop
def EP (X:Cx) (pins:List (Tn×VN)) (σ:St) (Q:VK) (u:Tp) (s':Tv):Prop:=∃ v H',Inv X pins σ H' s'/\RelV v u/\Q v H'
def TP (X:Cx) (pins:List (Tn×VN)) (σ:St) (Q:Bool->Hp->Prop) (b:Bool) (s':Tv):Prop:=∃ H',Inv X pins σ H' s'/\Q b H'
def AP (X:Cx) (pins:List (Tn×VN)) (σ:St) (Q:List V->Hp->Prop) (us:List Tp) (s':Tv):Prop:=∃ vs H',Inv X pins σ H' s'/\Vals vs us/\Q vs H'
def SP (X:Cx) (pins:List (Tn×VN)) (D:Ends) (f:Flow) (s':Tv):Prop :=
 match f with
 | .next=>∃ xM H',Inv X pins xM H' s'/\D.nx xM H'
 | .brk=>∃ xM H',Inv X pins xM H' s'/\D.bk xM H'
 | .cont=>∃ xM H',Inv X pins xM H' s'/\D.ct xM H'
 | .ret u=>∃ v xM H',Inv X pins xM H' s'/\RelV v u/\D.rt v H'
def PE (X:Cx) (e:UP) (t:TE):Prop :=
 ∀ (pins:List (Tn×VN)) (s:Tv) (σ:St) (H:Hp) (Q:VK),Inv X pins σ H s->t σ H Q->TM (Ug X.prog X.w) X.A (VY e X.env) (EP X pins σ Q) X.xe s
def PT (X:Cx) (e:UP) (t:TT):Prop :=
 ∀ (pins:List (Tn×VN)) (s:Tv) (σ:St) (H:Hp) (Q:Bool->Hp->Prop),Inv X pins σ H s->t σ H Q->TM (Ug X.prog X.w) X.A (isTrue e X.env (VY e X.env)) (TP X pins σ Q) X.xe s
def PW (X:Cx) (e:UP) (t:TT):Prop :=
 ∀ (whole:Sem Tp) (pins:List (Tn×VN)) (s:Tv) (σ:St) (H:Hp) (Q:Bool->Hp->Prop),Inv X pins σ H s->t σ H Q->TM (Ug X.prog X.w) X.A (isTrue e X.env whole) (TP X pins σ Q) X.xe s
theorem PW.pt {X:Cx} {e:UP} {t:TT} (h:PW X e t):PT X e t:=h _
def PA (X:Cx) (es:List UP) (t:TA):Prop :=
 ∀ (pos:Xv) (pins:List (Tn×VN)) (s:Tv) (σ:St) (H:Hp) (Q:List V->Hp->Prop),Inv X pins σ H s->t σ H Q->TM (Ug X.prog X.w) X.A (spliced (XD pos (UD es X.env))) (AP X pins σ Q) X.xe s
def PS (X:Cx) (st:VD) (t:TS):Prop :=
 ∀ (pins:List (Tn×VN)) (s:Tv) (σ:St) (H:Hp) (D:Ends),Inv X pins σ H s->t D σ H->TM (Ug X.prog X.w) X.A (exec st X.env) (SP X pins D) X.xe s
def PSs (X:Cx) (st:List VD) (t:TS):Prop :=
 ∀ (pins:List (Tn×VN)) (s:Tv) (σ:St) (H:Hp) (D:Ends),Inv X pins σ H s->t D σ H->TM (Ug X.prog X.w) X.A (execs st X.env) (SP X pins D) X.xe s
theorem thn {α:Type} {t:Sem α} {Q Q':α->Tv->Prop} {M:Model} {A:Ut} {E:Tp->Tv->Prop} {s:Tv} (h:TM M A t Q E s) (hQ:∀ a s,Q a s->Q' a s):TM M A t Q' E s:=VI h hQ fun _ _ x=>x
end L2
namespace L2
open PySem PySem.Spec PyProof.Rows
section
variable {X:Cx}
inductive vb (i:Nat) (σ:St) (H:Hp) (Q:VK):Prop
 | mk (v:_) (x9:σ[i]?=some (some v)) (ya:Q v H):vb i σ H Q
def bw (i:Nat):TE:=vb i
def tC (v:V):TE:=fun _ H Q=>Q v H
theorem vG {i:Nat} {x:T6} {pos:Xv} (hN:X.N[i]?=some x) (hv:Vis X.env.scope x) (hd:(x == ("__debug__":T6))=false:=by decide) (B0:(x == ("__classdict__":T6))=false:=by decide):PE X (.Name x pos) (bw i):=by
 intro pins s σ H Q I h;obtain ⟨v,e,h⟩:=h;obtain ⟨m,hn,hl⟩:=I.loc;obtain ⟨u,r,l⟩:=hl i x v hN e hv;have fin:EP X pins σ Q u s:=⟨v,H,I,r,h⟩;rcases l with ⟨hk,hm⟩ | ⟨hk,c,hc,AZ⟩
 · exact wpAny_Name (wpAny_loadName_local I.ok.kind hk hn hm fin) hd
 · rcases hk with hk | hk
   · exact wpAny_Name (wpAny_loadName_cell I.ok.kind hk hc AZ fin) hd
   · exact wpAny_Name (wpAny_loadName_free I.ok.kind hk hc AZ fin B0) hd
theorem af {i j pos}:PE X (.Constant (.int i) j pos) (tC (.int i)):=fun _ _ _ H _ I h=>wpAny_Constant_int ⟨.int i,H,I.tok _,⟨_,rfl⟩,h⟩
theorem cS {b j pos}:PE X (.Constant (.bool b) j pos) (tC (.bl b)):=fun _ _ _ H _ I h=>Constant_bool ⟨.bl b,H,I,rfl,h⟩
theorem pS {j pos}:PE X (.Constant .none j pos) (tC .non):=fun _ _ _ H _ I h=>Constant_none ⟨.non,H,I,rfl,h⟩
theorem eA {x j pos}:PE X (.Constant (.str x) j pos) (tC (.str x)):=fun _ _ _ H _ I h=>Calls.Constant_str ⟨.str x,H,I.tok _,⟨_,rfl⟩,h⟩
def Gl (X:Cx) (x:T6):Prop:=X.env.kindOf x=some .globalImplicit
theorem qv {E:Tp->Tv->Prop} {pins:List (Tn×VN)} {s:Tv} {σ:St} {H:Hp} {x:T6} {u:Tp} {pos:Xv} {Q:Tp->Tv->Prop} (I:Inv X pins σ H s) (hg:Gl X x) (hm:X.mg x=some u) (h:Q u s)
 (hd:(x == ("__debug__":T6))=false:=by decide):TM (Ug X.prog X.w) X.A (VY (.Name x pos) X.env) Q E s :=
 Calls.Name_function_global I.ok.kind hg (Calls.loadGlobal_global (by rw [I.ok.glob];exact I.mod.glob.keeps I.bk) hm h) hd
theorem cU {E:Tp->Tv->Prop} {pins:List (Tn×VN)} {s:Tv} {σ:St} {H:Hp} {x:T6} {u:Tp} {pos:Xv} {Q:Tp->Tv->Prop} (I:Inv X pins σ H s) (hg:Gl X x) (hm:X.mg x=none) (hv:X4 x=some u) (h:Q u s)
 (hn:x≠"__name__":=by decide) (hd:(x == ("__debug__":T6))=false:=by decide):TM (Ug X.prog X.w) X.A (VY (.Name x pos) X.env) Q E s:=by
 obtain ⟨mb,h1,h2⟩:=I.mod.blt;exact Calls.Name_function_global I.ok.kind hg (Calls.loadGlobal_builtin (by rw [I.ok.glob];exact I.mod.glob.keeps I.bk) hm (by rw [I.ok.blt];exact h1.keeps I.bk) ((h2 x hn).trans hv) h) hd
theorem gz {x:T6} {v:V} {u:Tp} {pos:Xv} (hg:Gl X x) (hm:X.mg x=some u) (r:RelV v u) (hd:(x == ("__debug__":T6))=false:=by decide):PE X (.Name x pos) (tC v) :=
 fun _ _ _ H _ I h=>qv I hg hm ⟨v,H,I,r,h⟩ hd
theorem ef {x:T6} {v:V} {u:Tp} {pos:Xv} (hg:Gl X x) (hm:X.mg x=none) (hv:X4 x=some u) (r:RelV v u) (hn:x≠"__name__":=by decide) (hd:(x == ("__debug__":T6))=false:=by decide):PE X (.Name x pos) (tC v) :=
 fun _ _ _ H _ I h=>cU I hg hm hv ⟨v,H,I,r,h⟩ hn hd
variable {a b:UP} {ta tb:TE} {pos:Xv}
def PC (X:Cx) (op:CmpOp) (a b:UP) (t:TE):Prop :=
 ∀ (pins:List (Tn×VN)) (s:Tv) (σ:St) (H:Hp) (Q:VK),Inv X pins σ H s->t σ H Q →
   TM (Ug X.prog X.w) X.A (VY a X.env) (fun v xN=>TM (Ug X.prog X.w) X.A (VY b X.env) (fun u yu=>TM (Ug X.prog X.w) X.A (Xh op v u) (EP X pins σ Q) X.xe yu) X.xe xN) X.xe s
def tB (t:TE):TT:=fun σ H Q=>t σ H fun x H1=>∃ c,x=.bl c/\Q c H1
theorem pA {op:CmpOp} {t:TE} (h:PC X op a b t) (h1:Yw op b=false:=by first | exact Gg _ (by decide) (by decide) | rfl):PT X (.Compare a [op] [b] pos) (tB t):=by
 intro pins s σ H Q I hw;refine wpAny_isTrue_Compare1 (thn (h pins s σ H _ I hw) fun v s1 h1=>thn h1 fun u s2 h2=>thn h2 fun c s3 ⟨x,H1,I1,r1,q1⟩=>?_) h1;obtain ⟨d,rfl,q⟩:=q1;cases r1;exact WX ⟨H1,I1,q⟩
variable {tA Jf:TT} {rest:List UP}
def xo (t u:TT):TT:=fun σ H Q=>t σ H fun c H1=>if c=true then u σ H1 Q else Q false H1
def tOr (t u:TT):TT:=fun σ H Q=>t σ H fun c H1=>if c=true then Q true H1 else u σ H1 Q
def xg (t:TT):TT:=fun σ H Q=>t σ H fun c H1=>Q (!c) H1
theorem uy (ha:PT X a tA):PW X (.BoolOp .And [a] pos) tA:=by
 intro wh pins s σ H Q I h;refine isTrue_and (thn (ha pins s σ H Q I h) fun c s1 e=>?_);cases c with
 | true=>exact isTrue_and_nil e
 | false=>exact e
theorem cL (ha:PT X a tA):PW X (.BoolOp .Or [a] pos) tA:=by
 intro wh pins s σ H Q I h;refine isTrue_or (thn (ha pins s σ H Q I h) fun c s1 e=>?_);cases c with
 | false=>exact isTrue_or_nil e
 | true=>exact e
theorem vD (ha:PT X a tA) (hb:PW X (.BoolOp .And (b::rest) pos) Jf):PW X (.BoolOp .And (a::b::rest) pos) (xo tA Jf):=by
 intro wh pins s σ H Q I h;refine isTrue_and (thn (ha pins s σ H _ I h) fun c s1 ⟨H1,I1,q1⟩=>?_);cases c with
 | true=>exact hb wh pins s1 σ H1 Q I1 q1
 | false=>exact ⟨H1,I1,q1⟩
theorem cR (ha:PT X a tA) (hb:PW X (.BoolOp .Or (b::rest) pos) Jf):PW X (.BoolOp .Or (a::b::rest) pos) (tOr tA Jf):=by
 intro wh pins s σ H Q I h;refine isTrue_or (thn (ha pins s σ H _ I h) fun c s1 ⟨H1,I1,q1⟩=>?_);cases c with
 | true=>exact ⟨H1,I1,q1⟩
 | false=>exact hb wh pins s1 σ H1 Q I1 q1
theorem cW (ha:PT X a tA):PT X (.UnaryOp .Not a pos) (xg tA):=by
 intro pins s σ H Q I h;exact isTrue_not (ha pins s σ H (fun c H1=>Q (!c) H1) I h)
def wj (ta tb:TE):TE:=fun σ H Q=>ta σ H fun x H1=>∃ c,x=.bl c/\if c=true then tb σ H1 Q else Q (.bl false) H1
def wH (ta:TE):TE:=fun σ H Q=>ta σ H fun x H1=>∃ c,x=.bl c/\Q (.bl (!c)) H1
theorem pN {op} {t:TE} (h:PE X a t):PE X (.BoolOp op [a] pos) t:=fun pins s σ H Q I hw=>BoolOp_one (h pins s σ H Q I hw)
theorem nN (ha:PE X a ta) (hb:PE X (.BoolOp .And (b::rest) pos) tb):PE X (.BoolOp .And (a::b::rest) pos) (wj ta tb):=by
 intro pins s σ H Q I h;refine BoolOp_and (thn (ha pins s σ H _ I h) fun v s1 ⟨x,H1,I1,r1,q1⟩=>?_);obtain ⟨c,rfl,q1⟩:=q1;cases r1;refine WX ?_;cases c with
 | true=>exact hb pins s1 σ H1 Q I1 q1
 | false=>exact ⟨.bl false,H1,I1,rfl,q1⟩
theorem tL (ha:PE X a ta):PE X (.UnaryOp .Not a pos) (wH ta):=by
 intro pins s σ H Q I h;refine UnaryOp_ (thn (ha pins s σ H _ I h) fun v s1 ⟨x,H1,I1,r1,q1⟩=>?_);obtain ⟨c,rfl,q1⟩:=q1;cases r1;exact not_of (WX ⟨.bl (!c),H1,I1,rfl,q1⟩)
def tIf (t:TT) (ta tb:TE):TE:=fun σ H Q=>t σ H fun c H1=>if c=true then ta σ H1 Q else tb σ H1 Q
theorem uf {c:UP} (hc:PT X c tA) (ha:PE X a ta) (hb:PE X b tb):PE X (.IfExp c a b pos) (tIf tA ta tb):=by
 intro pins s σ H Q I h;refine wpAny_IfExp (thn (hc pins s σ H _ I h) fun d s1 ⟨H1,I1,q1⟩=>?_);cases d with
 | true=>exact ha pins s1 σ H1 Q I1 q1
 | false=>exact hb pins s1 σ H1 Q I1 q1
end
end L2
namespace L2
open PySem PySem.Spec PyProof.Rows
def SqL (K:Tg) (H:Hp) (a:Tn) (xs:List V):Prop :=
 Rd H a (.lst xs) ∨
  ∃ (o:VN) (its:Array Tp) (n:Nat),K.lookup a=some o/\o.cls=.type "list"/\o.dict=none/\o.data=.seq its n/\its.size<=TN/\Vals xs its.toList
def SqT (K:Tg) (H:Hp) (a:Tn) (xs:List V):Prop :=
 Rd H a (.tup xs) ∨
  ∃ (o:VN) (its:Array Tp) (n:Nat),K.lookup a=some o/\o.cls=.type "tuple"/\o.data=.seq its n/\its.size<=TN/\Vals xs its.toList
def xc:Tp->Option V
 | .none=>some .non
 | .bool b=>some (.bl b)
 | .int i _=>some (.int i)
 | .str x _=>some (.str x)
 | .bytes b _=>some (.byt b)
 | .float b _=>some (.flt b)
 | .ref a=>some (.ref a)
 | .type n=>some (.ty n)
 | _=>none
theorem RelV.abs {x:V} {u:Tp} (r:RelV x u):xc u=some x:=by
 cases x with
 | non=>cases r;rfl
 | bl _=>cases r;rfl
 | int _=>obtain ⟨t,rfl⟩:=r;rfl
 | str _=>obtain ⟨t,rfl⟩:=r;rfl
 | byt _=>obtain ⟨t,rfl⟩:=r;rfl
 | flt _=>obtain ⟨t,rfl⟩:=r;rfl
 | ref _=>cases r;rfl
 | ty _=>cases r;rfl
theorem RelV.inj {x y:V} {u:Tp} (r:RelV x u) (q:RelV y u):x=y:=T5 (r.abs.symm.trans q.abs)
theorem Vals.inj:∀ {xs ys:List V} {us:List Tp},Vals xs us->Vals ys us->xs=ys
 | _,_,_,.nil,.nil=>rfl
 | _,_,_,.cons r t,.cons r' t'=>by rw [r.inj r',Vals.inj t t']
section
variable {X:Cx} {pins:List (Tn×VN)} {σ:St} {H:Hp} {s:Tv} {a:Tn} {xs ys:List V}
theorem SqL.of {K:Tg} (h:H a=some (.lst xs)):SqL K H a xs:=.inl (.inl h)
theorem SqT.of {K:Tg} (h:H a=some (.tup xs)):SqT K H a xs:=.inl (.inl h)
theorem Inv.list (I:Inv X pins σ H s) (h:SqL X.K H a xs):∃ its:List Tp,Vals xs its/\PlainL s.heap a its.toArray/\xs.length<=TN:=by
 rcases h with h | ⟨o,its,n,hk,hc,hd,hs,hz,r⟩
 · obtain ⟨z,its,n,r,e⟩:=h.ok I.hok;exact ⟨its,r,⟨_,n,e,rfl,rfl,rfl⟩,z⟩
 · refine ⟨its.toList,r,⟨o,n,I.kIn a o hk,hc,hd,by simpa using hs⟩,?_⟩;have e:=r.length;simp only [Uk] at e;omega
theorem Inv.tuple (I:Inv X pins σ H s) (h:SqT X.K H a xs):∃ its:List Tp,Vals xs its/\IsTup s.heap a its.toArray/\xs.length<=TN:=by
 rcases h with h | ⟨o,its,n,hk,hc,hs,hz,r⟩
 · obtain ⟨z,its,n,r,p⟩:=h.ok I.hok;exact ⟨its,r,⟨_,p,rfl,n,rfl⟩,z⟩
 · refine ⟨its.toList,r,⟨o,I.kIn a o hk,hc,n,by simpa using hs⟩,?_⟩;have e:=r.length;simp only [Uk] at e;omega
theorem Inv.list_inj (I:Inv X pins σ H s) (h:SqL X.K H a xs) (h':SqL X.K H a ys):xs=ys:=by
 obtain ⟨its,r,⟨o,n,e,_,_,d⟩,_⟩:=I.list h;obtain ⟨its',r',⟨o',n',e',_,_,d'⟩,_⟩:=I.list h';rw [e] at e';cases e';rw [d] at d';injection d' with d1 _;have:its=its':=by simpa using congrArg Za d1
 subst this;exact r.inj r'
theorem Inv.tuple_inj (I:Inv X pins σ H s) (h:SqT X.K H a xs) (h':SqT X.K H a ys):xs=ys:=by
 obtain ⟨its,r,⟨o,e,_,n,d⟩,_⟩:=I.tuple h;obtain ⟨its',r',⟨o',e',_,n',d'⟩,_⟩:=I.tuple h';rw [e] at e';cases e';rw [d] at d';injection d' with d1 _;have:its=its':=by simpa using congrArg Za d1
 subst this;exact r.inj r'
end
abbrev Cx.wish (X:Cx) (E:Tp->Tv->Prop):Cx:={ X with xe:=E }
abbrev Cx.nox (X:Cx):Cx:=X.wish fun _ _=>False
theorem Cx.Ok.wish {X:Cx} (ok:X.Ok) (E:Tp->Tv->Prop):(X.wish E).Ok :=
 ⟨ok.mod,ok.kind,ok.glob,ok.blt,ok.above,ok.inj,ok.has,ok.cab,ok.hd,ok.frames,ok.stk,ok.exf,ok.bs,ok.bsz,ok.noex,ok.exfs,ok.funs,ok.frf⟩
theorem Cx.Ok.unwish {X:Cx} {E:Tp->Tv->Prop} (ok:(X.wish E).Ok):X.Ok :=
 ⟨ok.mod,ok.kind,ok.glob,ok.blt,ok.above,ok.inj,ok.has,ok.cab,ok.hd,ok.frames,ok.stk,ok.exf,ok.bs,ok.bsz,ok.noex,ok.exfs,ok.funs,ok.frf⟩
section
variable {X:Cx} {pins:List (Tn×VN)} {σ:St} {H:Hp} {s:Tv} {E:Tp->Tv->Prop}
theorem Inv.wish (I:Inv X pins σ H s) (E:Tp->Tv->Prop):Inv (X.wish E) pins σ H s:=⟨I.ok.wish E,I.os,I.bare,I.base,I.loc,I.cell,I.free,I.freeC,I.pin,I.hok,I.len⟩
theorem Inv.unwish (I:Inv (X.wish E) pins σ H s):Inv X pins σ H s:=⟨I.ok.unwish,I.os,I.bare,I.base,I.loc,I.cell,I.free,I.freeC,I.pin,I.hok,I.len⟩
theorem SP.unwish {D:Ends} {f:Flow} {s':Tv} (h:SP (X.wish E) pins D f s'):SP X pins D f s':=by
 cases f with
 | next=>obtain ⟨xM,H',I,q⟩:=h;exact ⟨xM,H',I.unwish,q⟩
 | brk=>obtain ⟨xM,H',I,q⟩:=h;exact ⟨xM,H',I.unwish,q⟩
 | cont=>obtain ⟨xM,H',I,q⟩:=h;exact ⟨xM,H',I.unwish,q⟩
 | ret u=>obtain ⟨v,xM,H',I,r,q⟩:=h;exact ⟨v,xM,H',I.unwish,r,q⟩
theorem PSs.nox {st:List VD} {t:TS} (h:PSs X.nox st t):PSs X st t:=fun pins s σ H D I hw =>
 VI (h pins s σ H D (I.wish _) hw) (fun _ _ q=>q.unwish) fun _ _ z=>WQ z
end
section
variable {X:Cx} {st:VD} {rest:List VD} {t u:TS} {e:UP} {te:TE} {pos:Xv}
def lb:TS:=fun D σ H=>D.nx σ H
def v6 (t u:TS):TS:=fun D σ H=>t { D with nx:=u D } σ H
theorem ba:PSs X [] lb:=fun _ _ σ H _ I h=>YN ⟨σ,H,I,h⟩
theorem ae (h1:PS X st t) (h2:PSs X rest u):PSs X (st::rest) (v6 t u):=by
 intro pins s σ H D I h;refine wpAny_execs_cons (thn (h1 pins s σ H { D with nx:=u D } I h) fun f s1 q=>?_);cases f with
 | next =>
   obtain ⟨xM,H',I',q⟩:=q;exact h2 pins s1 xM H' D I' q
 | ret v=>exact q
 | brk=>exact q
 | cont=>exact q
theorem ag (h1:PS X st t):PSs X [st] t:=by
 intro pins s σ H D I h;refine wpAny_execs_cons (thn (h1 pins s σ H D I h) fun f s1 q=>?_);cases f with
 | next=>exact YN q
 | ret v=>exact q
 | brk=>exact q
 | cont=>exact q
theorem Inv.quiet {pins:List (Tn×VN)} {σ:St} {H:Hp} {s:Tv} (I:Inv X pins σ H s):interactive X.env=false:=by simp [interactive,I.ok.kind]
def wD (te:TE):TS:=fun D σ H=>te σ H fun _ H1=>D.nx σ H1
theorem aU (he:PE X e te) (hs:swapsWith e none pos.line X.env=pure false:=by rfl):PS X (.Expr e pos) (wD te):=by
 intro pins s σ H D I h;exact wpAny_Expr_any (thn (he pins s σ H _ I h) fun v s1 ⟨x,H1,I1,r1,q1⟩=>⟨σ,H1,I1,q1⟩) I.quiet hs
def w8 (te:TE):TS:=fun D σ H=>te σ H D.rt
theorem aC (he:PE X e te):PS X (.Return (some e) pos) (w8 te):=by
 intro pins s σ H D I h;exact wpAny_Return_some (thn (he pins s σ H _ I h) fun v s1 ⟨x,H1,I1,r1,q1⟩=>⟨x,σ,H1,I1,r1,q1⟩)
def wY (c:TT) (t u:TS):TS:=fun D σ H=>c σ H fun b H1=>if b=true then t D σ H1 else u D σ H1
theorem bm {c:UP} {a b:List VD} {tc:TT} (hc:PT X c tc) (ha:PSs X a t) (hb:PSs X b u):PS X (.If c a b pos) (wY tc t u):=by
 intro pins s σ H D I h;refine wpAny_If (thn (hc pins s σ H _ I h) fun d s1 ⟨H1,I1,q1⟩=>?_);cases d with
 | true=>exact ha pins s1 σ H1 D I1 q1
 | false=>exact hb pins s1 σ H1 D I1 q1
end
abbrev TG:=V->St->Hp->(St->Hp->Prop)->Prop
abbrev TGs:=List V->St->Hp->(St->Hp->Prop)->Prop
def PG (X:Cx) (target:UP) (t:TG):Prop :=
 ∀ (pins:List (Tn×VN)) (s:Tv) (σ:St) (H:Hp) (v:V) (u:Tp) (Q:St->Hp->Prop),Inv X pins σ H s->RelV v u->t v σ H Q →
   TM (Ug X.prog X.w) X.A (assign target X.env u) (fun _ s'=>∃ xM H',Inv X pins xM H' s'/\Q xM H') X.xe s
def PGs (X:Cx) (ts:List UP) (t:TGs):Prop :=
 ∀ (pins:List (Tn×VN)) (s:Tv) (σ:St) (H:Hp) (vs:List V) (us:List Tp) (Q:St->Hp->Prop),Inv X pins σ H s->Vals vs us->t vs σ H Q →
   TM (Ug X.prog X.w) X.A (assignInOrder ((YJ ts X.env).map (·.2)) us) (fun _ s'=>∃ xM H',Inv X pins xM H' s'/\Q xM H') X.xe s
abbrev vL:=V->V->V->Hp->(Hp->Prop)->Prop
def wC (X:Cx) (t:vL):Prop :=
 ∀ (pins:List (Tn×VN)) (s:Tv) (σ:St) (H:Hp) (o i v:V) (ov iv u:Tp) (Q:Hp->Prop),Inv X pins σ H s->RelV o ov->RelV i iv->RelV v u->t o i v H Q →
   TM (Ug X.prog X.w) X.A (setItem ov iv u) (fun _ s'=>∃ H',Inv X pins σ H' s'/\Q H') X.xe s
abbrev TIp:=V->V->Hp->VK->Prop
def PIp (X:Cx) (op:Operator) (t:TIp):Prop :=
 ∀ (pins:List (Tn×VN)) (s:Tv) (σ:St) (H:Hp) (x y:V) (v u:Tp) (Q:VK),Inv X pins σ H s->RelV x v->RelV y u->t x y H Q →
   TM (Ug X.prog X.w) X.A (inplaceOp op v u) (EP X pins σ Q) X.xe s
section
variable {X:Cx} {pos:Xv}
def aH (i:Nat):TG:=fun v σ H Q=>Q (σ.set i (some v)) H
theorem aj {i:Nat} {x:T6} (hN:X.N.Nodup) (hi:X.N[i]?=some x) (hx:Loc X.env.scope x) (hf:X.fn x=true∨X.env.scope.names.lookup x=some .local:=by first | exact .inl rfl | exact .inr rfl | assumption):PG X (.Name x pos) (aH i):=by
 intro pins s σ H v u Q I r h;exact wpAny_assign_Name (kR I hN hi hx r (fun s' I'=>⟨_,H,I',h⟩) hf)
def lT:TGs:=fun vs σ H Q=>vs=[]/\Q σ H
def cP (t:TG) (u:TGs):TGs:=fun vs σ H Q=>∃ v r,vs=v::r/\t v σ H fun xM H'=>u r xM H' Q
theorem aY:PGs X [] lT:=by
 intro pins s σ H vs us Q I r h;obtain ⟨e,h⟩:=h;subst e;cases r;exact assignInOrder_nil ⟨σ,H,I,h⟩
theorem au {e:UP} {es:List UP} {t:TG} {u:TGs} (h1:PG X e t) (h2:PGs X es u)
 (hs:(YJ (e::es) X.env).map (·.2)=assign e X.env::(YJ es X.env).map (·.2):=by rfl):PGs X (e::es) (cP t u):=by
 intro pins s σ H vs us Q I r h;obtain ⟨v,vr,e1,h⟩:=h;subst e1;cases r with
 | cons r rr =>
   rw [hs];refine assignInOrder_cons (thn (h1 pins s σ H _ _ _ I r h) fun _ s1 ⟨zC,H1,I1,q1⟩=>?_);exact h2 pins s1 zC H1 _ _ Q I1 rr q1
def lS (K:Tg) (n:Nat) (t:TGs):TG:=fun v σ H Q=>∃ a xs,v=.ref a/\SqT K H a xs/\xs.length=n/\t xs σ H Q
theorem bo {es:List UP} {k:Nat} {t:TGs} {n:Nat} (hc:X.calm=true) (h:PGs X es t)
 (hn:(YJ es X.env).length=n:=by rfl) (yG:(YJ es X.env).findIdx? (·.1)=none:=by rfl):PG X (.Tuple es k pos) (lS X.K n t):=by
 intro pins s σ H v u Q I r hw;obtain ⟨a,xs,e1,hq,hl,hw⟩:=hw;subst e1;cases r;obtain ⟨its,rv,ht,hz⟩:=I.tuple hq;refine assign_Tuple_tuple (I.ok.hd hc) ht (by simp [hn,<- hl,rv.length]) yG fun h' hx=>?_;have I1:Inv X pins σ H { s with heap:=h' }:=I.kept (t':=s.toks) fun b o e=>hx b o (Ui (TJ e)) e;exact h pins _ σ H xs _ Q I1 (by simpa using rv) hw
def w6 (to ti:TE) (t:vL):TG:=fun v σ H Q=>to σ H fun o H1=>ti σ H1 fun i H2=>t o i v H2 fun H3=>Q σ H3
theorem t4 {o i:UP} {to ti:TE} {t:vL} (ho:PE X o to) (hi:PE X i ti) (hs:wC X t)
 (ha:∀ v,assign (.Subscript o i pos) X.env v=(do
  let ov ← holding [v] (VY o X.env)
  let iv ← holding [v,ov] (VY i X.env)
  standAt pos
  holding [v,ov,iv] (setItem ov iv v)
  release [v,ov,iv] []):=by intro _;rfl):PG X (.Subscript o i pos) (w6 to ti t):=by
 intro pins s σ H v u Q I r h;rw [ha];refine Tf (U3 (thn (ho pins s σ H _ I h) fun ov s1 ⟨x,H1,I1,r1,q1⟩=>?_));refine Tf (U3 (thn (hi pins s1 σ H1 _ I1 q1) fun iv s2 ⟨y,H2,I2,r2,q2⟩=>?_));refine Tf (wpAny_standAt (Tf (U3 (thn (hs pins s2 σ H2 x y v ov iv u _ I2 r1 r2 r q2) fun _ s3 ⟨H3,I3,q3⟩=>?_))));exact wpAny_release ⟨σ,H3,I3,q3⟩
def vX (te:TE) (g:TG):TS:=fun D σ H=>te σ H fun x H1=>g x σ H1 D.nx
theorem eJ {tg e:UP} {te:TE} {g:TG} (he:PE X e te) (hg:PG X tg g) (hs:swapsWithSole [tg] e pos.line X.env=pure false:=by rfl) (hw:swappedStores [tg] e X.env=pure none:=by rfl)
 (h1:(YJ [tg] X.env).map (·.2)=[assign tg X.env]:=by rfl):PS X (.Assign [tg] e pos) (vX te g):=by
 intro pins s σ H D I h;refine wpAny_Assign_stores (thn (he pins s σ H _ I h) fun v s1 ⟨x,H1,I1,r1,q1⟩=>?_) hs hw;rw [h1];exact thn (hg pins s1 σ H1 x v _ I1 r1 q1) fun _ s2 q=>q
theorem ay {i:Nat} {x:T6} {e:UP} {te:TE} {pos':Xv} (hN:X.N.Nodup) (hi:X.N[i]?=some x) (hx:Loc X.env.scope x) (he:PE X e te) (hs:swapsWith e (some (.Name x pos')) pos.line X.env=pure false:=by rfl) (hf:X.fn x=true∨X.env.scope.names.lookup x=some .local:=by first | exact .inl rfl | exact .inr rfl | assumption) :
 PS X (.Assign [.Name x pos'] e pos) (vX te (aH i)):=by
 intro pins s σ H D I h;refine wpAny_Assign_Name (thn (he pins s σ H _ I h) fun v s1 ⟨y,H1,I1,r1,q1⟩=>?_) hs;exact kR I1 hN hi hx r1 (fun s2 I2=>⟨_,H1,I2,q1⟩) hf
def xf (i:Nat) (te:TE) (ti:TIp):TS:=fun D σ H=>∃ x,σ[i]?=some (some x)/\te σ H fun y H1=>ti x y H1 fun z H2=>D.nx (σ.set i (some z)) H2
theorem wb {i:Nat} {x:T6} {e:UP} {te:TE} {op:Operator} {ti:TIp} {pos':Xv} (hN:X.N.Nodup) (hi:X.N[i]?=some x) (hx:Loc X.env.scope x) (he:PE X e te) (ho:PIp X op ti) (hf:X.fn x=true∨X.env.scope.names.lookup x=some .local:=by first | exact .inl rfl | exact .inr rfl | assumption) :
 PS X (.AugAssign (.Name x pos') op e pos) (xf i te ti):=by
 intro pins s σ H D I h;obtain ⟨v,e1,h⟩:=h;obtain ⟨m,hn,hl⟩:=I.loc;have Nq:Vis X.env.scope x:=by rcases hx with k | k;exact .inl k;exact .inr (.inl k)
 obtain ⟨u,r,l⟩:=hl i x v hi e1 Nq;refine wpAny_AugAssign_Name ?_
 have go:TM (Ug X.prog X.w) X.A (VY e X.env) (fun w yu=>TM (Ug X.prog X.w) X.A (inplaceOp op u w) (fun r zL=>TM (Ug X.prog X.w) X.A (storeName X.env x r) (fun _=>SP X pins D .next) X.xe zL) X.xe yu) X.xe s:=by
  refine thn (he pins s σ H _ I h) fun w s1 ⟨y,H1,I1,r1,q1⟩=>?_;refine thn (ho pins s1 σ H1 v y u w _ I1 r r1 q1) fun z s2 ⟨zv,H2,I2,r2,q2⟩=>?_;exact kR I2 hN hi hx r2 (fun s3 I3=>⟨_,H2,I3,q2⟩) hf
 rcases l with ⟨hk,hm⟩ | ⟨hk,c,hc,AZ⟩
 · exact wpAny_loadName_local I.ok.kind hk hn hm go
 · rcases hk with hk | hk
   · exact wpAny_loadName_cell I.ok.kind hk hc AZ go
   · rcases hx with k | k
     · have:X.env.scope.names.lookup x=some .free:=hk;rw [k] at this;cases this
     · have:X.env.scope.names.lookup x=some .free:=hk;rw [k] at this;cases this
def ipI (f:Int->Int->Int):TIp:=fun x y H Q=>∃ i j,x=.int i/\y=.int j/\Q (.int (f i j)) H
theorem vR:PIp X .Add (ipI fun i j=>i+j):=by
 intro pins s σ H x y v u Q I r1 r2 h;obtain ⟨i,j,e1,e2,q⟩:=h;subst e1;subst e2;obtain ⟨t,rfl⟩:=r1;obtain ⟨t',rfl⟩:=r2;exact iadd_int ⟨.int _,H,I.tok _,⟨_,rfl⟩,q⟩
end
section
variable {X:Cx} {pos:Xv}
def vI (c:TT) (tb:TS):TS:=fun D σ H=>∃ W:Nat->St->Hp->Prop,(∃ m,W m σ H)/\∀ m σ H,W m σ H →
 c σ H fun b H1=>if b=true then ∃ N:St->Hp->Prop,(∀ xM H',N xM H'->∃ m',m'<m/\W m' xM H')/\tb { D with nx:=N,ct:=N,bk:=D.nx } σ H1 else D.nx σ H1
theorem dL {c:UP} {body:List VD} {tc:TT} {tb:TS} (hp:PassesOwn (Ug X.prog X.w) X.A X.env X.xe) (hc:PT X c tc) (hb:PSs X body tb):PS X (.While c body [] pos) (vI tc tb):=by
 intro pins s σ H D I h;obtain ⟨W,⟨m0,w0⟩,turn⟩:=h;refine wpAny_While (codeAny_whileLoop (fun n s'=>∃ xM H',Inv X pins xM H' s'/\W n xM H') ?_ m0 ⟨σ,H,I,w0⟩);rintro n s1 ⟨zC,H1,I1,w1⟩;refine WL hp (thn (hc pins s1 zC H1 _ I1 (turn n zC H1 w1)) fun b s2 ⟨H2,I2,q2⟩=>?_);cases b with
 | true =>
   obtain ⟨N,hN,q2⟩:=q2;rw [if_pos rfl];refine WL hp (thn (hb pins s2 zC H2 _ I2 q2) fun f s3 q3=>?_);cases f with
   | next =>
     obtain ⟨B1,H3,I3,n3⟩:=q3;obtain ⟨m',hm,w3⟩:=hN B1 H3 n3;exact ⟨m',hm,B1,H3,I3,w3⟩
   | cont =>
     obtain ⟨B1,H3,I3,n3⟩:=q3;obtain ⟨m',hm,w3⟩:=hN B1 H3 n3;exact ⟨m',hm,B1,H3,I3,w3⟩
   | brk=>exact q3
   | ret v=>exact q3
 | false =>
   rw [if_neg TV];exact YN ⟨zC,H2,I2,q2⟩
end
structure It where
 go:Nat->Hp->Prop
 yld:Nat->Hp->V->Hp->Prop
 stop:Nat->Hp->Prop
def jN (X:Cx) (pins:List (Tn×VN)) (H:Hp) (b:Tn):Prop :=
 H b=none/\b≠X.env.locals/\b∉X.fs/\(b∈X.ex∨X.s₀.heap.objs.size<=b)/\(∀ x c,X.env.cells.lookup x=some c->c≠b)/\∀ p∈X.pn++pins,p.1≠b
theorem Inv.fpOk {X:Cx} {pins:List (Tn×VN)} {σ:St} {H H':Hp} {s:Tv} {b:Tn} (I:Inv X pins σ H s) (hb:s.heap.objs.size<=b) (hn:H' b=none):jN X pins H' b:=by
 refine ⟨hn,WU (UG I.lt hb),I.nofs hb,.inr (Vu I.sz hb),fun x c e z=>?_,fun p hp z=>?_⟩
 · obtain ⟨v,q⟩:=I.cell x c e;exact absurd (UG q.lt (by rw [z];exact hb)) (U8 _)
 · exact absurd (UG (TJ (I.pin p hp).1) (by rw [z];exact hb)) (U8 _)
structure Turn (P:TF) (w:T3) (K:Tg) (tg:UP) (J:It) (fp:List Tn) (it:Tn) (tn:Nat->US->Prop):Prop where
 mem:it∈fp
 obj:∀ i h,tn i h->∀ b∈fp,∃ o,h.get? b=some o/\∀ v,o.data≠.cell v
 keep:∀ i h h',tn i h->(∀ b∈fp,∀ o,h.get? b=some o->h'.get? b=some o)->tn i h'
 item:∀ (X:Cx),X.prog=P->X.w=w->X.K=K->X.calm=true->∀ (i:Nat) (pins:List (Tn×VN)) (s:Tv) (σ:St) (H:Hp) (E:Tp->Tv->Prop),Inv X pins σ H s->(∀ b∈fp,jN X pins H b)->tn i s.heap->J.go i H →
  TM (Ug P w) X.A (Wy (.ref it)) (fun r s1=>∃ u,r=some u ∧
   TM (Ug P w) X.A (YO tg (.ref it) u) (fun _ s2=>∃ x H',Inv X pins σ H' s2/\RelV x u/\J.yld i H x H'/\tn (i+1) s2.heap/\∀ b∈fp,H' b=none) E s1) E s
 done:∀ (X:Cx),X.prog=P->X.w=w->X.K=K->X.calm=true->∀ (i:Nat) (pins:List (Tn×VN)) (s:Tv) (σ:St) (H:Hp) (E:Tp->Tv->Prop),Inv X pins σ H s->(∀ b∈fp,jN X pins H b)->tn i s.heap->J.stop i H →
  TM (Ug P w) X.A (Wy (.ref it)) (fun r s1=>r=none/\Inv X pins σ H s1) E s
 self:∀ (A:Ut) (i:Nat) (s:Tv) (Q:Tp->Tv->Prop) (E:Tp->Tv->Prop),tn i s.heap->Q (.ref it) s->TM (Ug P w) A (pyIter (.ref it)) Q E s
abbrev TI:=St->Hp->(It->Hp->Prop)->Prop
def PIE (X:Cx) (pins:List (Tn×VN)) (σ:St) (tg:UP) (R:It->Hp->Prop) (Jg:Tp) (s2:Tv):Prop :=
 ∃ (it:Tn) (fp:List Tn) (tn:Nat->US->Prop) (J:It) (H':Hp),Jg=.ref it/\Inv X pins σ H' s2/\Turn X.prog X.w X.K tg J fp it tn/\tn 0 s2.heap/\(∀ b∈fp,jN X pins H' b)/\R J H'
def PI (X:Cx) (tg iter:UP) (wi:TI):Prop :=
 ∀ (pins:List (Tn×VN)) (s:Tv) (σ:St) (H:Hp) (R:It->Hp->Prop),Inv X pins σ H s->wi σ H R →
   TM (Ug X.prog X.w) X.A (VY iter X.env) (fun v s1=>TM (Ug X.prog X.w) X.A (pyIter v) (PIE X pins σ tg R) X.xe s1) X.xe s
theorem re {M:Model} {A:Ut} {E:Tp->Tv->Prop} {s:Tv} {tg:UP} {it:Tn} {u:Tp} {o:VN} {n:String} {vs:Array Tp} {Q:Unit->Tv->Prop} (ho:s.heap.get? it=some o) (hc:o.cls=.type n) (hd:o.data=.fields vs)
 (hn:["enumerate","zip","dict_itemiterator","dict_reverseitemiterator","odict_iterator","itertools.zip_longest","itertools.pairwise"].contains n=false) (hQ:Q () s):TM M A (YO tg (.ref it) u) Q E s:=by
 unfold YO
 cases tg <;> first
  | exact Tt hQ
  | (cases u <;> first
   | exact Tt hQ
   | (refine Tf (wpAny_load ho ?_)
      rw [hc,hd];show TM M A (if (["enumerate","zip","dict_itemiterator","dict_reverseitemiterator","odict_iterator","itertools.zip_longest","itertools.pairwise"].contains n && vs[0]? == some (VX _))=true then _ else _) Q E s;rw [if_neg (by intro h;rw [hn,Bool.false_and] at h;cases h)];exact Tt hQ))
def Itl (K:Tg) (a:Tn):It :=
 ⟨fun i H=>∃ xs x,SqL K H a xs/\xs[i]?=some x,fun i H x H'=>H'=H/\∀ xs,SqL K H a xs->xs[i]?=some x,fun i H=>∃ xs,SqL K H a xs/\xs.length<=i⟩
def Itt (K:Tg) (a:Tn):It :=
 ⟨fun i H=>∃ xs x,SqT K H a xs/\xs[i]?=some x,fun i H x H'=>H'=H/\∀ xs,SqT K H a xs->xs[i]?=some x,fun i H=>∃ xs,SqT K H a xs/\xs.length<=i⟩
def Itr (lo:Int) (n:Nat):It:=⟨fun i _=>i<n,fun i H x H'=>H'=H/\x=.int (lo+i),fun i _=>n<=i⟩
theorem rA {P:TF} {w:T3} {K:Tg} {tg:UP} (a it:Tn):Turn P w K tg (Itl K a) [it] it (fun i h=>h.IsListIter it a i) where
 mem:=by simp
 obj:=fun i h st b hb=>by
  have e:b=it:=by simpa using hb
  subst e;obtain ⟨o,e,c,d⟩:=st;exact ⟨o,e,fun v z=>by rw [d] at z;cases z⟩
 keep:=fun i h h' st k=>st.at fun o e=>k it (by simp) o e
 item:=by
  intro X hP hw hK hc i pins s σ H E I hf st hg;subst hP hw hK;obtain ⟨xs,x,hq,hx⟩:=hg;obtain ⟨its,rv,p,hz⟩:=I.list hq;obtain ⟨u,hu,ru⟩:=rv.get hx;obtain ⟨f0,f1,f2,f3,f4,f5⟩:=hf it (by simp);refine wpAny_pyNext_list_item st p.isList (x:=u) (by simpa using hu) fun h' BG sb=>?_;have I1:Inv X pins σ H { s with heap:=h' }:=I.turned (t':=s.toks) (fun b o hb e=>(sb.2 b hb).trans e) f0 f1 f3 f4 f5;obtain ⟨o,e,c,d⟩:=id BG;exact ⟨u,rfl,re (s:={ s with heap:=h' }) e c d (by decide) ⟨x,H,I1,ru,⟨rfl,fun ys hy=>by rw [I.list_inj hy hq];exact hx⟩,BG,fun b hb=>(hf b hb).1⟩⟩
 done:=by
  intro X hP hw hK hc i pins s σ H E I hf st hg;subst hP hw hK;obtain ⟨xs,hq,hx⟩:=hg;obtain ⟨its,rv,p,hz⟩:=I.list hq;obtain ⟨f0,f1,f2,f3,f4,f5⟩:=hf it (by simp);have hl:=rv.length;exact wpAny_pyNext_list_end (I.ok.hd hc) st p.isList (by simp;omega) fun h' eb=>⟨rfl,I.turned (t':=s.toks) (fun b o hb e=>eb b o hb e) f0 f1 f3 f4 f5⟩
 self:=fun _ _ _ _ _ st h=>wpAny_pyIter_listiter st h
theorem pP {P:TF} {w:T3} {K:Tg} {tg:UP} (a it:Tn):Turn P w K tg (Itt K a) [it] it (fun i h=>h.IsTupleIter it a i) where
 mem:=by simp
 obj:=fun i h st b hb=>by
  have e:b=it:=by simpa using hb
  subst e;obtain ⟨o,e,c,d⟩:=st;exact ⟨o,e,fun v z=>by rw [d] at z;cases z⟩
 keep:=fun i h h' st k=>st.at fun o e=>k it (by simp) o e
 item:=by
  intro X hP hw hK hc i pins s σ H E I hf st hg;subst hP hw hK;obtain ⟨xs,x,hq,hx⟩:=hg;obtain ⟨its,rv,p,hz⟩:=I.tuple hq;obtain ⟨u,hu,ru⟩:=rv.get hx;obtain ⟨f0,f1,f2,f3,f4,f5⟩:=hf it (by simp);refine wpAny_pyNext_tuple_item st (show s.heap.IsTuple a its.toArray from p) (x:=u) (by simpa using hu) fun h' BG sb=>?_;have I1:Inv X pins σ H { s with heap:=h' }:=I.turned (t':=s.toks) (fun b o hb e=>(sb.2 b hb).trans e) f0 f1 f3 f4 f5;obtain ⟨o,e,c,d⟩:=id BG;exact ⟨u,rfl,re (s:={ s with heap:=h' }) e c d (by decide) ⟨x,H,I1,ru,⟨rfl,fun ys hy=>by rw [I.tuple_inj hy hq];exact hx⟩,BG,fun b hb=>(hf b hb).1⟩⟩
 done:=by
  intro X hP hw hK hc i pins s σ H E I hf st hg;subst hP hw hK;obtain ⟨xs,hq,hx⟩:=hg;obtain ⟨its,rv,p,hz⟩:=I.tuple hq;obtain ⟨f0,f1,f2,f3,f4,f5⟩:=hf it (by simp);have hl:=rv.length;exact wpAny_pyNext_tuple_end (I.ok.hd hc) st (show s.heap.IsTuple a its.toArray from p) (by simp;omega) fun h' eb=>⟨rfl,I.turned (t':=s.toks) (fun b o hb e=>eb b o hb e) f0 f1 f3 f4 f5⟩
 self:=fun _ _ _ _ _ st h=>wpAny_pyIter_tupleiter st h
theorem pW {P:TF} {w:T3} {K:Tg} {tg:UP} (it:Tn) (lo:Int) (n:Nat):Turn P w K tg (Itr lo n) [it] it (fun i h=>IsRangeIter h it (lo+(i:Nat) * 1) ((n:Int) - (i:Nat)) 1) where
 mem:=by simp
 obj:=fun i h st b hb=>by
  have e:b=it:=by simpa using hb
  subst e
  exact ⟨_,st,fun v z=>by
   have z':Data.fields _=Data.cell v:=z;cases z'⟩
 keep:=fun i h h' st k=>k it (by simp) _ st
 item:=by
  intro X hP hw hK hc i pins s σ H E I hf st hg;subst hP hw hK;obtain ⟨f0,f1,f2,f3,f4,f5⟩:=hf it (by simp);have W:=Walks.range (prog:=X.prog) (w:=X.w) (I.ok.hd hc) it lo 1 n;refine W.item i s _ _ hg st fun v h' tk hv BG kk=>?_;obtain ⟨t,rfl⟩:=hv;have I1:Inv X pins σ H { s with heap:=h',toks:=tk }:=I.turned (fun b o hb e=>kk b o (by simpa using hb) e) f0 f1 f3 f4 f5;refine ⟨_,rfl,re (s:={ s with heap:=h',toks:=tk }) (n:="range_iterator") BG rfl rfl (by decide) ⟨.int (lo+i),H,I1,⟨t,?_⟩,⟨rfl,rfl⟩,BG,fun b hb=>(hf b hb).1⟩⟩;rw [Int.mul_one]
 done:=by
  intro X hP hw hK hc i pins s σ H E I hf st hg;subst hP hw hK;obtain ⟨f0,f1,f2,f3,f4,f5⟩:=hf it (by simp);exact wpAny_pyNext_range_end (I.ok.hd hc) st (by have:n<=i:=hg;omega) fun h' eb=>⟨rfl,I.turned (t':=s.toks) (fun b o hb e=>eb b o hb e) f0 f1 f3 f4 f5⟩
 self:=fun _ _ _ _ _ st h=>wpAny_pyIter_rangeiter st h
end L2
namespace L2
open PySem PySem.Spec PyProof.Rows
section
variable {X:Cx} {tg:UP}
def wT (K:Tg) (tl:TE):TI:=fun σ H R=>tl σ H fun x H1=>∃ a,x=.ref a/\(∃ xs,SqL K H1 a xs)/\R (Itl K a) H1
def xL (K:Tg) (tl:TE):TI:=fun σ H R=>tl σ H fun x H1=>∃ a,x=.ref a/\(∃ xs,SqT K H1 a xs)/\R (Itt K a) H1
theorem cw {l:UP} {tl:TE} (hl:PE X l tl):PI X tg l (wT X.K tl):=by
 intro pins s σ H R I h;refine thn (hl pins s σ H _ I h) fun v s1 ⟨x,H1,I1,r1,q1⟩=>?_;obtain ⟨a,e,⟨xs,hq⟩,q⟩:=q1;subst e;cases r1;obtain ⟨its,rv,p,hz⟩:=I1.list hq;refine wpAny_pyIter_list p.isList ?_;refine ⟨s1.heap.objs.size,[s1.heap.objs.size],_,_,H1,rfl,I1.kept (t':=s1.toks) fun b o e=>Tr _ e,rA a _,⟨_,TC _ rfl,rfl,rfl⟩,fun b hb=>?_,q⟩;have e:b=s1.heap.objs.size:=by simpa using hb
 subst e;exact I1.fpOk (To _) (I1.hok.fresh (To _))
theorem ja {l:UP} {tl:TE} (hl:PE X l tl):PI X tg l (xL X.K tl):=by
 intro pins s σ H R I h;refine thn (hl pins s σ H _ I h) fun v s1 ⟨x,H1,I1,r1,q1⟩=>?_;obtain ⟨a,e,⟨xs,hq⟩,q⟩:=q1;subst e;cases r1;obtain ⟨its,rv,p,hz⟩:=I1.tuple hq;refine WJ (show s1.heap.IsTuple a its.toArray from p) ?_;refine ⟨s1.heap.objs.size,[s1.heap.objs.size],_,_,H1,rfl,I1.kept (t':=s1.toks) fun b o e=>Tr _ e,pP a _,⟨_,TC _ rfl,rfl,rfl⟩,fun b hb=>?_,q⟩;have e:b=s1.heap.objs.size:=by simpa using hb
 subst e;exact I1.fpOk (To _) (I1.hok.fresh (To _))
theorem oh {pins:List (Tn×VN)} {σ:St} {H:Hp} {s:Tv} {R:It->Hp->Prop} {E:Tp->Tv->Prop} {lo hi:Int} {t u v:Tok} {tk:Nat} (I:Inv X pins σ H s) (h1:-(2 ^ 62)<=lo) (h2:lo<2 ^ 62) (h3:-(2 ^ 62)<=hi) (h4:hi<2 ^ 62)
 (q:R (Itr lo (hi - lo).toNat) H):TM (Ug X.prog X.w) X.A (pyIter (.ref s.heap.objs.size)) (PIE X pins σ tg R) E { s with heap:=s.heap.push { cls:=.type "range",data:=.fields #[.int lo t,.int hi u,.int 1 v] },toks:=tk }:=by
 refine wpAny_pyIter_range (IsRange.new ..) (small_one h1 h2 h3 h4) ?_;have I1:Inv X pins σ H { s with heap:=s.heap.push { cls:=.type "range",data:=.fields #[.int lo t,.int hi u,.int 1 v] },toks:=tk }:=I.kept fun b o e=>Tr _ e
 refine ⟨(s.heap.push { cls:=.type "range",data:=.fields #[.int lo t,.int hi u,.int 1 v] }).objs.size,[(s.heap.push { cls:=.type "range",data:=.fields #[.int lo t,.int hi u,.int 1 v] }).objs.size],_,_,H,rfl,
  I1.kept (t':=tk) fun b o e=>Tr _ e,pW _ lo (hi - lo).toNat,?_,fun b hb=>?_,q⟩
 · have e1:lo+((0:Nat):Int) * 1=lo:=by simp
   have e2:(((hi - lo).toNat:Nat):Int) - ((0:Nat):Int)=Builtin.Range.rangeSize lo hi 1:=by rw [rangeSize_one];split <;> omega
   show IsRangeIter _ _ (lo+((0:Nat):Int) * 1) ((((hi - lo).toNat:Nat):Int) - ((0:Nat):Int)) 1;rw [e1,e2];exact TC _ rfl
 · have e:b=(s.heap.push { cls:=.type "range",data:=.fields #[.int lo t,.int hi u,.int 1 v] }).objs.size:=by simpa using hb
   subst e;exact I1.fpOk (To _) (I1.hok.fresh (To _))
def wS (ta:TA):TI:=fun σ H R=>ta σ H fun vs H1=>∃ j:Int,vs=[.int j]/\-(2 ^ 62)<=j/\j<2 ^ 62/\R (Itr 0 j.toNat) H1
def wB (ta:TA):TI:=fun σ H R=>ta σ H fun vs H1=>∃ i j:Int,vs=[.int i,.int j]/\(-(2 ^ 62)<=i/\i<2 ^ 62/\-(2 ^ 62)<=j/\j<2 ^ 62)/\R (Itr i (j - i).toNat) H1
theorem bx {a:UP} {ta:TA} {p pos:Xv} (hg:Gl X "range") (hm:X.mg "range"=none) (ha:PA X [a] ta) (hs:UD [a] X.env=[(false,VY a X.env)]:=by rfl):PI X tg (.Call (.Name "range" p) [a] [] pos) (wS ta):=by
 intro pins s σ H R I h;refine Call_ (cU I hg hm boot_range (UB (thn (ha pos pins s σ H _ I h) fun us s1 ⟨vs,H1,I1,r1,q1⟩=>?_) hs rfl));obtain ⟨j,e,q1,q2,q⟩:=q1;subst e;cases r1 with
 | cons r rr =>
   cases rr;obtain ⟨t,rfl⟩:=r;exact call_range_1 (oh I1 (by omega) (by omega) q1 q2 (by simpa using q))
theorem i6 {a b:UP} {ta:TA} {p pos:Xv} (hg:Gl X "range") (hm:X.mg "range"=none) (ha:PA X [a,b] ta) (hs:UD [a,b] X.env=[(false,VY a X.env),(false,VY b X.env)]:=by rfl) (Nr:UD [b] X.env=[(false,VY b X.env)]:=by rfl) :
 PI X tg (.Call (.Name "range" p) [a,b] [] pos) (wB ta):=by
 intro pins s σ H R I h;refine Call_ (cU I hg hm boot_range (UB (thn (ha pos pins s σ H _ I h) fun us s1 ⟨vs,H1,I1,r1,q1⟩=>?_) (by rw [hs,Nr]) (by rw [Nr];rfl)));obtain ⟨i,j,e,⟨q1,q2,q3,q4⟩,q⟩:=q1;subst e;cases r1 with
 | cons r rr =>
   cases rr with
   | cons r' rr =>
     cases rr;obtain ⟨t,rfl⟩:=r;obtain ⟨t',rfl⟩:=r';exact call_range_2 (oh I1 q1 q2 q3 q4 q)
def xp (wi:TI) (g:TG) (tb:TS):TS:=fun D σ H=>wi σ H fun J H1=>∃ W:Nat->Nat->St->Hp->Prop,(∃ m,W 0 m σ H1)/\∀ i m σ H,W i m σ H →
 (J.stop i H/\D.nx σ H)∨(J.go i H/\∃ N:St->Hp->Prop,(∀ xM H',N xM H'->∃ m',m'<m/\W (i+1) m' xM H')/\∀ x H',J.yld i H x H'->g x σ H' fun yc H2=>tb { D with nx:=N,ct:=N,bk:=D.nx } yc H2)
def lj (fp:List Tn) (h:US):List (Tn×VN):=fp.filterMap fun b=>(h.get? b).map fun o=>(b,o)
theorem fF {fp:List Tn} {h:US} {b:Tn} {o:VN} (hb:b∈fp) (e:h.get? b=some o):(b,o)∈lj fp h:=YW.mpr ⟨b,hb,by rw [e];rfl⟩
theorem rV {fp:List Tn} {h:US} {p:Tn×VN} (hp:p∈lj fp h):p.1∈fp/\h.get? p.1=some p.2:=by
 obtain ⟨b,hb,e⟩:=YW.mp hp;cases q:h.get? b with
 | none=>rw [q] at e;cases e
 | some o =>
   rw [q] at e;have e':(b,o)=p:=T5 e;subst e';exact ⟨hb,q⟩
theorem Inv.pinned {pins:List (Tn×VN)} {σ:St} {H:Hp} {s:Tv} {fp:List Tn} (I:Inv X pins σ H s) (hf:∀ b∈fp,jN X pins H b) (ho:∀ b∈fp,∃ o,s.heap.get? b=some o/\∀ v,o.data≠.cell v):Inv X (pins++lj fp s.heap) σ H s :=
 I.pins_of fun p hp=>(UA.mp hp).elim (fun z=>I.pin p (Uj _ z)) fun z=>by
  obtain ⟨hb,e⟩:=rV z;obtain ⟨f0,f1,f2,_⟩:=hf p.1 hb;obtain ⟨o,e',d⟩:=ho p.1 hb;rw [e] at e';cases e';exact ⟨e,f0,f1,f2,d⟩
theorem Inv.unpinned {pins pl:List (Tn×VN)} {σ:St} {H:Hp} {s:Tv} (I:Inv X (pins++pl) σ H s):Inv X pins σ H s:=I.pins_of fun p hp=>I.pin p (Uj _ (Ux _ hp))
theorem bt {iter:UP} {body:List VD} {wi:TI} {g:TG} {tb:TS} {pos:Xv} (hp:PassesOwn (Ug X.prog X.w) X.A X.env X.xe) (hc:X.calm=true) (hi:PI X tg iter wi) (hg:PG X tg g) (hb:PSs X body tb)
 (hs:∀ x,foldedSetIterable iter X.env x=pure x:=by intro _;rfl):PS X (.For tg iter body [] pos) (xp wi g tb):=by
 intro pins s σ H D I h;refine wpAny_For (thn (hi pins s σ H _ I h) fun v s1 h1=>thn h1 fun Jg s2 h2=>?_) hs;obtain ⟨it,fp,tn,J,H2,e,I2,T,Av,f2,W,⟨m0,w0⟩,turn⟩:=h2;subst e
 -- J0 stays true of Ap Ex objects through Ap loop
 have Aw:∀ {H':Hp},(∀ b∈fp,H' b=none)->∀ b∈fp,jN X pins H' b:=fun hn b hb=>⟨hn b hb,(f2 b hb).2⟩;refine codeAny_forLoop_any (fun n s'=>∃ i xM H',Inv X pins xM H' s'/\tn i s'.heap/\(∀ b∈fp,H' b=none)/\W i n xM H') ?_ m0 ⟨0,σ,H2,I2,Av,fun b hb=>(f2 b hb).1,w0⟩;rintro n s3 ⟨i,B1,H3,I3,Nt,Nu,w3⟩;rcases turn i n B1 H3 w3 with ⟨stop,qn⟩ | ⟨go,N,hN,step⟩
 · refine WL hp (thn (T.done X rfl rfl rfl hc i pins s3 B1 H3 X.xe I3 (Aw Nu) Nt stop) fun r s4 ⟨hr,I4⟩=>?_);subst hr;exact YN ⟨B1,H3,I4,qn⟩
 · refine WL hp (thn (T.item X rfl rfl rfl hc i pins s3 B1 H3 X.xe I3 (Aw Nu) Nt go) fun r s4 ⟨u,hr,h4⟩=>?_);subst hr;refine WL hp (thn h4 fun _ s5 ⟨x,H5,I5,r5,y5,FE,Jh⟩=>?_);have Pm:=I5.pinned (Aw Jh) (T.obj _ _ FE);refine WL hp (thn (hg _ s5 B1 H5 x u _ Pm r5 (step x H5 y5)) fun _ s6 ⟨Pn,H6,I6,q6⟩=>?_);refine WL hp (thn (hb _ s6 Pn H6 _ I6 q6) fun f s7 q7=>?_)
   have again:∀ {B2:St} {H7:Hp},Inv X (pins++lj fp s5.heap) B2 H7 s7->N B2 H7->∃ m,m<n/\∃ i xM H',Inv X pins xM H' s7/\tn i s7.heap/\(∀ b∈fp,H' b=none)/\W i m xM H':=fun {B2 H7} I7 n7=>by
    obtain ⟨m',hm,w7⟩:=hN B2 H7 n7;refine ⟨m',hm,i+1,B2,H7,I7.unpinned,T.keep _ _ _ FE fun b hb o e=>(I7.pin (b,o) (Uj _ (Uj _ (fF hb e)))).1,fun b hb=>?_,w7⟩;obtain ⟨o,e,d⟩:=T.obj _ _ FE b hb;exact (I7.pin (b,o) (Uj _ (Uj _ (fF hb e)))).2.1
   cases f with
   | next=>obtain ⟨B2,H7,I7,n7⟩:=q7;exact again I7 n7
   | cont=>obtain ⟨B2,H7,I7,n7⟩:=q7;exact again I7 n7
   | brk=>obtain ⟨B2,H7,I7,q7⟩:=q7;exact ⟨B2,H7,I7.unpinned,q7⟩
   | ret v=>obtain ⟨x7,B2,H7,I7,r7,q7⟩:=q7;exact ⟨x7,B2,H7,I7.unpinned,r7,q7⟩
end
theorem dI {K:Tg} {a:Tn} {xs:List V} {g:TG} {tb:TS} {D:Ends} {σ:St} {H:Hp} (Pv:Nat->St->Hp->Prop) (h0:Pv 0 σ H) (hl:∀ i σ H,i<=xs.length->Pv i σ H->SqL K H a xs)
 (hs:∀ i x σ H,xs[i]?=some x->Pv i σ H->g x σ H fun yc H2=>tb { D with nx:=Pv (i+1),ct:=Pv (i+1),bk:=D.nx } yc H2) (hd:∀ σ H,Pv xs.length σ H->D.nx σ H) :
 ∃ W:Nat->Nat->St->Hp->Prop,(∃ m,W 0 m σ H)/\∀ i m σ H,W i m σ H →
   ((Itl K a).stop i H/\D.nx σ H)∨((Itl K a).go i H/\∃ N:St->Hp->Prop,(∀ xM H',N xM H'->∃ m',m'<m/\W (i+1) m' xM H')/\∀ x H',(Itl K a).yld i H x H'->g x σ H' fun yc H2=>tb { D with nx:=N,ct:=N,bk:=D.nx } yc H2):=by
 refine ⟨fun i m σ H=>m=xs.length - i/\i<=xs.length/\Pv i σ H,⟨xs.length,by simp,T4 _,h0⟩,?_⟩;rintro i m σ H ⟨rfl,hi,p⟩;have q:=hl i σ H hi p;by_cases xV:i<xs.length
 · refine .inr ⟨⟨xs,xs[i],q,by simp [xV]⟩,Pv (i+1),fun xM H' p'=>⟨xs.length - (i+1),by omega,rfl,xV,p'⟩,fun x H' y=>?_⟩;obtain ⟨e,y⟩:=y;subst e;exact hs i x σ _ (y xs q) p
 · have e:i=xs.length:=by omega
   subst e;exact .inl ⟨⟨xs,q,To _⟩,hd σ H p⟩
theorem um {K:Tg} {a:Tn} {xs:List V} {g:TG} {tb:TS} {D:Ends} {σ:St} {H:Hp} (Pv:Nat->St->Hp->Prop) (h0:Pv 0 σ H) (hl:∀ i σ H,i<=xs.length->Pv i σ H->SqT K H a xs)
 (hs:∀ i x σ H,xs[i]?=some x->Pv i σ H->g x σ H fun yc H2=>tb { D with nx:=Pv (i+1),ct:=Pv (i+1),bk:=D.nx } yc H2) (hd:∀ σ H,Pv xs.length σ H->D.nx σ H) :
 ∃ W:Nat->Nat->St->Hp->Prop,(∃ m,W 0 m σ H)/\∀ i m σ H,W i m σ H →
   ((Itt K a).stop i H/\D.nx σ H)∨((Itt K a).go i H/\∃ N:St->Hp->Prop,(∀ xM H',N xM H'->∃ m',m'<m/\W (i+1) m' xM H')/\∀ x H',(Itt K a).yld i H x H'->g x σ H' fun yc H2=>tb { D with nx:=N,ct:=N,bk:=D.nx } yc H2):=by
 refine ⟨fun i m σ H=>m=xs.length - i/\i<=xs.length/\Pv i σ H,⟨xs.length,by simp,T4 _,h0⟩,?_⟩;rintro i m σ H ⟨rfl,hi,p⟩;have q:=hl i σ H hi p;by_cases xV:i<xs.length
 · refine .inr ⟨⟨xs,xs[i],q,by simp [xV]⟩,Pv (i+1),fun xM H' p'=>⟨xs.length - (i+1),by omega,rfl,xV,p'⟩,fun x H' y=>?_⟩;obtain ⟨e,y⟩:=y;subst e;exact hs i x σ _ (y xs q) p
 · have e:i=xs.length:=by omega
   subst e;exact .inl ⟨⟨xs,q,To _⟩,hd σ H p⟩
theorem bT {lo:Int} {n:Nat} {g:TG} {tb:TS} {D:Ends} {σ:St} {H:Hp} (Pv:Nat->St->Hp->Prop) (h0:Pv 0 σ H)
 (hs:∀ i σ H,i<n->Pv i σ H->g (.int (lo+i)) σ H fun yc H2=>tb { D with nx:=Pv (i+1),ct:=Pv (i+1),bk:=D.nx } yc H2) (hd:∀ σ H,Pv n σ H->D.nx σ H) :
 ∃ W:Nat->Nat->St->Hp->Prop,(∃ m,W 0 m σ H)/\∀ i m σ H,W i m σ H →
   ((Itr lo n).stop i H/\D.nx σ H)∨((Itr lo n).go i H/\∃ N:St->Hp->Prop,(∀ xM H',N xM H'->∃ m',m'<m/\W (i+1) m' xM H')/\∀ x H',(Itr lo n).yld i H x H'->g x σ H' fun yc H2=>tb { D with nx:=N,ct:=N,bk:=D.nx } yc H2):=by
 refine ⟨fun i m σ H=>m=n - i/\i<=n/\Pv i σ H,⟨n,by simp,T4 _,h0⟩,?_⟩;rintro i m σ H ⟨rfl,hi,p⟩;by_cases xV:i<n
 · refine .inr ⟨xV,Pv (i+1),fun xM H' p'=>⟨n - (i+1),by omega,rfl,xV,p'⟩,fun x H' y=>?_⟩;obtain ⟨e,y⟩:=y;subst e y;exact hs i σ _ xV p
 · have e:i=n:=by omega
   subst e;exact .inl ⟨To _,hd σ H p⟩
end L2
namespace L2
open PySem PySem.Spec PyProof.Rows
abbrev R2:=V->V->Hp->VK->Prop
def OpR (X:Cx) (f:Tp->Tp->Sem Tp) (r:R2):Prop :=
 ∀ (pins:List (Tn×VN)) (s:Tv) (σ:St) (H:Hp) (x y:V) (v u:Tp) (Q:VK),Inv X pins σ H s->RelV x v->RelV y u->r x y H Q →
   TM (Ug X.prog X.w) X.A (f v u) (EP X pins σ Q) X.xe s
def UnR (X:Cx) (f:Tp->Sem Tp) (r:V->Hp->VK->Prop):Prop :=
 ∀ (pins:List (Tn×VN)) (s:Tv) (σ:St) (H:Hp) (x:V) (v:Tp) (Q:VK),Inv X pins σ H s->RelV x v->r x H Q →
   TM (Ug X.prog X.w) X.A (f v) (EP X pins σ Q) X.xe s
def gS (X:Cx) (f:Tp) (r:List V->Hp->VK->Prop):Prop :=
 ∀ (pins:List (Tn×VN)) (s:Tv) (σ:St) (H:Hp) (xs:List V) (us:List Tp) (Q:VK),Inv X pins σ H s->Vals xs us->r xs H Q →
   TM (Ug X.prog X.w) X.A (call f us) (EP X pins σ Q) X.xe s
def xb (X:Cx) (r:V->Hp->(Bool->Hp->Prop)->Prop):Prop :=
 ∀ (pins:List (Tn×VN)) (s:Tv) (σ:St) (H:Hp) (x:V) (v:Tp) (Q:Bool->Hp->Prop),Inv X pins σ H s->RelV x v->r x H Q →
   TM (Ug X.prog X.w) X.A (truthy v) (TP X pins σ Q) X.xe s
def tOp (r:R2) (ta tb:TE):TE:=fun σ H Q=>ta σ H fun x H1=>tb σ H1 fun y H2=>r x y H2 Q
def tUn (r:V->Hp->VK->Prop) (ta:TE):TE:=fun σ H Q=>ta σ H fun x H1=>r x H1 Q
inductive IrI (C:Int->Int->Prop) (g:Int->Int->V) (x:V) (y:V) (H:Hp) (Q:VK):Prop
 | mk (i:_) (j:_) (x9:x=.int i) (ya:y=.int j) (ye:C i j) (yj:Q (g i j) H):IrI C g x y H Q
def rI (C:Int->Int->Prop) (g:Int->Int->V):R2:=IrI C g
inductive wQ (g:Int->Int->V) (x:V) (y:V) (H:Hp) (Q:VK):Prop
 | mk (i:_) (j:_) (x9:x=.int i) (ya:y=.int j) (ye:Q (g i j) H):wQ g x y H Q
def rI0 (g:Int->Int->V):R2:=wQ g
inductive IrU (g:Int->V) (x:V) (H:Hp) (Q:VK):Prop
 | mk (i:_) (x9:x=.int i) (ya:Q (g i) H):IrU g x H Q
def rU (g:Int->V):V->Hp->VK->Prop:=IrU g
section
variable {X:Cx} {a b c:UP} {ta tb tc:TE} {pos:Xv}
theorem wc (ha:PE X a ta) (hb:PE X b tb) {pins:List (Tn×VN)} {s:Tv} {σ:St} {H:Hp} {R:V->V->Hp->Prop} (I:Inv X pins σ H s)
 (h:ta σ H fun x H1=>tb σ H1 fun y H2=>R x y H2) {Q:Tp->Tv->Prop} {f:Tp->Tp->Sem Tp}
 (hf:∀ v u s2 x y H2,Inv X pins σ H2 s2->RelV x v->RelV y u->R x y H2->TM (Ug X.prog X.w) X.A (f v u) Q X.xe s2) :
 TM (Ug X.prog X.w) X.A (VY a X.env) (fun v xN=>TM (Ug X.prog X.w) X.A (VY b X.env) (fun u yu=>TM (Ug X.prog X.w) X.A (f v u) Q X.xe yu) X.xe xN) X.xe s:=by
 refine thn (ha pins s σ H _ I h) fun v s1 ⟨x,H1,I1,r1,q1⟩=>?_;refine thn (hb pins s1 σ H1 _ I1 q1) fun u s2 ⟨y,H2,I2,r2,q2⟩=>?_;exact hf v u s2 x y H2 I2 r1 r2 q2
theorem aE {op:Operator} {r:R2} (ho:OpR X (Xl op) r) (ha:PE X a ta) (hb:PE X b tb):PE X (.BinOp a op b pos) (tOp r ta tb):=by
 intro pins s σ H Q I h;exact wpAny_BinOp (wc ha hb I h fun v u s2 x y H2 I2 rx ry q=>ho pins s2 σ H2 x y v u Q I2 rx ry q)
theorem wt {op:UnaryOp} {r:V->Hp->VK->Prop} (ho:UnR X (unaryOp op) r) (ha:PE X a ta):PE X (.UnaryOp op a pos) (tUn r ta):=by
 intro pins s σ H Q I h;exact UnaryOp_ (thn (ha pins s σ H _ I h) fun v s1 ⟨x,H1,I1,r1,q1⟩=>ho pins s1 σ H1 x v Q I1 r1 q1)
theorem opI {f:Tp->Tp->Sem Tp} {C:Int->Int->Prop} {g:Int->Int->Int}
 (rule:∀ (i j:Int) (t u:Tok) (s:Tv) (Q:Tp->Tv->Prop) (E:Tp->Tv->Prop),C i j->Q (.int (g i j) s.toks) { s with toks:=s.toks+1 }->TM (Ug X.prog X.w) X.A (f (.int i t) (.int j u)) Q E s) :
 OpR X f (rI C fun i j=>.int (g i j)):=by
 intro pins s σ H x y v u Q I rx ry h;obtain ⟨i,j,rfl,rfl,hc,q⟩:=h;obtain ⟨t,rfl⟩:=rx;obtain ⟨t',rfl⟩:=ry;exact rule i j t t' s _ _ hc ⟨.int (g i j),H,I.tok _,⟨_,rfl⟩,q⟩
theorem wg {f:Tp->Tp->Sem Tp} {g:Int->Int->Int}
 (rule:∀ (i j:Int) (t u:Tok) (s:Tv) (Q:Tp->Tv->Prop) (E:Tp->Tv->Prop),Q (.int (g i j) s.toks) { s with toks:=s.toks+1 }->TM (Ug X.prog X.w) X.A (f (.int i t) (.int j u)) Q E s) :
 OpR X f (rI0 fun i j=>.int (g i j)):=by
 intro pins s σ H x y v u Q I rx ry h;obtain ⟨i,j,rfl,rfl,q⟩:=h;obtain ⟨t,rfl⟩:=rx;obtain ⟨t',rfl⟩:=ry;exact rule i j t t' s _ _ ⟨.int (g i j),H,I.tok _,⟨_,rfl⟩,q⟩
theorem wk {f:Tp->Tp->Sem Tp} {g:Int->Int->Bool}
 (rule:∀ (i j:Int) (t u:Tok) (s:Tv) (Q:Tp->Tv->Prop) (E:Tp->Tv->Prop),Q (.bool (g i j)) s->TM (Ug X.prog X.w) X.A (f (.int i t) (.int j u)) Q E s) :
 OpR X f (rI0 fun i j=>.bl (g i j)):=by
 intro pins s σ H x y v u Q I rx ry h;obtain ⟨i,j,rfl,rfl,q⟩:=h;obtain ⟨t,rfl⟩:=rx;obtain ⟨t',rfl⟩:=ry;exact rule i j t t' s _ _ ⟨.bl (g i j),H,I,rfl,q⟩
def xv (i j:Int):Prop:=0<j/\j<1073741824
def xJ (i j:Int):Prop:=0<=j/\j<=1000000/\i.natAbs<2 ^ 64
def CMul (i j:Int):Prop:=(-(2 ^ 64)<i/\i<2 ^ 64)∨(-(2 ^ 64)<j/\j<2 ^ 64)
theorem CMul.ok {i j:Int} (h:CMul i j):IntMulOk i j:=by
 rcases h with ⟨h1,h2⟩ | ⟨h1,h2⟩
 · exact .of_left (intBits_le_64 h1 h2)
 · exact .of_right (intBits_le_64 h1 h2)
theorem cr:OpR X (Xl .Add) (rI0 fun i j=>.int (i+j)):=wg fun _ _ _ _ _ _ _ q=>add_int q
theorem gb:OpR X (Xl .Sub) (rI0 fun i j=>.int (i - j)):=wg fun _ _ _ _ _ _ _ q=>sub_int q
theorem nK:OpR X (Xl .Mult) (rI CMul fun i j=>.int (i * j)):=opI fun _ _ _ _ _ _ _ hc q=>mul_int q hc.ok
theorem cY:OpR X (Xl .FloorDiv) (rI xv fun i j=>.int (i / j)):=opI fun i j _ _ _ _ _ hc q=>by
 have h1:(0:Int)<j:=hc.1;have h2:j<1073741824:=hc.2;exact floordiv_int (by omega) (by rw [Int.fdiv_eq_ediv_of_nonneg i (by omega)];exact q) (.inl (PyProof.noPylong_small (by omega)))
theorem bz:OpR X (Xl .Mod) (rI (fun _ j=>0<j) fun i j=>.int (i%j)):=opI fun i j _ _ _ _ _ hc q=>by
 have h1:(0:Int)<j:=hc;exact mod_int' (by omega) (by rw [Int.fmod_eq_emod_of_nonneg i (by omega)];exact q)
theorem pH:OpR X (Xl .Pow) (rI xJ fun i j=>.int (i ^ j.toNat)):=opI fun _ _ _ _ _ _ _ hc q=>pow_int_small hc.1 hc.2.1 hc.2.2 q
theorem unI {f:Tp->Sem Tp} {g:Int->Int}
 (rule:∀ (i:Int) (t:Tok) (s:Tv) (Q:Tp->Tv->Prop) (E:Tp->Tv->Prop),Q (.int (g i) s.toks) { s with toks:=s.toks+1 }->TM (Ug X.prog X.w) X.A (f (.int i t)) Q E s) :
 UnR X f (rU fun i=>.int (g i)):=by
 intro pins s σ H x v Q I rx h;obtain ⟨i,rfl,q⟩:=h;obtain ⟨t,rfl⟩:=rx;exact rule i t s _ _ ⟨.int (g i),H,I.tok _,⟨_,rfl⟩,q⟩
theorem we:UnR X (unaryOp .USub) (rU fun i=>.int (-i)):=unI fun _ _ _ _ _ q=>neg_int q
end
def wN:V->V->Bool
 | .non,.non=>true | .non,.int _=>true | .int _,.non=>true | .non,.bl _=>true | .bl _,.non=>true | .non,.str _=>true | .str _,.non=>true
 | .int _,.int _=>true | .bl _,.bl _=>true | .str _,.str _=>true | .byt _,.byt _=>true
 | .int _,.str _=>true | .str _,.int _=>true | .bl _,.str _=>true | .str _,.bl _=>true
 | _,_=>false
inductive wz (x:V) (y:V) (H:Hp) (Q:VK):Prop
 | mk  (x9:wN x y=true) (ya:Q (.bl (decide (x=y))) H):wz  x y H Q
def rEq:R2:=wz
inductive wn (x:V) (y:V) (H:Hp) (Q:VK):Prop
 | mk  (x9:wN x y=true) (ya:Q (.bl (!decide (x=y))) H):wn  x y H Q
def rNe:R2:=wn
theorem rb {i j:Int}:decide (V.int i=V.int j)=(i == j):=by
 rw [Xg];simp
theorem tJ {i j:Bool}:decide (V.bl i=V.bl j)=(i == j):=by
 rw [Xg];simp
theorem qx {i j:T6}:decide (V.str i=V.str j)=(i == j):=by
 rw [Xg];simp
theorem qT {i j:Array UInt8}:decide (V.byt i=V.byt j)=(i.toList == j.toList):=by
 rw [Xg];cases i;cases j;simp
section
variable {X:Cx} {a b c:UP} {ta tb tc:TE} {pos:Xv}
theorem bc {pins:List (Tn×VN)} {σ:St} {H:Hp} {s:Tv} {Q:VK} {k k':Bool} (I:Inv X pins σ H s) (q:Q (.bl k) H) (e:k=k'):EP X pins σ Q (.bool k') s:=by
 subst e;exact ⟨.bl k,H,I,rfl,q⟩
theorem cj:OpR X (Xh .Eq) rEq:=by
 intro pins s σ H x y v u Q I rx ry h;obtain ⟨hs,q⟩:=h;cases x with
 | non =>
   cases rx;cases y with
   | non=>cases ry;exact PySem.EqNone.eq_none_none (bc I q (by simp))
   | bl j=>cases ry;exact PySem.EqNone.eq_none_bool (bc I q (by simp))
   | int j=>obtain ⟨t',rfl⟩:=ry;exact PySem.EqNone.eq_none_int (bc I q (by simp))
   | str j=>obtain ⟨t',rfl⟩:=ry;exact PySem.EqNone.eq_none_str (bc I q (by simp))
   | _=>exact absurd (show false=true from hs) TV
 | bl i =>
   cases rx;cases y with
   | non=>cases ry;exact PySem.EqNone.eq_bool_none (bc I q (by simp))
   | bl j=>cases ry;exact eq_bool (bc I q tJ)
   | str j=>obtain ⟨t',rfl⟩:=ry;exact PySem.EqMixed.eq_bool_str (bc I q (by simp))
   | _=>exact absurd (show false=true from hs) TV
 | int i =>
   obtain ⟨t,rfl⟩:=rx;cases y with
   | non=>cases ry;exact PySem.EqNone.eq_int_none (bc I q (by simp))
   | int j=>obtain ⟨t',rfl⟩:=ry;exact eq_int (bc I q rb)
   | str j=>obtain ⟨t',rfl⟩:=ry;exact PySem.EqMixed.eq_int_str (bc I q (by simp))
   | _=>exact absurd (show false=true from hs) TV
 | str i =>
   obtain ⟨t,rfl⟩:=rx;cases y with
   | non=>cases ry;exact PySem.EqNone.eq_str_none (bc I q (by simp))
   | bl j=>cases ry;exact PySem.EqMixed.eq_str_bool (bc I q (by simp))
   | int j=>obtain ⟨t',rfl⟩:=ry;exact PySem.EqMixed.eq_str_int (bc I q (by simp))
   | str j=>obtain ⟨t',rfl⟩:=ry;exact eq_str (bc I q qx)
   | _=>exact absurd (show false=true from hs) TV
 | byt i =>
   obtain ⟨t,rfl⟩:=rx;cases y with
   | byt j=>obtain ⟨t',rfl⟩:=ry;exact PySem.W.eq_bytes (bc I q qT)
   | _=>exact absurd (show false=true from hs) TV
 | _=>cases y <;> exact absurd (show false=true from hs) TV
theorem my:OpR X (Xh .NotEq) rNe:=by
 intro pins s σ H x y v u Q I rx ry h;obtain ⟨hs,q⟩:=h;cases x with
 | non =>
   cases rx;cases y with
   | non=>cases ry;exact PySem.EqNone.ne_none_none (bc I q (by simp))
   | bl j=>cases ry;exact PySem.EqNone.ne_none_bool (bc I q (by simp))
   | int j=>obtain ⟨t',rfl⟩:=ry;exact PySem.EqNone.ne_none_int (bc I q (by simp))
   | str j=>obtain ⟨t',rfl⟩:=ry;exact PySem.EqNone.ne_none_str (bc I q (by simp))
   | _=>exact absurd (show false=true from hs) TV
 | bl i =>
   cases rx;cases y with
   | non=>cases ry;exact PySem.EqNone.ne_bool_none (bc I q (by simp))
   | bl j=>cases ry;exact ne_bool (bc I q (congrArg not tJ))
   | str j=>obtain ⟨t',rfl⟩:=ry;exact PySem.EqMixed.ne_bool_str (bc I q (by simp))
   | _=>exact absurd (show false=true from hs) TV
 | int i =>
   obtain ⟨t,rfl⟩:=rx;cases y with
   | non=>cases ry;exact PySem.EqNone.ne_int_none (bc I q (by simp))
   | int j=>obtain ⟨t',rfl⟩:=ry;exact ne_int (bc I q (congrArg not rb))
   | str j=>obtain ⟨t',rfl⟩:=ry;exact PySem.EqMixed.ne_int_str (bc I q (by simp))
   | _=>exact absurd (show false=true from hs) TV
 | str i =>
   obtain ⟨t,rfl⟩:=rx;cases y with
   | non=>cases ry;exact PySem.EqNone.ne_str_none (bc I q (by simp))
   | bl j=>cases ry;exact PySem.EqMixed.ne_str_bool (bc I q (by simp))
   | int j=>obtain ⟨t',rfl⟩:=ry;exact PySem.EqMixed.ne_str_int (bc I q (by simp))
   | str j=>obtain ⟨t',rfl⟩:=ry;exact ne_str (bc I q (congrArg not qx))
   | _=>exact absurd (show false=true from hs) TV
 | byt i =>
   obtain ⟨t,rfl⟩:=rx;cases y with
   | byt j=>obtain ⟨t',rfl⟩:=ry;exact PySem.W.ne_bytes (bc I q (congrArg not qT))
   | _=>exact absurd (show false=true from hs) TV
 | _=>cases y <;> exact absurd (show false=true from hs) TV
theorem nX:OpR X (Xh .Lt) (rI0 fun i j=>.bl (decide (i<j))):=wk fun _ _ _ _ _ _ _ q=>lt_int q
theorem nT:OpR X (Xh .Gt) (rI0 fun i j=>.bl (decide (j<i))):=wk fun _ _ _ _ _ _ _ q=>gt_int q
theorem tF:OpR X (Xh .Is) (fun x y H Q=>y=.non/\Q (.bl (decide (x=.non))) H):=by
 intro pins s σ H x y v u Q I rx ry h;obtain ⟨rfl,q⟩:=h;cases ry;refine is_none_gen (bc I q ?_)
 cases x <;> first
  | (cases rx;rfl)
  | (obtain ⟨t,rfl⟩:=rx;rfl)
theorem aO (b:UP) {op:CmpOp} (h:op≠.In:=by decide) (h2:op≠.NotIn:=by decide):Yw op b=false:=by
 have e1:(op == CmpOp.In)=false:=by cases op <;> first | rfl | exact absurd rfl h
 have e2:(op == CmpOp.NotIn)=false:=by cases op <;> first | rfl | exact absurd rfl h2
 cases b <;> simp [Yw,e1,e2]
theorem iW {op:CmpOp} {r:R2} (ho:OpR X (Xh op) r) (ha:PE X a ta) (hb:PE X b tb) (hm:Yw op b=false):PE X (.Compare a [op] [b] pos) (tOp r ta tb):=by
 intro pins s σ H Q I h;exact wpAny_Compare1 (wc ha hb I h fun v u s2 x y H2 I2 rx ry q=>ho pins s2 σ H2 x y v u Q I2 rx ry q) hm
inductive vj (x:V) (Q:Bool->Hp->Prop) (H':Hp):Prop
 | mk (k:Bool) (x9:x=.bl k) (ya:Q k H'):vj x Q H'
def ud (t:TE):TT:=fun σ H Q=>t σ H fun x H'=>vj x Q H'
theorem aJ {op:CmpOp} {r:R2} (ho:OpR X (Xh op) r) (ha:PE X a ta) (hb:PE X b tb) (hm:Yw op b=false):PT X (.Compare a [op] [b] pos) (ud (tOp r ta tb)):=by
 intro pins s σ H Q I h
 refine wpAny_isTrue_Compare1 (thn (ha pins s σ H _ I h) fun v s1 ⟨x,H1,I1,r1,q1⟩=>thn (hb pins s1 σ H1 _ I1 q1) fun u s2 ⟨y,H2,I2,r2,q2⟩ =>
  thn (ho pins s2 σ H2 x y v u _ I2 r1 r2 q2) fun c s3 ⟨z,H3,I3,r3,k,e,q3⟩=>?_) hm
 subst e;cases r3;exact WX ⟨H3,I3,q3⟩
def uw (K:Tg) (x:V) (H:Hp) (k:Bool):Prop :=
 match x with
 | .non=>k=false
 | .bl b=>k=b
 | .int i=>k=(i != 0)
 | .str y=>y.length<=TN/\k=((y.length:Int) != 0)
 | .byt y=>y.size<=TN/\k=((y.size:Int) != 0)
 | .ref p=>(∃ xs,SqL K H p xs/\k=!xs.isEmpty)∨(∃ xs,SqT K H p xs/\k=!xs.isEmpty)∨∃ f',H p=some (.dK f')/\k=!f'.isEmpty
 | _=>False
theorem pM {κ:Type} {f':List (κ×V)} {vs:List (κ×Tp)} (r:KV f' vs):(!vs.isEmpty)=!f'.isEmpty:=by
 cases r <;> rfl
theorem jZ {xs:List V} {its:List Tp} (r:Vals xs its):(!its.toArray.isEmpty)=!xs.isEmpty:=by
 cases r <;> simp
theorem fu:(TN:Nat)<2 ^ 63:=by rw [Xs];decide
theorem v5:xb X (fun x H Q=>∃ k,uw X.K x H k/\Q k H):=by
 intro pins s σ H x v Q I rx h;obtain ⟨k,e,q⟩:=h;have hl:=fu;have hs:TN=16777216:=Xs;cases x with
 | non =>
   cases rx;have e':k=false:=e;subst e';exact truthy_none ⟨H,I,q⟩
 | bl b =>
   cases rx;have e':k=b:=e;subst e';exact WX ⟨H,I,q⟩
 | int i =>
   obtain ⟨t,rfl⟩:=rx;have e':k=(i != 0):=e;subst e';exact PySem.P.truthy_int ⟨H,I,q⟩
 | str y =>
   obtain ⟨t,rfl⟩:=rx;obtain ⟨hy,e'⟩:y.length<=TN/\k=((y.length:Int) != 0):=e;subst e';exact PySem.P.truthy_str (by omega) ⟨H,I.tok _,q⟩
 | byt y =>
   obtain ⟨t,rfl⟩:=rx;obtain ⟨hy,e'⟩:y.size<=TN/\k=((y.size:Int) != 0):=e;subst e';exact PySem.W.truthy_bytes (by omega) ⟨H,I.tok _,q⟩
 | ref p =>
   cases rx;have e':(∃ xs,SqL X.K H p xs/\k=!xs.isEmpty)∨(∃ xs,SqT X.K H p xs/\k=!xs.isEmpty)∨∃ f',H p=some (.dK f')/\k=!f'.isEmpty:=e;rcases e' with ⟨xs,hx,e'⟩ | ⟨xs,hx,e'⟩ | ⟨f',hx,e'⟩
   · subst e';obtain ⟨its,r,pl,hz⟩:=I.list hx;have hlen:=r.length;exact wpAny_truthy_list pl.isList (by simp only [Tz];omega) ⟨H,I.tok _,by rw [jZ r];exact q⟩
   · subst e';obtain ⟨its,r,pl,hz⟩:=I.tuple hx;have hlen:=r.length;exact truthy_tuple pl (by simp only [Tz];omega) ⟨H,I.tok _,by rw [jZ r];exact q⟩
   · subst e';obtain ⟨hz,hS,vs,r,m⟩:f'.length<=TN/\(p == Vs)=false/\∃ vs,KV f' vs/\s.heap.DictOf (aF X.prog X.w) p vs:=I.hok p _ hx;have hlen:f'.length=vs.length:=TB r;exact wpAny_truthy_dict hS m (by omega) ⟨H,I.tok _,by rw [pM r];exact q⟩
 | _=>exact (show False from e).elim
theorem aS (ha:PE X a ta) (he:∀ whole,isTrue a X.env whole=(do let v ← whole;standAt a.pos;holding [v] (truthy v))) :
 PT X a (fun σ H Q=>ta σ H fun x H'=>∃ k,uw X.K x H' k/\Q k H'):=by
 intro pins s σ H Q I h;exact isTrue_plain (thn (ha pins s σ H _ I h) fun v s1 ⟨x,H1,I1,r1,q1⟩=>v5 pins s1 σ H1 x v Q I1 r1 q1) (he _)
theorem ii:OpR X (Xl .Add) (fun x y H Q=>∃ i j,x=.str i/\y=.str j/\i.length+j.length<=TN/\Q (.str (i++j)) H):=by
 intro pins s σ H x y v u Q I rx ry h;obtain ⟨i,j,rfl,rfl,hz,q⟩:=h;obtain ⟨t,rfl⟩:=rx;obtain ⟨t',rfl⟩:=ry;exact add_str (fun t' tk=>⟨.str (i++j),H,I.tok _,⟨_,rfl⟩,q⟩) hz
theorem vals1 {x:V} {us:List Tp} (r:Vals [x] us):∃ u,us=[u]/\RelV x u:=by
 cases r with
 | cons r1 r2=>cases r2;exact ⟨_,rfl,r1⟩
theorem vals2 {x y:V} {us:List Tp} (r:Vals [x,y] us):∃ u w',us=[u,w']/\RelV x u/\RelV y w':=by
 cases r with
 | cons r1 r2 =>
   cases r2 with
   | cons r3 r4=>cases r4;exact ⟨_,_,rfl,r1,r3⟩
end
end L2
namespace L2
open PySem PySem.Spec PyProof.Rows
structure ObjM (h:US) (x dx C:Tn) (mA:T6->Option Tp):Prop where
 obj:h.get? x=some (PySem.W.instObj C dx)
 ns:h.Ns1 dx mA
 ne:dx≠x
theorem sh {h:US} {dx:Tn} {mA:T6->Option Tp} (n:h.Ns1 dx mA):∃ od,h.get? dx=some od/\∀ name,PySem.W.lookIn name od=some (mA name):=by
 obtain ⟨o,es,ep,ho,hd,hk,_,hm⟩:=n;refine ⟨o,ho,fun name=>?_⟩;have e:=hm name;unfold nsFind findBy at e;rw [<- Array.find?_toList] at e;unfold PySem.W.lookIn;rw [hd];dsimp only;split
 · rename_i y q
   rw [q] at e;exact congrArg some e
 · rename_i q
   rw [q] at e
   have a:es.toList.any (·.refKey)=false:=by
    rw [List.any_eq_false];intro y hy;obtain ⟨z,t,zy⟩:=hk y (Array.mem_toList_iff.mp hy);simp [DictEntry.refKey,zy]
   have a':¬ es.toList.any (·.refKey)=true:=by rw [a];exact TV
   rw [if_neg a'];exact congrArg some e
theorem ObjM.look {h:US} {x dx C:Tn} {mA:T6->Option Tp} (I:ObjM h x dx C mA):∃ od,PySem.W.InstAt h x (PySem.W.instObj C dx) C (some od)/\∀ name,PySem.W.lookIn name od=some (mA name) :=
 let ⟨od,ho,hl⟩:=sh I.ns
 ⟨od,⟨I.obj,rfl,rfl,ho⟩,hl⟩
section
variable {prog:TF} {w:T3} {A:Ut} {E:Tp->Tv->Prop} {s:Tv} {K:Tg} {x dx C f:Tn} {mA:T6->Option Tp} {name:T6} {v:Tp}
end
theorem RelO.some_of {v:V} {o:Option Tp} (r:RelO (some v) o):∃ u,o=some u/\RelV v u:=by
 cases o with
 | none=>exact (show False from r).elim
 | some u=>exact ⟨u,rfl,r⟩
section
variable {P:TF} {w:T3} {H H':Hp} {h h':US} {a C dx:Tn} {fs Ph:List (T6×V)}
theorem uh (hok:HOk P w H h) (e:H a=some (.ins C dx fs)):∃ mA,ObjM h a dx C mA/\(∀ f,RelO (fs.lookup f) (mA f))/\PySem.Within mA (fs.map (·.1))/\fs.length<=1000/\H dx=some (.own a):=by
 obtain ⟨d,z,ne,ob,mA,n,r,q⟩:=(show ObjOk P w H h a (.ins C dx fs) from hok a _ e);exact ⟨mA,⟨ob,n,ne⟩,r,q,z,d⟩
end
structure Cls (K:Tg) (C:Tn):Prop where
 pg:PySem.W.plainGet K C Str.empty=true
 hd:PySem.W.hasDictIn K C=true
 po:PySem.W.plainOver K C=true
 sa:PySem.W.findIn K (.ref C) "__setattr__"=some (some (.builtin "object.__setattr__"))
theorem Cls.get {K:Tg} {C:Tn} (c:Cls K C) (f:T6):PySem.W.plainGet K C f=true:=c.pg
section
variable {X:Cx} {pins:List (Tn×VN)} {σ:St} {H:Hp} {s:Tv} {a C dx:Tn} {fs:List (T6×V)} {f:T6} {v:V} {A:Ut} {E:Tp->Tv->Prop}
end
section
variable {X:Cx} {o e value:UP} {f:T6} {pos pos' J7:Xv} {ta tv:TE}
end
section
variable {X:Cx} {pins:List (Tn×VN)} {σ:St} {H:Hp} {s:Tv} {A:Ut} {E:Tp->Tv->Prop} {Q:Tp->Tv->Prop} {c:Tp} {b:Bool}
inductive iS (K:Tg) (H:Hp):V->Tp->Prop where
 | non:iS K H .non (.type "NoneType")
 | bl (x:Bool):iS K H (.bl x) (.type "bool")
 | int (i:Int):iS K H (.int i) (.type "int")
 | str (x:T6):iS K H (.str x) (.type "str")
 | flt (x:UInt64):iS K H (.flt x) (.type "float")
 | lst {a:Tn} {xs:List V} (e:H a=some (.lst xs)):iS K H (.ref a) (.type "list")
 | frz {a:Tn} {o:VN} {xs:List V} (e:H a=some (.frz o (.lst xs))):iS K H (.ref a) (.type "list")
 | tup {a:Tn} {xs:List V} (e:H a=some (.tup xs)):iS K H (.ref a) (.type "tuple")
 | dK {a:Tn} {f':List (Key×V)} (e:H a=some (.dK f')):iS K H (.ref a) (.type "dict")
 | dT {a:Tn} {f':List (List Key×V)} (e:H a=some (.dT f')):iS K H (.ref a) (.type "dict")
 | ins {a C dx:Tn} {fs:List (T6×V)} (e:H a=some (.ins C dx fs)) (cl:Cls K C) (ha:PySem.W.findIn K (.ref C) "__class__"=some (some (.builtin "object.__class__")))
  (hn:PySem.W.specialIn K (.builtin "object.__class__") "__get__"=some (some (.builtin "getset_descriptor.__get__"))) (zM:PySem.W.takesIn K (.builtin "object.__class__")=some true)
  (hm:PySem.W.mroIn K C (.type "object")=some true):iS K H (.ref a) (.ref C)
theorem rR {x:V} {u t:Tp} (I:Inv X pins σ H s) (rx:RelV x u) (ty:iS X.K H x t) (e:WM X.K t c=some b) (h:∀ tk,Q (.bool b) { s with toks:=tk }) :
 TM (Ug X.prog X.w) A (call (.builtin "isinstance") [u,c]) Q E s:=by
 cases ty with
 | non=>cases (show u=U4 from rx);exact Vj PySem.W.kitx_none I.kIn VM e (fun z=>nomatch z) h
 | bl y=>cases (show u=Value.bool y from rx);exact Vj PySem.W.kitx_bool I.kIn VM e (fun z=>nomatch z) h
 | int i=>obtain ⟨t,q⟩:=(show ∃ t,u=Value.int i t from rx);cases q;exact Vj PySem.W.kitx_int I.kIn VM e (fun z=>nomatch z) h
 | str y=>obtain ⟨t,q⟩:=(show ∃ t,u=Value.str y t from rx);cases q;exact Vj PySem.W.kitx_str I.kIn VM e (fun z=>nomatch z) h
 | flt y=>obtain ⟨t,q⟩:=(show ∃ t,u=Value.float y t from rx);cases q;exact Vj PySem.W.kitx_float I.kIn VM e (fun z=>nomatch z) h
 | @lst a xs ea =>
   cases (show u=Uc a from rx);obtain ⟨_,_,n,_,h1⟩:=(show ObjOk X.prog X.w H s.heap a (.lst xs) from I.hok a _ ea);exact Vj PySem.W.kitx_list I.kIn ⟨_,h1,rfl⟩ e (fun z=>nomatch z) h
 | @frz a ob xs ea =>
   cases (show u=Uc a from rx);obtain ⟨_,_,_,n,_,h1⟩:=(show ObjOk X.prog X.w H s.heap a (.frz ob (.lst xs)) from I.hok a _ ea);exact Vj PySem.W.kitx_list I.kIn ⟨_,h1,rfl⟩ e (fun z=>nomatch z) h
 | @tup a xs ea =>
   cases (show u=Uc a from rx);obtain ⟨_,_,_,_,h1⟩:=(show ObjOk X.prog X.w H s.heap a (.tup xs) from I.hok a _ ea);exact Vj PySem.W.kitx_tuple I.kIn ⟨_,h1,rfl⟩ e (fun z=>nomatch z) h
 | @dK a f' ea =>
   cases (show u=Uc a from rx);obtain ⟨_,_,vs,_,p⟩:=(show ObjOk X.prog X.w H s.heap a (.dK f') from I.hok a _ ea);obtain ⟨o,es,ep,h1,h2,_⟩:=p;exact Vj PySem.W.kitx_dict I.kIn ⟨o,h1,h2.1⟩ e (fun z=>nomatch z) h
 | @dT a f' ea =>
   cases (show u=Uc a from rx);obtain ⟨_,_,xs,_,o,es,ep,h1,h2,_⟩:=(show ObjOk X.prog X.w H s.heap a (.dT f') from I.hok a _ ea);exact Vj PySem.W.kitx_dict I.kIn ⟨o,h1,h2.1⟩ e (fun z=>nomatch z) h
 | @ins a C dx fs ea cl ha hn zM hm =>
   cases (show u=Uc a from rx);obtain ⟨mA,O,_⟩:=uh I.hok ea;obtain ⟨od,J,_⟩:=O.look;exact Vj (PySem.W.kitx_own (cl.get _) cl.hd ha hn zM hm) I.kIn J e (fun z=>nomatch z) h
end
end L2
namespace L2
open PySem PySem.Spec PyProof.Rows
structure Room (k:Nat) (A:Ut):Prop where
 hd:A.handled=none
 dp:A.depth+3 * k+5<recursionLimit
 un:A.units+16 * k+200<Vk
theorem Room.mono {j k:Nat} {A:Ut} (r:Room k A) (h:j<=k):Room j A:=⟨r.hd,by have:=r.dp;omega,by have:=r.un;omega⟩
theorem Room.deeper {k:Nat} {A:Ut} (r:Room (k+1) A) (env:Env):Room k (A.deeper env) :=
 ⟨r.hd,by have:=r.dp;show A.depth+1+3 * k+5<_;omega,by have:=r.un;show A.units+3+16 * k+200<_;omega⟩
theorem Room.depth {k:Nat} {A:Ut} (r:Room k A):A.depth<recursionLimit:=by have:=r.dp;omega
theorem Room.units {k:Nat} {A:Ut} (r:Room k A):A.units+64<Vk:=by have:=r.un;omega
def dW:TA:=fun _ H Q=>Q [] H
def bq (ta:TE) (tr:TA):TA:=fun σ H Q=>ta σ H fun x H1=>tr σ H1 fun xs H2=>Q (x::xs) H2
section
variable {X:Cx} {e:UP} {es:List UP} {te:TE} {t:TA} {pos:Xv}
theorem ac:PA X [] dW:=fun _ _ _ _ H Q I h=>VJ ⟨[],H,I,.nil,h⟩
theorem aa (ha:PE X e te) (hr:PA X es t) (hs:UD (e::es) X.env=(false,VY e X.env)::UD es X.env:=by rfl):PA X (e::es) (bq te t):=by
 intro pos pins s σ H Q I h;rw [hs];show TM _ _ (spliced ((false,VY e X.env)::XD pos (UD es X.env))) _ _ s;refine Vg (thn (ha pins s σ H _ I h) fun u s1 ⟨x,H1,I1,r1,q1⟩=>?_);exact thn (hr pos pins s1 σ H1 _ I1 q1) fun us s2 ⟨xs,H2,I2,r2,q2⟩=>⟨x::xs,H2,I2,.cons r1 r2,q2⟩
def km (t:TA):TE:=fun σ H Q=>t σ H fun xs H1=>xs.length<=TN/\∀ p,H1 p=none->Q (.ref p) (upd H1 p (.tup xs))
def xD (t:TA):TE:=fun σ H Q=>t σ H fun xs H1=>xs.length<=TN/\∀ p,H1 p=none->Q (.ref p) (upd H1 p (.lst xs))
theorem aB {x1} (h:PA X es t):PE X (.Tuple es x1 pos) (km t):=by
 intro pins s σ H Q I hq;refine wpAny_Tuple_spliced (thn (h pos pins s σ H _ I hq) fun us s1 ⟨xs,H1,I1,r,z,q⟩=>⟨by rw [<- r.length];exact z,?_⟩);have hf:H1 s1.heap.objs.size=none:=I1.hok.fresh (To _);refine ⟨.ref s1.heap.objs.size,upd H1 s1.heap.objs.size (.tup xs),I1.laid (t':=s1.toks) (fun b u e=>Tr _ e) (To _) ?_,rfl,q _ hf⟩;exact ⟨z,us,0,r,TC _ rfl⟩
theorem bV (h:PA X es t):PE X (.List es pos) (xD t):=by
 intro pins s σ H Q I hq;refine wpAny_List_spliced (thn (h pos pins s σ H _ I hq) fun us s1 ⟨xs,H1,I1,r,z,q⟩=>⟨by rw [<- r.length];exact z,?_⟩);have hf:H1 s1.heap.objs.size=none:=I1.hok.fresh (To _);refine ⟨.ref s1.heap.objs.size,upd H1 s1.heap.objs.size (.lst xs),I1.laid (t':=s1.toks) (fun b u e=>Tr _ e) (To _) ?_,rfl,q _ hf⟩;exact ⟨z,us,0,r,TC _ rfl⟩
end
abbrev Sp:=List V->Hp->VK->XK->Prop
abbrev CXT:=List Env->Hp->Tv->XK->Tp->Tv->Prop
structure uB (P:TF) (w:T3) (K:Tg) (mg:T6->Option Tp) (base:US) (A:Ut) (outer:List Env) (s:Tv) (H:Hp):Prop where
 frames:A.frames=some outer
 mod:Mod K mg base
 bs:∀ b o,base.get? b=some o->s.heap.get? b=some o/\H b=none
 bsz:base.objs.size<=s.heap.objs.size
 funs:s.heap.FunFrames base outer
 frf:∀ b∈frs outer,H b=none
 hok:HOk P w H s.heap
 bare:AllBare s.gens
def CE (outer:List Env) (P:TF) (w:T3) (H:Hp) (s:Tv) (Q:VK) (u:Tp) (s':Tv):Prop :=
 ∃ v H',s'.os=s.os/\AllBare s'.gens/\Un (frs outer) [] H H' s.heap s'.heap/\HOk P w H' s'.heap/\RelV v u/\Q v H'
def CR (CX:CXT) (outer:List Env) (P:TF) (w:T3) (H:Hp) (s:Tv) (Q:VK) (E:XK) (r:Result) (s':Tv):Prop :=
 match r with
 | .ok (.ret u)=>CE outer P w H s Q u s'
 | .ok _=>False
 | .error e=>CX outer H s E e s'
structure bn (P:TF) (w:T3) (K:Tg) (mg:T6->Option Tp) (base:US) (CX:CXT) (k:Nat) (f:Tn) (fd:WO) (ps:List T6) (sp:Sp):Prop where
 len:∀ vs H Q E,sp vs H Q E->vs.length=ps.length
 run:∀ (A:Ut) (outer:List Env) (s:Tv) (H:Hp) (args:Args) (us:List Tp) (vs:List V) (Q:VK) (E:XK),Room k A->uB P w K mg base A outer s H->BindsTo s fd args (ps.zip us)->Vals vs us->sp vs H Q E →
  XC (Ug P w) A (.call (.ref f) args) (CR CX outer P w H s Q E) s
section
variable {X:Cx} {pins:List (Tn×VN)} {σ:St} {H:Hp} {s s':Tv}
theorem Inv.env0 (I:Inv X pins σ H s):uB X.prog X.w X.K X.mg X.base X.A X.stack s H :=
 ⟨I.ok.frames,I.ok.mod,I.bs,Vu I.ok.bsz I.sz,I.stack,I.stkFree,I.hok,I.bare⟩
theorem Inv.after {Q:VK} {u:Tp} (I:Inv X pins σ H s) (h:CE X.stack X.prog X.w H s Q u s'):EP X pins σ Q u s':=by
 obtain ⟨v,H',os,bare,un,hok,r,q⟩:=h;obtain ⟨hh,g,d,t,Po⟩:=s';obtain rfl:Po=s.os:=os;exact ⟨v,H',I.call (h':=hh) (g':=g) (d':=d) (t':=t) (ch:=[]) un hok bare (fun b z=>absurd z (by simp)),r,q⟩
end
def fU (sp:Sp) (dvs:List V) (E:XK) (t:TA):TE:=fun σ H Q=>t σ H fun vs H1=>sp (vs++dvs) H1 Q E
def Binds (K:Tg) (fd:WO) (ps:List T6) (ds:List Tp):Prop :=
 ∀ (s:Tv) (us:List Tp),K.In s.heap->(us++ds).length=ps.length->BindsTo s fd ⟨us,[]⟩ (ps.zip (us++ds))
theorem Binds.all {K:Tg} {fd:WO} {ps:List T6} (h:∀ us:List Tp,us.length=ps.length->Y1 fd ⟨us,[]⟩=pure (ps.zip us)):Binds K fd ps []:=fun s us _ hl=>by
 rw [Up] at hl ⊢;exact .of_eq (h us hl)
def Passes (CX:CXT) (X:Cx) (E:XK):Prop:=∀ (pins:List (Tn×VN)) (σ:St) (H:Hp) (s:Tv) (e:Tp) (s':Tv),Inv X pins σ H s->CX X.stack H s E e s'->X.xe e s'
section
variable {X:Cx} {CX:CXT} {k:Nat} {f C:Tn} {fd:WO} {ps:List T6} {sp:Sp} {dvs:List V} {ds:List Tp} {E:XK} {x m:T6} {p pos apos:Xv} {e o:UP} {es:List UP} {ta:TE} {t:TA}
theorem vV {pins:List (Tn×VN)} {σ:St} {H:Hp} {s:Tv} {Q:VK} {us:List Tp} {vs:List V} (F:bn X.prog X.w X.K X.mg X.base CX k f fd ps sp) (hr:Room k X.A) (hb:Binds X.K fd ps ds) (hd:Vals dvs ds) (hx:Passes CX X E)
 (I:Inv X pins σ H s) (r:Vals vs us) (h:sp (vs++dvs) H Q E):TM (Ug X.prog X.w) X.A (call (.ref f) us) (EP X pins σ Q) X.xe s:=by
 have r2:Vals (vs++dvs) (us++ds):=r.append hd;have hl:(us++ds).length=ps.length:=by rw [<- r2.length];exact F.len _ _ _ _ h
 refine wpAny_call (codeAny_mono (F.run X.A X.stack s H ⟨us,[]⟩ (us++ds) (vs++dvs) Q E hr I.env0 (hb s us I.kIn hl) r2 h) fun r s' hq=>?_);cases r with
 | error e=>exact hx pins σ H s e s' I hq
 | ok fl =>
   cases fl with
   | ret u=>exact I.after hq
   | next=>exact WQ hq
   | brk=>exact WQ hq
   | cont=>exact WQ hq
theorem iH (F:bn X.prog X.w X.K X.mg X.base CX k f fd ps sp) (hr:Room k X.A) (hg:Gl X x) (hm:X.mg x=some (.ref f)) (hk:YA X.K (.ref f)=true) (hb:Binds X.K fd ps ds) (hd:Vals dvs ds) (hx:Passes CX X E)
 (ha:PA X (e::es) t) (Ey:(x == ("__debug__":T6))=false:=by decide) (he:UD (e::es) X.env=(false,VY e X.env)::UD es X.env:=by rfl) (ze:(XD pos (UD es X.env)).any (·.1)=false:=by rfl) :
 PE X (.Call (.Name x p) (e::es) [] pos) (fU sp dvs E t):=by
 intro pins s σ H Q I h;refine Ve (qv I hg hm ?_ Ey);refine PySem.W.callWith_K (h₀:=X.base) I.ok.mod.kin hk (thn (ha pos pins s σ H _ I h) fun us s1 ⟨vs,H1,I1,r,q⟩=>⟨I1.kIn,?_⟩) he ze;exact vV F hr hb hd hx I1 r q
end
section
variable {X:Cx} {CX:CXT} {k:Nat} {f C:Tn} {fd:WO} {ps ks:List T6} {sp:Sp} {E:XK} {x m:T6} {p pos apos Pp:Xv} {e o:UP} {es:List UP} {R4:List Keyword} {te ta:TE} {t tk:TA} {nm:Option T6}
variable {g:List Tp->List Tp->List Tp} {gV:List V->List V->List V}
end
structure aD (N P:List T6) (sc:Xu):Prop where
 kind:sc.kind=.function
 co:sc.isCoroutine=false
 gen:sc.isGenerator=false
 nd:N.Nodup
 pre:N.take P.length=P
 par:∀ x∈P,sc.names.lookup x=some .local∨sc.names.lookup x=some .cell
 nofree:∀ y∈sc.names,y.2≠.free
theorem mG {kindOf:T6->Option V6} {x:T6}:∀ {binds:List (T6×Tp)} {m:T6->Option Tp},(∀ v,(x,v)∉binds)->bindL kindOf binds m x=m x
 | [],_,_=>rfl
 | (n,v)::r,m,h=>by
   unfold bindL;rw [mG fun w hw=>h w (T1 _ hw)];split
   · have:x≠n:=by rintro rfl;exact h v T2
     simp [this]
   · rfl
theorem lY {kindOf:T6->Option V6} {x:T6}:∀ {binds:List (T6×Tp)} {m:T6->Option Tp},(∀ v,(x,v)∉binds)->bindC kindOf binds m x=m x
 | [],_,_=>rfl
 | (n,v)::r,m,h=>by
   unfold bindC;rw [lY fun w hw=>h w (T1 _ hw)];split
   · rfl
   · have:x≠n:=by rintro rfl;exact h v T2
     simp [this]
theorem mq {kindOf:T6->Option V6} {x:T6} {v:Tp}:∀ {P:List T6} {vs:List Tp} {i:Nat} {m:T6->Option Tp},P.Nodup->P[i]?=some x->vs[i]?=some v->kindOf x=some .local →
 bindL kindOf (P.zip vs) m x=some v
 | [],_,_,_,_,h,_,_=>by simp at h
 | _::_,[],_,_,_,_,h,_=>by simp at h
 | p::P,w::vs,0,m,nd,h1,h2,hk=>by
   simp at h1 h2;subst h1;subst h2;show bindL kindOf ((p,w)::P.zip vs) m p=_;unfold bindL;rw [mG fun v hv=>(Xd.mp nd).1 (WD hv).1,if_pos hk];simp
 | p::P,w::vs,i+1,m,nd,h1,h2,hk=>by
   show bindL kindOf ((p,w)::P.zip vs) m x=_;unfold bindL;exact mq (i:=i) (Xd.mp nd).2 (by simpa using h1) (by simpa using h2) hk
theorem lZ {kindOf:T6->Option V6} {x:T6} {v:Tp}:∀ {P:List T6} {vs:List Tp} {i:Nat} {m:T6->Option Tp},P.Nodup->P[i]?=some x->vs[i]?=some v->kindOf x≠some .local →
 bindC kindOf (P.zip vs) m x=some v
 | [],_,_,_,_,h,_,_=>by simp at h
 | _::_,[],_,_,_,_,h,_=>by simp at h
 | p::P,w::vs,0,m,nd,h1,h2,hk=>by
   simp at h1 h2;subst h1;subst h2;show bindC kindOf ((p,w)::P.zip vs) m p=_;unfold bindC;rw [lY fun v hv=>(Xd.mp nd).1 (WD hv).1,if_neg hk];simp
 | p::P,w::vs,i+1,m,nd,h1,h2,hk=>by
   show bindC kindOf ((p,w)::P.zip vs) m x=_;unfold bindC;exact lZ (i:=i) (Xd.mp nd).2 (by simpa using h1) (by simpa using h2) hk
def start (N:List T6) (vs:List V):St:=vs.map some++U0 (N.length - vs.length) none
def rF (CX:CXT) (P:TF) (w:T3) (K:Tg) (mg:T6->Option Tp) (base:US) (N:List T6) (qual:T6) (scope:Xu) (f:Tn) (cd:Tp) (A:Ut) (outer:List Env) (s:Tv) (H:Hp) (E:XK):Cx where
 prog:=P
 w:=w
 K:=K
 mg:=mg
 base:=base
 A:=A.deeper (envOfC qual scope s.heap.objs.size f cd)
 N:=N
 s₀:=s
 H₀:=H
 env:=envOfC qual scope s.heap.objs.size f cd
 outer:=outer
 stack:=envOfC qual scope s.heap.objs.size f cd::outer
 ex:=[]
 calm:=true
 fn:=fun _=>true
 pn:=[]
 xe:=fun e s'=>TM (Ug P w) (A.deeper (envOfC qual scope s.heap.objs.size f cd)) (leaving (envOfC qual scope s.heap.objs.size f cd) e) (fun _ J8=>CX outer H s E e J8) (fun e' J8=>CX outer H s E e' J8) s'
theorem oI {sc:Xu} {n:Nat} {x:T6} (h:sc.names.lookup x=some .cell):∃ c,(cellsFrom n sc.names []).lookup x=some c:=by
 have q:=PySem.W.cellsFrom_some sc.names n [] (.inl h);exact W7.mp q
theorem rm {CX:CXT} {P:TF} {w:T3} {K:Tg} {mg:T6->Option Tp} {base:US} {N ps:List T6} {qual:T6} {scope:Xu} {f:Tn} {cd:Tp} {A:Ut} {outer:List Env} {s s1:Tv} {H:Hp} {E:XK} {us:List Tp} {vs:List V}
 (S:aD N ps scope) (hd:A.handled=none) (e0:uB P w K mg base A outer s H) (hl:vs.length=ps.length) (r:Vals vs us)
 (x:InCallC s s.heap.objs.size (bindL (envOfC qual scope s.heap.objs.size f cd).kindOf (ps.zip us) fun _=>none) (cellsFrom (s.heap.objs.size+1) scope.names []) (bindC (envOfC qual scope s.heap.objs.size f cd).kindOf (ps.zip us) fun _=>none) s1) :
 Inv (rF CX P w K mg base N qual scope f cd A outer s H E) [] (start N vs) H s1:=by
 have ze:ps.length<=N.length:=by have:=congrArg Wo S.pre;rw [Ul] at this;omega
 obtain ⟨h1,tk,rfl,hk⟩:=x.done;have Gh:∀ b:Tn,b∉(rF CX P w K mg base N qual scope f cd A outer s H E).ex:=fun b z=>absurd (show b∈([]:List Tn) from z) (by simp)
 refine ⟨⟨e0.mod,S.kind,rfl,rfl,To _,fun y z c h1 h2=>?_,fun y hy=>?_,fun y c _ h=>?_,fun _=>hd,Around.frames_deeper e0.frames,.inr ⟨rfl,rfl⟩,fun b z=>absurd z (Gh b),e0.bs,e0.bsz,fun b _ _=>Gh b,fun b z=>absurd z (Gh b),e0.funs,e0.frf⟩,
  rfl,e0.bare,Un.kept hk,⟨_,x.toInCall.ns,fun i y v h1 h2 h3=>?_⟩,fun y c h=>⟨_,x.cell y c h⟩,e0.hok.fresh (To _),fun y c h=>?_,fun p hp=>absurd (show p∈([]:List (Tn×VN)) from hp) (by simp),e0.hok.kept hk,?_⟩
 · exact name_of_addr x.apart (WZ h1) (WZ h2)
 · have hy:scope.names.lookup y=some .cell∨scope.names.lookup y=some .free:=hy;rcases hy with hy | hy
   · exact oI hy
   · exact absurd rfl (S.nofree _ (WZ hy))
 · exact WW (x.above y c (WZ h))
 · have hi:i<vs.length:=by
    unfold start at h2;by_cases hi:i<vs.length
    · exact hi
    · rw [XT (by simpa using hi)] at h2;rw [List.getElem?_replicate] at h2;split at h2 <;> cases h2
   have ha:vs[i]?=some v:=by
    unfold start at h2;rw [Wh (by simpa using hi),Tw] at h2;cases e:vs[i]? with
    | none=>rw [e] at h2;cases h2
    | some a=>rw [e] at h2;cases h2;rfl
   obtain ⟨u,hu,rv⟩:=r.get ha
   have hp:ps[i]?=some y:=by
    rw [<- S.pre,List.getElem?_take_of_lt (by omega)];exact h1
   have Nv:ps.Nodup:=by rw [<- S.pre];exact S.nd.sublist (List.take_sublist _ _)
   refine ⟨u,rv,?_⟩;rcases S.par y (Tj hp) with k | k
   · exact .inl ⟨k,mq Nv hp hu k⟩
   · obtain ⟨c,e⟩:=oI (n:=s.heap.objs.size+1) k;refine .inr ⟨.inl k,c,e,?_⟩;have q:=x.cell y c e;rw [lZ Nv hp hu (by show scope.names.lookup y≠_;rw [k];decide)] at q;exact q
 · exact e0.hok.fresh (WW (x.above y c (WZ h)))
 · unfold start;show _=N.length;rw [TZ,Te,Wa];omega
theorem wP {CX:CXT} {P:TF} {w:T3} {K:Tg} {mg:T6->Option Tp} {base:US} {k:Nat} {f:Tn} {name qual:T6} {params:Arguments} {body:List VD} {scope:Xu} {dV kV doc pm xW ct oc:Tp} {an od:Option Tn}
 {DI:Array (Option Tp)} {N ps:List T6} {sp:Sp} (lk:K.lookup f=some ⟨oc,od,.func (WT name qual params body scope dV kV doc pm an xW ct),DI⟩) (B0:YB K xW qual=true) (S:aD N ps scope)
 (len:∀ vs H Q E,sp vs H Q E->vs.length=ps.length)
 (B3:∀ (A:Ut) (outer:List Env) (s:Tv) (H:Hp) (vs:List V) (Q:VK) (E:XK),Room k (A.deeper (envOfC qual scope s.heap.objs.size f xW))->sp vs H Q E →
  ∃ t,PSs (rF CX P w K mg base N qual scope f xW A outer s H E) body t/\t { nx:=fun _ H'=>Q .non H',rt:=Q } (start N vs) H) :
 bn P w K mg base CX (k+1) f (WT name qual params body scope dV kV doc pm an xW ct) ps sp:=by
 refine ⟨len,fun A outer s H args us vs Q E hr e0 hb r Bh=>?_⟩;have hl:=len _ _ _ _ Bh;have KX:K.In s.heap:=e0.mod.kin.keeps fun b o e=>(e0.bs b o e).1;have lim:s.heap.NoLimit:=e0.mod.nolimit.keeps fun b o e=>(e0.bs b o e).1
 have Gi:∀ y∈ps.zip us,scope.names.lookup y.1=some .local∨(scope.names.lookup y.1=some .cell/\((cellsFrom (s.heap.objs.size+1) scope.names []).lookup y.1).isSome=true):=fun ⟨n,v⟩ hy=>by
  rcases S.par n (WD hy).1 with q | q
  · exact .inl q
  · exact .inr ⟨q,PySem.W.cellsFrom_some _ _ _ (.inl q)⟩
 refine codeAny_call_function hr.depth (KX _ _ lk) rfl S.co S.gen rfl (PySem.W.codeRec_of KX B0) (hb _ _ _ _ ?_);refine wpAny_newFunctionEnv_cells S.kind Gi fun env he s1 x=>?_;subst he;refine ⟨lim.keeps x.toInCall.keep,codeAny_func ?_⟩;obtain ⟨t,ht,hq⟩:=B3 A outer s H vs Q E (hr.deeper _) Bh;have I:Inv (rF CX P w K mg base N qual scope f xW A outer s H E) [] (start N vs) H s1:=rm S hr.hd e0 hl r x;refine VI (ht [] s1 (start N vs) H _ I hq) (fun fl s' hs=>?_) fun e s' hs=>hs
 have fin:∀ {xM:St} {H':Hp} {v:V} {u:Tp},Inv (rF CX P w K mg base N qual scope f xW A outer s H E) [] xM H' s'->RelV v u->Q v H'->CE outer P w H s Q u s' :=
  fun {xM H' v u} J rv q=>⟨v,H',J.os,J.bare,J.base,J.hok,rv,q⟩
 cases fl with
 | ret u =>
   obtain ⟨v,xM,H',J,rv,q⟩:=hs;exact fin J rv q
 | next =>
   obtain ⟨xM,H',J,q⟩:=hs;exact fin (v:=V.non) (u:=U4) J rfl q
 | brk =>
   obtain ⟨_,_,_,q⟩:=hs;exact WQ q
 | cont =>
   obtain ⟨_,_,_,q⟩:=hs;exact WQ q
end L2
namespace L2
open PySem PySem.Spec PyProof.Rows
section
variable {X:Cx} {x:T6} {p pos:Xv} {e:UP} {es:List UP} {t:TA} {id T:String} {r:List V->Hp->VK->Prop}
def tCB (r:List V->Hp->VK->Prop) (t:TA):TE:=fun σ H Q=>t σ H fun vs H1=>r vs H1 Q
theorem ax (hc:gS X (.builtin id) r) (hg:Gl X x) (hm:X.mg x=none) (hv:X4 x=some (.builtin id)) (ha:PA X (e::es) t) (hn:x≠"__name__":=by decide) (Ey:(x == ("__debug__":T6))=false:=by decide)
 (he:UD (e::es) X.env=(false,VY e X.env)::UD es X.env:=by rfl) (ze:(XD pos (UD es X.env)).any (·.1)=false:=by rfl):PE X (.Call (.Name x p) (e::es) [] pos) (tCB r t):=by
 intro pins s σ H Q I h;refine Ve (cU I hg hm hv ?_ hn Ey);exact PyProof.Rows.callWith_builtin1 (thn (ha pos pins s σ H _ I h) fun us s1 ⟨vs,H1,I1,r1,q1⟩=>hc pins s1 σ H1 vs us Q I1 r1 q1) he ze
theorem dC (hc:gS X (.type T) r) (hg:Gl X x) (hm:X.mg x=none) (hv:X4 x=some (.type T)) (ha:PA X (e::es) t) (hn:x≠"__name__":=by decide) (Ey:(x == ("__debug__":T6))=false:=by decide)
 (he:UD (e::es) X.env=(false,VY e X.env)::UD es X.env:=by rfl) (ze:(XD pos (UD es X.env)).any (·.1)=false:=by rfl):PE X (.Call (.Name x p) (e::es) [] pos) (tCB r t):=by
 intro pins s σ H Q I h;refine Ve (cU I hg hm hv ?_ hn Ey);exact UB (thn (ha pos pins s σ H _ I h) fun us s1 ⟨vs,H1,I1,r1,q1⟩=>hc pins s1 σ H1 vs us Q I1 r1 q1) he ze
end
end L2
namespace HT
open PySem PyProof.Rows
section
open PySem.SeqAt
open PySem.AutoSeq1 (wpAny_loadPart')
open PySem.MeetsSeq PySem.MeetsSeq2 PySem.MeetsSeq3
end
section
variable {prog:TF} {w:T3} {A:Ut} {E:Tp->Tv->Prop} {s:Tv}
theorem cat_tup {t b:Tn} {vs ws:List Tp} {Q:Tp->Tv->Prop} (ht:IsTup s.heap t vs.toArray) (hb:IsTup s.heap b ws.toArray) (hv:vs≠[])
 (h1:ws=[]->Q (.ref t) s) (h2:ws≠[]->Q (.ref s.heap.objs.size) { s with heap:=s.heap.push { cls:=.type "tuple",data:=.seq (vs++ws).toArray } })
 (hsz:vs.length+ws.length<=TN):TM (Ug prog w) A (Xl .Add (.ref t) (.ref b)) Q E s:=by
 obtain ⟨⟨cls,dd,data,sl⟩,ho,hc,n,hd⟩:=id ht;obtain ⟨⟨Gj,FF,data2,FG⟩,CQ,BH,n2,hd2⟩:=id hb;simp only at hc hd BH hd2;subst hc hd BH hd2;have e:vs.toArray++ws.toArray=(vs++ws).toArray:=by simp
 by_cases hw:ws=[]
 · exact concat_meets ⟨_,ho,rfl⟩ ⟨_,CQ,rfl⟩ noFill_tuple_add seq_tuple_add Yl Yi (X6 _ _)
    (tuple_addW1 t b vs.toArray ws.toArray n n2 dd FF sl FG (by simpa using hv) (by simp [hw])) ⟨ho,CQ,h1 hw⟩
 · refine concat_meets ⟨_,ho,rfl⟩ ⟨_,CQ,rfl⟩ noFill_tuple_add seq_tuple_add Yl Yi (X6 _ _)
    (tuple_addW2 t b vs.toArray ws.toArray n n2 dd FF sl FG (by simpa using hv) (by simpa using hw) (by rw [Tz,Tz];exact hsz)) ⟨ho,CQ,?_⟩
   rw [e];exact h2 hw
def sIx (n d:Nat):Option Int->Nat
 | none=>d
 | some v=>if v<0 then (v+(n:Int)).toNat else min v.toNat n
theorem sIx_none (n d:Nat):sIx n d none=d:=rfl
theorem sIx_nat (n d k:Nat):sIx n d (some (k:Int))=min k n:=by
 show (if (k:Int)<0 then ((k:Int)+(n:Int)).toNat else min (k:Int).toNat n)=min k n;rw [if_neg (by omega),Vh]
theorem sIx_le (n d:Nat) (hd:d<=n) (o:Option Int):sIx n d o<=n:=by
 cases o with
 | none=>exact hd
 | some v =>
   show (if v<0 then (v+(n:Int)).toNat else min v.toNat n)<=n;by_cases hv:v<0
   · rw [if_pos hv];omega
   · rw [if_neg hv];exact Nat.min_le_right _ _
theorem clip_eq (v:Int) (n d:Nat):(if v<0 then max (v+(n:Int)) 0 else min v (n:Int))=((sIx n d (some v):Nat):Int):=by
 show (if v<0 then max (v+(n:Int)) 0 else min v (n:Int))=(((if v<0 then (v+(n:Int)).toNat else min v.toNat n):Nat):Int);by_cases hv:v<0
 · simp only [if_pos hv];omega
 · simp only [if_neg hv];omega
theorem adjust_gen (lo hi:Option Int) (n:Nat):Wt lo hi 1 (n:Int)=(((sIx n 0 lo:Nat):Int),((sIx n n hi:Nat):Int)):=by
 have h1:¬ ((1:Int)<0):=by omega
 unfold Wt;simp only [h1,if_false];refine Prod.ext ?_ ?_
 · cases lo with
   | none=>rfl
   | some v=>exact clip_eq v n 0
 · cases hi with
   | none=>rfl
   | some v=>exact clip_eq v n n
theorem places_gen (i j:Nat):Vd (i:Int) (j:Int) 1=j - i:=by
 unfold Vd;have h1:(1:Int) > 0:=by omega
 simp only [h1,if_true,Y8];split <;> omega
theorem slicePart_ {v:Tp} {o:Option Int} {Q:Option Int->Tv->Prop} (p:YL v o) (h:Q o s):TM (Ug prog w) A (Builtin.Slice.slicePartIndex v) Q E s:=by
 cases p with
 | none=>exact slicePart_none h
 | int i t=>exact slicePart_int h
theorem sliceApplied_gen {sl:Tn} {vl vu:Tp} {lo hi:Option Int} {n:Nat} {Q:Int×Int×Nat->Tv->Prop} (hs:s.heap.IsSliceOf sl vl vu .none) (pl:YL vl lo) (pu:YL vu hi)
 (h:Q (((sIx n 0 lo:Nat):Int),1,sIx n n hi - sIx n 0 lo) s):TM (Ug prog w) A (Xa (.ref sl) (pure (n:Int))) Q E s:=by
 obtain ⟨os,Aa,BI,zV⟩:=id hs;unfold Xa Builtin.Slice.sliceFields;refine Tf (Tf (Uz Aa zV (x:=vl) rfl (Tf (Uz Aa zV (x:=vu) rfl (Tf (Uz Aa zV (x:=.none) rfl (Tt ?_)))))));refine Tf (slicePart_none ?_);show TM _ _ (if ((1:Int) == 0)=true then _ else _) _ _ s;rw [if_neg (by decide)];refine Tf (slicePart_ pl (Tf (slicePart_ pu (Tf (Tt ?_)))));show TM _ _ (match Wt lo hi 1 (n:Int) with | (lo,hi)=>pure (lo,(1:Int),Vd lo hi 1)) _ _ s;rw [adjust_gen lo hi n];show TM _ _ (pure (((sIx n 0 lo:Nat):Int),(1:Int),Vd ((sIx n 0 lo:Nat):Int) ((sIx n n hi:Nat):Int) 1)) _ _ s;rw [places_gen];exact Tt h
theorem pick_gen (xs:Array Tp) (i k:Nat):((Ue k).filterMap fun (m:Nat)=>xs[((i:Int)+(m:Int) * 1).toNat]?).toArray=((xs.toList.drop i).take k).toArray:=by
 have e:(fun (m:Nat)=>xs[((i:Int)+(m:Int) * 1).toNat]?)=fun m=>xs[i+m]?:=by
  funext m;have:((i:Int)+(m:Int) * 1).toNat=i+m:=by omega
  rw [this]
 rw [e];have:=pick_run xs i k;rw [YX] at this;have e2:((fun x=>xs[x]?) ∘ fun x=>i+x)=fun m=>xs[i+m]?:=rfl;rw [e2] at this;rw [this]
theorem getItem_tuple_cut {t sl:Tn} {items:Array Tp} {vl vu:Tp} {lo hi:Option Int} {Q:Tp->Tv->Prop} (ht:IsTup s.heap t items) (hs:s.heap.IsSliceOf sl vl vu .none) (pl:YL vl lo) (pu:YL vu hi)
 (hw:¬ (sIx items.size 0 lo=0/\sIx items.size items.size hi=items.size))
 (h:Q (.ref s.heap.objs.size) { s with heap:=s.heap.push { cls:=.type "tuple",data:=.seq ((items.toList.drop (sIx items.size 0 lo)).take (sIx items.size items.size hi - sIx items.size 0 lo)).toArray } })
 (hsz:items.size<=TN):TM (Ug prog w) A (XA (.ref t) (.ref sl)) Q E s:=by
 have yP:sizeOk (.seq ((items.toList.drop (sIx items.size 0 lo)).take (sIx items.size items.size hi - sIx items.size 0 lo)).toArray):=by
  show ((items.toList.drop (sIx items.size 0 lo)).take (sIx items.size items.size hi - sIx items.size 0 lo)).toArray.size<=TN;rw [Tz,Ul,Vf,Uk];omega
 have hj:sIx items.size items.size hi<=items.size:=sIx_le _ _ (To _) hi;obtain ⟨os,Aa,BI,zV⟩:=id hs;have Gk:s.TypeIs (.ref sl) "slice":=⟨os,Aa,BI⟩;unfold XA
 try with_reducible refine U3 ?_
 first | refine Tf (Tt ?_) | skip
 refine Tf (wpAny_sequenceKey ht.typeIs (by decide) ?_)
 refine Tf (UI (name:=Tu "__getitem__") ht.typeIs Ur
  (UM Ur ht.typeIs entry_tuple_getitem ?_ (args_tuple_getitem _ _)))
 show TM _ _ (W9 (.ref t) >>= _) _ _ s;refine Tf (tupleItemsOf_ ht ?_);refine Tf (Wb Gk ?_);rw [if_pos (by decide)];refine Tf (sliceApplied_gen hs pl pu ?_)
 have Ax:¬ ((((sIx items.size 0 lo:Nat):Int) == 0 && (1:Int) == 1 && (sIx items.size items.size hi - sIx items.size 0 lo) == items.size)=true):=by
  intro q;rw [VB,VB] at q;have q1:((sIx items.size 0 lo:Nat):Int)=0:=eq_of_beq q.1.1;have q2:sIx items.size items.size hi - sIx items.size 0 lo=items.size:=eq_of_beq q.2;exact hw ⟨by omega,by omega⟩
 show TM _ _ (if (((sIx items.size 0 lo:Nat):Int) == 0 && (1:Int) == 1 && (sIx items.size items.size hi - sIx items.size 0 lo) == items.size)=true then _ else _) _ _ s;rw [if_neg Ax,pick_gen]
 first
  | exact Tf (m:=Vi _) (UL (Tt ⟨_,rfl,Tt h⟩) yP)
  | exact Tf (m:=Vi _) (UL (Tf (Tt (Tt ⟨_,rfl,Tt h⟩))) yP)
  | exact Tf (Tf (m:=Vi _) (UL (Tt (Tt ⟨_,rfl,Tt h⟩)) yP))
  | exact Tf (Tf (m:=Vi _) (UL (Tt ⟨_,rfl,Tt h⟩) yP))
end
end HT
namespace L2
open PySem PySem.Spec PyProof.Rows
abbrev TO:=St->Hp->(Option Int->Hp->Prop)->Prop
def PO (X:Cx) (e:Option UP) (t:TO):Prop :=
 ∀ (pins:List (Tn×VN)) (s:Tv) (σ:St) (H:Hp) (Q:Option Int->Hp->Prop),Inv X pins σ H s->t σ H Q →
   TM (Ug X.prog X.w) X.A (evalPart e X.env) (fun u s'=>∃ o H',Inv X pins σ H' s'/\YL u o/\Q o H') X.xe s
def uT:TO:=fun _ H Q=>Q none H
inductive u6 (x:V) (Q:Option Int->Hp->Prop) (H1:Hp):Prop
 | mk (i:Int) (x9:x=.int i) (ya:Q (some i) H1):u6 x Q H1
def vi (t:TE):TO:=fun σ H Q=>t σ H fun x H1=>u6 x Q H1
section
variable {X:Cx} {e:UP} {te:TE} {lo hi:Option UP} {tl th:TO} {pos p2:Xv}
theorem cg:PO X none uT:=by
 intro pins s σ H Q I h;rw [evalPart_none];exact Tt ⟨none,H,I,.none,h⟩
theorem bJ (h:PE X e te):PO X (some e) (vi te):=by
 intro pins s σ H Q I hw;rw [evalPart_some];refine thn (h pins s σ H _ I hw) fun u s1 ⟨x,H1,I1,r1,q1⟩=>?_;obtain ⟨i,rfl,q⟩:=q1;obtain ⟨t,rfl⟩:=r1;exact ⟨some i,H1,I1,.int i t,q⟩
def SlR (X:Cx) (r:V->Option Int->Option Int->Hp->VK->Prop):Prop :=
 ∀ (pins:List (Tn×VN)) (s:Tv) (σ:St) (H:Hp) (x:V) (v vl vu:Tp) (lo hi:Option Int) (sl:Tn) (Q:VK),Inv X pins σ H s->RelV x v->s.heap.IsSliceOf sl vl vu .none->YL vl lo->YL vu hi->r x lo hi H Q →
   ∃ T id,W5 (.type T) "__getitem__"=pure (some (.builtin id))/\s.TypeIs v T/\TM (Ug X.prog X.w) X.A (XA v (.ref sl)) (EP X pins σ Q) X.xe s
def tSl (r:V->Option Int->Option Int->Hp->VK->Prop) (te:TE) (tl th:TO):TE:=fun σ H Q=>te σ H fun x H1=>tl σ H1 fun l H2=>th σ H2 fun u H3=>r x l u H3 Q
theorem bA {r:V->Option Int->Option Int->Hp->VK->Prop} (hr:SlR X r) (he:PE X e te) (hl:PO X lo tl) (hu:PO X hi th):PE X (.Subscript e (.Slice lo hi none p2) pos) (tSl r te tl th):=by
 intro pins s σ H Q I h;refine Subscript_ (thn (he pins s σ H _ I h) fun v s1 ⟨x,H1,I1,r1,q1⟩=>?_);refine wpAny_Slice (thn (hl pins s1 σ H1 _ I1 q1) fun vl s2 ⟨l,H2,I2,pl,q2⟩=>thn (hu pins s2 σ H2 _ I2 q2) fun vu s3 ⟨u,H3,I3,pu,q3⟩=>?_);rw [evalPart_none];refine Tt ?_;have I4:Inv X pins σ H3 { s3 with heap:=s3.heap.push { cls:=.type "slice",data:=.fields #[vl,vu,.none] } }:=I3.kept (t':=s3.toks) fun b ob q=>Tr _ q;obtain ⟨T,id,hT,ht,hg⟩:=hr pins { s3 with heap:=s3.heap.push { cls:=.type "slice",data:=.fields #[vl,vu,.none] } } σ H3 x v vl vu l u s3.heap.objs.size Q I4 r1 (Heap.IsSliceOf.new ..) pl pu q3;show TM (Ug X.prog X.w) X.A (subscriptTail e (.Slice lo hi none p2) v (.ref s3.heap.objs.size)) (EP X pins σ Q) X.xe { s3 with heap:=s3.heap.push { cls:=.type "slice",data:=.fields #[vl,vu,.none] } };exact tail_any (ops:=[.ref s3.heap.objs.size,v]) ht hT hg (by with_unfolding_all rfl)
def du (xs:List V) (lo hi:Option Int):List V:=(xs.drop (HT.sIx xs.length 0 lo)).take (HT.sIx xs.length xs.length hi - HT.sIx xs.length 0 lo)
theorem jF (xs:List V) (lo hi:Option Int):(du xs lo hi).length<=xs.length:=by
 unfold du;rw [Ul,Vf];omega
inductive u8 (K:Tg) (x:V) (lo:Option Int) (hi:Option Int) (H:Hp) (Q:VK):Prop
 | mk (a:_) (xs:_) (x9:x=.ref a) (ya:SqT K H a xs) (ye:¬ (HT.sIx xs.length 0 lo=0/\HT.sIx xs.length xs.length hi=xs.length)) (yj:∀ p,H p=none->Q (.ref p) (upd H p (.tup (du xs lo hi)))):u8 K x lo hi H Q
def xG (K:Tg):V->Option Int->Option Int->Hp->VK->Prop:=u8 K
theorem fz:SlR X (xG X.K):=by
 intro pins s σ H x v vl vu lo hi sl Q I rx hs pl pu h;obtain ⟨a,xs,rfl,hx,hw,q⟩:=h;cases rx;obtain ⟨its,r,ht,hz⟩:=I.tuple hx;have hlen:its.toArray.size=xs.length:=by rw [Tz];exact r.length.symm
 refine ⟨"tuple",_,Ur.lookup,ht.typeIs,?_⟩;refine HT.getItem_tuple_cut ht hs pl pu (by rw [hlen];exact hw) ?_ (by rw [hlen];exact hz);rw [hlen];refine ⟨.ref s.heap.objs.size,_,I.laid (t':=s.toks) (o:=.tup (du xs lo hi)) (fun b ob q=>Tr _ q) (To _) ?_,rfl,q _ (I.hok.fresh (To _))⟩;exact ⟨Vu (jF xs lo hi) hz,_,0,(r.drop (HT.sIx xs.length 0 lo)).take (HT.sIx xs.length xs.length hi - HT.sIx xs.length 0 lo),TC _ rfl⟩
def wM (K:Tg):R2:=fun x y H Q=>∃ a b xs ys,x=.ref a/\y=.ref b/\SqT K H a xs/\SqT K H b ys/\xs≠[]/\xs.length+ys.length<=TN ∧
 (ys=[]->Q (.ref a) H)/\(ys≠[]->∀ p,H p=none->Q (.ref p) (upd H p (.tup (xs++ys))))
theorem Vals.nil_iff {xs:List V} {us:List Tp} (r:Vals xs us):us=[]↔xs=[]:=by
 cases r with
 | nil=>simp
 | cons _ _=>simp
theorem uu:OpR X (Xl .Add) (wM X.K):=by
 intro pins s σ H x y v u Q I rx ry h;obtain ⟨a,b,xs,ys,rfl,rfl,ha,hb,hx,hz,q1,q2⟩:=h;cases rx;cases ry;obtain ⟨its,r1,p1,_⟩:=I.tuple ha;obtain ⟨xQ,r2,p2,_⟩:=I.tuple hb;refine HT.cat_tup p1 p2 (fun z=>hx (r1.nil_iff.mp z)) (fun z=>⟨.ref a,H,I,rfl,q1 (r2.nil_iff.mp z)⟩) (fun z=>?_) (by rw [<- r1.length,<- r2.length];exact hz);refine ⟨.ref s.heap.objs.size,_,I.laid (t':=s.toks) (o:=.tup (xs++ys)) (fun b ob q=>Tr _ q) (To _) ?_,rfl,q2 (fun w=>z (r2.nil_iff.mpr w)) _ (I.hok.fresh (To _))⟩;exact ⟨by rw [TZ];exact hz,_,0,r1.append r2,TC _ rfl⟩
end
end L2
namespace L2
open PySem PySem.Spec PyProof.Rows
def ixN (n:Nat) (i:Int):Option Nat:=if 0<=i then (if i<n then some i.toNat else none) else if -(n:Int)<=i then some (i+n).toNat else none
def atI {α:Type} (xs:List α) (i:Int):Option α:=(ixN xs.length i).bind fun j=>xs[j]?
theorem nD {n:Nat} {i:Int} {j:Nat} (h:ixN n i=some j):seqIndex? i n=some j/\j<n/\-(n:Int)<=i/\i<n:=by
 unfold ixN at h;by_cases h0:0<=i
 · rw [if_pos h0] at h;by_cases h1:i<n
   · rw [if_pos h1] at h;have e:i.toNat=j:=T5 h;exact ⟨by rw [seqIndex_of h0 h1,e],by omega,by omega,h1⟩
   · rw [if_neg h1] at h;cases h
 · rw [if_neg h0] at h;by_cases h1:-(n:Int)<=i
   · rw [if_pos h1] at h;have e:(i+n).toNat=j:=T5 h;exact ⟨by rw [seqIndex_neg (by omega) h1,e],by omega,h1,by omega⟩
   · rw [if_neg h1] at h;cases h
theorem nR {α:Type} {xs:List α} {i:Int} {v:α} (h:atI xs i=some v):∃ j,seqIndex? i xs.length=some j/\xs[j]?=some v/\j<xs.length/\-(xs.length:Int)<=i/\i<xs.length:=by
 unfold atI at h;cases e:ixN xs.length i with
 | none=>rw [e] at h;cases h
 | some j =>
   rw [e] at h;obtain ⟨h1,h2,h3,h4⟩:=nD e;exact ⟨j,h1,h,h2,h3,h4⟩
theorem bK {α:Type} {xs:List α} {j:Nat} {v:α} (h:xs[j]?=some v):atI xs (j:Int)=some v:=by
 have hj:j<xs.length:=(Tq.mp h).1
 have e:ixN xs.length (j:Int)=some j:=by
  unfold ixN;rw [if_pos (by omega),if_pos (by omega)];simp
 unfold atI;rw [e];exact h
def uS (b:UP):Prop:=∀ o i,subscripted b false o i=operate [o,i] (XA o i)
def IxR (X:Cx) (r:R2):Prop :=
 ∀ (value slice:UP) (pins:List (Tn×VN)) (s:Tv) (σ:St) (H:Hp) (x y:V) (v u:Tp) (Q:VK),Inv X pins σ H s->RelV x v->RelV y u->r x y H Q →
   subscripted slice false v u=operate [v,u] (XA v u)->TM (Ug X.prog X.w) X.A (subscriptTail value slice v u) (EP X pins σ Q) X.xe s
def MtR (X:Cx) (id:String) (r:V->List V->Hp->VK->Prop):Prop :=
 ∀ (pins:List (Tn×VN)) (s:Tv) (σ:St) (H:Hp) (x:V) (xs:List V) (v:Tp) (us:List Tp) (Q:VK),Inv X pins σ H s->RelV x v->Vals xs us->r x xs H Q →
   TM (Ug X.prog X.w) X.A (call (.builtin id) (v::us)) (EP X pins σ Q) X.xe s
section
variable {X:Cx} {a b:UP} {ta tb:TE} {pos:Xv}
theorem av {r:R2} (hr:IxR X r) (ha:PE X a ta) (hb:PE X b tb) (hs:uS b):PE X (.Subscript a b pos) (tOp r ta tb):=by
 intro pins s σ H Q I h;exact Subscript_ (wc ha hb I h fun v u s2 x y H2 I2 rx ry q=>hr a b pins s2 σ H2 x y v u Q I2 rx ry q (hs _ _))
inductive u9 (K:Tg) (x:V) (y:V) (H:Hp) (Q:VK):Prop
 | mk (p:_) (xs:_) (i:_) (v:_) (x9:x=.ref p) (ya:y=.int i) (ye:SqL K H p xs) (yj:atI xs i=some v) (yz:Q v H):u9 K x y H Q
def wf (K:Tg):R2:=u9 K
inductive vx (K:Tg) (x:V) (y:V) (H:Hp) (Q:VK):Prop
 | mk (p:_) (xs:_) (i:_) (v:_) (x9:x=.ref p) (ya:y=.int i) (ye:SqT K H p xs) (yj:atI xs i=some v) (yz:Q v H):vx K x y H Q
def tO (K:Tg):R2:=vx K
inductive vt (x:V) (y:V) (H:Hp) (Q:VK):Prop
 | mk (z:_) (i:_) (c:_) (x9:x=.str z) (ya:y=.int i) (ye:z.length<=TN) (yj:atI z.cps.toList i=some c) (yz:Q (.str ⟨#[c]⟩) H):vt  x y H Q
def xF:R2:=vt
theorem aP:IxR X (wf X.K):=by
 intro value slice pins s σ H x y v u Q I rx ry h hs;obtain ⟨p,xs,i,z,rfl,rfl,hq,he,q⟩:=h;cases rx;obtain ⟨t,rfl⟩:=ry;obtain ⟨its,r,pl,hz⟩:=I.list hq;obtain ⟨j,h1,h2,h3,h4,h5⟩:=nR he;obtain ⟨w,ew,Bi⟩:=r.get h2;have hl:=r.length;have hn:=fu;have fin:EP X pins σ Q w s:=⟨z,H,I,Bi,q⟩;by_cases h0:0<=i
 · have hj:i.toNat=j:=by
    rw [seqIndex_of h0 h5] at h1;exact T5 h1
   exact item_listR pl.isList h0 (by omega) (by rw [hj];simpa using ew) fin hs
 · have hj:(i+(its.toArray.size:Int)).toNat=j:=by
    rw [seqIndex_neg (by omega) h4] at h1;rw [Tz,<- hl];exact T5 h1
   exact subscriptTail_builtinR (x:=w) pl.isList.typeIs slot_list_getitem.lookup
    (wpAny_getItem_list_neg (Q:=fun r s'=>r=w/\EP X pins σ Q r s') pl.isList (by omega) (by rw [Tz] <;> omega) (by omega) (by rw [hj];simpa using ew) ⟨rfl,fin⟩) hs
theorem aA:IxR X (tO X.K):=by
 intro value slice pins s σ H x y v u Q I rx ry h hs;obtain ⟨p,xs,i,z,rfl,rfl,hq,he,q⟩:=h;cases rx;obtain ⟨t,rfl⟩:=ry;obtain ⟨its,r,pl,hz⟩:=I.tuple hq;obtain ⟨j,h1,h2,h3,h4,h5⟩:=nR he;obtain ⟨w,ew,Bi⟩:=r.get h2;have hl:=r.length;have hn:=fu;have fin:EP X pins σ Q w s:=⟨z,H,I,Bi,q⟩
 exact subscriptTail_builtinR (x:=w) pl.typeIs slot_tuple_getitem.lookup
  (getItem_tuple (j:=j) (Q:=fun r s'=>r=w/\EP X pins σ Q r s') pl (by omega) (by omega) (by rw [Tz,<- hl];exact h1) (by simpa using ew) ⟨rfl,fin⟩) hs
theorem sK:IxR X xF:=by
 intro value slice pins s σ H x y v u Q I rx ry h hs;obtain ⟨z,i,c,rfl,rfl,hz,he,q⟩:=h;obtain ⟨t,rfl⟩:=rx;obtain ⟨t',rfl⟩:=ry;obtain ⟨j,h1,h2,h3,h4,h5⟩:=nR he;have hl:z.cps.toList.length=z.length:=by simp [Str.length]
 rw [hl] at h1 h4 h5;have hn:=fu
 exact tail_any (typeIs_str s z t) slot_str_getitem.lookup (getItem_str (c:=c) (by
  have e1:decide (i < -(2 ^ 63:Int))=false:=decide_eq_false (by omega);have e2:decide (i ≥ 2 ^ 63)=false:=decide_eq_false (by omega);rw [e1,e2,YS]) (by rw [h1];simpa using h2) ⟨.str ⟨#[c]⟩,H,I.tok _,⟨_,rfl⟩,q⟩) hs
theorem pT (its:List Tp) (n j:Nat) (u:Tp):UN (·.setIfInBounds j u) { cls:=.type "list",data:=.seq its.toArray n }={ cls:=.type "list",data:=.seq (its.set j u).toArray n }:=by
 simp [UN]
theorem Inv.lst {pins:List (Tn×VN)} {σ:St} {H:Hp} {s:Tv} {p:Tn} {xs:List V} (I:Inv X pins σ H s) (h:H p=some (.lst xs)) :
 ∃ (its:List Tp) (n:Nat),Vals xs its/\s.heap.get? p=some { cls:=.type "list",data:=.seq its.toArray n }/\xs.length<=TN:=by
 obtain ⟨z,its,n,r,e⟩:=I.hok p _ h;exact ⟨its,n,r,e,z⟩
theorem Inv.lstUpd {pins:List (Tn×VN)} {σ:St} {H:Hp} {s:Tv} {p:Tn} {xs ys:List V} {its its':List Tp} {n n':Nat} {f:VN->VN} (I:Inv X pins σ H s) (h:H p=some (.lst xs))
 (ho:s.heap.get? p=some { cls:=.type "list",data:=.seq its.toArray n }) (hf:f { cls:=.type "list",data:=.seq its.toArray n }={ cls:=.type "list",data:=.seq its'.toArray n' }) (r:Vals ys its') (hz:ys.length<=TN) (t:Nat) :
 Inv X pins σ (upd H p (.lst ys)) { s with heap:=s.heap.update p f,toks:=t }:=by
 have e:(s.heap.update p f).get? p=some { cls:=.type "list",data:=.seq its'.toArray n' }:=by
  rw [Uq f ho (by rw [hf] <;> rfl),hf]
 refine I.write (x:=p) (e:=p) (by rw [h];trivial) (.inl rfl) (fun b u hb q=>(Uu _ _ (Vp hb)).trans q) ⟨_,e⟩ ?_;exact ⟨hz,its',n',r,e⟩
def wV:V->V->V->Hp->(Hp->Prop)->Prop:=fun o i v H Q=>∃ p xs k j,o=.ref p/\i=.int k/\H p=some (.lst xs)/\ixN xs.length k=some j/\Q (upd H p (.lst (xs.set j v)))
theorem set_list:wC X wV:=by
 intro pins s σ H o i v ov iv u Q I ro ri rv h;obtain ⟨p,xs,k,j,rfl,rfl,hp,hj,q⟩:=h;cases ro;obtain ⟨t,rfl⟩:=ri;obtain ⟨its,n,r,ho,hz⟩:=I.lst hp;obtain ⟨h1,h2,h3,h4⟩:=nD hj;have hl:=r.length;have hn:=fu
 have I':Inv X pins σ (upd H p (.lst (xs.set j v))) { s with heap:=s.heap.update p (UN (·.setIfInBounds j u)) } :=
  I.lstUpd hp ho (pT its n j u) (r.set rv j) (by rw [Yu];exact hz) s.toks
 by_cases h0:0<=k
 · have hk:k.toNat=j:=by
    rw [seqIndex_of h0 h4] at h1;exact T5 h1
   exact PySem.W.ki_setAt ho h0 (by omega) (by rw [Tz,<- hl];exact h4) (by rw [hk];exact ⟨_,I',q⟩)
 · have hk:(k+(its.toArray.size:Int)).toNat=j:=by
    rw [seqIndex_neg (by omega) h3] at h1;rw [Tz,<- hl];exact T5 h1
   exact PySem.W.ki_setBack ho (by omega) (by rw [Tz,<- hl];exact h3) (by omega) (by rw [hk];exact ⟨_,I',q⟩)
theorem mO (lo hi:Option Int) (n:Nat):(Xr lo hi none n).1=((HT.sIx n 0 lo:Nat):Int)/\(Xr lo hi none n).2.1=((HT.sIx n n hi:Nat):Int)/\(Xr lo hi none n).2.2=1:=by
 refine ⟨?_,?_,rfl⟩
 · cases lo with
   | none=>simp [Xr,HT.sIx]
   | some i =>
     simp only [Xr,HT.sIx,Option.getD_none,show (1:Int) > 0 by decide,if_true];by_cases h:i<0
     · simp only [h,if_true] <;> omega
     · simp only [h,if_false] <;> omega
 · cases hi with
   | none=>simp [Xr,HT.sIx]
   | some i =>
     simp only [Xr,HT.sIx,Option.getD_none,show (1:Int) > 0 by decide,if_true];by_cases h:i<0
     · simp only [h,if_true] <;> omega
     · simp only [h,if_false] <;> omega
theorem lI (its:List Tp) (lo hi:Option Int):slicePick its.toArray lo hi none=((its.drop (HT.sIx its.length 0 lo)).take (HT.sIx its.length its.length hi - HT.sIx its.length 0 lo)).toArray:=by
 obtain ⟨h1,h2,h3⟩:=mO lo hi its.toArray.size;unfold slicePick;rw [h1,h2,h3];simp only [sliceRange_one,pick_run,Tz] <;> rfl
inductive uY (K:Tg) (x:V) (lo:Option Int) (hi:Option Int) (H:Hp) (Q:VK):Prop
 | mk (a:_) (xs:_) (x9:x=.ref a) (ya:SqL K H a xs) (ye:∀ p,H p=none->Q (.ref p) (upd H p (.lst (du xs lo hi)))):uY K x lo hi H Q
def xK (K:Tg):V->Option Int->Option Int->Hp->VK->Prop:=uY K
theorem qj:SlR X (xK X.K):=by
 intro pins s σ H x v vl vu lo hi sl Q I rx hs pl pu h;obtain ⟨a,xs,rfl,hx,q⟩:=h;cases rx;obtain ⟨its,r,ht,hz⟩:=I.list hx;have hlen:=r.length;refine ⟨"list",_,slot_list_getitem.lookup,ht.isList.typeIs,?_⟩;refine wpAny_getItem_list_slice ht.isList hs pl pu .none (by simp) ?_ (by rw [Tz] <;> omega);rw [lI,<- hlen];refine ⟨.ref s.heap.objs.size,_,I.laid (t':=s.toks) (o:=.lst (du xs lo hi)) (fun b ob q=>Tr _ q) (To _) ?_,rfl,q _ (I.hok.fresh (To _))⟩;exact ⟨Vu (jF xs lo hi) hz,_,0,(r.drop (HT.sIx xs.length 0 lo)).take (HT.sIx xs.length xs.length hi - HT.sIx xs.length 0 lo),TC _ rfl⟩
inductive sE (K:Tg) (xs:List V) (H:Hp) (Q:VK):Prop
 | mk (p:Tn) (ys:List V) (x9:xs=[.ref p]) (ya:SqL K H p ys∨SqT K H p ys) (ye:Q (.int ys.length) H):sE K xs H Q
theorem ao:gS X (.builtin "len") (sE X.K):=by
 intro pins s σ H xs us Q I r h;obtain ⟨p,ys,rfl,hq,q⟩:=h;obtain ⟨u,rfl,rx⟩:=vals1 r;cases rx;have hn:=fu;rcases hq with hq | hq
 · obtain ⟨its,r',pl,hz⟩:=I.list hq;have hlen:=r'.length;exact Calls.call_len_list pl.isList (by simp only [Tz] <;> omega) ⟨.int ys.length,H,I.tok _,⟨s.toks+1,by rw [Tz,hlen]⟩,q⟩
 · obtain ⟨its,r',pl,hz⟩:=I.tuple hq;have hlen:=r'.length;exact len_tuple pl (by simp only [Tz] <;> omega) ⟨.int ys.length,H,I.tok _,⟨s.toks+1,by rw [Tz,hlen]⟩,q⟩
theorem cZ:gS X (.type "tuple") (fun xs H Q=>∃ p ys,xs=[.ref p]/\((SqL X.K H p ys/\∀ l,H l=none->Q (.ref l) (upd H l (.tup ys)))∨(SqT X.K H p ys/\Q (.ref p) H))):=by
 intro pins s σ H xs us Q I r h;obtain ⟨p,ys,rfl,h⟩:=h;obtain ⟨u,rfl,rx⟩:=vals1 r;cases rx;rcases h with ⟨hq,q⟩ | ⟨hq,q⟩
 · obtain ⟨its,r',pl,hz⟩:=I.list hq;have hlen:=r'.length;refine call_tuple_list pl.isList (fun h' kp=>?_) (by simp only [Tz] <;> omega);have I1:Inv X pins σ H { s with heap:=h' }:=I.kept (t':=s.toks) kp
   have I2:Inv X pins σ (upd H h'.objs.size (.tup ys)) { s with heap:=h'.push { cls:=.type "tuple",data:=.seq its.toArray } } :=
    I1.laid (t':=s.toks) (fun b o e=>Tr _ e) (To _) (show ObjOk X.prog X.w _ _ _ (.tup ys) from ⟨hz,its,0,r',TC _ rfl⟩)
   exact ⟨.ref h'.objs.size,_,I2,rfl,q _ (I1.hok.fresh (To _))⟩
 · obtain ⟨its,r',pl,hz⟩:=I.tuple hq;exact call_tuple_same pl ⟨.ref p,H,I,rfl,q⟩
def tyV (K:Tg) (T:String) (x:V) (H:Hp):Prop:=match x with
 | .str _=>T="str"
 | .int _=>T="int"
 | .ref p=>(T="list"/\∃ xs,SqL K H p xs)∨(T="tuple"/\∃ o,K.lookup p=some o/\o.cls=.type "tuple"/\o.dict=none) ∨
  (T="dict"/\((∃ f',H p=some (.dK f'))∨∃ f',H p=some (.dT f')))∨(T="set"/\∃ S n,H p=some (.set S n))
 | _=>False
theorem t9 {pins:List (Tn×VN)} {σ:St} {H:Hp} {s:Tv} {T:String} {x:V} {v:Tp} (I:Inv X pins σ H s) (r:RelV x v) (ty:tyV X.K T x H) :
 s.TypeIs v T/\∀ a,v=.ref a->∃ ob,s.heap.get? a=some ob/\ob.dict=none:=by
 cases x with
 | str z =>
   obtain ⟨t,rfl⟩:=r;cases (show T="str" from ty);exact ⟨typeIs_str s z t,fun _ e=>nomatch e⟩
 | int i =>
   obtain ⟨t,rfl⟩:=r;cases (show T="int" from ty);exact ⟨typeIs_int s i t,fun _ e=>nomatch e⟩
 | ref p =>
   cases r;rcases ty with ⟨rfl,xs,hq⟩ | ⟨rfl,o,hk,hc,hd⟩ | ⟨rfl,hk⟩ | ⟨rfl,S,n,hk⟩
   · obtain ⟨its,_,pl,_⟩:=I.list hq;refine ⟨pl.isList.typeIs,fun a e=>?_⟩;cases e;obtain ⟨o,n,e,c,hd,_⟩:=pl;exact ⟨o,e,hd⟩
   · refine ⟨⟨o,I.kIn p o hk,hc⟩,fun a e=>?_⟩;cases e;exact ⟨o,I.kIn _ o hk,hd⟩
   · have z:∃ o,s.heap.get? p=some o/\o.ExactDict:=by
      rcases hk with ⟨f',hk⟩ | ⟨f',hk⟩
      · obtain ⟨_,_,_,_,o,_,_,e,ex,_⟩:=I.hok p _ hk;exact ⟨o,e,ex⟩
      · obtain ⟨_,_,_,_,o,_,_,e,ex,_⟩:=I.hok p _ hk;exact ⟨o,e,ex⟩
     obtain ⟨o,e,ex⟩:=z;refine ⟨⟨o,e,ex.1⟩,fun a e2=>?_⟩;cases e2;exact ⟨o,e,ex.2.1⟩
   · obtain ⟨o,_,_,_,e,ex,_⟩:=I.hok p _ hk;refine ⟨⟨o,e,ex.1⟩,fun a e2=>?_⟩;cases e2;exact ⟨o,e,ex.2.1⟩
 | _=>exact WQ ty
def wu (K:Tg) (T:String) (r:V->List V->Hp->VK->Prop) (to:TE):TE:=fun σ H Q=>to σ H fun x H1=>tyV K T x H1/\r x [] H1 Q
def tBM (K:Tg) (T:String) (r:V->List V->Hp->VK->Prop) (to:TE) (t:TA):TE:=fun σ H Q=>to σ H fun x H1=>tyV K T x H1/\t σ H1 fun xs H2=>r x xs H2 Q
variable {o e:UP} {es:List UP} {to:TE} {t:TA} {name:T6} {apos xZ:Xv} {T id:String} {r:V->List V->Hp->VK->Prop}
theorem i9 (pa:PlainAttrs T) (slot:Slot T name id) (Gm:typeOf (.builtin id)=pure (.type "method_descriptor")) (hm:MtR X id r) (ho:PE X o to)
 (Ab:attributeBase o name X.env (VY o X.env)=VY o X.env:=by rfl) (Ac:(apos.endLine == xZ.line)=true:=by rfl):PE X (.Call (.Attribute o name apos) [] [] xZ) (wu X.K T r to):=by
 intro pins s σ H Q I h;refine wpAny_Call_method0_late Ab Ac (thn (ho pins s σ H _ I h) fun v s1 ⟨x,H1,I1,r1,ty,q1⟩=>?_);obtain ⟨h1,h2⟩:=t9 I1 r1 ty;exact ⟨T,id,pa,slot,Gm,h1,h2,WK rfl (PySem.evalArgs_none (hm pins s1 σ H1 x [] v [] Q I1 r1 .nil q1))⟩
theorem bW (pa:PlainAttrs T) (slot:Slot T name id) (Gm:typeOf (.builtin id)=pure (.type "method_descriptor")) (hm:MtR X id r) (ho:PE X o to) (ha:PA X (e::es) t)
 (Ab:attributeBase o name X.env (VY o X.env)=VY o X.env:=by rfl)
 (Ez:((XD xZ (UD (e::es) X.env)).all (fun x=>!x.1) && (backToKw xZ (keywordEach [] X.env)).all (fun x=>x.1.isSome)
  && decide ((e::es).length+([]:List Keyword).length+(if ([]:List Keyword).isEmpty then 0 else 1)<30))=true:=by rfl)
 (Ac:(apos.endLine == xZ.line)=true:=by rfl) (hs:UD (e::es) X.env=(false,VY e X.env)::UD es X.env:=by rfl) (Ay:(XD xZ (UD es X.env)).any (·.1)=false:=by rfl) :
 PE X (.Call (.Attribute o name apos) (e::es) [] xZ) (tBM X.K T r to t):=by
 intro pins s σ H Q I h;refine wpAny_Call_method_late Ab Ez Ac rfl (thn (ho pins s σ H _ I h) fun v s1 ⟨x,H1,I1,r1,ty,q1⟩=>?_);obtain ⟨h1,h2⟩:=t9 I1 r1 ty;refine ⟨T,id,pa,slot,Gm,h1,h2,?_⟩;have hA:=ha xZ pins s1 σ H1 _ I1 q1;rw [hs] at hA ⊢;refine WK (by show (false || (XD xZ (UD es X.env)).any (·.1))=false;rw [Ay] <;> rfl) (XW ?_);exact thn hA fun us s2 ⟨vs,H2,I2,r2,q2⟩=>hm pins s2 σ H2 x vs v us Q I2 r1 r2 q2
end
end L2
namespace L2
open PySem PySem.Spec PyProof.Rows
def MtM (X:Cx) (id:String) (r:V->List V->Hp->VK->Prop):Prop :=
 ∀ (pins:List (Tn×VN)) (s:Tv) (σ:St) (H:Hp) (x:V) (xs:List V) (v:Tp) (us:List Tp) (Q:VK),Inv X pins σ H s->RelV x v->Vals xs us->r x xs H Q →
   TM (Ug X.prog X.w) X.A (call (.builtin id) (v::us)) (EP X pins σ Q) X.xe s
theorem Vals.one:∀ {x:V} {us:List Tp},Vals [x] us->∃ u,us=[u]/\RelV x u
 | _,_,.cons r .nil=>⟨_,rfl,r⟩
theorem Vals.zero:∀ {us:List Tp},Vals [] us->us=[]
 | _,.nil=>rfl
theorem Vals.dropLast {xs:List V} {us:List Tp} (h:Vals xs us):Vals xs.dropLast us.dropLast:=by
 induction h with
 | nil=>exact .nil
 | cons r t ih =>
   cases t with
   | nil=>exact .nil
   | cons q t'=>exact .cons r ih
theorem Vals.reverse {xs:List V} {us:List Tp} (h:Vals xs us):Vals xs.reverse us.reverse:=by
 induction h with
 | nil=>exact .nil
 | cons r t ih=>rw [UJ,UJ];exact Vals.append ih (.cons r .nil)
theorem qf {α:Type} (l:List α):l.eraseIdx (l.length - 1)=l.dropLast:=by
 induction l with
 | nil=>rfl
 | cons a r ih =>
   cases r with
   | nil=>rfl
   | cons b r =>
     have e:(a::b::r).length - 1=((b::r).length - 1)+1:=by
      have h1:(a::b::r).length=r.length+2:=rfl;have h2:(b::r).length=r.length+1:=rfl;omega
     rw [e,List.eraseIdx_cons_succ,ih]
     all_goals rfl
section
variable {X:Cx} {pins:List (Tn×VN)} {σ:St} {H:Hp} {s:Tv} {l b:Tn} {xs ys zs:List V}
theorem Inv.lset {its its':List Tp} {n:Nat} {f:Array Tp->Array Tp} {t':Nat} (I:Inv X pins σ H s) (hH:H l=some (.lst xs))
 (e:s.heap.get? l=some { cls:=.type "list",data:=.seq its.toArray n }) (hf:f its.toArray=its'.toArray) (hv:Vals ys its') (hz:ys.length<=TN) :
 Inv X pins σ (upd H l (.lst ys)) { s with heap:=s.heap.update l (UN f),toks:=t' }:=by
 have q:=PySem.IsL.update e f;rw [hf] at q;refine I.write (x:=l) (e:=l) (by rw [hH];exact trivial) (.inl rfl) (fun b' u hb hu=>(Uu s.heap (UN f) (Vp hb)).trans hu) ⟨_,q⟩ ?_;exact ⟨hz,its',_,hv,q⟩
theorem Inv.lnew {its:List Tp} {t':Nat} (I:Inv X pins σ H s) (hv:Vals ys its) (hz:ys.length<=TN) :
 Inv X pins σ (upd H s.heap.objs.size (.lst ys)) { s with heap:=s.heap.push { cls:=.type "list",data:=.seq its.toArray },toks:=t' } :=
 I.laid (fun _ _ q=>Tr _ q) (To _) ⟨hz,its,0,hv,TC _ rfl⟩
theorem Inv.fresh (I:Inv X pins σ H s):H s.heap.objs.size=none:=I.hok.fresh (To _)
theorem Inv.lstM (I:Inv X pins σ H s) (hH:H l=some (.lst xs)):xs.length<=TN/\∃ (its:List Tp) (n:Nat),Vals xs its/\xs.length=its.length/\s.heap.get? l=some { cls:=.type "list",data:=.seq its.toArray n }:=by
 obtain ⟨z,its,n,r,e⟩:=I.hok l _ hH;exact ⟨z,its,n,r,r.length,e⟩
theorem kN {n:Nat} (h:n<=TN):VT n=false:=by
 unfold VT;exact decide_eq_false (by omega)
end
section
variable {X:Cx}
inductive nU (x:V) (vs:List V) (H:Hp) (Q:VK):Prop
 | mk (l:_) (xs:_) (y:_) (x9:x=.ref l) (ya:vs=[y]) (ye:H l=some (.lst xs)) (yj:xs.length<TN) (yz:Q .non (upd H l (.lst (xs++[y])))):nU  x vs H Q
def qK:V->List V->Hp->VK->Prop:=nU
theorem aR:MtM X "list.append" qK:=by
 intro pins s σ H x vs v us Q I rx rv h;obtain ⟨l,xs,y,rfl,rfl,hH,hz,q⟩:=h;cases rx;obtain ⟨u,rfl,ru⟩:=rv.one;obtain ⟨z,its,n,r,hl,e⟩:=I.lstM hH;refine Ye F.slot_list_append ⟨_,e,rfl⟩ F.entry_list_append (F.args_list_append_2 _ _) (PySem.list_append l its.toArray n u (by rw [Tz];omega)) ⟨e,?_⟩;refine ⟨.non,_,I.lset (its':=its++[u]) hH e (by simp) (r.append (.cons ru .nil)) ?_,rfl,q⟩;rw [TZ,List.length_singleton];omega
inductive oE (x:V) (vs:List V) (H:Hp) (Q:VK):Prop
 | mk (l:_) (b:_) (xs:_) (zs:_) (x9:x=.ref l) (ya:vs=[.ref b]) (ye:H l=some (.lst xs)) (yj:H b=some (.lst zs)) (yz:xs.length+zs.length<=TN) (y9:Q .non (upd H l (.lst (xs++zs)))):oE  x vs H Q
def uK:V->List V->Hp->VK->Prop:=oE
theorem gC:MtM X "list.extend" uK:=by
 intro pins s σ H x vs v us Q I rx rv h;obtain ⟨l,b,xs,zs,rfl,rfl,hH,hB,hz,q⟩:=h;cases rx;obtain ⟨u,rfl,ru⟩:=rv.one;cases ru;obtain ⟨z,its,n,r,hl,e⟩:=I.lstM hH;obtain ⟨z2,xQ,n2,r2,yD,e2⟩:=I.lstM hB;have hsz:its.toArray.size+xQ.toArray.size<=TN:=by rw [Tz,Tz];omega
 have B4:¬ (!its.toArray.isEmpty && VT (its.toArray.size+xQ.toArray.size))=true:=by
  rw [kN hsz,XX];exact TV
 refine Ye F.slot_list_extend ⟨_,e,rfl⟩ F.entry_list_extend (F.args_list_extend_2 _ _)
  (AutoSeq1.list_extend_list_list_0 l its.toArray n b xQ.toArray n2 B4 (by rw [Tz];omega) (by omega)) ⟨e,e2,?_⟩
 refine ⟨.non,_,I.lset (its':=its++xQ) hH e (by simp) (r.append r2) ?_,rfl,q⟩;rw [TZ];omega
inductive vo (x:V) (vs:List V) (H:Hp) (Q:VK):Prop
 | mk (l:_) (xs:_) (y:_) (x9:x=.ref l) (ya:vs=[]) (ye:H l=some (.lst xs)) (yj:xs[xs.length - 1]?=some y) (yz:Q y (upd H l (.lst xs.dropLast))):vo  x vs H Q
def wZ:V->List V->Hp->VK->Prop:=vo
theorem jb:MtM X "list.pop" wZ:=by
 intro pins s σ H x vs v us Q I rx rv h;obtain ⟨l,xs,y,rfl,rfl,hH,hy,q⟩:=h;cases rx;have Gn:=rv.zero;subst Gn;obtain ⟨z,its,n,r,hl,e⟩:=I.lstM hH;obtain ⟨u,hu,ru⟩:=r.get hy
 have Az:its.toArray[its.toArray.size - 1]?=some u:=by
  show its.toArray[its.length - 1]?=some u;rw [<- WG,<- hl];exact hu
 refine Ye F.slot_list_pop ⟨_,e,rfl⟩ F.entry_list_pop (F.args_list_pop_1 _) (MeetsSeq.list_pop_last l its.toArray n u Az (by rw [Tz];omega)) ⟨e,?_⟩;refine ⟨y,_,I.lset (its':=its.dropLast) hH e ?_ r.dropLast ?_,ru,q⟩
 · show its.toArray.eraseIdxIfInBounds (its.toArray.size - 1)=its.dropLast.toArray;rw [Tz,List.eraseIdxIfInBounds_toArray,qf]
 · rw [List.length_dropLast];omega
inductive u7 (x:V) (y:V) (H:Hp) (Q:VK):Prop
 | mk (l:_) (b:_) (xs:_) (zs:_) (x9:x=.ref l) (ya:y=.ref b) (ye:H l=some (.lst xs)) (yj:H b=some (.lst zs)) (yz:xs.length+zs.length<=TN) (y9:∀ p,H p=none->Q (.ref p) (upd H p (.lst (xs++zs)))):u7  x y H Q
def xy:R2:=u7
theorem vE:OpR X (Xl .Add) xy:=by
 intro pins s σ H x y v u Q I rx ry h;obtain ⟨l,b,xs,zs,rfl,rfl,hH,hB,hz,q⟩:=h;cases rx;cases ry;obtain ⟨z,its,n,r,hl,e⟩:=I.lstM hH;obtain ⟨z2,xQ,n2,r2,yD,e2⟩:=I.lstM hB;refine PySem.P.add_list e e2 ?_ (by rw [Tz,Tz];omega);have ea:its.toArray++xQ.toArray=(its++xQ).toArray:=by simp
 rw [ea];exact ⟨.ref _,_,I.lnew (t':=s.toks) (r.append r2) (by rw [TZ];omega),rfl,q _ I.fresh⟩
end
section
variable {prog:TF} {w:T3} {A:Ut} {E:Tp->Tv->Prop} {s:Tv}
end
section
variable {X:Cx}
end
end L2
namespace Att
open PySem PySem.W PySem.Calls PyProof.Rows
theorem ints_of_wellAll {P:Params} {h:US}:∀ (ns:List Int) (vs:List Tp),WellAll P h vs (ns.map WData.int)->IntsAre vs ns:=by
 intro ns;induction ns with
 | nil =>
   intro vs w;rw [VO] at w;cases w;exact .nil
 | cons n ns ih =>
   intro vs w;rw [UE] at w;cases w with
   | cons a b =>
     cases a;exact .cons _ _ (ih _ b)
theorem script_of {l:OpenLaw} {n:Nat} (hn:l.most=some n) {P:Params} {h:US} {args:List WData} {vals:List Tp}
 (CS:l.row.toRowW.claim.pre args=true) (A7:WellAll P h vals args) :
 ∃ a vs ns,vals=[Uc a]/\args=[WData.list (ns.map WData.int)]/\h.get? a=some { cls:=.type "list",data:=.seq vs.toArray }/\IntsAre vs ns/\ns.length<=n:=by
 have Pq:WShape.hasAll [] args [.list .int]=true:=(pre_splitW CS).1;have hc:l.pre.holds [] { args:=args }=true:=(pre_splitW CS).2;obtain ⟨d,r,rfl,h1,h2⟩:=hasAllW_cons Pq;obtain rfl:=hasAllW_nil h2;obtain ⟨xs,rfl,h3⟩:=hasW_list h1;obtain ⟨ns,rfl⟩:=items_int h3
 have hlen:ns.length<=n:=by
  unfold OpenLaw.pre at hc
  have h4:(WTm.not (.lt (.lit (.int (n:Int))) (.len (.arg 0)))).holds [] { args:=[.list (ns.map .int)] }=true:=by
   have h4:=(holds_andW hc).1;rw [hn] at h4;exact h4
  have h5:=condW_of h4 (w_not (w_lt w_lit (w_len_list (w_arg rfl))));rw [Te] at h5;refine Nat.le_of_not_lt fun q=>?_;have q':(n:Int)<((ns.length:Nat):Int):=by omega
  first
   | (rw [decide_eq_true q'] at h5;exact absurd h5 (by decide))
   | (simp at h5;omega)
 cases A7 with
 | cons w1 w2 =>
   cases w2;cases w1 with
   | list ho xT=>exact ⟨_,_,ns,rfl,rfl,ho,ints_of_wellAll ns _ xT,hlen⟩
theorem post_true (l:OpenLaw) (args:List WData):l.row.toRowW.claim.post args (.bool true) args=true :=
 postW_of (r:=l.row.toRowW) (X:=(true == true))
  (show WShape.has [] (.bool true) .bool=true by first | rfl | decide | simp [WShape.has,WShape.arms,WShape.armsAll])
  (show (WTm.eq .res (.lit (.bool true))).value [] { args:=args,res:=some (.bool true),after:=args }=some (.bool (true == true)) from w_eq_bool (w_res rfl) w_lit) rfl
theorem attach_call {l:OpenLaw} {n:Nat} {q:TF} {loose:List T6} {XP:(T6->Option Tp)->US->Prop} {YP:T3->US->Prop} {d:DefRec}
 (hn:l.most=some n) (Gp:d.params.defaults=[])
 (call:∀ (w:T3) (s₀ xN:Tv) (mg mb:T6->Option Tp) (fa:Tn) (o:VN) (pm cd doc:Tp) (a:Tn) (vs:List Tp) (ns:List Int),
  Ground q loose [] XP w s₀ mg mb xN.heap->YP w xN.heap →
  xN.heap.get? fa=some o->o.data=.func (docDef d.name d.params d.body d.scope pm cd doc)->xN.heap.CodeRec cd d.name->mg d.name=some (.ref fa) →
  xN.heap.get? a=some { cls:=.type "list",data:=.seq vs.toArray }->IntsAre vs ns->ns.length<=n->xN.gens=#[] →
  XC (Ug l.prog w) callerA (.call (.ref fa) ⟨[.ref a],[]⟩) (fun r s'=>r=.ok (.ret (.bool true))/\OldK xN.heap s'.heap/\s'.os=xN.os/\AllBare s'.gens) xN) :
 WalkO q loose XP YP l.row.toRowW d [] (fun f vs=>PySem.call f vs):=by
 intro w s₀ xN mg mb G Y fa o pm cd doc dV kV ho hd B0 hD Gq hg args vals as CS Pr Nw A7 R5;obtain rfl:dV=.none:=Dflts.none hD Gp;obtain rfl:kV=.none:=Dflts.noKw hD;obtain ⟨a,vs,ns,rfl,rfl,EA,hints,hlen⟩:=script_of hn CS A7;refine enter_call (codeAny_mono (call w s₀ xN mg mb fa o pm cd doc a vs ns G Y ho (fd_plain hd) B0 Gq EA hints hlen hg) fun r s' hq=>?_);obtain ⟨rfl,h2,h3,h4⟩:=hq;exact ⟨.inl ⟨.bool true,.bool true,[],rfl,fun _=>rfl,.bool true,post_true l _,fun _=>⟨List.Pairwise.nil,fun _ hm=>(nomatch hm)⟩⟩,h2,h3,h4⟩
section
variable {prog:TF} {w:T3} {A:Ut} {E:Tp->Tv->Prop} {s:Tv} {K:Frag}
end
end Att
namespace L2
open PySem PySem.Spec PyProof.Rows
theorem mz:∀ {vs:List Tp} {ns:List Int},IntsAre vs ns->Vals (ns.map V.int) vs
 | _,_,.nil=>.nil
 | _,_,.cons n t h=>.cons ⟨t,rfl⟩ (mz h)
def vN (H:Hp):Prop:=∀ b,H b=none∨∃ o xs,H b=some (.frz o (.lst xs))
theorem sL {P:TF} {w:T3} {K:Tg} {mg mb:T6->Option Tp} {CX:CXT} {k:Nat} {fa a:Tn} {fd:WO} {x:T6} {sp:Sp} {xN:Tv} {vs:List Tp} {ns:List Int}
 (KX:K.In xN.heap) (CF:xN.heap.Ns Uo mg) (hb:xN.heap.Ns builtinsNs mb) (Pu:∀ x:T6,x≠"__name__"->mb x=X4 x) (J9:xN.heap.NoLimit) (hg:xN.gens=#[])
 (ha:xN.heap.get? a=some { cls:=.type "list",data:=.seq vs.toArray }) (hi:IntsAre vs ns) (hl:ns.length<=TN) (hr:Room k callerA)
 (F:∀ base:US,K.In base->base.Ns Uo mg->bn P w K mg base CX k fa fd [x] sp) (Gr:∀ (s:Tv) (u:Tp),BindsTo s fd ⟨[u],[]⟩ [(x,u)])
 (Bh:∀ H:Hp,vN H->SqL K H a (ns.map V.int)->sp [.ref a] H (fun v _=>v=.bl true) fun _ _ _=>False)
 (J':∀ H e s',CX [] H xN (fun _ _ _=>False) e s'->False) :
 XC (Ug P w) callerA (.call (.ref fa) ⟨[.ref a],[]⟩) (fun r s'=>r=.ok (.ret (.bool true))/\OldK xN.heap s'.heap/\s'.os=xN.os/\AllBare s'.gens) xN:=by
 have rv:=mz hi;have Ka:=hi.length
 -- from an abstract heap in Nx nothing but Ap script may be tracked
 have core:∀ H:Hp,vN H->SqL K H a (ns.map V.int)->HOk P w H xN.heap->(∀ b,H b≠none->b=a)->(H a≠none->K.lookup a=none) →
  XC (Ug P w) callerA (.call (.ref fa) ⟨[.ref a],[]⟩) (fun r s'=>r=.ok (.ret (.bool true))/\OldK xN.heap s'.heap/\s'.os=xN.os/\AllBare s'.gens) xN:=by
  intro H hO hS hok hA hK;have A8:∀ {b:Tn} {o:VN},xN.heap.get? b=some o->H b=none->(nM xN.heap H).get? b=some o:=fun e n=>sQ e n
  have Gh:∀ {b:Tn} {o:VN} {es:Array DictEntry} {ep:Nat},xN.heap.get? b=some o->o.data=.dict es ep->H b=none:=fun {b o es ep} e d=>by
   cases q:H b with
   | none=>rfl
   | some u =>
     have e':b=a:=hA b (by rw [q];simp);subst e';rw [ha] at e;cases e;have d':Data.seq vs.toArray _=Data.dict es ep:=d;cases d'
  have Ji:∀ {b:Tn} {m:T6->Option Tp},xN.heap.Ns b m->(nM xN.heap H).Ns b m:=fun {b m} ⟨o,es,ep,e,d,r⟩=>⟨o,es,ep,A8 e (Gh e d),d,r⟩
  have Ny:K.In (nM xN.heap H):=fun b o e=>A8 (KX b o e) (by
   cases q:H b with
   | none=>rfl
   | some u =>
     have e':b=a:=hA b (by rw [q];simp);subst e';rw [hK (by rw [q];simp)] at e;cases e)
  have hM:Mod K mg (nM xN.heap H):=⟨Ny,Ji CF,⟨mb,Ji hb,Pu⟩,let ⟨mc,h1,h2⟩:=J9;⟨mc,Ji h1,h2⟩⟩;have e0:uB P w K mg (nM xN.heap H) callerA [] xN H:=⟨rfl,hM,fun b o e=>uC e,Y6 (sg _ _),trivial,fun b hb=>absurd (show b∈([]:List Tn) from hb) (by simp),hok,.of_eq hg⟩;refine codeAny_mono ((F _ Ny (Ji CF)).run callerA [] xN H ⟨[.ref a],[]⟩ [.ref a] [.ref a] _ _ hr e0 (Gr xN (.ref a)) (.cons rfl .nil) (Bh H hO hS)) fun r s' h=>?_;cases r with
  | error e=>exact (J' H e s' h).elim
  | ok fl =>
    cases fl with
    | next=>exact WQ h
    | brk=>exact WQ h
    | cont=>exact WQ h
    | ret u =>
      obtain ⟨v,H',os,bare,un,Kb,r',q⟩:=h;have q':v=.bl true:=q;subst q';obtain rfl:u=Value.bool true:=r';refine ⟨rfl,OldK.of_keep fun b o e=>?_,os,bare⟩;cases q:H b with
      | none=>exact un.keep b o e q (by intro z;exact absurd (show b∈([]:List Tn) from z) (by simp)) (by simp)
      | some u =>
        rcases hO b with z | ⟨ob,xs,z⟩
        · rw [q] at z;cases z
        · have z2:=un.frzs b ob _ z;obtain ⟨e1,_⟩:=hok b _ z;obtain ⟨e2,_⟩:=Kb b _ z2;rw [e] at e1;cases e1;exact e2
 cases hk:K.lookup a with
 | some o =>
   -- Ap script is one of Ap Gs own objects
   have e:=KX a o hk;rw [ha] at e;cases e;refine core (fun _=>none) (fun _=>.inl rfl) (.inr ⟨_,vs.toArray,_,hk,rfl,rfl,rfl,by rw [Tz,Ka];exact hl,by simpa using rv⟩) (fun b u z=>by have z':(none:Option HO)=some u:=z;cases z') (fun b z=>absurd rfl z) fun z=>absurd rfl z
 | none =>
   refine core (fun b=>if b=a then some (.frz { cls:=.type "list",data:=.seq vs.toArray } (.lst (ns.map V.int))) else none) (fun b=>?_) (.inl (.inr ⟨{ cls:=.type "list",data:=.seq vs.toArray },if_pos rfl⟩)) (fun b u z=>?_) (fun b z=>?_) fun _=>hk
   · by_cases hb:b=a
     · exact .inr ⟨_,_,if_pos hb⟩
     · exact .inl (if_neg hb)
   · by_cases hb:b=a
     · have z':=(if_pos hb).symm.trans z;cases z';subst hb;exact ⟨ha,by rw [Te];exact hl,vs,_,rv,ha⟩
     · have z':=(if_neg hb).symm.trans z;cases z'
   · by_cases hb:b=a
     · exact hb
     · exact absurd (if_neg hb) z
end L2
namespace L2
open PySem PySem.Spec PyProof.Rows
theorem uD {l:PySem.W.OpenLaw} {n k:Nat} {q:TF} {loose:List T6} {XP:(T6->Option Tp)->US->Prop} {YP:T3->US->Prop} {d:DefRec} {K:Params->Tg} {CX:T3->CXT} {sp:T3->Sp} {x:T6}
 (hn:l.most=some n) (Nz:n<=TN) (Gp:d.params.defaults=[]) (hr:Room k callerA)
 (hY:∀ (w:T3) (h:US),YP w h->(K w.params).In h)
 (F:∀ (w:T3) (mg:T6->Option Tp) (fa:Tn) (h:US),(K w.params).In h->h.Ns Uo mg->mg d.name=some (.ref fa) →
  ∃ fd:WO,(∀ (s:Tv) (u:Tp),BindsTo s fd ⟨[u],[]⟩ [(x,u)]) ∧
    ∀ base:US,(K w.params).In base->base.Ns Uo mg->bn l.prog w (K w.params) mg base (CX w) k fa fd [x] (sp w))
 (Bh:∀ (w:T3) (H:Hp) (a:Tn) (ns:List Int),ns.length<=n->vN H->SqL (K w.params) H a (ns.map V.int)->sp w [.ref a] H (fun v _=>v=.bl true) fun _ _ _=>False)
 (J':∀ (w:T3) (H:Hp) (s:Tv) (e:Tp) (s':Tv),CX w [] H s (fun _ _ _=>False) e s'->False) :
 PySem.W.WalkO q loose XP YP l.row.toRowW d [] (fun f vs=>PySem.call f vs):=by
 refine Att.attach_call hn Gp fun w s₀ xN mg mb fa o pm cd doc a vs ns G Y ho hd B0 Gq EA hints hlen hg=>?_;have KX:=hY w _ Y;obtain ⟨fd,hb,hF⟩:=F w mg fa _ KX G.T.g Gq;exact sL KX G.T.g G.T.b G.T.builtins G.T.nolimit hg EA hints (Vu hlen Nz) hr hF hb (fun H hO hS=>Bh w H a ns hlen hO hS) fun H e s'=>J' w H xN e s'
end L2
namespace L2
open PySem PySem.Spec PyProof.Rows
def bO (s:VD):Arguments:=match s with
 | .FunctionDef _ a _ _ _ _ _ _ _ _=>a
 | _=>{ posonlyargs:=[],args:=[],vararg:=none,kwonlyargs:=[],kw_defaults:=[],kwarg:=none,defaults:=[] }
def bL (s:VD):List VD:=match s with
 | .FunctionDef _ _ b _ _ _ _ _ _ _=>b
 | _=>[]
def am (s:VD):Xu:=match s with
 | .FunctionDef _ _ _ _ _ _ sc _ _ _=>sc
 | _=>{ kind:=.function,names:=[],isGenerator:=false,isCoroutine:=false }
abbrev CX0:CXT:=fun _ _ _ _ _ _=>False
abbrev E0:XK:=fun _ _ _=>False
theorem nW {X:Cx}:Passes CX0 X E0:=fun _ _ _ _ _ _ _ h=>h.elim
structure Fun (K:Tg) (x qual:T6) (st:VD) (f:Tn) (fd:WO):Prop where
 ex:∃ (oc:Tp) (od:Option Tn) (kV doc pm:Tp) (an:Option Tn) (xW ct:Tp) (DI:Array (Option Tp)),
  fd=WT x qual (bO st) (bL st) (am st) .none kV doc pm an xW ct/\K.lookup f=some ⟨oc,od,.func fd,DI⟩/\YB K xW qual=true
 kp:YA K (.ref f)=true
section
variable {P:TF} {w:T3} {K:Tg} {mg:T6->Option Tp} {base:US}
theorem Fun.ok {x qual:T6} {st:VD} {f:Tn} {fd:WO} {N ps:List T6} {k:Nat} {sp:Sp} (F:Fun K x qual st f fd) (S:aD N ps (am st)) (len:∀ vs H Q E,sp vs H Q E->vs.length=ps.length)
 (B3:∀ (xW:Tp) (A:Ut) (outer:List Env) (s:Tv) (H:Hp) (vs:List V) (Q:VK) (E:XK),Room k (A.deeper (envOfC qual (am st) s.heap.objs.size f xW))->sp vs H Q E →
  ∃ t,PSs (rF CX0 P w K mg base N qual (am st) f xW A outer s H E).nox (bL st) t/\t { nx:=fun _ H'=>Q .non H',rt:=Q } (start N vs) H):bn P w K mg base CX0 (k+1) f fd ps sp:=by
 obtain ⟨oc,od,kV,doc,pm,an,xW,ct,DI,rfl,lk,B0⟩:=F.ex;refine wP lk B0 S len fun A outer s H vs Q E hr Bh=>?_;obtain ⟨t,h,q⟩:=B3 xW A outer s H vs Q E hr Bh;exact ⟨t,h.nox,q⟩
theorem Fun.binds {x qual:T6} {st:VD} {f:Tn} {fd:WO} {ps:List T6} (F:Fun K x qual st f fd)
 (h:∀ (kV doc pm:Tp) (an:Option Tn) (xW ct:Tp) (us:List Tp),us.length=ps.length->Y1 (WT x qual (bO st) (bL st) (am st) .none kV doc pm an xW ct) ⟨us,[]⟩=pure (ps.zip us)):Binds K fd ps []:=by
 obtain ⟨oc,od,kV,doc,pm,an,xW,ct,DI,rfl,lk,B0⟩:=F.ex;exact .all (h kV doc pm an xW ct)
theorem dH {x qual:T6} {st:VD} {f:Tn} {oc:Tp} {od an:Option Tn} {DI:Array (Option Tp)} {kV doc pm xW ct:Tp} (l:K.lookup f=some ⟨oc,od,.func (WT x qual (bO st) (bL st) (am st) .none kV doc pm an xW ct),DI⟩)
 (c:YB K xW qual=true) (k:YA K (.ref f)=true):Fun K x qual st f (WT x qual (bO st) (bL st) (am st) .none kV doc pm an xW ct):=⟨⟨oc,od,kV,doc,pm,an,xW,ct,DI,rfl,l,c⟩,k⟩
end
theorem mC {A:Ut} {k:Nat} (hr:Room k A):A.units+1<Vk:=YU (Nat.add_le_add_left (by decide:1<=64) _) hr.units
section
variable {X:Cx}
theorem pv (i:Nat) {x:T6} {pos:Xv} (hN:X.N[i]?=some x:=by rfl) (hv:Vis X.env.scope x:=by first | exact TQ rfl | exact X8 (TQ rfl) | exact X8 (X8 rfl)) (hd:(x == ("__debug__":T6))=false:=by decide)
 (B0:(x == ("__classdict__":T6))=false:=by decide):PE X (.Name x pos) (bw i):=vG hN hv hd B0
end
theorem cM {A B:Prop} (h:B):if false=true then A else B:=by
 rw [if_neg TV];exact h
theorem r6 {A B:Prop} (h:A):if true=true then A else B:=by
 rw [if_pos rfl];exact h
theorem cy {c A B:Prop} [Decidable c] (h1:c->A) (h2:¬ c->B):if c then A else B:=by
 by_cases h:c
 · rw [if_pos h];exact h1 h
 · rw [if_neg h];exact h2 h
def Same (H H':Hp):Prop:=∀ b o,H b=some o->H' b=some o
theorem Same.refl (H:Hp):Same H H:=fun _ _ h=>h
theorem Same.trans {H H1 H2:Hp} (a:Same H H1) (b:Same H1 H2):Same H H2:=fun c o h=>b c o (a c o h)
theorem Same.free {H H':Hp} (e:Same H H') {l:Tn} (h:H' l=Option.none):H l=Option.none:=by
 cases q:H l with
 | none=>rfl
 | some o =>
   rw [e l o q] at h;cases h
theorem Same.seq {K:Tg} {H H':Hp} {a:Tn} {xs:List V} (e:Same H H') (h:SqL K H a xs):SqL K H' a xs:=by
 rcases h with (h | ⟨o,h⟩) | h
 · exact .inl (.inl (e _ _ h))
 · exact .inl (.inr ⟨o,e _ _ h⟩)
 · exact .inr h
end L2
namespace L2
open PySem PySem.Spec PyProof.Rows
theorem iB (env:Env):∀ (ns:List (T6×V6)) (acc:List (T6×Tn)),(∀ n,(n,UX)∈ns->∃ c,env.cells.lookup n=some c) →
 (∀ x c,acc.lookup x=some c->env.cells.lookup x=some c) →
 ∃ cl,(forIn ns acc fun (x:T6×V6) (cs:List (T6×Tn))=>(if (x.2 == UX)=true then (do let a ← cellOf env x.1;pure (Wk ((x.1,a)::cs))) else pure (Wk cs):Sem _))=pure cl ∧
   (∀ x c,cl.lookup x=some c->env.cells.lookup x=some c)/\(∀ n,(n,UX)∈ns->∃ c,cl.lookup n=some c)/\∀ n c,acc.lookup n=some c->cl.lookup n=some c
 | [],acc,_,ha=>⟨acc,rfl,ha,fun _ h=>by simp at h,fun _ _ h=>h⟩
 | (n,k)::r,acc,hf,ha=>by
   by_cases hk:k=UX
   · subst hk;obtain ⟨c,hc⟩:=hf n T2
     have Bj:∀ x c',((n,c)::acc).lookup x=some c'->env.cells.lookup x=some c':=fun x c' e=>by
      rw [V3] at e;cases hx:x == n with
      | true =>
        rw [hx] at e;have e1:x=n:=by simpa using hx
        cases e;rw [e1];exact hc
      | false=>rw [hx] at e;exact ha x c' e
     obtain ⟨cl,h1,h2,h3,h4⟩:=iB env r ((n,c)::acc) (fun m hm=>hf m (T1 _ hm)) Bj;have up:∀ m c',((n,c)::acc).lookup m=some c'->cl.lookup m=some c':=h4;refine ⟨cl,?_,h2,?_,?_⟩
     · rw [Xf];have e0:cellOf env n=pure c:=by unfold cellOf;rw [hc]
       simp only [beq_self_eq_true,if_true,e0,pure_bind];exact h1
     · intro m hm;rcases TR.mp hm with e | e
       · have:m=n:=by simpa using (Prod.mk.inj e).1
         subst this;exact ⟨c,up m c (by rw [V3];simp)⟩
       · exact h3 m e
     · intro m c' e;by_cases hm:m=n
       · subst hm;have:=ha m c' e;rw [hc] at this;cases this;exact up m c (by rw [V3];simp)
       · have Jj:(m == n)=false:=by simpa using hm
         exact up m c' (by rw [V3,Jj];exact e)
   · have hb:(k == UX)=false:=by simpa using hk
     obtain ⟨cl,h1,h2,h3,h4⟩:=iB env r acc (fun m hm=>hf m (T1 _ hm)) ha;refine ⟨cl,?_,h2,?_,h4⟩
     · rw [Xf];simp only [hb,UQ,if_false,pure_bind];exact h1
     · intro m hm;rcases TR.mp hm with e | e
       · exact absurd (Prod.mk.inj e).2.symm hk
       · exact h3 m e
theorem lE {env:Env} {sc:Xu} (hf:∀ n,(n,UX)∈sc.names->∃ c,env.cells.lookup n=some c) :
 ∃ cl,closureFor sc env=pure cl/\(∀ x c,cl.lookup x=some c->env.cells.lookup x=some c)/\∀ n,(n,UX)∈sc.names->∃ c,cl.lookup n=some c:=by
 obtain ⟨cl,h1,h2,h3,_⟩:=iB env sc.names [] hf (fun x c e=>by simp at e);refine ⟨cl,?_,h2,h3⟩;unfold closureFor;have e:(forIn sc.names ([]:List (T6×Tn)) fun (x:T6×V6) (cs:List (T6×Tn))=>(do if (x.2 == UX)=true then (do let a ← cellOf env x.1;pure (Wk ((x.1,a)::cs))) else pure (Wk cs):Sem _))=pure cl:=h1
 first
  | (rw [show (forIn sc.names ([]:List (T6×Tn)) _:Sem _)=pure cl from h1];rfl)
  | (simp only [h1,pure_bind])
theorem lq {f:T6×V6->T6×V6} (hf:∀ p,(f p).1=p.1):∀ {l:List (T6×V6)} {x:T6} {k:V6},l.lookup x=some k->(l.map f).lookup x=some (f (x,k)).2
 | [],_,_,h=>by simp at h
 | (n,k0)::r,x,k,h=>by
   have ih:=@lq f hf r x k;rw [UE];obtain ⟨a,b,e⟩:∃ a b,f (n,k0)=(a,b):=⟨_,_,rfl⟩;have ea:a=n:=by have:=hf (n,k0);rw [e] at this;exact this
   subst ea;rw [e,V3];cases hx:x == a with
   | true =>
     rw [V3,hx] at h;cases h;have:x=a:=by simpa using hx
     subst this;rw [e]
   | false=>rw [V3,hx] at h;exact ih h
theorem eI {f:T6×V6->T6×V6} (hf:∀ p,(f p).1=p.1):∀ {l:List (T6×V6)} {x:T6} {k:V6},(l.map f).lookup x=some k->∃ k0,(x,k0)∈l/\(f (x,k0)).2=k
 | [],_,_,h=>by simp at h
 | (n,k0)::r,x,k,h=>by
   have ih:=@eI f hf r x k;rw [UE] at h;obtain ⟨a,b,e⟩:∃ a b,f (n,k0)=(a,b):=⟨_,_,rfl⟩;have ea:a=n:=by have:=hf (n,k0);rw [e] at this;exact this
   subst ea;rw [e,V3] at h;cases hx:x == a with
   | true =>
     rw [hx] at h;cases h;have:x=a:=by simpa using hx
     subst this;exact ⟨k0,T2,by rw [e]⟩
   | false =>
     rw [hx] at h;obtain ⟨k1,h1,h2⟩:=ih h;exact ⟨k1,T1 _ h1,h2⟩
def rlb (env:Env) (p:T6×V6):T6×V6:=if (p.2 == UX && env.scope.kind == .function && env.kindOf p.1 == some .cell) then (p.1,XN) else (p.1,p.2)
theorem nv (env:Env) (p:T6×V6):(rlb env p).1=p.1:=by unfold rlb;split <;> rfl
theorem gO (sc:Xu) (env:Env):(relabel sc env).names=sc.names.map (rlb env):=rfl
theorem iY {sc:Xu} {env:Env} {x:T6} (h:sc.names.lookup x=some .free):(relabel sc env).names.lookup x=some .cell∨(relabel sc env).names.lookup x=some .free:=by
 rw [gO,lq (nv env) h];unfold rlb;split
 · exact .inl rfl
 · exact .inr rfl
theorem lp {sc:Xu} {env:Env} {x:T6} (hn:∀ y∈sc.names,y.2≠XN) (h:(relabel sc env).names.lookup x=some .cell∨(relabel sc env).names.lookup x=some .free):(x,UX)∈sc.names:=by
 rw [gO] at h
 have:∃ k0,(x,k0)∈sc.names/\((rlb env (x,k0)).2=.cell∨(rlb env (x,k0)).2=.free):=by
  rcases h with h | h
  · obtain ⟨k0,a,b⟩:=eI (nv env) h;exact ⟨k0,a,.inl b⟩
  · obtain ⟨k0,a,b⟩:=eI (nv env) h;exact ⟨k0,a,.inr b⟩
 obtain ⟨k0,hm,hk⟩:=this;have nc:=hn _ hm;cases k0 with
 | free=>exact hm
 | cell=>exact absurd rfl nc
 | _=>simp [rlb] at hk
def bY (X:Cx) (N:List T6) (sc:Xu) (cl:List (T6×Tn)) (C:Tn) (s:Tv) (H:Hp) (fp:List Tn) (pins:List (Tn×VN)):Cx :=
 { X with N:=N,s₀:=s,H₀:=H,env:=compEnvC sc cl C X.env,outer:=X.stack,ex:=fp,fn:=fun _=>false,pn:=X.pn++pins,xe:=fun _ _=>False }
def cσ (js:List (Option Nat)) (σ:St):St:=js.map fun o=>o.bind fun j=>(σ[j]?).join
structure fj (X:Cx) (sc:Xu) (N:List T6) (js:List (Option Nat)):Prop where
 kind:sc.kind=.function
 nocell:∀ y∈sc.names,y.2≠XN
 names:∀ y∈sc.names,y.2=NameKind.local->sc.names.lookup y.1=some .local
 frees:∀ y∈sc.names,y.2=UX->X.env.kindOf y.1=some .cell∨X.env.kindOf y.1=some .free
 len:js.length=N.length
 slots:∀ (i j:Nat) (x:T6),js[i]?=some (some j)->N[i]?=some x->X.N[j]?=some x/\sc.names.lookup x=some .free/\(X.env.kindOf x=some .cell∨X.env.kindOf x=some .free)
theorem cJ {X:Cx} {sc:Xu} {N:List T6} {js:List (Option Nat)} (k:sc.kind=.function) (nc:∀ y∈sc.names,y.2≠XN) (nm:∀ y∈sc.names,y.2=NameKind.local->sc.names.lookup y.1=some .local)
 (fr:(sc.names.all fun y=>y.2 != UX || X.env.kindOf y.1 == some XN || X.env.kindOf y.1 == some UX)=true) (ln:js.length=N.length)
 (sl:((js.zip N).all fun p=>match p.1 with | none=>true | some j=>X.N[j]? == some p.2 && sc.names.lookup p.2 == some UX && (X.env.kindOf p.2 == some XN || X.env.kindOf p.2 == some UX))=true):fj X sc N js:=by
 refine ⟨k,nc,nm,fun y hy hf=>?_,ln,fun i j x e1 e2=>?_⟩
 · have h:=V4.mp fr y hy;rw [hf] at h;simpa using h
 · have hm:(some j,x)∈js.zip N:=by
    have:(js.zip N)[i]?=some (some j,x):=by rw [Wg];exact ⟨e1,e2⟩
    exact Tj this
   have h:=V4.mp sl _ hm;simp at h;exact ⟨h.1.1,h.1.2,h.2⟩
def PTs (X:Cx) (ifs:List UP) (t:TT):Prop :=
 ∀ (pins:List (Tn×VN)) (s:Tv) (σ:St) (H:Hp) (Q:Bool->Hp->Prop),Inv X pins σ H s->t σ H Q →
   TM (Ug X.prog X.w) X.A (forIn ifs true fun c r=>if r=true then do let ok ← isTrue c X.env (VY c X.env);pure (Wk ok) else pure (Wk r)) (TP X pins σ Q) X.xe s
def bG:TT:=fun _ H Q=>Q true H
theorem bR {X:Cx}:PTs X [] bG:=fun _ _ _ H _ I h=>wpAny_tests_nil ⟨H,I,h⟩
theorem m4 {X:Cx} {c:UP} {t:TT} (h:PT X c t):PTs X [c] t:=fun pins s σ H Q I q=>wpAny_tests_one (h pins s σ H Q I q)
def Keep (σ xM:St):Prop:=σ.length=xM.length/\∀ (i:Nat) (v:V),σ[i]?=some (some v)->xM[i]?=some (some v)
def mm (js:List (Option Nat)) (g:TG):Prop:=∀ (σ zC:St) (x:V) (H:Hp) (Q:St->Hp->Prop),Keep (cσ js σ) zC->g x zC H Q->g x zC H fun yc H2=>Keep (cσ js σ) yc/\Q yc H2
def ny (js:List (Option Nat)) (g:TGs):Prop:=∀ (σ zC:St) (x:List V) (H:Hp) (Q:St->Hp->Prop),Keep (cσ js σ) zC->g x zC H Q->g x zC H fun yc H2=>Keep (cσ js σ) yc/\Q yc H2
theorem Keep.refl (σ:St):Keep σ σ:=⟨rfl,fun _ _ h=>h⟩
theorem uG {js:List (Option Nat)} {σ:St} {i:Nat} (h:js[i]?=some none):(cσ js σ)[i]?=some none:=by
 unfold cσ;rw [Tw,h];rfl
theorem aV {js:List (Option Nat)} {i:Nat} (h:js[i]?=some none):mm js (aH i):=fun σ zC x H Q k q=>by
 refine ⟨⟨by rw [Yu];exact k.1,fun j v e=>?_⟩,q⟩;by_cases hj:i=j
 · subst hj;rw [uG h] at e;cases e
 · rw [YE hj];exact k.2 j v e
theorem fY {js:List (Option Nat)}:ny js lT:=fun σ zC x H Q k ⟨e,q⟩=>⟨e,k,q⟩
theorem bP {js:List (Option Nat)} {t:TG} {u:TGs} (mono:∀ x σ H (Q Q':St->Hp->Prop),(∀ a b,Q a b->Q' a b)->t x σ H Q->t x σ H Q') (h1:mm js t) (h2:ny js u):ny js (cP t u):=fun σ zC x H Q k ⟨v,r,e,q⟩ =>
 ⟨v,r,e,mono _ _ _ _ _ (fun a b ⟨k',q'⟩=>h2 σ a r b Q k' q') (h1 σ zC v H _ k q)⟩
theorem aX {i:Nat}:∀ x σ H (Q Q':St->Hp->Prop),(∀ a b,Q a b->Q' a b)->aH i x σ H Q->aH i x σ H Q':=fun _ _ _ _ _ h q=>h _ _ q
theorem f6 {js:List (Option Nat)} {K:Tg} {n:Nat} {t:TGs} (h:ny js t):mm js (lS K n t):=fun σ zC x H Q k ⟨a,xs,e,hs,hl,q⟩=>⟨a,xs,e,hs,hl,h σ zC xs H Q k q⟩
def i5 (js:List (Option Nat)) (g:TG) (tt:TT) (te:TE) (σ:St) (J:It) (D:Tn) (n:Nat) (W:Nat->Hp->Prop) (fin:Hp->Prop):Prop :=
 ∀ i H,W i H->(J.stop i H/\fin H)∨(i<n/\J.go i H/\∀ x H1,J.yld i H x H1->g x (cσ js σ) H1 fun yc H2=>tt yc H2 fun b H3 =>
   if b=true then te yc H3 fun v H4=>∃ ys,H4 D=some (.lst ys)/\ys.length<TN/\W (i+1) (upd H4 D (.lst (ys++[v]))) else W (i+1) H3)
def vc (js:List (Option Nat)) (wi:TI) (g:TG) (tt:TT) (te:TE):TE:=fun σ H Q=>wi σ H fun J H1=>∀ D,H1 D=none →
 ∃ (n:Nat) (W:Nat->Hp->Prop),W 0 (upd H1 D (.lst []))/\i5 js g tt te σ J D n W fun H'=>Q (.ref D) H'
section
variable {X:Cx} {pins:List (Tn×VN)} {σ:St} {s:Tv} {H:Hp}
theorem sD {sc:Xu} {N:List T6} {js:List (Option Nat)} {cl:List (T6×Tn)} {fp:List Tn} {h1:US} {t':Nat} (S:fj X sc N js) (I:Inv X pins σ H s)
 (A9:∀ x c,cl.lookup x=some c->X.env.cells.lookup x=some c) (AA:∀ n,(n,UX)∈sc.names->∃ c,cl.lookup n=some c)
 (hf:∀ b∈fp,jN X pins H b) (xV:∀ b∈fp,b<s.heap.objs.size) (CF:h1.Ns s.heap.objs.size fun x=>List.lookup x ([]:List (T6×Tp)))
 (DJ:∀ b o,s.heap.get? b=some o->h1.get? b=some o) :
 Inv (bY X N sc cl s.heap.objs.size s H fp pins) [] (cσ js σ) H { s with heap:=h1,toks:=t' }:=by
 have hok:(bY X N sc cl s.heap.objs.size s H fp pins).Ok :=
  { mod:=I.ok.mod
    kind:=S.kind
    glob:=I.ok.glob
    blt:=I.ok.blt
    above:=To _
    inj:=fun x y c a b=>I.ok.inj x y c (A9 x c a) (A9 y c b)
    has:=fun x h=>AA x (lp S.nocell h)
    cab:=fun x c h=>by cases h
    hd:=I.ok.hd
    frames:=I.ok.frames
    stk:=.inl rfl
    exf:=fun b hb=>⟨fun e=>absurd (xV b hb) (by rw [e];exact U8 _),fun x c e z=>(hf b hb).2.2.2.2.1 x c (A9 x c e) z⟩
    bs:=I.bs
    bsz:=Vu I.ok.bsz I.sz
    noex:=fun b o e hb=>by
     rcases (hf b hb).2.2.2.1 with h | h
     · exact I.ok.noex b o e h
     · exact absurd (UG (UG (TJ e) I.ok.bsz) h) (U8 _)
    exfs:=fun b hb hm=>by
     rcases TR.mp (I.stkSub b hm) with e | e
     · exact (hf b hb).2.1 e
     · exact (hf b hb).2.2.1 e
    funs:=I.stack
    frf:=I.stkFree }
 have hC:H s.heap.objs.size=none:=I.hok.fresh (To _);obtain ⟨m0,Kc,CG⟩:=I.loc
 exact
  { ok:=hok
    os:=rfl
    bare:=I.bare
    base:=Un.kept DJ
    loc:=⟨_,CF,fun i x v e1 e2 Nq=>by
     have zD:∃ j,js[i]?=some (some j)/\σ[j]?=some (some v):=by
      unfold cσ at e2;rw [Tw] at e2;cases q:js[i]? with
      | none=>rw [q] at e2;cases e2
      | some o =>
        rw [q] at e2;cases o with
        | none=>cases e2
        | some j =>
          refine ⟨j,rfl,?_⟩;have e3:(σ[j]?).join=some v:=T5 e2;cases r:σ[j]? with
          | none=>rw [r] at e3;cases e3
          | some z=>rw [r] at e3;exact congrArg some e3
     obtain ⟨j,q1,q2⟩:=zD;obtain ⟨n1,n2,n3⟩:=S.slots i j x q1 e1;obtain ⟨u,ru,look⟩:=CG j x v n1 q2 (by rcases n3 with z | z;exact .inr (.inl z);exact .inr (.inr z));refine ⟨u,ru,.inr ⟨iY n2,?_⟩⟩;have hm:(x,UX)∈sc.names:=lp (env:=X.env) S.nocell (iY n2);obtain ⟨c,hc⟩:=AA x hm;refine ⟨c,hc,?_⟩;rcases look with ⟨k1,_⟩ | ⟨_,c',y8,ic⟩
     · rcases n3 with z | z <;> (rw [k1] at z;cases z)
     · have:=A9 x c hc;rw [y8] at this;cases this;exact ic.keeps DJ⟩
    cell:=fun x c e=>by
     obtain ⟨v,q⟩:=I.cell x c (A9 x c e);exact ⟨v,q.keeps DJ⟩
    free:=hC
    freeC:=fun x c e=>I.freeC x c (A9 x c e)
    pin:=fun p hp=>by
     have yQ:p∈X.pn++pins:=by simpa [bY] using hp
     obtain ⟨a1,a2,a3,a4,a5⟩:=I.pin p yQ;refine ⟨DJ _ _ a1,a2,fun e=>?_,fun hm=>?_,a5⟩
     · have e':p.1=s.heap.objs.size:=e;exact absurd (TJ a1) (by rw [e'];exact U8 _)
     · rcases TR.mp (I.stkSub p.1 hm) with e | e
       · exact a3 e
       · exact a4 e
    hok:=I.hok.kept DJ
    len:=by
     show (cσ js σ).length=N.length;unfold cσ;rw [Te];exact S.len }
theorem se {prog:TF} {w:T3} {A:Ut} {R:Result->Tv->Prop} {elt target iter:UP} {ifs:List UP} {scope:Xu} {pos:Xv} {it acc:Tp} {env:Env} (J:Nat->Tv->Prop)
 (turn:∀ n s,J n s->TM (Ug prog w) A (Wy it) (fun r xN=>(r=none/\R (.ok .next) xN)∨∃ v,r=some v ∧
  TM (Ug prog w) A (YO target it v) (fun _ yu=>TM (Ug prog w) A (assign target env v) (fun _ zL =>
   TM (Ug prog w) A (forIn ifs true fun c r=>if r=true then do let ok ← isTrue c env (VY c env);pure (Wk ok) else pure (Wk r)) (fun ok B5 =>
    (ok=false/\∃ m,m<n/\J m B5)∨(ok=true/\TM (Ug prog w) A (VY elt env) (fun x Gu=>TM (Ug prog w) A (call (.builtin "list.append") [acc,x]) (fun _ Gv=>∃ m,m<n/\J m Gv) (fun _ _=>False) Gu) (fun _ _=>False) B5))
    (fun _ _=>False) zL) (fun _ _=>False) yu) (fun _ _=>False) xN) (fun _ _=>False) s)
 {s:Tv} (n:Nat) (h:J n s):XC (Ug prog w) A (.compLoop (.ListComp elt [⟨target,iter,ifs,0⟩] scope pos) 0 it acc env) R s:=by
 refine codeAny_loop rfl J (fun n s hJ=>?_) n h;show TM _ A ((compTurn (.ListComp elt [⟨target,iter,ifs,0⟩] scope pos) 0 it acc env).onRaise _) _ _ s;refine wpAny_noted ?_;rw [compTurn_list];have up:∀ {α:Type} {m:Sem α} {Q:α->Tv->Prop} {E:Tp->Tv->Prop} {s:Tv},TM (Ug prog w) A m Q (fun _ _=>False) s->TM (Ug prog w) A m Q E s:=fun q=>VI q (fun _ _ z=>z) fun _ _ z=>z.elim;refine Tf (wpAny_standAt (Tf (VI (up (turn n s hJ)) (fun r xN x8=>?_) fun _ _ z=>z)));rcases x8 with ⟨rfl,x8⟩ | ⟨v,rfl,x8⟩
 · exact Tt x8
 · refine Tf (VI (up x8) (fun _ yu yH=>?_) fun _ _ z=>z);refine Tf (VI (up yH) (fun _ zL Ad=>?_) fun _ _ z=>z);refine Tf (VI (up Ad) (fun ok B5 yv=>?_) fun _ _ z=>z);rcases yv with ⟨rfl,yv⟩ | ⟨rfl,yv⟩
   · exact Tt ⟨rfl,yv⟩
   · exact Tf (Tf (VI (up yv) (fun x Gu yw=>Tf (VI (up yw) (fun _ Gv Kd=>Tt (Tt ⟨rfl,Kd⟩)) fun _ _ z=>z)) fun _ _ z=>z))
theorem kF {elt tg iter:UP} {ifs:List UP} {sc:Xu} {pos:Xv} {N:List T6} {js:List (Option Nat)} {g:TG} {tt:TT} {te:TE} {cl:List (T6×Tn)} {fp:List Tn} {it:Tn} {tn:Nat->US->Prop} {J:It} {n:Nat} {W:Nat->Hp->Prop} {fin:Hp->Prop}
 {R:Tp->Tn->Result->Tv->Prop} (hc:X.calm=true) (S:fj X sc N js) (I:Inv X pins σ H s) (T:Turn X.prog X.w X.K tg J fp it tn) (st:tn 0 s.heap) (hf:∀ b∈fp,jN X pins H b)
 (A9:∀ x c,cl.lookup x=some c->X.env.cells.lookup x=some c) (AA:∀ n,(n,UX)∈sc.names->∃ c,cl.lookup n=some c)
 (hg:∀ cl C s H fp pins,PG (bY X N sc cl C s H fp pins) tg g) (gk:mm js g) (ht:∀ cl C s H fp pins,PTs (bY X N sc cl C s H fp pins) ifs tt) (he:∀ cl C s H fp pins,PE (bY X N sc cl C s H fp pins) elt te)
 (w0:W 0 (upd H s.heap.objs.size (.lst []))) (turn:i5 js g tt te σ J s.heap.objs.size n W fin)
 (hR:∀ C H' s',C≠X.env.locals->s.heap.objs.size<C->(∃ m,s'.heap.Ns C m)->H' C=none->(∀ h' t',Vq C s'.heap h'->Inv X pins σ H' { s' with heap:=h',toks:=t' })->fin H'->R (.ref s.heap.objs.size) C (.ok .next) s') {E:Tp->Tv->Prop} :
 TM (Ug X.prog X.w) X.A (newList []) (fun acc zL=>TM (Ug X.prog X.w) X.A (newFunctionEnv sc X.env.globals cl [] X.env.qual none .none (some X.env)) (fun Gw B5 =>
  XC (Ug X.prog X.w) X.A (.compStart (.ListComp elt [⟨tg,iter,ifs,0⟩] sc pos) 0 (.ref it) acc { Gw with scope:=relabel sc X.env }) (R acc Gw.locals) B5) E zL) E s:=by
 refine UL (wpAny_newFunctionEnv S.nocell (by intro y hy;simp at hy) (fun x8 AB AD=>?_) S.kind);dsimp only at AB AD ⊢;have I3:Inv X pins σ (upd H s.heap.objs.size (.lst [])) { s with heap:=s.heap.push { cls:=.type "list",dict:=none,data:=.seq ([]:List Tp).toArray } }:=I.lnew (t':=s.toks) (its:=[]) .nil (by decide)
 have xV:∀ b∈fp,b<s.heap.objs.size:=fun b hb=>by
  obtain ⟨o,ho,_⟩:=T.obj _ _ st b hb;exact TJ ho
 have DK:∀ b o,s.heap.get? b=some o->(s.heap.push { cls:=.type "list",dict:=none,data:=.seq ([]:List Tp).toArray }).get? b=some o:=fun b o e=>Tr _ e;have hsz:(s.heap.push { cls:=.type "list",dict:=none,data:=.seq ([]:List Tp).toArray }).objs.size=s.heap.objs.size+1:=UR ..;generalize NA:({ s with heap:=s.heap.push { cls:=.type "list",dict:=none,data:=.seq ([]:List Tp).toArray } }:Tv)=s3 at I3;have Gx:s.heap.push { cls:=.type "list",dict:=none,data:=.seq ([]:List Tp).toArray }=s3.heap:=by rw [<- NA]
 rw [Gx] at AB AD DK hsz;rw [Gx];have Ke:∀ t',({ s with heap:=x8,toks:=t' }:Tv)={ s3 with heap:=x8,toks:=t' }:=fun t'=>by rw [<- NA]
 rw [Ke];have DJ:∀ b o,s3.heap.get? b=some o->x8.get? b=some o:=fun b o e=>AD.extBut b o (Ui (TJ e)) (Tr _ e);have Kf:∀ b∈fp,jN X pins (upd H s.heap.objs.size (.lst [])) b:=fun b hb=>⟨by rw [ak (Ui (xV b hb))];exact (hf b hb).1,(hf b hb).2⟩;have I4:=sD (t':=s.toks+([]:List (T6×Tp)).length) S I3 A9 AA Kf (fun b hb=>by rw [hsz];exact Xn (xV b hb)) AB DJ;generalize R6:upd H s.heap.objs.size (.lst [])=H3 at I3 I4 Kf w0;have yG:tn 0 x8:=T.keep _ _ _ st fun b hb o e=>DJ _ _ (DK _ _ e)
 have Aw:∀ {H':Hp},(∀ b∈fp,H' b=none)->∀ b∈fp,jN (bY X N sc cl s3.heap.objs.size s3 H3 fp pins) [] H' b:=fun {H'} hn b hb=>by
  obtain ⟨f0,f1,f2,f3,f4,f5⟩:=hf b hb;refine ⟨hn b hb,fun e=>?_,fun hm=>?_,.inl hb,fun x c e=>f4 x c (A9 x c e),fun p hp=>f5 p (by simpa [bY] using hp)⟩
  · have e':b=s3.heap.objs.size:=e;have h9:b<s.heap.objs.size:=xV b hb;rw [e',hsz] at h9;exact absurd h9 (XO.mpr (Nat.le_succ _))
  · rcases TR.mp (I.stkSub b hm) with e | e
    · exact f1 e
    · exact f2 e
 have loop:XC (Ug X.prog X.w) X.A (.compLoop (.ListComp elt [⟨tg,iter,ifs,0⟩] sc pos) 0 (.ref it) (.ref s.heap.objs.size) (compEnvC sc cl s3.heap.objs.size X.env)) (R (.ref s.heap.objs.size) s3.heap.objs.size)
  { s3 with heap:=x8,toks:=s.toks+([]:List (T6×Tp)).length }:=by
  refine se (fun k s'=>∃ i H',Inv (bY X N sc cl s3.heap.objs.size s3 H3 fp pins) [] (cσ js σ) H' s'/\tn i s'.heap/\(∀ b∈fp,H' b=none)/\W i H'/\k=n - i) ?_ n ⟨0,H3,I4,yG,fun b hb=>(Kf b hb).1,w0,rfl⟩;rintro k s5 ⟨i,H5,I5,FE,Jh,w5,rfl⟩;rcases turn i H5 w5 with ⟨stop,qn⟩ | ⟨A',go,step⟩
  · refine thn (T.done (bY X N sc cl s3.heap.objs.size s3 H3 fp pins) rfl rfl rfl hc i [] s5 (cσ js σ) H5 _ I5 (Aw Jh) FE stop) fun r s6 ⟨hr,I6⟩=>.inl ⟨hr,?_⟩;have I7:Inv X pins σ H5 s6:=I3.call' (ch:=fp) (I6.os.trans rfl) I6.base I6.hok I6.bare fun b hb=>⟨(hf b hb).2.2.2.1,(hf b hb).2.1,(hf b hb).2.2.2.2.1,(hf b hb).2.2.2.2.2⟩;have NB:H5 s3.heap.objs.size=none:=I6.free;have NC:s3.heap.objs.size≠X.env.locals:=WU I3.lt;obtain ⟨m6,Pw,_⟩:=I6.loc;refine hR s3.heap.objs.size H5 s6 NC (by omega) ⟨m6,Pw⟩ NB (fun h' t' sb=>?_) qn;refine I7.turned (it:=s3.heap.objs.size) (fun b o hb e=>sb.extBut b o hb e) NB NC (.inr I3.sz) (fun x c e z=>?_) fun p hp z=>?_
    · obtain ⟨v,q⟩:=I3.cell x c e;exact absurd q.lt (by rw [z];exact U8 _)
    · exact absurd (TJ (I3.pin p hp).1) (by rw [z];exact U8 _)
  · refine thn (T.item (bY X N sc cl s3.heap.objs.size s3 H3 fp pins) rfl rfl rfl hc i [] s5 (cσ js σ) H5 _ I5 (Aw Jh) FE go) fun r s6 ⟨u,hr,h6⟩=>.inr ⟨u,hr,?_⟩;refine thn h6 fun _ s7 ⟨x,H7,I7,r7,y7,Kg,Px⟩=>?_;have Py:=I7.pinned (Aw Px) (T.obj _ _ Kg);refine thn (hg cl s3.heap.objs.size s3 H3 fp pins _ s7 (cσ js σ) H7 x u _ Py r7 (gk σ (cσ js σ) x H7 _ (.refl _) (step x H7 y7))) fun _ s8 ⟨Kh,H8,I8,k8,q8⟩=>?_;refine thn (ht cl s3.heap.objs.size s3 H3 fp pins _ s8 Kh H8 _ I8 q8) fun ok s9 ⟨H9,I9,q9⟩=>?_
    have again:∀ {s':Tv} {xM:St} {H':Hp},Keep (cσ js σ) xM->Inv (bY X N sc cl s3.heap.objs.size s3 H3 fp pins) ([]++lj fp s7.heap) xM H' s'->W (i+1) H'->∃ m,m<n - i/\∃ i H',Inv (bY X N sc cl s3.heap.objs.size s3 H3 fp pins) [] (cσ js σ) H' s'/\tn i s'.heap/\(∀ b∈fp,H' b=none)/\W i H'/\m=n - i:=fun {s' xM H'} kp I' w'=>by
     refine ⟨n - (i+1),by omega,i+1,H',(I'.unpinned).weak kp.1 kp.2,T.keep _ _ _ Kg fun b hb o e=>(I'.pin (b,o) (Uj _ (Uj _ (fF hb e)))).1,fun b hb=>?_,w',rfl⟩;obtain ⟨o,e,d⟩:=T.obj _ _ Kg b hb;exact (I'.pin (b,o) (Uj _ (Uj _ (fF hb e)))).2.1
    cases ok with
    | false =>
      refine .inl ⟨rfl,again k8 I9 ?_⟩;have ND:if false=true then _ else W (i+1) H9:=q9
      rw [if_neg TV] at ND;exact ND
    | true =>
      refine .inr ⟨rfl,?_⟩;rw [if_pos rfl] at q9;refine thn (he cl s3.heap.objs.size s3 H3 fp pins _ s9 Kh H9 _ I9 q9) fun vv yg ⟨v,yC,Pz,rv,ys,hD,Gy,PB⟩=>?_;refine thn (aR _ yg Kh yC (.ref s.heap.objs.size) [v] (.ref s.heap.objs.size) [vv] (fun _ H'=>W (i+1) H') Pz rfl (.cons rv .nil) ⟨_,ys,v,rfl,rfl,hD,Gy,PB⟩) fun _ yU ⟨_,yR,PD,_,PF⟩=>?_;exact again k8 PD PF
 exact codeAny_compStart_list loop (T.self X.A 0 _ _ _ yG loop)
theorem cv {elt tg iter:UP} {ifs:List UP} {sc:Xu} {pos:Xv} {N:List T6} {js:List (Option Nat)} {wi:TI} {g:TG} {tt:TT} {te:TE} (hc:X.calm=true) (S:fj X sc N js) (hi:PI X tg iter wi)
 (hg:∀ cl C s H fp pins,PG (bY X N sc cl C s H fp pins) tg g) (gk:mm js g) (ht:∀ cl C s H fp pins,PTs (bY X N sc cl C s H fp pins) ifs tt) (he:∀ cl C s H fp pins,PE (bY X N sc cl C s H fp pins) elt te)
 (hs:∀ x,foldedSetIterable iter X.env x=pure x:=by intro _;rfl):PE X (.ListComp elt [⟨tg,iter,ifs,0⟩] sc pos) (vc js wi g tt te):=by
 intro pins s σ H Q I h;obtain ⟨cl,e1,e2,e3⟩:=lE (env:=X.env) (sc:=sc) fun n hn=>I.ok.has n (S.frees _ hn rfl);rw [eval_ListComp];refine wpAny_comprehension_free (use:=none) rfl hs e1 S.kind S.names (thn (hi pins s σ H _ I h) fun v s1 h1=>thn h1 fun Jg s2 h2=>?_);obtain ⟨it,fp,tn,J,H2,rfl,I2,T,Av,f2,R2⟩:=h2;obtain ⟨n,W,w0,turn⟩:=R2 s2.heap.objs.size I2.fresh;refine kF (R:=fun acc C=>compPost (Ug X.prog X.w) X.A X.xe none (EP X pins σ Q) acc C) hc S I2 T Av f2 e2 e3 hg gk ht he w0 turn fun C H' s' _ _ hn _ inv fi=>?_;obtain ⟨m,hm⟩:=hn;exact ⟨m,hm,fun h' sb=>⟨.ref s2.heap.objs.size,H',inv h' s'.toks sb,rfl,fi⟩⟩
theorem gF {i:Nat} {y:T6} {elt tg iter:UP} {ifs:List UP} {sc:Xu} {pos Gz py:Xv} {N:List T6} {js:List (Option Nat)} {wi:TI} {g:TG} {tt:TT} {te:TE} (hN:X.N.Nodup) (hy:X.N[i]?=some y) (PH:Loc X.env.scope y) (hc:X.calm=true) (S:fj X sc N js) (hi:PI X tg iter wi)
 (hg:∀ cl C s H fp pins,PG (bY X N sc cl C s H fp pins) tg g) (gk:mm js g) (ht:∀ cl C s H fp pins,PTs (bY X N sc cl C s H fp pins) ifs tt) (he:∀ cl C s H fp pins,PE (bY X N sc cl C s H fp pins) elt te)
 (PJ:swapsWith (.ListComp elt [⟨tg,iter,ifs,0⟩] sc pos) (some (.Name y py)) Gz.line X.env=pure true:=by rfl)
 (hs:∀ x,foldedSetIterable iter X.env x=pure x:=by intro _;rfl) (hf:X.fn y=true∨X.env.scope.names.lookup y=some .local:=by first | exact .inl rfl | exact .inr rfl | assumption) :
 PS X (.Assign [.Name y py] (.ListComp elt [⟨tg,iter,ifs,0⟩] sc pos) Gz) (vX (vc js wi g tt te) (aH i)):=by
 intro pins s σ H D I h;obtain ⟨cl,e1,e2,e3⟩:=lE (env:=X.env) (sc:=sc) fun n hn=>I.ok.has n (S.frees _ hn rfl);rw [exec_Assign_Name_used _ _ _ _ PJ];refine Tf (wpAny_standAt (Tf ?_));show TM _ X.A (do let _ ← comprehension (.ListComp elt [⟨tg,iter,ifs,0⟩] sc pos) sc X.env _ (newList []) false (VY iter X.env) (some (assign (.Name y py) X.env))) _ _ s;refine Tf (VI (wpAny_comprehension_free (use:=some (assign (.Name y py) X.env)) (Q:=fun _ s'=>SP X pins D .next s') rfl hs e1 S.kind S.names (thn (hi pins s σ H _ I h) fun v s1 h1=>thn h1 fun Jg s2 h2=>?_)) (fun _ s' hq=>Tt (Tt hq)) fun _ _ z=>z);obtain ⟨it,fp,tn,J,H2,rfl,I2,T,Av,f2,R2⟩:=h2;obtain ⟨n,W,w0,turn⟩:=R2 s2.heap.objs.size I2.fresh;refine kF (R:=fun acc C=>compPost (Ug X.prog X.w) X.A X.xe (some (assign (.Name y py) X.env)) (fun _ s'=>SP X pins D .next s') acc C) hc S I2 T Av f2 e2 e3 hg gk ht he w0 turn fun C H' s' NF hC hn PK inv fi=>?_;obtain ⟨m,hm⟩:=hn
 have I5:Inv X pins σ H' s':=by
  have q:=inv s'.heap s'.toks (.refl ..);exact q
 refine wpAny_assign_Name (mH (v:=.ref s2.heap.objs.size) I5 hN hy PH rfl (fun s6 I6 ⟨a,sb,ha⟩=>?_) hf)
 have PL:C≠a:=by
  rcases ha with ha | ha
  · rw [ha];exact NF
  · intro z;obtain ⟨v,q⟩:=I2.cell y a ha;exact absurd (WV q.lt hC) (by rw [z];exact U8 _)
 refine ⟨m,hm.sameBut sb PL,fun h' PM=>⟨_,H',I6.turned (it:=C) (t':=s6.toks) (fun b o hb e=>PM.extBut b o hb e) PK NF (.inr (Vu I2.sz (WW hC))) (fun x c e z=>?_) fun p hp z=>?_,fi⟩⟩
 · obtain ⟨v,q⟩:=I2.cell x c e;exact absurd (WV q.lt hC) (by rw [z];exact U8 _)
 · exact absurd (WV (TJ (I2.pin p hp).1) hC) (by rw [z];exact U8 _)
end
end L2
namespace L2
open PySem PySem.Spec PyProof.Rows
def jM {α:Type} (xs:List α) (lo hi:Option Int):List α:=(xs.drop (HT.sIx xs.length 0 lo)).take (HT.sIx xs.length xs.length hi - HT.sIx xs.length 0 lo)
def dU (z:T6) (lo hi:Option Int):T6:=⟨(jM z.cps.toList lo hi).toArray⟩
theorem tU {α:Type} (xs:List α) (a n:Nat):((Ue n).map fun (k:Nat)=>a+k).filterMap (xs[·]?)=(xs.drop a).take n:=by
 induction n with
 | zero=>simp
 | succ n ih =>
   rw [Yt,TH,List.filterMap_append,ih,UZ];congr 1;rw [List.getElem?_drop];cases h:xs[a+n]? <;> simp [h]
theorem rD (n d:Nat) (i:Int):max 0 (min (if i<0 then i+(n:Int) else i) (n:Int))=((HT.sIx n d (some i):Nat):Int):=by
 show max 0 (min (if i<0 then i+(n:Int) else i) (n:Int))=(((if i<0 then (i+(n:Int)).toNat else min i.toNat n):Nat):Int);by_cases h:i<0
 · rw [if_pos h,if_pos h];omega
 · rw [if_neg h,if_neg h];omega
theorem tN (A B:Int) (a b:Nat) (hA:A=(a:Int)) (hB:B=(b:Int)):sliceRange A B 1=(Ue (b - a)).map fun (k:Nat)=>a+k:=by
 subst hA;subst hB;unfold sliceRange;simp only [show (1:Int) > 0 by decide,if_true]
 have c:(if (a:Int)<(b:Int) then ((b:Int) - a+1 - 1) / 1 else 0).toNat=b - a:=by
  split
  · rw [Y8];omega
  · omega
 rw [c];refine W0 fun k _=>?_;omega
theorem qq (lo hi:Option Int) (n:Nat):Yc lo hi 1 n=(Ue (HT.sIx n n hi - HT.sIx n 0 lo)).map fun (k:Nat)=>HT.sIx n 0 lo+k:=by
 unfold Yc;simp only [show (1:Int) > 0 by decide,if_true];cases lo <;> cases hi <;> refine tN _ _ _ _ ?_ ?_ <;> first | rfl | exact rD _ _ _
theorem oQ (z:T6) (lo hi:Option Int):(dU z lo hi).length<=z.length:=by
 show (jM z.cps.toList lo hi).toArray.size<=z.cps.size;unfold jM;rw [Tz,Ul,Vf,Uk];omega
theorem lG (x:T6) (t:Tok) (l u:Option (Int×Tok)) {Q:Tp->Tv->Prop} {s:Tv} (hz:x.length<=TN) (h:∀ t' k,Q (.str (dU x (l.map (·.1)) (u.map (·.1))) t') { s with toks:=k }):(sliceMade x t l u none).post Q s:=by
 have e:(YZ x l u none).filterMap (x.cps[·]?)=jM x.cps.toList (l.map (·.1)) (u.map (·.1)):=by
  unfold YZ jM;show (Yc (l.map (·.1)) (u.map (·.1)) 1 x.length).filterMap (x.cps[·]?)=_;rw [qq,show (x.cps[·]?)=(x.cps.toList[·]?) from funext fun i=>(WG ..).symm,tU,Uk];rfl
 unfold sliceMade;split
 · rename_i hc
   have hl:(YZ x l u none).length=x.length:=by
    have:=(VB _ _ ▸ hc).2;simpa using this
   have hw:dU x (l.map (·.1)) (u.map (·.1))=x:=by
    have e2:(jM x.cps.toList (l.map (·.1)) (u.map (·.1)))=x.cps.toList:=by
     have hp:YZ x l u none=(Ue (HT.sIx x.length x.length (u.map (·.1)) - HT.sIx x.length 0 (l.map (·.1)))).map fun (k:Nat)=>HT.sIx x.length 0 (l.map (·.1))+k:=qq _ _ _;rw [hp,Te,Uh] at hl;have b1:=HT.sIx_le x.length x.length (To _) (u.map (·.1));have hx:x.cps.toList.length=x.length:=Uk;unfold jM;rw [hx,hl];have CH:HT.sIx x.length 0 (l.map (·.1))=0∨x.length=0:=by omega
     rcases CH with h0 | h0
     · rw [h0,VR,UY (by rw [hx];exact To _)]
     · have:x.cps.toList=[]:=UO.mp (by rw [hx];exact h0);rw [this];simp
    unfold dU;rw [e2]
   have:=h t s.toks;rw [hw] at this;exact this
 · show (⟨((YZ x l u none).filterMap (x.cps[·]?)).toArray⟩:T6).length<=TN/\Q _ _;rw [e];exact ⟨Vu (oQ x _ _) hz,h s.toks (s.toks+1)⟩
section
variable {X:Cx}
inductive uZ (x:V) (lo:Option Int) (hi:Option Int) (H:Hp) (Q:VK):Prop
 | mk (z:_) (x9:x=.str z) (ya:z.length<=TN) (ye:Q (.str (dU z lo hi)) H):uZ  x lo hi H Q
def xh:V->Option Int->Option Int->Hp->VK->Prop:=uZ
theorem part_of {v:Tp} {o:Option Int} (h:YL v o):∃ l:Option (Int×Tok),v=partValue l/\l.map (·.1)=o:=by
 cases h with
 | none=>exact ⟨none,rfl,rfl⟩
 | int i t=>exact ⟨some (i,t),rfl,rfl⟩
theorem pL:SlR X xh:=by
 intro pins s σ H x v vl vu lo hi sl Q I rx hs pl pu h;obtain ⟨z,rfl,hz,q⟩:=h;obtain ⟨t,rfl⟩:=rx;obtain ⟨l,rfl,rfl⟩:=part_of pl;obtain ⟨u,rfl,rfl⟩:=part_of pu;refine ⟨"str",_,F.slot_str_getitem.lookup,typeIs_str s z t,wpAny_getItem_str_slice (l:=l) (u:=u) (st:=none) ?_ rfl (lG z t l u hz fun t' k=>?_)⟩
 · obtain ⟨o,ho,hc,hd⟩:=hs;exact ⟨o,ho,hc,hd⟩
 · exact ⟨.str (dU z (l.map (·.1)) (u.map (·.1))),H,I.tok k,⟨_,rfl⟩,q⟩
theorem sG {T:String} {b:Bool} {t:Tp}:gS X (.builtin "isinstance") (fun xs H Q=>∃ x,xs=[x,.ty T]/\iS X.K H x t/\WM X.K t (.type T)=some b/\Q (.bl b) H):=by
 intro pins s σ H xs us Q I r h;obtain ⟨x,rfl,ty,k,q⟩:=h;obtain ⟨u,w',rfl,r1,r2⟩:=vals2 r;cases r2;exact rR I r1 ty k fun tk=>⟨.bl b,H,I.tok tk,rfl,q⟩
end
end L2
namespace PySem
namespace F
theorem bb_owner_rev:Manifest.owners.lookup (String.ofList ['d','e','s','r','e','v','e','r'].reverse)=some Manifest.sig_reversed:=by kernel_rfl
theorem bb_slot_rev_next:Slot "reversed" "__next__" "reversed.__next__" :=
 .of (owner:="reversed") (n:="__next__") (by rw [VC,UU];kernel_rfl) (by decide +kernel) (by decide +kernel) (by decide +kernel)
  (by first | exact .inl (by decide +kernel) | exact .inr (by decide +kernel)) (by rw [WC];kernel_rfl)
theorem bb_entry_rev_next:entryFor table "reversed.__next__"=some We.«reversed.__next__»:=entryFor_of_tree (by kernel_rfl)
theorem bb_args_rev_next (a:Tp):argsOk "reversed.__next__" ⟨[a],[]⟩:=by
 unfold argsOk;rw [signature?_of (id:="reversed.__next__") (n:=['_','_','t','x','e','n','_','_']) (o:=['d','e','s','r','e','v','e','r']) (by kernel_rfl) bb_owner_rev];kernel_rfl
theorem bb_slot_rev_iter:Slot "reversed" "__iter__" "reversed.__iter__" :=
 .of (owner:="reversed") (n:="__iter__") (by rw [VC,UU];kernel_rfl) (by decide +kernel) (by decide +kernel) (by decide +kernel)
  (by first | exact .inl (by decide +kernel) | exact .inr (by decide +kernel)) (by rw [WC];kernel_rfl)
theorem bb_args_rev_iter (a:Tp):argsOk "reversed.__iter__" ⟨[a],[]⟩:=by
 unfold argsOk;rw [signature?_of (id:="reversed.__iter__") (n:=['_','_','r','e','t','i','_','_']) (o:=['d','e','s','r','e','v','e','r']) (by kernel_rfl) bb_owner_rev];kernel_rfl
theorem bb_entry_rev_iter:entryFor table "reversed.__iter__"=some We.«dict_keyiterator.__iter__» :=
 entryFor_alias (id':="dict_keyiterator.__iter__") (by kernel_rfl) (by first | rfl | decide +kernel | (unfold String.splitOn;simp +decide [String.splitOnAux])) (by decide +kernel) (by kernel_rfl)
theorem bb_slot_rev_hint:Slot "reversed" "__length_hint__" "reversed.__length_hint__" :=
 .of (owner:="reversed") (n:="__length_hint__") (by rw [VC,UU];kernel_rfl) (by decide +kernel) (by decide +kernel) (by decide +kernel)
  (by first | exact .inl (by decide +kernel) | exact .inr (by decide +kernel)) (by rw [WC];kernel_rfl)
theorem bb_entry_rev_hint:entryFor table "reversed.__length_hint__"=some We.«reversed.__length_hint__»:=entryFor_of_tree (by kernel_rfl)
theorem bb_args_rev_hint (a:Tp):argsOk "reversed.__length_hint__" ⟨[a],[]⟩:=by
 unfold argsOk;rw [signature?_of (id:="reversed.__length_hint__") (n:=['_','_','t','n','i','h','_','h','t','g','n','e','l','_','_']) (o:=['d','e','s','r','e','v','e','r']) (by kernel_rfl) bb_owner_rev];kernel_rfl
theorem bb_nolen_rev:W5 (.type "reversed") "__len__"=pure none:=by rw [VC,UU];kernel_rfl
theorem bb_nolen_lri:W5 (.type "list_reverseiterator") "__len__"=pure none:=by rw [VC,UU];kernel_rfl
theorem bb_hint_lri:W5 (.type "list_reverseiterator") "__length_hint__"=pure (some (.builtin "list_reverseiterator.__length_hint__")):=by rw [VC,UU];kernel_rfl
theorem bb_tuple_norev:W5 (.type "tuple") "__reversed__"=pure none:=by rw [VC,UU];kernel_rfl
theorem bb_sub_rev_rev:isSubtype (.type "reversed") (.type "reversed")=pure true:=by rw [WC];kernel_rfl
theorem bb_sub_tuple_dict:isSubtype (.type "tuple") (.type "dict")=pure false:=by rw [WC];kernel_rfl
end F
end PySem
namespace PySem
open Sem (wp)
section
variable {prog:TF} {w:T3} {A:Ut} {E:Tp->Tv->Prop} {s:Tv}
theorem bb_slot_rev_init:Slot "reversed" "__init__" "object.__init__" :=
 .of (owner:="object") (n:="__init__") (by rw [VC,UU];kernel_rfl) (by decide +kernel) (by decide +kernel) (by decide +kernel)
  (by first | exact .inl (by decide +kernel) | exact .inr (by decide +kernel)) (by rw [WC];kernel_rfl)
theorem bb_called_rev:TypeCalled "reversed" "reversed.__new__" "object.__init__" :=
 ⟨by decide +kernel,by decide +kernel,⟨_,_,F.mro_reversed⟩,F.made_reversed,by decide +kernel,F.bb_sub_rev_rev,bb_slot_rev_init⟩
def revTup (t:Tn) (i:Int):VN:={ cls:=.type "reversed",data:=.fields #[.ref t,VX i] }
theorem bb_meets_rev_tuple (t:Tn) (items:Array Tp) (hz:(items.size:Int)<2 ^ 63) :
 Meets (We.«reversed.__new__» ⟨[.type "reversed",.ref t],[]⟩) (fun _ R s=>WB s.heap t items/\∀ tk,R (.ok (.ret (.ref s.heap.objs.size))) { s with heap:=s.heap.push (revTup t ((items.size:Int) - 1)),toks:=tk }):=by
 refine .of_wp fun prog w A R s h=>?_;obtain ⟨ht,h⟩:=h;unfold We.«reversed.__new__»;refine Tf (WI (newClass_reversed _) ?_)
 try dsimp only
 refine Tf (WI (a:=()) (by first | rfl | kernel_rfl) ?_);refine Tf (WI (a:=()) (by first | rfl | kernel_rfl) ?_)
 try dsimp only
 refine Tf (Vb ht.typeIs F.bb_tuple_norev ?_)
 try dsimp only
 have R7:=F.bb_sub_tuple_dict;have R8:=Ur.lookup;have hT:s.TypeIs (.ref t) "tuple":=ht.typeIs
 wp_walk using PyProof.Rows.len_tuple ht hz,Wb hT
 exact ⟨_,rfl,h _⟩
theorem bb_call_rev_tuple {t:Tn} {items:Array Tp} {Q:Tp->Tv->Prop} (ht:WB s.heap t items) (hz:(items.size:Int)<2 ^ 63)
 (h:∀ tk,Q (.ref s.heap.objs.size) { s with heap:=s.heap.push (revTup t ((items.size:Int) - 1)),toks:=tk }):TM (Ug prog w) A (call (.type "reversed") [.ref t]) Q E s :=
 callType_new bb_called_rev (by decide) (F.typeCall_reversed_1 _) (F.newCall_reversed_1 _) (fun obj=>F.args_object_init_2 obj _) F.entry_reversed_new (bb_meets_rev_tuple t items hz)
  ⟨ht,fun tk=>⟨⟨_,TC _ rfl,rfl⟩,h tk⟩⟩
def IsRevT (h:US) (a t:Tn) (i:Int):Prop:=∃ o,h.get? a=some o/\o.cls=.type "reversed"/\o.data=.fields #[.ref t,VX i]
theorem IsRevT.typeIs {a t:Tn} {i:Int} (x:IsRevT s.heap a t i):s.TypeIs (.ref a) "reversed":=let ⟨o,ho,hc,_⟩:=x;⟨o,ho,hc⟩
theorem IsRevT.at {h h':US} {a t:Tn} {i:Int} (x:IsRevT h a t i) (e:∀ o,h.get? a=some o->h'.get? a=some o):IsRevT h' a t i:=let ⟨o,ho,r⟩:=x;⟨o,e _ ho,r⟩
theorem bb_rev_iter {it t:Tn} {i:Int} {Q:Tp->Tv->Prop} (hit:IsRevT s.heap it t i) (h:Q (.ref it) s):TM (Ug prog w) A (pyIter (.ref it)) Q E s:=by
 refine wpAny_pyIter_slot hit.typeIs F.bb_slot_rev_iter (UM F.bb_slot_rev_iter hit.typeIs F.bb_entry_rev_iter ?_ (F.bb_args_rev_iter _));show TM _ _ (ret (.ref it)) _ _ s;exact Tt ⟨_,rfl,"reversed",_,hit.typeIs,F.bb_slot_rev_next.lookup,h⟩
theorem bb_rev_next {it t:Tn} {i:Nat} {items:Array Tp} {x:Tp} {Q:Option Tp->Tv->Prop} (hit:IsRevT s.heap it t (i:Int)) (ht:WB s.heap t items) (hx:items[i]?=some x) (hz:(items.size:Int)<2 ^ 63)
 (hQ:∀ h' tk,IsRevT h' it t ((i:Int) - 1)->Vq it s.heap h'->Q (some x) { s with heap:=h',toks:=tk }):TM (Ug prog w) A (Wy (.ref it)) Q E s:=by
 obtain ⟨o,ho,hc,hd⟩:=id hit;have hi:i<items.size:=(XY.mp hx).1;unfold Wy
 refine Tf (Wx (UI (name:=Tu "__next__") hit.typeIs F.bb_slot_rev_next
  (UM F.bb_slot_rev_next hit.typeIs F.bb_entry_rev_next ?_ (F.bb_args_rev_next _))))
 unfold We.«reversed.__next__»;refine Tf (WI (a:=(Uc it,[])) rfl ?_)
 try dsimp only
 refine Tf (Uz ho hd (x:=.ref t) rfl ?_);refine Tf (Uz ho hd (x:=VX (i:Int)) rfl ?_);show TM _ _ (if (i:Int)<0 then _ else _) _ _ s;rw [if_neg (by omega)];refine Tf (Vb ht.typeIs Ur.lookup ?_)
 try dsimp only
 rw [if_neg (by decide)];refine Tf (m:=mkInt (i:Int)) (wpAny_mkInt ?_);refine Tf (Wx (PyProof.Rows.getItem_tuple (j:=i) (x:=x) ht (by omega) (by omega) ?_ hx ?_))
 · refine (L2.nD (n:=items.size) (i:=(i:Int)) (j:=i) ?_).1;unfold L2.ixN;rw [if_pos (by omega),if_pos (by omega)];simp
 · try dsimp only
   refine Tf (Uz ho hd (x:=VX (i:Int)) rfl ?_)
   try dsimp only
   refine Tf (W4 ho hd (by simp) ?_);refine Tt ⟨x,rfl,Tt (hQ _ _ ?_ (VL ..))⟩;exact ⟨_,Uq _ ho (XJ (VS hd _)),(Obj.cls_mapFields ..).trans hc,by rw [VS hd];simp⟩
theorem bb_rev_end {it t:Tn} {Q:Option Tp->Tv->Prop} (hh:A.handled=none) (hit:IsRevT s.heap it t (-1))
 (hQ:∀ h' tk,Y9 it s.heap h'->Q none { s with heap:=h',toks:=tk }):TM (Ug prog w) A (Wy (.ref it)) Q E s:=by
 obtain ⟨o,ho,hc,hd⟩:=id hit;unfold Wy
 refine Tf (Wx (UI (name:=Tu "__next__") hit.typeIs F.bb_slot_rev_next
  (UM F.bb_slot_rev_next hit.typeIs F.bb_entry_rev_next ?_ (F.bb_args_rev_next _))))
 unfold We.«reversed.__next__»;refine Tf (WI (a:=(Uc it,[])) rfl ?_)
 try dsimp only
 refine Tf (Uz ho hd (x:=.ref t) rfl ?_);refine Tf (Uz ho hd (x:=VX (-1)) rfl ?_);show TM _ _ (if (-1:Int)<0 then _ else _) _ _ s;rw [if_pos (by decide)];refine Tf (Wm ?_);refine Tf ?_
 wp_delta
 refine Tf (W4 ho hd (by simp) ?_);have CQ:=Uq (Obj.mapFields (·.setIfInBounds 1 (VX (-1)))) ho (XJ (VS hd _));refine W4 CQ (VS hd _) (by simp) ?_;refine Tf ?_
 wp_delta
 refine Tf ?_;simp only [newExc,newTuple];refine Tf (UL ?_ (by size_fits));refine Tf (m:=XB _ _) (WI (a:=U4) (by first | rfl | (simp only [XB];rfl)) ?_);refine UL ?_ (by size_fits);simp only [raiseNew];refine Tf (wpAny_handled ?_)
 first | rw [show A.in1.handled=none from hh] | rw [hh]
 refine Tf (Tt (wpAny_throw ?_));refine Tf (Wf (T:="StopIteration") (b:=true) ⟨_,TC _ rfl,rfl⟩ isSubtype_stop ?_);refine Tt (hQ _ _ ?_);refine Heap.ExtBut.push (Heap.ExtBut.push ?_ _) _;intro b o' hb e;rw [Uu _ _ (Vp hb),Uu _ _ (Vp hb)];exact e
theorem bb_walk_revT (hh:A.handled=none) (I t:Tn) (yd:t≠I) (items:Array Tp) (hz:(items.size:Int)<2 ^ 63) :
 Walks prog w A I [I,t] [I] items.size (fun i v=>items[items.size - 1 - i]?=some v) (fun i h=>i<=items.size/\IsRevT h I t ((items.size:Int) - 1 - (i:Int))/\WB h t items) where
 sub:=fun b hb=>by simp at hb;simp [hb]
 frame:=fun _ _ _ x hk=>⟨x.1,x.2.1.at fun o e=>hk I (by simp) o e,by obtain ⟨o,e,r⟩:=x.2.2;exact ⟨o,hk t (by simp) o e,r⟩⟩
 item:=fun i s Q E hi x hQ=>by
  have e:(items.size:Int) - 1 - (i:Int)=((items.size - 1 - i:Nat):Int):=by omega
  have hit:=x.2.1;rw [e] at hit;have hx:items[items.size - 1 - i]?=some (items[items.size - 1 - i]'(by omega)):=VH (by omega);refine bb_rev_next hit x.2.2 hx hz fun h' tk CT yA=>?_;have e2:((items.size - 1 - i:Nat):Int) - 1=(items.size:Int) - 1 - ((i+1:Nat):Int):=by omega
  rw [e2] at CT;exact hQ _ h' tk hx ⟨hi,CT,by obtain ⟨o,e,r⟩:=x.2.2;exact ⟨o,(yA.2 t yd).trans e,r⟩⟩ fun b o hb eo=>yA.extBut b o (fun h=>hb (by simp [h])) eo
 done:=fun s Q E x hQ=>by
  have e:(items.size:Int) - 1 - (items.size:Int)=-1:=by omega
  have hit:=x.2.1;rw [e] at hit;exact bb_rev_end hh hit fun h' tk PN=>hQ h' tk fun b o hb eo=>PN b o (fun h=>hb (by simp [h])) eo
 self:=fun _ _ _ _ x hQ=>bb_rev_iter x.2.1 hQ
def HintOk (prog:TF) (w:T3) (A:Ut) (I:Tn) (St:Nat->US->Prop):Prop :=
 ∀ (s:Tv) (Q:Bool->Tv->Prop) (E:Tp->Tv->Prop),St 0 s.heap->(∀ b tk,s.toks<=tk->Q b { s with toks:=tk })->TM (Ug prog w) A (Wc (.ref I)) Q E s
theorem bb_hint_lri {I l:Tn} {items:Array Tp}:HintOk prog w A I (fun i h=>i<=items.size/\h.IsRevIter I l ((items.size:Int) - 1 - (i:Int))/\h.IsList l items):=by
 intro s Q E st h;unfold Wc;refine Tf (Vb st.2.1.typeIs F.bb_nolen_lri ?_);show TM _ A (specialOf (Uc I) (Tu "__length_hint__") >>= _) _ _ _;refine Tf (Vb st.2.1.typeIs F.bb_hint_lri ?_)
 (generalize hid:("list_reverseiterator.__length_hint__":String)=EB;(fail_if_success (clear hid EB));wp_delta;rw [show splitId EB=some ("list_reverseiterator","__length_hint__") from by subst hid;decide +kernel];subst hid)
 refine Tf (Wf (b:=true) st.2.1.typeIs (by rw [WC];kernel_rfl) ?_);exact Tt (h _ _ (To _))
theorem bb_len_hint {I t:Tn} {items:Array Tp} {Q:Tp->Tv->Prop} (hit:IsRevT s.heap I t ((items.size:Int) - 1)) (ht:WB s.heap t items) (hz:(items.size:Int)<2 ^ 63)
 (h:∀ u tk,s.toks<=tk->Q (.int (items.size:Int) u) { s with toks:=tk }):TM (Ug prog w) A (call (.builtin "reversed.__length_hint__") [.ref I]) Q E s:=by
 obtain ⟨o,ho,hc,hd⟩:=id hit;refine UM F.bb_slot_rev_hint hit.typeIs F.bb_entry_rev_hint ?_ (F.bb_args_rev_hint _);unfold We.«reversed.__length_hint__»;refine Tf (WI (a:=Uc I) rfl ?_)
 try dsimp only
 refine Tf (Uz ho hd (x:=.ref t) rfl ?_);rw [if_neg (show ¬ ((Uc t == U4)=true) from TV)];refine Tf (PyProof.Rows.len_tuple ht hz ?_);refine Tf (m:=asInt? _) (Tt ?_)
 try dsimp only
 refine Tf (Uz ho hd (x:=VX ((items.size:Int) - 1)) rfl ?_);show TM _ _ (if (items.size:Int)<((items.size:Int) - 1)+1 then _ else _) _ _ _;rw [if_neg (by omega)];have e:((items.size:Int) - 1)+1=(items.size:Int):=by omega
 rw [e];refine Tf (wpAny_mkInt (Tt ⟨_,rfl,h _ _ ?_⟩));show s.toks<=s.toks+1+1+1;omega
theorem bb_hint_rev {I t:Tn} {items:Array Tp} (hz:items.size<=TN):HintOk prog w A I (fun i h=>i<=items.size/\IsRevT h I t ((items.size:Int) - 1 - (i:Int))/\WB h t items):=by
 intro s Q E st h;unfold Wc;refine Tf (Vb st.2.1.typeIs F.bb_nolen_rev ?_);show TM _ A (specialOf (Uc I) (Tu "__length_hint__") >>= _) _ _ _;refine Tf (Vb st.2.1.typeIs F.bb_slot_rev_hint.lookup ?_)
 (generalize hid:("reversed.__length_hint__":String)=EB;(fail_if_success (clear hid EB));wp_delta;rw [show splitId EB=some ("reversed","__length_hint__") from by subst hid;decide +kernel];subst hid)
 refine Tf (Wf (b:=true) st.2.1.typeIs F.bb_sub_rev_rev ?_)
 have NG:(items.size:Int)<2 ^ 63:=by
  have:=L2.fu;omega
 rw [if_neg (by decide)]
 try dsimp only
 rw [if_neg (by decide +kernel)];refine Tf (Wm ?_);refine Tf (WI (F.bb_slot_rev_hint.bind _) ?_)
 try dsimp only
 have hit:=st.2.1;rw [show (items.size:Int) - 1 - ((0:Nat):Int)=(items.size:Int) - 1 by omega] at hit;refine Tf (Wx (bb_len_hint hit st.2.2 NG fun u tk zM=>?_));have f1:Builtin.List.listFitsIndex (items.size:Int)=true:=fitsIndex_of (Int.natCast_nonneg _) NG;have f2:VT (items.size:Int).toNat=false:=L2.kN (Vu (Y6 (Vh _)) hz);have f3:¬ (items.size:Int)<0:=Int.not_lt.mpr (Int.natCast_nonneg _);generalize (items.size:Int)=k at f1 f2 f3 ⊢;have fin:TM (Ug prog w) A (pure (k != 0):Sem Bool) Q E { s with toks:=tk }:=Tt (h _ _ zM);simp only [asInt?,pure_bind,f1,f2,f3,Xy,UQ,if_false];exact fin
theorem bb_list_walk {T:String} {I:Tn} {fp wr:List Tn} {n:Nat} {P:Nat->Tp->Prop} {St:Nat->US->Prop} {Q:Tp->Tv->Prop} (W:Walks prog w A.in1.in1 I fp wr n P St)
 (hT:∀ i (s:Tv),St i s.heap->s.TypeIs (.ref I) T) (h2:(VZ T == VZ "list")=false) (h3:(VZ T == VZ "tuple")=false) (hint:HintOk prog w A.in1.in1 I St)
 (yG:St 0 s.heap) (PQ:∀ b∈fp,b<s.heap.objs.size) (hI:I∈fp) (hn:n<=TN)
 (hQ:∀ h' tk acc c,(∀ b o,b∉wr->s.heap.get? b=some o->h'.get? b=some o)->h'.get? s.heap.objs.size=some { cls:=.type "list",dict:=none,data:=.seq acc c,slots:=#[] }->ItemsOf P acc n->Q (.ref s.heap.objs.size) { s with heap:=h',toks:=tk }) :
 TM (Ug prog w) A (call (.type "list") [.ref I]) Q E s:=by
 have FH:s.heap.objs.size∉fp:=fun hm=>U8 _ (PQ _ hm)
 refine Y0 (Q₁:=fun obj xN=>obj=.ref s.heap.objs.size/\xN={ s with heap:=s.heap.push { cls:=.type "list",data:=.seq #[] } }) F.called_list (F.typeCall_list_1 _) F.entry_list_init
  (code_list_new _ ⟨rfl,rfl⟩) fun obj xN x8=>?_
 obtain ⟨rfl,rfl⟩:=x8;have hS:(s.heap.push { cls:=.type "list",data:=.seq #[] }).get? s.heap.objs.size=some { cls:=.type "list",data:=.seq #[] }:=TC _ rfl;have Ki:s.heap.objs.size≠I:=fun e=>FH (e ▸ hI);refine ⟨⟨_,hS,rfl⟩,F.args_list_init_2 _ _,?_⟩;show TM _ A.in1.in1 (do let old ← Wd (.ref s.heap.objs.size);YH (.ref s.heap.objs.size) (fun _=>#[]);letGo old.toList.reverse;VF (.ref s.heap.objs.size) (.ref I) .none) _ _ _;refine Tf ?_;unfold Wd;refine Tf (U2 hS rfl (Tt ?_));refine Tf (Vo hS rfl ?_);have yY:=Uq (UN (fun _=>(#[]:Array Tp))) hS rfl;refine Tf (Yp ?_);generalize hH:(s.heap.push { cls:=.type "list",data:=.seq #[] }).update s.heap.objs.size (UN (fun _=>(#[]:Array Tp)))=H2 at yY ⊢
 have old:∀ b o,s.heap.get? b=some o->H2.get? b=some o:=fun b o e=>by
  rw [<- hH,Uu _ _ (Vp (Ui (TJ e)))];exact Tr _ e
 obtain ⟨c2,CU⟩:∃ c,H2.get? s.heap.objs.size=some { cls:=.type "list",data:=.seq #[] c }:=⟨_,yY⟩;have Av:St 0 H2:=W.frame 0 _ _ yG fun b _ o e=>old b o e;unfold VF;refine Tf (Wb (hT 0 _ Av) ?_);have h1:VU (.ref s.heap.objs.size) (.ref I)=false:=by simp [VU,Ki]
 simp only [h1,h2,h3,YS,UQ,if_false];refine Tf (W.self 0 _ _ _ Av ?_);refine Tf (U3 (hint _ _ _ Av fun b tk _=>?_))
 have key:∀ (h:US) (c₁ tk:Nat),St 0 h->(∀ b o,b≠s.heap.objs.size->H2.get? b=some o->h.get? b=some o)->h.get? s.heap.objs.size=some { cls:=.type "list",data:=.seq #[] c₁ } →
  XC (Ug prog w) A.in1 (.builtin "list.extend.loop" ⟨[.ref s.heap.objs.size,.ref I,.none],[]⟩) (wants (fun r yu=>r=.none/\Q (.ref s.heap.objs.size) yu) E) { s with heap:=h,toks:=tk }:=by
  intro h c₁ tk hs hk Ae;refine codeAny_extend_loopS W.toS hn _ FH .none n 0 _ #[] c₁ rfl (T4 _) hs Ae (ItemsOf.nil _) fun s' yI c' hm BJ xX=>?_;rw [Moved.eq_with hm];refine ⟨rfl,hQ s'.heap s'.toks yI c' (fun b o hb e=>hm.heap b o (fun Bl=>?_) (hk b o (Ui (TJ e)) (old b o e))) BJ xX⟩;rcases TR.mp Bl with e' | Bl
  · exact absurd (TJ e) (by rw [e'];exact U8 _)
  · exact hb Bl
 refine YM (fun _=>?_) (fun _=>Tt ⟨Wz Va _,key _ c2 _ Av (fun b o _ e=>e) CU⟩);refine Tf (Wm ?_);refine Tf ?_;show TM _ _ (Yd s.heap.objs.size (·.push .none) >>= fun _=>Yd s.heap.objs.size (·.pop)) _ _ _;refine Tf (Vo CU rfl ?_);have yZ:=Uq (UN (·.push U4)) CU rfl;refine Vo (hz:=by seq_fits) yZ rfl ?_;have Af:=Uq (UN (·.pop)) yZ rfl
 have Ag:∀ b o,b≠s.heap.objs.size->H2.get? b=some o->((H2.update s.heap.objs.size (UN (·.push U4))).update s.heap.objs.size (UN (·.pop))).get? b=some o :=
  fun b o hb e=>(Uu _ _ (Vp hb)).trans ((Uu _ _ (Vp hb)).trans e)
 exact Tt ⟨Wz Va _,key _ _ _ (W.frame 0 _ _ Av fun b hb o e=>Ag b o (fun z=>FH (z ▸ hb)) e) Ag Af⟩
end
end PySem
namespace L2
open PySem PySem.Spec PyProof.Rows
def SqB (b:Bool) (K:Tg) (H:Hp) (a:Tn) (xs:List V):Prop:=if b=true then SqL K H a xs else SqT K H a xs
theorem SqB.l {K:Tg} {H:Hp} {a:Tn} {xs:List V} (h:SqL K H a xs):SqB true K H a xs:=h
theorem tj {ys:List V} {its:List Tp} {acc:Array Tp} (rv:Vals ys its) (xX:ItemsOf (fun i v=>its.toArray[its.toArray.size - 1 - i]?=some v) acc its.toArray.size):Vals ys.reverse acc.toList:=by
 have e:acc.toList=its.reverse:=by
  apply X2;intro i;have hs:acc.size=its.length:=by rw [xX.1,Tz]
  by_cases hi:i<acc.size
  · have h1:acc[i]?=some acc[i]:=VH hi;have h2:=xX.2 i _ h1;rw [Tz] at h2;rw [WG,h1,List.getElem?_reverse (by omega),<- h2];simp
  · rw [WG,Xo (by omega),Vr (by rw [UT];omega)]
 rw [e];exact rv.reverse
section
variable {X:Cx} {e:UP} {te:TE} {p p2 pos yh:Xv}
def sS (K:Tg) (te:TE):TE:=fun σ H Q=>te σ H fun x H1=>∃ b a ys,x=.ref a/\SqB b K H1 a ys/\∀ l,H1 l=none->Q (.ref l) (upd H1 l (.lst ys.reverse))
theorem m9 {pins:List (Tn×VN)} {σ:St} {H:Hp} {s:Tv} {Q:VK} {b:Bool} {a:Tn} {ys:List V} (hc:X.calm=true) (I:Inv X pins σ H s) (hq:SqB b X.K H a ys) (q:∀ l,H l=none->Q (.ref l) (upd H l (.lst ys.reverse))) :
 TM (Ug X.prog X.w) X.A (call (.type "reversed") [.ref a]) (fun u s1=>TM (Ug X.prog X.w) X.A (call (.type "list") [u]) (EP X pins σ Q) X.xe s1) X.xe s:=by
 have hn:=fu;have hh:X.A.in1.in1.handled=none:=I.ok.hd hc
 have fin:∀ {its:List Tp} {s1:Tv} {h':US} {tk:Nat} {acc:Array Tp} {c:Nat},Vals ys its->ys.length<=TN->s1.heap.objs.size=s.heap.objs.size+1->s1.os=s.os->s1.gens=s.gens->s1.drawn=s.drawn->(∀ b o,s.heap.get? b=some o->s1.heap.get? b=some o) →
  (∀ b o,b∉[s.heap.objs.size]->s1.heap.get? b=some o->h'.get? b=some o)->h'.get? s1.heap.objs.size=some { cls:=.type "list",dict:=none,data:=.seq acc c,slots:=#[] }->ItemsOf (fun i v=>its.toArray[its.toArray.size - 1 - i]?=some v) acc its.toArray.size →
  EP X pins σ Q (.ref s1.heap.objs.size) { s1 with heap:=h',toks:=tk }:=fun {its s1 h' tk acc c} rv hz es eo eg ed k1 kp hS xX=>by
  have Ke:({ s1 with heap:=h',toks:=tk }:Tv)={ s with heap:=h',toks:=tk }:=by
   obtain ⟨a1,a2,a3,a4,a5⟩:=s1;have e1:a5=s.os:=eo;have e2:a2=s.gens:=eg;have e3:a3=s.drawn:=ed;subst e1;subst e2;subst e3;rfl
  have hp:s.heap.objs.size<=s1.heap.objs.size:=by rw [es];exact Nat.le_succ _
  refine ⟨.ref s1.heap.objs.size,upd H s1.heap.objs.size (.lst ys.reverse),?_,rfl,q _ (I.hok.fresh hp)⟩;rw [Ke];refine I.laid (t':=tk) (fun b o e=>kp b o (fun z=>?_) (k1 b o e)) hp ⟨by rw [UT];exact hz,acc.toList,c,tj rv xX,hS⟩;exact absurd (TJ e) (by rw [TY.mp z];exact U8 _)
 cases b
 · have Kj:SqT X.K H a ys:=hq;obtain ⟨its,rv,p,hz⟩:=I.tuple Kj;have hl:=rv.length;refine bb_call_rev_tuple p (by rw [Tz];omega) fun tk=>?_;obtain ⟨oa,BK,ca,da⟩:=id p;have yd:a≠s.heap.objs.size:=Ui (TJ BK)
   refine bb_list_walk (T:="reversed") (bb_walk_revT hh s.heap.objs.size a yd its.toArray (by rw [Tz];omega)) (fun i s st=>st.2.1.typeIs) (by decide) (by decide) (bb_hint_rev (by rw [Tz];omega))
    ⟨T4 _,?_,⟨oa,Tr _ BK,ca,da⟩⟩ (fun b hb=>?_) (by simp) (by rw [Tz];omega) fun h' tk acc c kp hS xX=>fin rv hz (UR ..) rfl rfl rfl (fun b o e=>Tr _ e) kp hS xX
   · rw [show (its.toArray.size:Int) - 1 - ((0:Nat):Int)=(its.toArray.size:Int) - 1 by omega];exact ⟨_,TC _ rfl,rfl,rfl⟩
   · show b<(s.heap.push _).objs.size;rw [UR];rcases TR.mp hb with e | e
     · rw [e];exact Nat.lt_succ_self _
     · rw [TY.mp e];exact Xn (TJ BK)
 · have Kj:SqL X.K H a ys:=hq;obtain ⟨its,rv,p,hz⟩:=I.list Kj;have hl:=rv.length;refine call_reversed_list p.isList ?_;obtain ⟨oa,BK,ca,na,da⟩:=id p.isList;have yd:a≠s.heap.objs.size:=Ui (TJ BK)
   refine bb_list_walk (T:="list_reverseiterator") (Walks.listRev hh s.heap.objs.size a yd its.toArray) (fun i s st=>st.2.1.typeIs) (by decide) (by decide) bb_hint_lri
    ⟨T4 _,?_,⟨oa,Tr _ BK,ca,na,da⟩⟩ (fun b hb=>?_) (by simp) (by rw [Tz];omega) fun h' tk acc c kp hS xX=>fin rv hz (UR ..) rfl rfl rfl (fun b o e=>Tr _ e) kp hS xX
   · rw [show (its.toArray.size:Int) - 1 - ((0:Nat):Int)=(its.toArray.size:Int) - 1 by omega];exact ⟨_,TC _ rfl,rfl,rfl⟩
   · show b<(s.heap.push _).objs.size;rw [UR];rcases TR.mp hb with e | e
     · rw [e];exact Nat.lt_succ_self _
     · rw [TY.mp e];exact Xn (TJ BK)
theorem lA (hc:X.calm=true) (g1:Gl X "list") (m1:X.mg "list"=none) (g2:Gl X "reversed") (m2:X.mg "reversed"=none) (he:PE X e te)
 (h1:UD [.Call (.Name "reversed" p2) [e] [] yh] X.env=[(false,VY (.Call (.Name "reversed" p2) [e] [] yh) X.env)]:=by rfl) (h2:UD [e] X.env=[(false,VY e X.env)]:=by rfl) :
 PE X (.Call (.Name "list" p) [.Call (.Name "reversed" p2) [e] [] yh] [] pos) (sS X.K te):=by
 intro pins s σ H Q I h;refine Ve (cU I g1 m1 boot_list (UB ?_ h1 rfl));rw [h1];show TM _ _ (spliced ((false,VY (.Call (.Name "reversed" p2) [e] [] yh) X.env)::[])) _ _ s;refine Vg ?_;refine Ve (cU I g2 m2 boot_reversed (UB ?_ h2 rfl));rw [h2];show TM _ _ (spliced ((false,VY e X.env)::[])) _ _ s;refine Vg (thn (he pins s σ H _ I h) fun u s1 ⟨x,H1,I1,r1,b,a,ys,ex,hq,q⟩=>?_);subst ex;cases r1;refine VJ ?_;refine thn (m9 hc I1 hq q) fun v s2 h2=>VJ ?_;exact h2
def Itv (K:Tg) (a:Tn) (n:Nat):It:=⟨fun i H=>i<n/\∃ xs,SqL K H a xs/\xs.length=n,fun i H x H'=>H'=H/\∀ xs,SqL K H a xs->xs[n - 1 - i]?=some x,fun i _=>i=n⟩
theorem tw {P:TF} {w:T3} {K:Tg} {tg:UP} (a it:Tn) (n:Nat):Turn P w K tg (Itv K a n) [it] it (fun i h=>h.IsRevIter it a ((n:Int) - 1 - (i:Nat))) where
 mem:=by simp
 obj:=fun i h st b hb=>by
  have e:b=it:=by simpa using hb
  subst e;obtain ⟨o,e,c,d⟩:=st;exact ⟨o,e,fun v z=>by rw [d] at z;cases z⟩
 keep:=fun i h h' st k=>st.at fun o e=>k it (by simp) o e
 item:=by
  intro X hP hw hK hc i pins s σ H E I hf st hg;subst hP hw hK;obtain ⟨hi,xs,hq,hx⟩:=hg;obtain ⟨its,rv,p,hz⟩:=I.list hq;have hl:=rv.length;obtain ⟨x,BL⟩:∃ x,xs[n - 1 - i]?=some x:=⟨_,Ti (by omega)⟩;obtain ⟨u,hu,ru⟩:=rv.get BL;obtain ⟨f0,f1,f2,f3,f4,f5⟩:=hf it (by simp);have e1:(n:Int) - 1 - (i:Nat)=((n - 1 - i:Nat):Int):=by omega
  rw [e1] at st;refine wpAny_pyNext_rev_item st p.isList (x:=u) (by simpa using hu) fun h' BG sb=>?_;have I1:Inv X pins σ H { s with heap:=h' }:=I.turned (t':=s.toks) (fun b o hb e=>(sb.2 b hb).trans e) f0 f1 f3 f4 f5;have e2:((n - 1 - i:Nat):Int) - 1=(n:Int) - 1 - ((i+1:Nat):Int):=by omega
  rw [e2] at BG;obtain ⟨o,e,c,d⟩:=id BG;exact ⟨u,rfl,re (s:={ s with heap:=h' }) e c d (by decide) ⟨x,H,I1,ru,⟨rfl,fun ys hy=>by rw [I.list_inj hy hq];exact BL⟩,BG,fun b hb=>(hf b hb).1⟩⟩
 done:=by
  intro X hP hw hK hc i pins s σ H E I hf st hg;subst hP hw hK;have Kk:i=n:=hg;subst Kk;obtain ⟨f0,f1,f2,f3,f4,f5⟩:=hf it (by simp);rw [show (i:Int) - 1 - (i:Nat)=-1 by omega] at st;exact wpAny_pyNext_rev_end (I.ok.hd hc) st fun h' eb=>⟨rfl,I.turned (t':=s.toks) (fun b o hb e=>eb b o hb e) f0 f1 f3 f4 f5⟩
 self:=fun _ _ _ _ _ st h=>wpAny_pyIter_revIter st h
def xI (K:Tg) (tl:TE):TI:=fun σ H R=>tl σ H fun x H1=>∃ a xs,x=.ref a/\SqL K H1 a xs/\R (Itv K a xs.length) H1
theorem v9 {tg:UP} (g2:Gl X "reversed") (m2:X.mg "reversed"=none) (he:PE X e te) (h2:UD [e] X.env=[(false,VY e X.env)]:=by rfl):PI X tg (.Call (.Name "reversed" p2) [e] [] yh) (xI X.K te):=by
 intro pins s σ H R I h;refine Ve (cU I g2 m2 boot_reversed (UB ?_ h2 rfl));rw [h2];show TM _ _ (spliced ((false,VY e X.env)::[])) _ _ s;refine Vg (thn (he pins s σ H _ I h) fun u s1 ⟨x,H1,I1,r1,a,ys,ex,hq,q⟩=>VJ ?_);subst ex;cases r1;obtain ⟨its,rv,p,hz⟩:=I1.list hq;have hl:=rv.length;refine call_reversed_list p.isList ?_
 have hit:(s1.heap.push (revObj a ((its.toArray.size:Int) - 1))).IsRevIter s1.heap.objs.size a ((ys.length:Int) - 1 - ((0:Nat):Int)):=by
  rw [hl,show (its.length:Int) - 1 - ((0:Nat):Int)=(its.toArray.size:Int) - 1 by rw [Tz];omega];exact ⟨_,TC _ rfl,rfl,rfl⟩
 refine wpAny_pyIter_revIter (s:={ s1 with heap:=s1.heap.push (revObj a ((its.toArray.size:Int) - 1)) }) hit ?_;refine ⟨s1.heap.objs.size,[s1.heap.objs.size],_,_,H1,rfl,I1.kept (t':=s1.toks) fun b o e=>Tr _ e,tw a _ ys.length,hit,fun b hb=>?_,q⟩;have e:b=s1.heap.objs.size:=by simpa using hb
 subst e;exact I1.fpOk (To _) (I1.hok.fresh (To _))
theorem uM {K:Tg} {a:Tn} {xs:List V} {g:TG} {tb:TS} {D:Ends} {σ:St} {H:Hp} (Pv:Nat->St->Hp->Prop) (h0:Pv 0 σ H) (hl:∀ i σ H,i<=xs.length->Pv i σ H->SqL K H a xs)
 (hs:∀ i x σ H,i<xs.length->xs[xs.length - 1 - i]?=some x->Pv i σ H->g x σ H fun yc H2=>tb { D with nx:=Pv (i+1),ct:=Pv (i+1),bk:=D.nx } yc H2) (hd:∀ σ H,Pv xs.length σ H->D.nx σ H) :
 ∃ W:Nat->Nat->St->Hp->Prop,(∃ m,W 0 m σ H)/\∀ i m σ H,W i m σ H →
   ((Itv K a xs.length).stop i H/\D.nx σ H)∨((Itv K a xs.length).go i H/\∃ N:St->Hp->Prop,(∀ xM H',N xM H'->∃ m',m'<m/\W (i+1) m' xM H')/\∀ x H',(Itv K a xs.length).yld i H x H'->g x σ H' fun yc H2=>tb { D with nx:=N,ct:=N,bk:=D.nx } yc H2):=by
 refine ⟨fun i m σ H=>i<=xs.length/\m=xs.length - i/\Pv i σ H,⟨xs.length,T4 _,rfl,h0⟩,?_⟩;rintro i m σ H ⟨hi,rfl,p⟩;by_cases h:i=xs.length
 · left;exact ⟨h,hd σ H (by rw [<- h];exact p)⟩
 · right;have yq:i<xs.length:=by omega
   refine ⟨⟨yq,xs,hl i σ H hi p,rfl⟩,Pv (i+1),fun xM H' q=>⟨xs.length - (i+1),by omega,by omega,rfl,q⟩,?_⟩;rintro x H' ⟨rfl,hx⟩;exact hs i x σ H' yq (hx xs (hl i σ H' hi p)) p
end
end L2
namespace BB
open PySem L2
inductive Th where
 | knot (n:T6) (ks:List Th)
 | call (s k:Int)
def q:T6:=Tu "?"
def Th.kids:Th->List Th
 | .knot _ ks=>ks
 | .call _ _=>[]
mutual
def Th.size:Th->Nat
 | .knot _ ks=>aq ks+1
 | .call _ _=>1
def aq:List Th->Nat
 | []=>0
 | t::ts=>t.size+aq ts
end
mutual
def Th.tall:Th->Nat
 | .knot _ ks=>bf ks+1
 | .call _ _=>1
def bf:List Th->Nat
 | []=>0
 | t::ts=>max t.tall (bf ts)
end
mutual
/-- by places FI -/
def Th.walk:Th->List Th
 | .knot n ks=>.knot n ks::walks ks
 | .call s k=>[.call s k]
def walks:List Th->List Th
 | []=>[]
 | t::ts=>t.walk++walks ts
end
theorem Th.walk_eq (t:Th):t.walk=t::walks t.kids:=by
 cases t with
 | knot n ks=>rw [Th.walk];rfl
 | call s k=>rw [Th.walk];simp [Th.kids,walks]
theorem Th.size_eq (t:Th):t.size=aq t.kids+1:=by
 cases t with
 | knot n ks=>rw [Th.size];rfl
 | call s k=>rw [Th.size];simp [Th.kids,aq]
theorem Th.tall_eq (t:Th):t.tall=bf t.kids+1:=by
 cases t with
 | knot n ks=>rw [Th.tall];rfl
 | call s k=>rw [Th.tall];simp [Th.kids,bf]
theorem iZ:∀ a b:List Th,walks (a++b)=walks a++walks b
 | [],b=>by simp [walks]
 | t::a,b=>by rw [VA,walks,walks,iZ a b,Uy]
theorem b8:∀ a b:List Th,aq (a++b)=aq a+aq b
 | [],b=>by simp [aq]
 | t::a,b=>by rw [VA,aq,aq,b8 a b,X9]
mutual
theorem Th.walk_len:∀ t:Th,t.walk.length=t.size
 | .knot n ks=>by rw [Th.walk,Th.size,Tx,jd ks]
 | .call s k=>by rw [Th.walk,Th.size];rfl
theorem jd:∀ ts:List Th,(walks ts).length=aq ts
 | []=>rfl
 | t::ts=>by rw [walks,aq,TZ,t.walk_len,jd ts]
end
theorem Th.size_pos (t:Th):1<=t.size:=by rw [t.size_eq];omega
mutual
def At (H:Hp):Th->Tn->Prop
 | .knot n ks,a=>n≠q/\∃ as:List Tn,H a=some (.tup (.str n::as.map V.ref))/\Ats H ks as
 | .call s k,a=>H a=some (.tup [.str q,.int s,.int k])
def Ats (H:Hp):List Th->List Tn->Prop
 | [],as=>as=[]
 | t::ts,as=>∃ a r,as=a::r/\At H t a/\Ats H ts r
end
def KT (H H':Hp):Prop:=∀ b xs,H b=some (.tup xs)->H' b=some (.tup xs)
theorem KT.trans {H H1 H2:Hp} (a:KT H H1) (b:KT H1 H2):KT H H2:=fun c o h=>b c o (a c o h)
theorem Same.kt {H H':Hp} (h:L2.Same H H'):KT H H':=fun b xs e=>h b _ e
theorem dG {H:Hp} {l:Tn} {o:HO} (h:H l=none):KT H (upd H l o):=fun b xs e=>by rw [ak (aL e h)];exact e
theorem aT {H:Hp} {l:Tn} {o:HO} {xs:List V} (h:H l=some (.lst xs)):KT H (upd H l o):=fun b ys e=>by rw [ak (gR e h (by intro z;cases z))];exact e
mutual
theorem At.mono {H H':Hp} (k:KT H H'):∀ {t:Th} {a:Tn},At H t a->At H' t a
 | .knot n ks,a,h=>by
   rw [At] at h ⊢;obtain ⟨h0,as,h1,h2⟩:=h;exact ⟨h0,as,k _ _ h1,Ats.mono k h2⟩
 | .call s c,a,h=>by
   rw [At] at h ⊢;exact k _ _ h
theorem Ats.mono {H H':Hp} (k:KT H H'):∀ {ts:List Th} {as:List Tn},Ats H ts as->Ats H' ts as
 | [],as,h=>by rw [Ats] at h ⊢;exact h
 | t::ts,as,h=>by
   rw [Ats] at h ⊢;obtain ⟨a,r,e,h1,h2⟩:=h;exact ⟨a,r,e,At.mono k h1,Ats.mono k h2⟩
end
theorem Ats.nil {H:Hp}:Ats H [] []:=by rw [Ats]
theorem Ats.cons {H:Hp} {t:Th} {ts:List Th} {a:Tn} {as:List Tn} (h1:At H t a) (h2:Ats H ts as):Ats H (t::ts) (a::as):=by rw [Ats];exact ⟨a,as,rfl,h1,h2⟩
theorem Ats.length {H:Hp}:∀ {ts:List Th} {as:List Tn},Ats H ts as->as.length=ts.length
 | [],as,h=>by rw [Ats] at h;subst h;rfl
 | t::ts,as,h=>by
   rw [Ats] at h;obtain ⟨a,r,rfl,h1,h2⟩:=h;rw [Tx,Tx,h2.length]
theorem Ats.get {H:Hp}:∀ {ts:List Th} {as:List Tn} {i:Nat} {a:Tn},Ats H ts as->as[i]?=some a->∃ t,ts[i]?=some t/\At H t a
 | [],as,i,a,h,e=>by rw [Ats] at h;subst h;simp at e
 | t::ts,as,i,a,h,e=>by
   rw [Ats] at h;obtain ⟨b,r,rfl,h1,h2⟩:=h;cases i with
   | zero=>simp at e;subst e;exact ⟨t,rfl,h1⟩
   | succ i=>exact h2.get (i:=i) (by simpa using e)
theorem Ats.at {H:Hp}:∀ {ts:List Th} {as:List Tn} {i:Nat} {t:Th},Ats H ts as->ts[i]?=some t->∃ a,as[i]?=some a/\At H t a
 | [],as,i,a,h,e=>by simp at e
 | t::ts,as,i,a,h,e=>by
   rw [Ats] at h;obtain ⟨b,r,rfl,h1,h2⟩:=h;cases i with
   | zero=>simp at e;subst e;exact ⟨b,rfl,h1⟩
   | succ i=>exact h2.at (i:=i) (by simpa using e)
end BB
namespace BB
open PySem L2
end BB
namespace BB
open PySem L2
def dq:T6:=Tu "abcdefghijklmnopqrstuvwxyz"
theorem pD:dq.cps.toList=(Ue 26).map (97+·):=by decide +kernel
theorem jI:dq.length=26:=by decide +kernel
theorem at_nonneg {α:Type} {xs:List α} {i:Int} {v:α} (h0:0<=i) (h:xs[i.toNat]?=some v):atI xs i=some v:=by
 have e:i=((i.toNat:Nat):Int):=by omega
 rw [e];exact bK h
theorem mo {i:Int} (h0:0<=i) (h1:i<26):atI dq.cps.toList i=some (97+i.toNat):=by
 refine at_nonneg h0 ?_;rw [pD,Tw,Uv (by omega)];rfl
def Low (x:T6):Prop:=∀ c∈x.cps.toList,97<=c/\c<=122
theorem mY {x:T6} (h:Low x) (lo hi:Option Int):Low (dU x lo hi):=by
 intro c hc;have y8:c∈jM x.cps.toList lo hi:=by simpa [dU] using hc
 exact h c (List.mem_of_mem_drop (YD y8))
theorem m5 {x y:T6} (hx:Low x) (hy:Low y):Low (x++y):=by
 intro c hc;have y8:c∈(x.cps++y.cps).toList:=hc;rw [W3,UA] at y8;rcases y8 with h | h
 · exact hx c h
 · exact hy c h
theorem jU {c:Nat} (h1:97<=c) (h2:c<=122):Low ⟨#[c]⟩:=by
 intro d hd;have:d=c:=by simpa using hd
 omega
theorem jC {x:T6} (h:Low x):x≠q:=by
 intro e;subst e;have:=h 63 (by decide +kernel);omega
end BB
namespace L2
open PySem PySem.Spec PyProof.Rows
theorem Same.seqT {K:Tg} {H H':Hp} {a:Tn} {xs:List V} (e:Same H H') (h:SqT K H a xs):SqT K H' a xs:=by
 rcases h with (h | ⟨o,h⟩) | h
 · exact .inl (.inl (e _ _ h))
 · exact .inl (.inr ⟨o,e _ _ h⟩)
 · exact .inr h
theorem ad {H:Hp} {p:Tn} (h:H p=none) (o:HO):Same H (upd H p o):=fun b u q=>by rw [ak (aL q h)];exact q
theorem aw {H H1:Hp} {l:Tn} {o:HO} (h:Same H H1) (n:H l=none):Same H (upd H1 l o):=fun b u e=>by rw [ak (aL e n)];exact h b u e
end L2
namespace BB
open PySem L2
theorem at0 {α:Type} {x:α} {xs:List α}:atI (x::xs) 0=some x:=bK (j:=0) rfl
theorem at1 {α:Type} {x y:α} {xs:List α}:atI (x::y::xs) 1=some y:=bK (j:=1) rfl
theorem at2 {α:Type} {x y z:α} {xs:List α}:atI (x::y::z::xs) 2=some z:=bK (j:=2) rfl
theorem eQ (x:V) (xs:List V):du (x::xs) (some 1) none=xs:=by
 unfold du;simp [HT.sIx]
theorem bS:∀ ts:List Th,ts.length<=aq ts
 | []=>T4 _
 | t::ts=>by
   have:=t.size_pos;have:=bS ts;rw [Tx,aq];omega
theorem l7 (ts:List Th):aq ts.reverse=aq ts:=by
 induction ts with
 | nil=>rfl
 | cons x xs ih=>rw [UJ,b8,ih,aq,aq,aq];omega
theorem aK {n:Nat} (h:n<=1000000):n<TN:=YU h (by decide)
theorem ai {n:Nat} (h:n<=1000000):n<=TN:=WW (aK h)
theorem int_at {ns:List Int} {k:Int} (h0:0<=k) (h:k<(ns.length:Int)):atI (ns.map V.int) k=some (.int (ns.getD k.toNat 0)):=by
 refine at_nonneg h0 ?_;have hk:k.toNat<ns.length:=by omega
 rw [Tw,Ti hk,List.getD_eq_getElem?_getD,Ti hk];rfl
end BB
namespace BB
open PySem L2
section
variable {α β:Type} {F G:α->β->Prop}
theorem P2.append:∀ {a c:List α} {b d:List β},Ud F a b->Ud F c d->Ud F (a++c) (b++d)
 | _,_,_,_,.nil,h=>h
 | _,_,_,_,.cons r t,h=>.cons r (P2.append t h)
theorem P2.get:∀ {a:List α} {b:List β} {i:Nat} {x:α},Ud F a b->a[i]?=some x->∃ y,b[i]?=some y/\F x y
 | _,_,_,_,.nil,e=>by simp at e
 | _,_,0,_,.cons r _,e=>by simp at e;subst e;exact ⟨_,rfl,r⟩
 | _,_,i+1,x,.cons _ t,e=>by
   obtain ⟨u,h1,h2⟩:=P2.get (i:=i) (x:=x) t (by simpa using e);exact ⟨u,by simpa using h1,h2⟩
theorem P2.get':∀ {a:List α} {b:List β} {i:Nat} {y:β},Ud F a b->b[i]?=some y->∃ x,a[i]?=some x/\F x y
 | _,_,_,_,.nil,e=>by simp at e
 | _,_,0,_,.cons r _,e=>by simp at e;subst e;exact ⟨_,rfl,r⟩
 | _,_,i+1,y,.cons _ t,e=>by
   obtain ⟨u,h1,h2⟩:=P2.get' (i:=i) (y:=y) t (by simpa using e);exact ⟨u,by simpa using h1,h2⟩
theorem P2.mp (f:∀ x y,F x y->G x y):∀ {a:List α} {b:List β},Ud F a b->Ud G a b
 | _,_,.nil=>.nil
 | _,_,.cons r t=>.cons (f _ _ r) (P2.mp f t)
end
def KAt (H:Hp) (k:T6×Int) (a:Tn):Prop:=H a=some (.tup [.str k.1,.int k.2])
def KsAt (H:Hp) (ks:List (T6×Int)) (as:List Tn):Prop:=Ud (KAt H) ks as
theorem KsAt.mono {H H':Hp} (k:KT H H') {ks:List (T6×Int)} {as:List Tn} (h:KsAt H ks as):KsAt H' ks as:=P2.mp (fun x y e=>k _ _ e) h
end BB
namespace L2
open PySem
theorem fh {t u:TS} {D:Ends} {σ:St} {H:Hp} (R:St->Hp->Prop) (h1:∀ k:St->Hp->Prop,(∀ xM H',R xM H'->k xM H')->t { D with nx:=k } σ H) (h2:∀ xM H',R xM H'->u D xM H'):v6 t u D σ H:=h1 _ h2
theorem df {c:TT} {t u:TS} {D:Ends} {σ:St} {H:Hp} (R:Bool->Hp->Prop) (h1:∀ k:Bool->Hp->Prop,(∀ b H',R b H'->k b H')->c σ H k) (h2:∀ H',R true H'->t D σ H') (h3:∀ H',R false H'->u D σ H'):wY c t u D σ H :=
 h1 _ fun b H' r=>by
  cases b with
  | true=>rw [if_pos rfl];exact h2 H' r
  | false=>rw [if_neg TV];exact h3 H' r
end L2
namespace BB
open PySem L2
section
variable {ext:Th->List V} {H H':Hp} {t:Th} {a:Tn} {ts:List Th} {es:List Tn}
end
theorem filter_tt {α:Type} (xs:List α):xs.filter (fun _=>true)=xs:=by
 induction xs with
 | nil=>rfl
 | cons x xs ih=>rw [Vz,if_pos rfl,ih]
theorem bv:∀ {ts:List Th} {t:Th},t∈ts->t.tall<=bf ts
 | u::ts,t,h=>by
   rw [bf];rcases TR.mp h with rfl | h
   · omega
   · have:=bv h;omega
theorem rg {xs:List V} {n:Nat} (h:n<=xs.length):du xs (some (n:Int)) none=xs.drop n:=by
 unfold du;rw [HT.sIx_nat,HT.sIx_none,XI h];exact UY (by rw [Vf];exact To _)
theorem take_snoc {α:Type} {xs:List α} {n:Nat} {x:α} (h:xs[n]?=some x):xs.take (n+1)=xs.take n++[x]:=by rw [UZ,h];rfl
theorem aZ {xs:List Tn} {i:Nat} {x:V} (h:(xs.map V.ref)[i]?=some x):∃ a,x=.ref a/\xs[i]?=some a:=by
 rw [Tw] at h;obtain ⟨a,h1,h2⟩:=T8.mp h;exact ⟨a,h2.symm,h1⟩
end BB
namespace PySem
open Sem (wp)
section
variable {prog:TF} {w:T3} {A:Ut} {E:Tp->Tv->Prop} {s:Tv}
theorem bb_tupNext {cur tp:Tn} {i:Nat} {items:Array Tp} {x:Tp} {Q:Tp->Tv->Prop} (g:s.heap.IsTupleIter cur tp i) (gt:s.heap.IsTuple tp items) (hx:items[i]?=some x)
 (fin:∀ h',h'.IsTupleIter cur tp (i+1)->Vq cur s.heap h'->Q x { s with heap:=h' }):TM (Ug prog w) A (UC (.ref cur)) Q E s:=by
 obtain ⟨ob,e1,e2,e3⟩:=id g;obtain ⟨ot,e4,_,nt,e5⟩:=gt;unfold UC;refine Tf (UI (name:=Tu "__next__") g.typeIs W8 (UM W8 g.typeIs F.entry_tuple_iterator_next ?_ (F.args_tuple_iterator_next_1 _)));show TM _ _ (field (.ref cur) 0 >>= _) _ _ s;refine Tf (Uz e1 e3 (x:=.ref tp) rfl ?_);show TM _ _ (if (Uc tp == U4)=true then _ else _) _ _ s;rw [if_neg (show ¬ ((Uc tp == U4)=true) from TV)];show TM _ _ (field (.ref cur) 1 >>= _) _ _ s;refine Tf (Uz e1 e3 (x:=.int i 0) rfl ?_);show TM _ _ (seqItems? (.ref tp) >>= _) _ _ s;refine Tf (U2 e4 e5 ?_);simp only [Vh,hx];refine Tf (W4 e1 e3 (by simp) (Tt ⟨x,rfl,Tt (fin _ ?_ (VL ..))⟩));exact ⟨_,Uq _ e1 (XJ (VS e3 _)),(Obj.cls_mapFields ..).trans e2,by rw [VS e3];simp [VX]⟩
theorem bb_tupEnd {cur tp:Tn} {i:Nat} {items:Array Tp} {Q:Tp->Tv->Prop} (calm:A.handled=none) (g:s.heap.IsTupleIter cur tp i) (gt:s.heap.IsTuple tp items) (hx:items[i]?=none)
 (fin:∀ h' e,Y9 cur s.heap h'->(∃ o,h'.get? e=some o/\o.cls=.type "StopIteration")->E (.ref e) { s with heap:=h' }):TM (Ug prog w) A (UC (.ref cur)) Q E s:=by
 obtain ⟨ob,e1,e2,e3⟩:=id g;obtain ⟨ot,e4,_,nt,e5⟩:=gt;unfold UC;refine Tf (UI (name:=Tu "__next__") g.typeIs W8 (UM W8 g.typeIs F.entry_tuple_iterator_next ?_ (F.args_tuple_iterator_next_1 _)));show TM _ _ (field (.ref cur) 0 >>= _) _ _ s;refine Tf (Uz e1 e3 (x:=.ref tp) rfl ?_);show TM _ _ (if (Uc tp == U4)=true then _ else _) _ _ s;rw [if_neg (show ¬ ((Uc tp == U4)=true) from TV)];show TM _ _ (field (.ref cur) 1 >>= _) _ _ s;refine Tf (Uz e1 e3 (x:=.int i 0) rfl ?_);show TM _ _ (seqItems? (.ref tp) >>= _) _ _ s;refine Tf (U2 e4 e5 ?_);simp only [Vh,hx];refine Tf (Wm (Tf (W4 e1 e3 (by simp) ?_)));show TM _ _ (newExc (.type "StopIteration") [] >>= _) _ _ _;refine Tf ?_;simp only [newExc,newTuple];refine Tf (UL ?_ (by size_fits));refine Tf (m:=XB _ _) (WI (a:=U4) (by first | rfl | (simp only [XB];rfl)) ?_);refine UL ?_ (by size_fits);simp only [raiseNew];refine Tf (wpAny_handled ?_)
 first | rw [show A.in1.handled=none from calm] | rw [calm]
 refine Tf (Tt (wpAny_throw ?_));exact fin _ _ (((VL ..).extBut.push _).push _) ⟨_,TC _ rfl,rfl⟩
end
theorem bb_drawsT {prog:TF} {w:T3} {A:Ut} (calm:A.handled=none) (cur tp:Tn) (ne:tp≠cur) (items:Array Tp) :
 Draws prog w A cur [cur,tp] items.size (fun i v=>items[i]?=some v) (fun i h=>h.IsTupleIter cur tp i/\h.IsTuple tp items) where
 live:=fun _ _ st=>let ⟨o,e,_⟩:=st.1;⟨o,e⟩
 frame:=fun _ _ _ st k=>⟨let ⟨o,e,r⟩:=st.1;⟨o,k cur (by simp) o e,r⟩,let ⟨o,e,r⟩:=st.2;⟨o,k tp (by simp) o e,r⟩⟩
 item:=fun i s Q E hi st q=>by
  refine bb_tupNext st.1 st.2 (x:=items[i]) (by simp [hi]) fun h' g' sb=>?_;exact q _ h' s.toks (by simp [hi]) ⟨g',st.2.extBut sb.extBut ne⟩ sb
 done:=fun s Q E st e=>bb_tupEnd calm st.1 st.2 (by simp) e
theorem bb_meetsEnumT (tp:Tn) (items:Array Tp) (n:Nat) (Kl:Option Tn) (sl:Array (Option Tp)) :
 Meets (We.«enumerate.__new__» ⟨[.type "enumerate",.ref tp],[]⟩) (fun _ R s=>s.heap.get? tp=some { cls:=.type "tuple",dict:=Kl,data:=.seq items n,slots:=sl } ∧
  R (.ok (.ret (.ref (s.heap.push { cls:=.type "tuple_iterator",data:=.fields #[.ref tp,.int 0 0] }).objs.size)))
    { s with heap:=(s.heap.push { cls:=.type "tuple_iterator",data:=.fields #[.ref tp,.int 0 0] }).push { cls:=.type "enumerate",data:=.fields #[.none,.bool false,.ref s.heap.objs.size,VX 0,.none,.none] } }) :=
 .of_wp fun prog w A R s h=>by
  obtain ⟨hp,g,d,tk,os⟩:=s;obtain ⟨gt,fin⟩:=h;have su:=sub_enumerate;have gT:Heap.IsTuple (Shared.heap ⟨hp,g,d,tk,os⟩) tp items:=⟨_,gt,rfl,n,rfl⟩
  wp_walk using VW gt
  refine wpAny_stack_any fun st=>Tt ?_;split
  · rename_i c _ _ _ _ _
    cases (c == VZ "enumerate")
    · wp_walk using VW gt,WJ gT
      exact ⟨_,rfl,fin⟩
    · wp_walk using VW gt,WJ gT
      exact ⟨_,rfl,fin⟩
  · wp_walk using VW gt,WJ gT
    exact ⟨_,rfl,fin⟩
section
variable {prog:TF} {w:T3} {A:Ut} {E:Tp->Tv->Prop} {s:Tv}
theorem bb_callEnumT {tp:Tn} {items:Array Tp} {Q:Tp->Tv->Prop} (gT:s.heap.IsTuple tp items)
 (fin:∀ h',IsEnum h' (s.heap.objs.size+1) s.heap.objs.size 0 .none->h'.IsTupleIter s.heap.objs.size tp 0->h'.objs.size=s.heap.objs.size+2 →
  (∀ b o,s.heap.get? b=some o->h'.get? b=some o)->Q (.ref (s.heap.objs.size+1)) { s with heap:=h' }):TM (Ug prog w) A (call (.type "enumerate") [.ref tp]) Q E s:=by
 obtain ⟨⟨c,Kl,dt,sl⟩,e1,e2,n,e3⟩:=gT;replace e2:c=.type "tuple":=e2;replace e3:dt=.seq items n:=e3;subst e2 e3;refine callType_new F.called_enumerate (by decide) (F.typeCall_enumerate_1 _) (F.newCall_enumerate_1 _) (fun obj=>F.args_object_init_2 obj _) F.entry_enumerate_new (bb_meetsEnumT tp items n Kl sl) ⟨e1,?_⟩;have z:(s.heap.push { cls:=.type "tuple_iterator",data:=.fields #[.ref tp,.int 0 0] }).objs.size=s.heap.objs.size+1:=UR ..;show _/\_;rw [z]
 have ge:IsEnum ((s.heap.push { cls:=.type "tuple_iterator",data:=.fields #[.ref tp,.int 0 0] }).push { cls:=.type "enumerate",data:=.fields #[.none,.bool false,.ref s.heap.objs.size,VX 0,.none,.none] }) (s.heap.objs.size+1) s.heap.objs.size 0 .none:=by
  have t:=TC (s.heap.push { cls:=.type "tuple_iterator",data:=.fields #[.ref tp,.int 0 0] }) (o:={ cls:=.type "enumerate",data:=.fields #[.none,.bool false,.ref s.heap.objs.size,VX 0,.none,.none] }) rfl;rw [z] at t;exact t
 exact ⟨⟨_,ge,rfl⟩,fin _ ge ⟨_,Tr _ (TC _ rfl),rfl,rfl⟩ (by rw [UR,z]) fun b o x=>Tr _ (Tr _ x)⟩
end
end PySem
namespace L2
open PySem PySem.Spec PyProof.Rows
theorem Inv.turnedL {X:Cx} {pins:List (Tn×VN)} {σ:St} {H:Hp} {s:Tv} {h':US} {t':Nat} {fp:List Tn} (I:Inv X pins σ H s) (k:∀ b o,b∉fp->s.heap.get? b=some o->h'.get? b=some o) (hf:∀ b∈fp,jN X pins H b) :
 Inv X pins σ H { s with heap:=h',toks:=t' }:=by
 have Ge:∀ b u,H b=some u->b∉fp:=fun b u e z=>by rw [(hf b z).1] at e;cases e
 refine I.step (g':=s.gens) (d':=s.drawn) (ch:=fp) (fun b hb=>?_) (fun b o _ _ hc e _=>k b o hc e) (fun b o _ _ hc e _=>⟨o.slots,k b o hc e⟩) (fun _ _ _ _ n=>n)
  (fun b o hc e=>⟨o,k b o hc e⟩) (fun _ _ e=>e) (fun _ _ _ e=>e) (fun b ps e=>⟨#[],by rw [e];simp⟩) (fun m hm=>?_) (fun b u e=>?_) I.bare
 · obtain ⟨f0,f1,f2,f3,f4,f5⟩:=hf b hb;exact ⟨f3,f1,f4,f5⟩
 · obtain ⟨o,es,ep,ho,r⟩:=hm;exact ⟨o,es,ep,k _ o (fun z=>(hf _ z).2.1 rfl) ho,r⟩
 · refine (I.hok b u e).stay (fun c v hc q=>k c v ?_ q) (fun _ q=>q) fun _ _ q=>q;rcases hc with z | z
   · rw [z];exact Ge b u e
   · exact Ge c _ z
def Ite (K:Tg) (a:Tn):It:=⟨fun i H=>∃ xs x,SqT K H a xs/\xs[i]?=some x,fun i H x H'=>∃ p y,H p=none/\x=.ref p/\H'=upd H p (.tup [.int (i:Nat),y])/\∀ xs,SqT K H a xs->xs[i]?=some y,fun i H=>∃ xs,SqT K H a xs/\xs.length=i⟩
theorem sy {P:TF} {w:T3} {K:Tg} {elts:List UP} {k1} {pos:Xv} (a e it:Tn):Turn P w K (.Tuple elts k1 pos) (Ite K a) [e,it] e (fun i h=>(∃ old,IsEnum h e it ((i:Nat):Int) old)/\h.IsTupleIter it a i) where
 mem:=by simp
 obj:=fun i h st b hb=>by
  obtain ⟨⟨old,he⟩,o,e1,e2,e3⟩:=st;rcases TR.mp hb with rfl | hb
  · exact ⟨_,he,fun v z=>by cases z⟩
  · have:b=it:=by simpa using hb
    subst this;exact ⟨o,e1,fun v z=>by rw [e3] at z;cases z⟩
 keep:=fun i h h' st k=>by
  obtain ⟨⟨old,he⟩,o,e1,e2⟩:=st;exact ⟨⟨old,k e (by simp) _ he⟩,o,k it (by simp) _ e1,e2⟩
 item:=by
  intro X hP hw hK hc i pins s σ H E I hf st hg;subst hP hw hK;obtain ⟨xs,x,hq,hx⟩:=hg;obtain ⟨its,rv,p,hz⟩:=I.tuple hq;obtain ⟨u,hu,ru⟩:=rv.get hx;obtain ⟨⟨old,he⟩,hi⟩:=st
  have EC:e≠it:=by
   rintro rfl;obtain ⟨o,e1,e2,_⟩:=hi;rw [he] at e1;cases e1;exact absurd (Vn e2) (by decide)
  have ED:a≠it:=by
   rintro rfl;obtain ⟨o,e1,e2,_⟩:=hi;obtain ⟨o',zE,zD,_⟩:=p;rw [zE] at e1;cases e1;rw [zD] at e2;exact absurd (Vn e2) (by decide)
  have Km:a≠e:=by
   rintro rfl;obtain ⟨o',zE,zD,_⟩:=p;rw [he] at zE;cases zE;exact absurd (Vn zD) (by decide)
  have xV:i<its.toArray.size:=by
   have:=(Tq.mp hu).1;simpa using this
  have Kn:e<s.heap.objs.size:=TJ he;have zW:it<s.heap.objs.size:=by obtain ⟨o,e1,_⟩:=hi;exact TJ e1
  refine wpAny_pyNext_enum_itemD (bb_drawsT (A:=X.A.in1) (show X.A.in1.handled=none from I.ok.hd hc) it a ED its.toArray) he ⟨hi,p⟩ xV EC (by simp [EC,Km.symm]) fun y h1 tk hy ho FJ hT hsz hk=>?_
  have Ko:y=u:=by
   have:its[i]?=some y:=by simpa using hy
   rw [hu] at this;exact (T5 this).symm
  subst Ko;refine ⟨_,rfl,wpAny_letOwnedTupleGo_enum ho fun h2 Kp B6=>?_⟩;replace B6:Vq e h1 h2:=B6
  have yd:∀ b∈[e,it],b<s.heap.objs.size:=fun b hb=>by
   rcases TR.mp hb with rfl | hb
   · exact Kn
   · have:b=it:=by simpa using hb
     subst this;exact zW
  have GA:H s.heap.objs.size=none:=I.hok.fresh (To _)
  have IA:Inv X pins σ (upd H s.heap.objs.size (.tup [.int (i:Nat),x])) { s with heap:=s.heap.push { cls:=.type "tuple",data:=.seq #[.int (i:Nat) tk,y] },toks:=tk } :=
   I.laid (o:=.tup [.int (i:Nat),x]) (fun b ob q=>Tr _ q) (To _) ⟨by show 2<=TN;decide,[.int (i:Nat) tk,y],0,.cons ⟨tk,rfl⟩ (.cons ru .nil),TC _ rfl⟩
  refine ⟨.ref s.heap.objs.size,upd H s.heap.objs.size (.tup [.int (i:Nat),x]),?_,rfl,⟨_,x,GA,rfl,rfl,fun ys Gy=>by rw [I.tuple_inj Gy hq];exact hx⟩,⟨⟨y,by simpa using Kp⟩,?_⟩,fun b hb=>?_⟩
  · have IB:Inv X pins σ (upd H s.heap.objs.size (.tup [.int (i:Nat),x])) { s with heap:=h2,toks:=tk+1 }:=by
     refine Inv.turnedL (s:={ s with heap:=s.heap.push { cls:=.type "tuple",data:=.seq #[.int (i:Nat) tk,y] },toks:=tk }) (h':=h2) (fp:=[e,it]) (t':=tk+1) IA (fun b o hb q=>?_) fun b hb=>?_
     · have Bg:b≠e:=fun z=>hb (by simp [z]);have Kq:b≠it:=fun z=>hb (by simp [z]);rw [B6.2 b Bg];by_cases yf:b=s.heap.objs.size
       · subst yf;rw [hT];have q':(s.heap.push { cls:=.type "tuple",data:=.seq #[.int (i:Nat) tk,y] }).get? s.heap.objs.size=some o:=q;rw [TC _ rfl] at q';exact q'
       · have zN:b<(s.heap.push { cls:=.type "tuple",data:=.seq #[.int (i:Nat) tk,y] }).objs.size:=TJ q;rw [UR] at zN;refine hk b o Bg Kq ?_;have q':(s.heap.push { cls:=.type "tuple",data:=.seq #[.int (i:Nat) tk,y] }).get? b=some o:=q;rw [Heap.get?_push_ne _ _ _ yf] at q';exact q'
     · obtain ⟨f0,f1⟩:=hf b hb;exact ⟨by rw [ak (Ui (yd b hb))];exact f0,f1⟩
    exact IB
  · obtain ⟨o,e1,r⟩:=FJ.1;exact ⟨o,(B6.2 it (Vp EC)).trans e1,r⟩
  · rw [ak (Ui (yd b hb))];exact (hf b hb).1
 done:=by
  intro X hP hw hK hc i pins s σ H E I hf st hg;subst hP hw hK;obtain ⟨xs,hq,hx⟩:=hg;obtain ⟨its,rv,p,hz⟩:=I.tuple hq;obtain ⟨⟨old,he⟩,hi⟩:=st
  have ED:a≠it:=by
   rintro rfl;obtain ⟨o,e1,e2,_⟩:=hi;obtain ⟨o',zE,zD,_⟩:=p;rw [zE] at e1;cases e1;rw [zD] at e2;exact absurd (Vn e2) (by decide)
  have hn:its.toArray.size=i:=by
   have:=rv.length;rw [Tz];omega
  refine wpAny_pyNext_enum_endD (bb_drawsT (A:=X.A.in1) (show X.A.in1.handled=none from I.ok.hd hc) it a ED its.toArray) he (by rw [hn];exact ⟨hi,p⟩) fun h' eb=>⟨rfl,?_⟩;exact I.turnedL (fp:=[e,it]) (t':=s.toks) (fun b o hb q=>eb b o (fun z=>hb (by simp [z])) q) hf
 self:=fun _ _ _ _ _ st h=>by
  obtain ⟨⟨old,he⟩,_⟩:=st;exact Yo he h
section
variable {X:Cx} {e:UP} {te:TE} {p2 yh:Xv}
def wm (K:Tg) (tl:TE):TI:=fun σ H R=>tl σ H fun x H1=>∃ a,x=.ref a/\(∃ xs,SqT K H1 a xs)/\R (Ite K a) H1
theorem nJ {elts:List UP} {k1} {pos:Xv} (g2:Gl X "enumerate") (m2:X.mg "enumerate"=none) (he:PE X e te) (h2:UD [e] X.env=[(false,VY e X.env)]:=by rfl):PI X (.Tuple elts k1 pos) (.Call (.Name "enumerate" p2) [e] [] yh) (wm X.K te):=by
 intro pins s σ H R I h;refine Ve (cU I g2 m2 boot_enumerate (UB ?_ h2 rfl));rw [h2];show TM _ _ (spliced ((false,VY e X.env)::[])) _ _ s;refine Vg (thn (he pins s σ H _ I h) fun u s1 ⟨x,H1,I1,r1,a,ex,⟨xs,hq⟩,q⟩=>VJ ?_);subst ex;cases r1;obtain ⟨its,rv,p,hz⟩:=I1.tuple hq;refine bb_callEnumT (show s1.heap.IsTuple a its.toArray from p) fun h' g1 g2 g3 g4=>?_;refine Yo (s:={ s1 with heap:=h' }) g1 ?_;refine ⟨s1.heap.objs.size+1,[s1.heap.objs.size+1,s1.heap.objs.size],_,_,H1,rfl,I1.kept (t':=s1.toks) g4,sy a _ _,⟨⟨_,g1⟩,g2⟩,fun b hb=>?_,q⟩
 have zw:s1.heap.objs.size<=b:=by
  rcases TR.mp hb with rfl | hb
  · omega
  · have:b=s1.heap.objs.size:=by simpa using hb
    exact Y6 this.symm
 exact I1.fpOk zw (I1.hok.fresh zw)
inductive tf (K:Tg) (x:V) (y:V) (H:Hp) (Q:VK):Prop
 | mk (a:_) (b:_) (xs:_) (ys:_) (x9:x=.ref a) (ya:y=.ref b) (ye:SqT K H a xs) (yj:SqT K H b ys) (yz:xs.length+ys.length<=TN) (y9:(xs=[]->Q (.ref b) H)) (Bm:(xs≠[]->ys=[]->Q (.ref a) H)) (BM:(xs≠[]->ys≠[]->∀ p,H p=none->Q (.ref p) (upd H p (.tup (xs++ys))))):tf K x y H Q
def lW (K:Tg):R2:=tf K
theorem d4:OpR X (Xl .Add) (lW X.K):=by
 intro pins s σ H x y v u Q I rx ry h;obtain ⟨a,b,xs,ys,e1,e2,ha,hb,hz,q0,q1,q2⟩:=h;by_cases hx:xs=[]
 · subst e1 e2;cases rx;cases ry;obtain ⟨its,r1,p1,_⟩:=I.tuple ha;obtain ⟨xQ,r2,p2,_⟩:=I.tuple hb;have hi:its=[]:=r1.nil_iff.mpr hx;obtain ⟨⟨cls,dd,data,sl⟩,ho,hc,n,hd⟩:=p1;obtain ⟨⟨Gj,FF,data2,FG⟩,CQ,BH,n2,hd2⟩:=p2;simp only at hc hd BH hd2;subst hc hd BH hd2;exact concat_meets ⟨_,ho,rfl⟩ ⟨_,CQ,rfl⟩ noFill_tuple_add seq_tuple_add Yl Yi (X6 _ _) (tuple_addW0 a b its.toArray xQ.toArray n n2 dd FF sl FG (by simp [hi])) ⟨ho,CQ,⟨.ref b,H,I,rfl,q0 hx⟩⟩
 · exact uu pins s σ H x y v u Q I rx ry ⟨a,b,xs,ys,e1,e2,ha,hb,hx,hz,q1 hx,q2 hx⟩
end
end L2
namespace PySem
open Sem (wp)
abbrev tzH1 (h:US) (l1:Tn):US:=h.push { cls:=.type "tuple_iterator",data:=.fields #[.ref l1,.int 0 0] }
abbrev tzH2 (h:US) (l1 l2:Tn):US:=(tzH1 h l1).push { cls:=.type "tuple_iterator",data:=.fields #[.ref l2,.int 0 0] }
abbrev tzH3 (h:US) (l1 l2:Tn):US:=(tzH2 h l1 l2).push { cls:=.type "tuple",data:=.seq #[.ref h.objs.size,.ref (tzH1 h l1).objs.size] }
abbrev tzH4 (h:US) (l1 l2:Tn):US:=(tzH3 h l1 l2).push { cls:=.type "tuple",data:=.seq #[.none,.none] }
abbrev tzH5 (h:US) (l1 l2:Tn):US:=(tzH4 h l1 l2).push { cls:=.type "zip",data:=.fields #[.none,.bool false,.bool false,.ref (tzH2 h l1 l2).objs.size,.ref (tzH3 h l1 l2).objs.size] }
theorem IsTuple.push' {h:US} {l:Tn} {xs:Array Tp} (x:h.IsTuple l xs) (o:VN):(h.push o).IsTuple l xs:=let ⟨ob,e,r⟩:=x;⟨ob,Tr _ e,r⟩
theorem bb_meets_zip (l1 l2:Tn) (xs ys:Array Tp) :
 Meets (We.«zip.__new__» ⟨[.type "zip",.ref l1,.ref l2],[]⟩) (fun _ R s=>s.heap.IsTuple l1 xs/\s.heap.IsTuple l2 ys ∧
  R (.ok (.ret (.ref (tzH4 s.heap l1 l2).objs.size))) { s with heap:=tzH5 s.heap l1 l2 }) :=
 .of_wp fun prog w A R s h=>by
  obtain ⟨hp,g,d,tk,os⟩:=s;obtain ⟨yV,yD,h⟩:=h;have Bn:=sub_zip;have PR:Heap.IsTuple (Shared.heap ⟨hp,g,d,tk,os⟩) l1 xs:=yV;have PU:Heap.IsTuple (Shared.heap ⟨hp.push { cls:=.type "tuple_iterator",data:=.fields #[.ref l1,.int 0 0] },g,d,tk,os⟩) l2 ys:=IsTuple.push' yD _
  wp_walk using WJ PR,WJ PU
  exact ⟨_,rfl,h⟩
section
variable {prog:TF} {w:T3} {A:Ut} {E:Tp->Tv->Prop} {s:Tv}
theorem bb_call_zip {l1 l2:Tn} {xs ys:Array Tp} {Q:Tp->Tv->Prop} (yV:s.heap.IsTuple l1 xs) (yD:s.heap.IsTuple l2 ys)
 (h:∀ h',YG h' (s.heap.objs.size+4) (s.heap.objs.size+2) (s.heap.objs.size+3) .none->VP h' (s.heap.objs.size+2) (.ref s.heap.objs.size) (.ref (s.heap.objs.size+1)) →
  VP h' (s.heap.objs.size+3) .none .none->h'.IsTupleIter s.heap.objs.size l1 0->h'.IsTupleIter (s.heap.objs.size+1) l2 0->h'.objs.size=s.heap.objs.size+5 →
  (∀ c o,s.heap.get? c=some o->h'.get? c=some o)->Q (.ref (s.heap.objs.size+4)) { s with heap:=h' }) :
 TM (Ug prog w) A (call (.type "zip") [.ref l1,.ref l2]) Q E s:=by
 refine callType_new F.called_zip (by decide) (F.typeCall_zip_2 _ _) (F.newCall_zip_2 _ _) (fun obj=>F.args_object_init_3 obj _ _) F.entry_zip_new
  (bb_meets_zip l1 l2 xs ys) ⟨yV,yD,?_⟩
 have z1:(tzH1 s.heap l1).objs.size=s.heap.objs.size+1:=UR ..;have z2:(tzH2 s.heap l1 l2).objs.size=s.heap.objs.size+2:=by rw [UR,z1]
 have z3:(tzH3 s.heap l1 l2).objs.size=s.heap.objs.size+3:=by rw [UR,z2]
 have z4:(tzH4 s.heap l1 l2).objs.size=s.heap.objs.size+4:=by rw [UR,z3]
 have z5:(tzH5 s.heap l1 l2).objs.size=s.heap.objs.size+5:=by rw [UR,z4]
 have g5:(tzH5 s.heap l1 l2).get? (tzH4 s.heap l1 l2).objs.size=some _:=TC _ rfl;have g4:(tzH5 s.heap l1 l2).get? (tzH3 s.heap l1 l2).objs.size=some _:=Tr _ (TC _ rfl);have g3:(tzH5 s.heap l1 l2).get? (tzH2 s.heap l1 l2).objs.size=some _:=Tr _ (Tr _ (TC _ rfl));have g2:(tzH5 s.heap l1 l2).get? (tzH1 s.heap l1).objs.size=some _:=Tr _ (Tr _ (Tr _ (TC _ rfl)));have g1:(tzH5 s.heap l1 l2).get? s.heap.objs.size=some _:=Tr _ (Tr _ (Tr _ (Tr _ (TC _ rfl))));show _/\_;rw [z2,z3,z4] at g5;rw [z1,z2] at g3;rw [z3] at g4;rw [z1] at g2;rw [z4]
 exact ⟨⟨_,g5,rfl⟩,h _ g5 g3 g4 ⟨_,g1,rfl,rfl⟩ ⟨_,g2,rfl,rfl⟩ z5 fun c o x =>
  Tr _ (Tr _ (Tr _ (Tr _ (Tr _ x))))⟩
structure ZSt (xs ys:Array Tp) (z TI TO i1 i2 l1 l2:Tn) (k:Nat) (h:US):Prop where
 ap:Y2 z TI TO i1 i2 l1 l2
 zip:YG h z TI TO .none∨∃ (T:Tn) (b:Bool) (x y:Tp),h.get? z=some { cls:=.type "zip",data:=.fields #[VX T,.bool b,.bool false,.ref TI,.ref TO] }/\VP h T x y/\T≠TO
 hTI:VP h TI (.ref i1) (.ref i2)
 hTO:∃ a b,VP h TO a b
 h1:h.IsTupleIter i1 l1 k
 h2:h.IsTupleIter i2 l2 k
 t1:h.IsTuple l1 xs
 t2:h.IsTuple l2 ys
theorem ZSt.typeIs {xs ys:Array Tp} {z TI TO i1 i2 l1 l2:Tn} {k:Nat} (x:ZSt xs ys z TI TO i1 i2 l1 l2 k s.heap):s.TypeIs (.ref z) "zip":=by
 rcases x.zip with e | ⟨T,b,u,v,e,_⟩
 · exact ⟨_,e,rfl⟩
 · exact ⟨_,e,rfl⟩
theorem IsTuple.but {h h':US} {c l:Tn} {xs:Array Tp} (x:h.IsTuple l xs) (e:Y9 c h h') (n:l≠c):h'.IsTuple l xs:=let ⟨ob,q,r⟩:=x;⟨ob,e _ _ n q,r⟩
theorem IsTupleIter.but {h h':US} {c i l:Tn} {k:Nat} (x:h.IsTupleIter i l k) (e:Y9 c h h') (n:i≠c):h'.IsTupleIter i l k:=let ⟨ob,q,r⟩:=x;⟨ob,e _ _ n q,r⟩
theorem ZSt.frame {xs ys:Array Tp} {z TI TO i1 i2 l1 l2:Tn} {k:Nat} {h h':US} (x:ZSt xs ys z TI TO i1 i2 l1 l2 k h)
 (e:∀ b o,o.cls≠.type "list"->h.get? b=some o->h'.get? b=some o):ZSt xs ys z TI TO i1 i2 l1 l2 k h':=by
 obtain ⟨D,hz,hTI,⟨a,b,hTO⟩,⟨o1,a1,a2,a3⟩,⟨o2,b1,b2,b3⟩,⟨o3,c1,c2,c3⟩,⟨o4,d1,d2,d3⟩⟩:=x;refine ⟨D,?_,e _ _ (by simp) hTI,⟨a,b,e _ _ (by simp) hTO⟩,⟨o1,e _ _ (by rw [a2];simp) a1,a2,a3⟩,⟨o2,e _ _ (by rw [b2];simp) b1,b2,b3⟩,⟨o3,e _ _ (by rw [c2];simp) c1,c2,c3⟩,⟨o4,e _ _ (by rw [d2];simp) d1,d2,d3⟩⟩;rcases hz with g | ⟨T,b,u,v,g,g2,g3⟩
 · exact .inl (e _ _ (by simp) g)
 · exact .inr ⟨T,b,u,v,e _ _ (by simp) g,e _ _ (by simp) g2,g3⟩
end
end PySem
namespace PySem
open Sem (wp)
section
variable {prog:TF} {w:T3} {A:Ut} {E:Tp->Tv->Prop} {s:Tv}
theorem bb_zip_itemA {z TI TO i1 i2 l1 l2:Tn} {k:Nat} {xs ys:Array Tp} {x y a b:Tp} {Q:Tp->Tv->Prop} (D:Y2 z TI TO i1 i2 l1 l2)
 (hz:YG s.heap z TI TO .none) (hTI:VP s.heap TI (.ref i1) (.ref i2)) (hTO:VP s.heap TO a b)
 (h1:s.heap.IsTupleIter i1 l1 k) (h2:s.heap.IsTupleIter i2 l2 k) (yV:s.heap.IsTuple l1 xs) (yD:s.heap.IsTuple l2 ys) (hx:xs[k]?=some x) (hy:ys[k]?=some y)
 (hQ:∀ h',YG h' z TI TO (VX s.heap.objs.size)->VP h' TO x y->h'.IsTupleIter i1 l1 (k+1)->h'.IsTupleIter i2 l2 (k+1)->VP h' s.heap.objs.size x y->h'.objs.size=s.heap.objs.size+1 →
  (∀ c o,c≠z->c≠TO->c≠i1->c≠i2->s.heap.get? c=some o->h'.get? c=some o)->Q (.ref s.heap.objs.size) { s with heap:=h' }) :
 TM (Ug prog w) A (We.«zip.__next__» ⟨[.ref z],[]⟩) (fun fin s'=>∃ v,fin=.done (.ret v)/\Q v s') E s:=by
 show TM _ _ (field (.ref z) 2 >>= _) _ _ _;refine Tf (Uz hz rfl (x:=.bool false) rfl ?_);show TM _ _ (field (.ref z) 3 >>= _) _ _ _;refine Tf (Uz hz rfl (x:=.ref TI) rfl ?_);refine Tf (U2 hTI rfl ?_);show TM _ _ (UK (.ref z) >>= _) _ _ _;refine Tf ?_;unfold UK;refine Tf (Uz hz rfl (x:=.none) rfl (Tt ?_));simp only [if_true];refine Tf (Wm ?_);refine Tf (Uz hz rfl (x:=.ref TO) rfl ?_);refine Tf (Wl hz (by simp) fun x8 yo xP=>?_);replace yo:YG x8 z TI TO .ellipsis:=yo;refine Tf ?_;simp only [List.zipIdx_cons,List.zipIdx_nil,Xf,YF];refine Tf (Tf (wpAny_onRaise ?_));show TM _ _ (UC (.ref i1) >>= _) _ _ _;refine Tf (bb_tupNext (IsTupleIter.but h1 xP.extBut D.i1z) (IsTuple.but yV xP.extBut D.l1z) hx fun yH Ah xS=>Tt ?_);have zj:VP yH TO a b:=xS.extBut _ _ D.TOi1 (xP.extBut _ _ D.TOz hTO);refine Tf (U2 zj rfl ?_);refine Tf (YY zj fun Ad zO yl=>?_);replace zO:VP Ad TO x b:=zO;refine Tf (Yp (Tt ?_));refine Tf (Tf (wpAny_onRaise ?_));show TM _ _ (UC (.ref i2) >>= _) _ _ _
 refine Tf (bb_tupNext (IsTupleIter.but (IsTupleIter.but (IsTupleIter.but h2 xP.extBut D.i2z) xS.extBut D.i12.symm) yl.extBut D.TOi2.symm)
  (IsTuple.but (IsTuple.but (IsTuple.but yD xP.extBut D.l2z) xS.extBut D.l2i1) yl.extBut D.l2TO) hy fun yv B7 yi=>Tt ?_)
 have B8:VP yv TO x b:=yi.extBut _ _ D.TOi2 zO;refine Tf (U2 B8 rfl ?_);refine Tf (YY B8 fun yw zP y4=>?_);replace zP:VP yw TO x y:=zP;refine Tf (Yp (Tt (Tt ?_)));refine Tf (U2 zP rfl ?_);refine Tf (wpAny_newTuple ?_);have hsz:yw.objs.size=s.heap.objs.size:=by rw [y4.1,yi.1,yl.1,xS.1,xP.1]
 have DL:YG yw z TI TO .ellipsis:=y4.extBut _ _ D.TOz.symm (yi.extBut _ _ D.i2z.symm (yl.extBut _ _ D.TOz.symm (xS.extBut _ _ D.i1z.symm yo)))
 have GB:∀ c o,c≠z->c≠TO->c≠i1->c≠i2->s.heap.get? c=some o->yw.get? c=some o:=fun c o c1 c2 c3 c4 e =>
  y4.extBut _ _ c2 (yi.extBut _ _ c4 (yl.extBut _ _ c2 (xS.extBut _ _ c3 (xP.extBut _ _ c1 e))))
 have GC:yw.IsTupleIter i1 l1 (k+1):=IsTupleIter.but (IsTupleIter.but (IsTupleIter.but Ah yl.extBut D.TOi1.symm) yi.extBut D.i12) y4.extBut D.TOi1.symm;have GD:yw.IsTupleIter i2 l2 (k+1):=IsTupleIter.but B7 y4.extBut D.TOi2.symm;have GF:z<yw.objs.size:=TJ DL;show TM _ _ (Builtin.SmallTypes.ownedTupleHandOut (.ref z) (.ref yw.objs.size) >>= _) _ _ _;refine Tf ?_;unfold Builtin.SmallTypes.ownedTupleHandOut;have GG:YG (yw.push { cls:=.type "tuple",data:=.seq #[x,y] }) z TI TO .ellipsis:=Tr _ DL;refine Tf (Wl GG (by simp) fun Kr B9 Ca=>?_);replace B9:YG Kr z TI TO (VX yw.objs.size):=B9;refine Wl B9 (by simp) fun Cb Ba Cc=>?_;replace Ba:YG Cb z TI TO (VX yw.objs.size):=Ba;have up:∀ c o,c≠z->yw.get? c=some o->Cb.get? c=some o:=fun c o c1 e=>Cc.extBut _ _ c1 (Ca.extBut _ _ c1 (Tr _ e));have DN:VP Cb yw.objs.size x y:=Cc.extBut _ _ (WU GF) (Ca.extBut _ _ (WU GF) (TC _ rfl));have NH:Cb.objs.size=yw.objs.size+1:=by rw [Cc.1,Ca.1,UR]
 rw [hsz] at Ba DN NH;refine Tt ⟨_,rfl,?_⟩;show Q (.ref yw.objs.size) _;rw [hsz];refine hQ Cb Ba (up _ _ D.TOz zP) ?_ ?_ DN NH fun c o c1 c2 c3 c4 e=>up c o c1 (GB c o c1 c2 c3 c4 e)
 · obtain ⟨o,e,r⟩:=GC;exact ⟨o,up _ o D.i1z e,r⟩
 · obtain ⟨o,e,r⟩:=GD;exact ⟨o,up _ o D.i2z e,r⟩
theorem bb_loadIfAlive {a:Tn} {o:VN} {Q:Option VN->Tv->Prop} (hQ:∀ u,some o=some u->Q (some u) s) (h:s.heap.get? a=some o):TM (Ug prog w) A (loadIfAlive a) Q E s:=by
 intro Γ p R9;show Sem.wp _ _ (.loadIfAlive a .pure) _ _ _ _;rw [Sem.wp_loadIfAlive,h];exact hQ o rfl
theorem bb_notfree {z T:Tn} {b:Bool} {f2 TI TO u v:Tp} (hz:s.heap.get? z=some { cls:=.type "zip",data:=.fields #[VX T,.bool b,f2,TI,TO] }) (hT:VP s.heap T u v) :
 TM (Ug prog w) A (UK (.ref z)) (fun a s1=>a=false/\∃ x8,s1={ s with heap:=x8 }/\x8.get? z=some { cls:=.type "zip",data:=.fields #[VX T,.bool true,f2,TI,TO] }/\Vq z s.heap x8) E s:=by
 unfold UK;refine Tf (Uz hz rfl (x:=VX T) rfl ?_);show TM _ _ (loadIfAlive (T:Int).toNat >>= _) _ _ _;rw [Vh];refine Tf (bb_loadIfAlive (fun o (e:some _=some o)=>?_) hT);cases e;show TM _ _ (if (some _:Option VN).isNone=true then _ else _) _ _ _;rw [if_neg (show ¬ ((some _:Option VN).isNone=true) from TV)];refine Tf (Uz hz rfl (x:=.bool b) rfl ?_);cases b with
 | true=>exact Tt ⟨rfl,s.heap,rfl,hz,rfl,fun _ _=>rfl⟩
 | false=>exact Tf (Wl hz (by simp) fun x8 yo xP=>Tt ⟨rfl,x8,rfl,yo,xP⟩)
theorem bb_zip_itemB {z TI TO i1 i2 l1 l2 T:Tn} {k:Nat} {xs ys:Array Tp} {x y u v:Tp} {b:Bool} {Q:Tp->Tv->Prop} (D:Y2 z TI TO i1 i2 l1 l2)
 (hz:s.heap.get? z=some { cls:=.type "zip",data:=.fields #[VX T,.bool b,.bool false,.ref TI,.ref TO] }) (hT:VP s.heap T u v) (hTI:VP s.heap TI (.ref i1) (.ref i2))
 (h1:s.heap.IsTupleIter i1 l1 k) (h2:s.heap.IsTupleIter i2 l2 k) (yV:s.heap.IsTuple l1 xs) (yD:s.heap.IsTuple l2 ys) (hx:xs[k]?=some x) (hy:ys[k]?=some y)
 (hQ:∀ h',h'.get? z=some { cls:=.type "zip",data:=.fields #[VX T,.bool true,.bool false,.ref TI,.ref TO] }->h'.IsTupleIter i1 l1 (k+1)->h'.IsTupleIter i2 l2 (k+1)->VP h' s.heap.objs.size x y->h'.objs.size=s.heap.objs.size+1 →
  (∀ c o,c≠z->c≠i1->c≠i2->s.heap.get? c=some o->h'.get? c=some o)->Q (.ref s.heap.objs.size) { s with heap:=h' }) :
 TM (Ug prog w) A (We.«zip.__next__» ⟨[.ref z],[]⟩) (fun fin s'=>∃ v,fin=.done (.ret v)/\Q v s') E s:=by
 show TM _ _ (field (.ref z) 2 >>= _) _ _ _;refine Tf (Uz hz rfl (x:=.bool false) rfl ?_);show TM _ _ (field (.ref z) 3 >>= _) _ _ _;refine Tf (Uz hz rfl (x:=.ref TI) rfl ?_);refine Tf (U2 hTI rfl ?_);show TM _ _ (UK (.ref z) >>= _) _ _ _;refine Tf (VI (bb_notfree hz hT) (fun a s1 ⟨e1,x8,e2,yo,xP⟩=>?_) fun _ _ x=>x);subst e1 e2;simp only [UQ,if_false];rw [<- Xj];refine Tf ?_;simp only [Xf,YF];refine Tf (Tf (U3 ?_));show TM _ _ (UC (.ref i1) >>= _) _ _ _;refine Tf (bb_tupNext (IsTupleIter.but h1 xP.extBut D.i1z) (IsTuple.but yV xP.extBut D.l1z) hx fun yH Ah xS=>Tt (Tt ?_));refine Tf (Tf (U3 ?_));show TM _ _ (UC (.ref i2) >>= _) _ _ _;refine Tf (bb_tupNext (IsTupleIter.but (IsTupleIter.but h2 xP.extBut D.i2z) xS.extBut D.i12.symm) (IsTuple.but (IsTuple.but yD xP.extBut D.l2z) xS.extBut D.l2i1) hy fun yv B7 yi=>Tt (Tt (Tt ?_)));refine Tf (wpAny_newTuple (hsz:=by show 2<=TN;decide) (Tt ⟨_,rfl,?_⟩));have hsz:yv.objs.size=s.heap.objs.size:=by rw [yi.1,xS.1,xP.1]
 show Q (.ref yv.objs.size) { s with heap:=yv.push { cls:=.type "tuple",data:=.seq #[x,y] } };have DO:VP (yv.push { cls:=.type "tuple",data:=.seq #[x,y] }) yv.objs.size x y:=TC _ rfl;have zz:(yv.push { cls:=.type "tuple",data:=.seq #[x,y] }).objs.size=yv.objs.size+1:=UR ..;have GH:=IsTupleIter.but Ah yi.extBut D.i12;rw [hsz] at DO zz;rw [hsz];refine hQ _ (Tr _ (yi.extBut _ _ D.i2z.symm (xS.extBut _ _ D.i1z.symm yo))) ?_ ?_ DO zz fun c o c1 c3 c4 e=>Tr _ (yi.extBut _ _ c4 (xS.extBut _ _ c3 (xP.extBut _ _ c1 e)))
 · obtain ⟨o,e,r⟩:=GH;exact ⟨o,Tr _ e,r⟩
 · obtain ⟨o,e,r⟩:=B7;exact ⟨o,Tr _ e,r⟩
theorem bb_zip_end {z TI TO i1 i2 l1 l2:Tn} {k:Nat} {xs ys:Array Tp} {Q:Fin->Tv->Prop} (hh:A.handled=none)
 (S:ZSt xs ys z TI TO i1 i2 l1 l2 k s.heap) (zA:xs[k]?=none∨ys[k]?=none)
 (hE:∀ h' e,(∀ c o,c≠z->c≠TO->c≠i1->c≠i2->s.heap.get? c=some o->h'.get? c=some o)->(∃ o,h'.get? e=some o/\o.cls=.type "StopIteration")->E (.ref e) { s with heap:=h' }) :
 TM (Ug prog w) A (We.«zip.__next__» ⟨[.ref z],[]⟩) Q E s:=by
 obtain ⟨D,hz,hTI,⟨a,b,hTO⟩,h1,h2,yV,yD⟩:=S;rcases hz with hz | ⟨T,bb,u,v,hz,hT,NI⟩
 · show TM _ _ (field (.ref z) 2 >>= _) _ _ _;refine Tf (Uz hz rfl (x:=.bool false) rfl ?_);show TM _ _ (field (.ref z) 3 >>= _) _ _ _;refine Tf (Uz hz rfl (x:=.ref TI) rfl ?_);refine Tf (U2 hTI rfl ?_);show TM _ _ (UK (.ref z) >>= _) _ _ _;refine Tf ?_;unfold UK;refine Tf (Uz hz rfl (x:=.none) rfl (Tt ?_));simp only [if_true];refine Tf (Wm ?_);refine Tf (Uz hz rfl (x:=.ref TO) rfl ?_);refine Tf (Wl hz (by simp) fun x8 yo xP=>?_);replace yo:YG x8 z TI TO .ellipsis:=yo;refine Tf ?_;simp only [List.zipIdx_cons,List.zipIdx_nil,Xf,YF];refine Tf (Tf (wpAny_onRaise ?_));show TM _ _ (UC (.ref i1) >>= _) _ _ _;cases hx:xs[k]? with
   | none =>
     refine Tf (bb_tupEnd hh (IsTupleIter.but h1 xP.extBut D.i1z) (IsTuple.but yV xP.extBut D.l1z) hx fun yH e xS he=>?_);obtain ⟨oe,EE,GI⟩:=he;have DQ:YG yH z TI TO .ellipsis:=xS _ _ D.i1z.symm yo;have Ks:e≠z:=fun x=>by subst x;rw [DQ] at EE;cases EE;simp at GI
     refine Wl DQ (by simp) fun Ad _ yl=>hE Ad e (fun c o c1 _ c3 _ x=>yl.extBut _ _ c1 (xS _ _ c3 (xP.extBut _ _ c1 x))) ⟨oe,yl.extBut _ _ Ks EE,GI⟩
   | some x =>
     have hy:ys[k]?=none:=by rcases zA with h | h;rw [hx] at h;cases h;exact h
     refine Tf (bb_tupNext (IsTupleIter.but h1 xP.extBut D.i1z) (IsTuple.but yV xP.extBut D.l1z) hx fun yH Ah xS=>Tt ?_);have zj:VP yH TO a b:=xS.extBut _ _ D.TOi1 (xP.extBut _ _ D.TOz hTO);refine Tf (U2 zj rfl ?_);refine Tf (YY zj fun Ad zO yl=>?_);refine Tf (Yp (Tt ?_));refine Tf (Tf (wpAny_onRaise ?_));show TM _ _ (UC (.ref i2) >>= _) _ _ _
     refine Tf (bb_tupEnd hh (IsTupleIter.but (IsTupleIter.but (IsTupleIter.but h2 xP.extBut D.i2z) xS.extBut D.i12.symm) yl.extBut D.TOi2.symm)
      (IsTuple.but (IsTuple.but (IsTuple.but yD xP.extBut D.l2z) xS.extBut D.l2i1) yl.extBut D.l2TO) hy fun yv e yi he=>?_)
     obtain ⟨oe,EE,GI⟩:=he;have DR:YG yv z TI TO .ellipsis:=yi _ _ D.i2z.symm (yl.extBut _ _ D.TOz.symm (xS.extBut _ _ D.i1z.symm yo));have Ks:e≠z:=fun x=>by subst x;rw [DR] at EE;cases EE;simp at GI
     refine Wl DR (by simp) fun yw _ y4=>hE yw e (fun c o c1 c2 c3 c4 x=>y4.extBut _ _ c1 (yi _ _ c4 (yl.extBut _ _ c2 (xS.extBut _ _ c3 (xP.extBut _ _ c1 x))))) ⟨oe,y4.extBut _ _ Ks EE,GI⟩
 · show TM _ _ (field (.ref z) 2 >>= _) _ _ _;refine Tf (Uz hz rfl (x:=.bool false) rfl ?_);show TM _ _ (field (.ref z) 3 >>= _) _ _ _;refine Tf (Uz hz rfl (x:=.ref TI) rfl ?_);refine Tf (U2 hTI rfl ?_);show TM _ _ (UK (.ref z) >>= _) _ _ _;refine Tf (VI (bb_notfree hz hT) (fun a s1 ⟨e1,x8,e2,yo,xP⟩=>?_) fun _ _ x=>x);subst e1 e2;simp only [UQ,if_false];rw [<- Xj];refine Tf ?_;simp only [Xf,YF];refine Tf (Tf (U3 ?_));show TM _ _ (UC (.ref i1) >>= _) _ _ _;cases hx:xs[k]? with
   | none =>
     refine Tf (bb_tupEnd hh (IsTupleIter.but h1 xP.extBut D.i1z) (IsTuple.but yV xP.extBut D.l1z) hx fun yH e xS he=>?_);exact hE yH e (fun c o c1 _ c3 _ x=>xS _ _ c3 (xP.extBut _ _ c1 x)) he
   | some x =>
     have hy:ys[k]?=none:=by rcases zA with h | h;rw [hx] at h;cases h;exact h
     refine Tf (bb_tupNext (IsTupleIter.but h1 xP.extBut D.i1z) (IsTuple.but yV xP.extBut D.l1z) hx fun yH Ah xS=>Tt (Tt ?_));refine Tf (Tf (U3 ?_));show TM _ _ (UC (.ref i2) >>= _) _ _ _;refine Tf (bb_tupEnd hh (IsTupleIter.but (IsTupleIter.but h2 xP.extBut D.i2z) xS.extBut D.i12.symm) (IsTuple.but (IsTuple.but yD xP.extBut D.l2z) xS.extBut D.l2i1) hy fun yv e yi he=>?_);exact hE yv e (fun c o c1 _ c3 c4 x=>yi _ _ c4 (xS.extBut _ _ c3 (xP.extBut _ _ c1 x))) he
theorem bb_zip_next {z TI TO i1 i2 l1 l2:Tn} {k:Nat} {xs ys:Array Tp} {x y:Tp} {Q:Option Tp->Tv->Prop} (S:ZSt xs ys z TI TO i1 i2 l1 l2 k s.heap) (hx:xs[k]?=some x) (hy:ys[k]?=some y)
 (hQ:∀ h',ZSt xs ys z TI TO i1 i2 l1 l2 (k+1) h'->VP h' s.heap.objs.size x y->h'.objs.size=s.heap.objs.size+1 →
  (∀ c o,c∉[z,TO,i1,i2]->s.heap.get? c=some o->h'.get? c=some o)->Q (some (.ref s.heap.objs.size)) { s with heap:=h' }) :
 TM (Ug prog w) A (Wy (.ref z)) Q E s:=by
 have hT:=S.typeIs;obtain ⟨D,hz,hTI,⟨a,b,hTO⟩,h1,h2,yV,yD⟩:=S;have n1:s.heap.objs.size≠TO:=WU (TJ hTO);unfold Wy;refine Tf (Wx (UI (name:=Tu "__next__") hT WR (UM WR hT F.entry_zip_next ?_ (F.args_zip_next_1 _))));rcases hz with hz | ⟨T,bb,u,v,hz,DO,NI⟩
 · refine bb_zip_itemA D hz hTI hTO h1 h2 yV yD hx hy fun h' a1 a2 a3 a4 a5 a6 a7=>Tt ?_;refine hQ h' ⟨D,.inr ⟨_,_,_,_,a1,a5,n1⟩,a7 _ _ D.TIz D.TITO D.TIi1 D.TIi2 hTI,⟨_,_,a2⟩,a3,a4,?_,?_⟩ a5 a6 fun c o hc e=>a7 c o (fun q=>hc (by simp [q])) (fun q=>hc (by simp [q])) (fun q=>hc (by simp [q])) (fun q=>hc (by simp [q])) e
   · obtain ⟨o,e,r⟩:=yV;exact ⟨o,a7 _ _ D.l1z D.l1TO D.l1i1 D.l1i2 e,r⟩
   · obtain ⟨o,e,r⟩:=yD;exact ⟨o,a7 _ _ D.l2z D.l2TO D.l2i1 D.l2i2 e,r⟩
 · refine bb_zip_itemB D hz DO hTI h1 h2 yV yD hx hy fun h' a1 a3 a4 a5 a6 a7=>Tt ?_;have PV:T≠z:=by rintro rfl;exact absurd (Vn (congrArg Obj.cls (T5 (hz.symm.trans DO)))) (by decide)
   have Kt:T≠i1:=by rintro rfl;obtain ⟨o,e,c,_⟩:=h1;have e2:=T5 (DO.symm.trans e);rw [<- e2] at c;exact absurd (Vn c) (by decide)
   have Ku:T≠i2:=by rintro rfl;obtain ⟨o,e,c,_⟩:=h2;have e2:=T5 (DO.symm.trans e);rw [<- e2] at c;exact absurd (Vn c) (by decide)
   refine hQ h' ⟨D,.inr ⟨T,true,u,v,a1,a7 _ _ PV Kt Ku DO,NI⟩,a7 _ _ D.TIz D.TIi1 D.TIi2 hTI,⟨a,b,a7 _ _ D.TOz D.TOi1 D.TOi2 hTO⟩,a3,a4,?_,?_⟩ a5 a6 fun c o hc e=>a7 c o (fun q=>hc (by simp [q])) (fun q=>hc (by simp [q])) (fun q=>hc (by simp [q])) e
   · obtain ⟨o,e,r⟩:=yV;exact ⟨o,a7 _ _ D.l1z D.l1i1 D.l1i2 e,r⟩
   · obtain ⟨o,e,r⟩:=yD;exact ⟨o,a7 _ _ D.l2z D.l2i1 D.l2i2 e,r⟩
theorem bb_zip_done {z TI TO i1 i2 l1 l2:Tn} {k:Nat} {xs ys:Array Tp} {Q:Option Tp->Tv->Prop} (hh:A.handled=none) (S:ZSt xs ys z TI TO i1 i2 l1 l2 k s.heap) (zA:xs[k]?=none∨ys[k]?=none)
 (hQ:∀ h',(∀ c o,c∉[z,TO,i1,i2]->s.heap.get? c=some o->h'.get? c=some o)->Q none { s with heap:=h' }):TM (Ug prog w) A (Wy (.ref z)) Q E s:=by
 have hT:=S.typeIs;unfold Wy
 refine Tf (Wx (UI (name:=Tu "__next__") hT WR
  (UM WR hT F.entry_zip_next (bb_zip_end hh S zA fun h' e hk he=>?_) (F.args_zip_next_1 _))))
 obtain ⟨o,ho,hc⟩:=he;refine Tf (Wf (T:="StopIteration") (b:=true) ⟨o,ho,hc⟩ isSubtype_stop ?_);exact Tt (hQ _ fun c o hc=>hk c o (fun q=>hc (by simp [q])) (fun q=>hc (by simp [q])) (fun q=>hc (by simp [q])) (fun q=>hc (by simp [q])))
theorem bb_zip_iter {z TI TO i1 i2 l1 l2:Tn} {k:Nat} {xs ys:Array Tp} {Q:Tp->Tv->Prop} (S:ZSt xs ys z TI TO i1 i2 l1 l2 k s.heap) (h:Q (.ref z) s):TM (Ug prog w) A (pyIter (.ref z)) Q E s:=by
 have hT:=S.typeIs;refine wpAny_pyIter_slot hT F.slot_zip_iter (UM F.slot_zip_iter hT F.entry_zip_iter ?_ (F.args_zip_iter_1 _));show TM _ _ (ret (.ref z)) _ _ s;exact Tt ⟨_,rfl,"zip",_,hT,WR.lookup,h⟩
end
end PySem
namespace PySem
open Sem (wp)
namespace F
theorem bb_nolen_zip:W5 (.type "zip") "__len__"=pure none:=by rw [VC,UU];kernel_rfl
theorem bb_nohint_zip:W5 (.type "zip") "__length_hint__"=pure none:=by rw [VC,UU];kernel_rfl
end F
def ZIt (xs ys:Array Tp) (n0:Nat) (h:US) (acc:Array Tp) (k:Nat):Prop:=acc.size=k/\∀ (j:Nat) (v:Tp),acc[j]?=some v->∃ (T:Tn) (x y:Tp),v=Uc T/\n0<=T/\VP h T x y/\xs[j]?=some x/\ys[j]?=some y
section
variable {prog:TF} {w:T3} {A:Ut} {R:Result->Tv->Prop}
theorem bb_zip_loop {z TI TO i1 i2 l1 l2 S:Tn} {xs ys:Array Tp} {n n0:Nat} (hh:A.in1.handled=none) (hn:n=min xs.size ys.size) (hz:n<=TN) (Jk:S∉[z,TO,i1,i2]) (hf:∀ c∈[z,TO,i1,i2],c<n0) (res:Tp) :
 ∀ (k i:Nat) (s:Tv) (acc:Array Tp) (c:Nat),n - i=k->i<=n->ZSt xs ys z TI TO i1 i2 l1 l2 i s.heap->n0<=s.heap.objs.size->s.heap.get? S=some { cls:=.type "list",dict:=none,data:=.seq acc c,slots:=#[] }->ZIt xs ys n0 s.heap acc i →
 (∀ h' yI c',(∀ b o,b≠S->b∉[z,TO,i1,i2]->s.heap.get? b=some o->h'.get? b=some o)->h'.get? S=some { cls:=.type "list",dict:=none,data:=.seq yI c',slots:=#[] }->ZIt xs ys n0 h' yI n->R (.ok (.ret res)) { s with heap:=h' }) →
 XC (Ug prog w) A (.builtin "list.extend.loop" ⟨[.ref S,.ref z,res],[]⟩) R s:=by
 intro k;have DS:∀ {T:Tn},n0<=T->T∉[z,TO,i1,i2]:=fun h m=>absurd (hf _ m) (XO.mpr h);induction k with
 | zero =>
   intro i s acc c hk hi yG h0 hS xX hR;have A':i=n:=by omega
   subst A';refine Xp X3 ?_;rw [Ww Va _];show TM _ A.in1 (Wy (.ref z) >>= _) _ _ s
   have zA:xs[i]?=none∨ys[i]?=none:=by
    rcases Nat.le_total xs.size ys.size with h | h
    · exact .inl (Xo (by omega))
    · exact .inr (Xo (by omega))
   refine Tf (bb_zip_done hh yG zA fun h' za=>Tt ?_);refine hR h' acc c (fun b o _ hb e=>za b o hb e) (za _ _ Jk hS) ⟨xX.1,fun j v hv=>?_⟩;obtain ⟨T,x,y,e1,e2,e3,e4⟩:=xX.2 j v hv;exact ⟨T,x,y,e1,e2,za _ _ (DS e2) e3,e4⟩
 | succ k ih =>
   intro i s acc c hk hi yG h0 hS xX hR;have xV:i<n:=by omega
   refine Xp X3 ?_;rw [Ww Va _];show TM _ A.in1 (Wy (.ref z) >>= _) _ _ s;have hx:xs[i]?=some xs[i]:=VH (by omega);have hy:ys[i]?=some ys[i]:=VH (by omega);refine Tf (bb_zip_next yG hx hy fun h' Kv hT hsz za=>?_);have BJ:=za S _ Jk hS;have GJ:S<s.heap.objs.size:=TJ hS;show TM _ A.in1 (Yd S (·.push (.ref s.heap.objs.size)) >>= _) _ _ _;refine Tf ?_;have Ag:∀ b o,b≠S->h'.get? b=some o->(h'.update S (UN (·.push (Uc s.heap.objs.size)))).get? b=some o:=fun b o hb e=>(Uu _ _ (Vp hb)).trans e
   refine Vo BJ rfl (Tt ⟨Wz Va _,ih (i+1) _ (acc.push (.ref s.heap.objs.size)) _ (by omega) xV (Kv.frame fun b o ho e=>Ag b o (fun z=>?_) e) ?_ (Uq _ BJ rfl) ?_ fun Kw yI c' EF EG Cd=>?_⟩)
    (by rw [xX.1];omega) (by show (acc.push _).size<=TN+1;rw [Array.size_push,xX.1];omega)
   · rw [z,BJ] at e;cases e;exact ho rfl
   · show n0<=(h'.update S _).objs.size;rw [XM];omega
   · refine ⟨by rw [Array.size_push,xX.1],fun j v hv=>?_⟩;rw [Array.getElem?_push] at hv;split at hv
     · rename_i e
       rw [xX.1] at e;cases hv;subst e;exact ⟨_,_,_,rfl,h0,Ag _ _ (WU GJ) hT,hx,hy⟩
     · obtain ⟨T,x,y,e1,e2,e3,e4⟩:=xX.2 j v hv
       have PX:T≠S:=by
        rintro rfl;exact absurd (Vn (congrArg Obj.cls (T5 (e3.symm.trans hS)))) (by decide)
       exact ⟨T,x,y,e1,e2,Ag _ _ PX (za _ _ (DS e2) e3),e4⟩
   · exact hR Kw yI c' (fun b o hb yf e=>EF b o hb yf (Ag b o hb (za b o yf e))) EG Cd
end
section
variable {prog:TF} {w:T3} {A:Ut} {E:Tp->Tv->Prop} {s:Tv}
theorem bb_list_zip {z TI TO i1 i2 l1 l2:Tn} {xs ys:Array Tp} {n n0:Nat} {Q:Tp->Tv->Prop} (hh:A.in1.in1.handled=none) (yG:ZSt xs ys z TI TO i1 i2 l1 l2 0 s.heap) (hn:n=min xs.size ys.size) (hz:n<=TN) (h0:n0<=s.heap.objs.size) (hf:∀ c∈[z,TO,i1,i2],c<n0)
 (hQ:∀ h' acc c,(∀ b o,b∉[z,TO,i1,i2]->s.heap.get? b=some o->h'.get? b=some o)->h'.get? s.heap.objs.size=some { cls:=.type "list",dict:=none,data:=.seq acc c,slots:=#[] }->ZIt xs ys n0 h' acc n->Q (.ref s.heap.objs.size) { s with heap:=h' }) :
 TM (Ug prog w) A (call (.type "list") [.ref z]) Q E s:=by
 have FH:s.heap.objs.size∉[z,TO,i1,i2]:=fun hm=>absurd (hf _ hm) (XO.mpr h0);have Ki:s.heap.objs.size≠z:=fun e=>FH (by simp [e])
 refine Y0 (Q₁:=fun obj xN=>obj=.ref s.heap.objs.size/\xN={ s with heap:=s.heap.push { cls:=.type "list",data:=.seq #[] } }) F.called_list (F.typeCall_list_1 _) F.entry_list_init
  (code_list_new _ ⟨rfl,rfl⟩) fun obj xN x8=>?_
 obtain ⟨rfl,rfl⟩:=x8;have hS:(s.heap.push { cls:=.type "list",data:=.seq #[] }).get? s.heap.objs.size=some { cls:=.type "list",data:=.seq #[] }:=TC _ rfl;refine ⟨⟨_,hS,rfl⟩,F.args_list_init_2 _ _,?_⟩;show TM _ A.in1.in1 (do let old ← Wd (.ref s.heap.objs.size);YH (.ref s.heap.objs.size) (fun _=>#[]);letGo old.toList.reverse;VF (.ref s.heap.objs.size) (.ref z) .none) _ _ _;refine Tf ?_;unfold Wd;refine Tf (U2 hS rfl (Tt ?_));refine Tf (Vo hS rfl ?_);have yY:=Uq (UN (fun _=>(#[]:Array Tp))) hS rfl;refine Tf (Yp ?_);have Bo:((s.heap.push { cls:=.type "list",data:=.seq #[] }).update s.heap.objs.size (UN (fun _=>(#[]:Array Tp)))).objs.size=s.heap.objs.size+1:=by rw [XM,UR]
 generalize hH:(s.heap.push { cls:=.type "list",data:=.seq #[] }).update s.heap.objs.size (UN (fun _=>(#[]:Array Tp)))=H2 at yY Bo ⊢
 have old:∀ b o,s.heap.get? b=some o->H2.get? b=some o:=fun b o e=>by
  rw [<- hH,Uu _ _ (Vp (Ui (TJ e)))];exact Tr _ e
 obtain ⟨c2,CU⟩:∃ c,H2.get? s.heap.objs.size=some { cls:=.type "list",data:=.seq #[] c }:=⟨_,yY⟩;have Av:ZSt xs ys z TI TO i1 i2 l1 l2 0 H2:=yG.frame fun b o _ e=>old b o e;have GK:({ s with heap:=H2 }:Tv).TypeIs (.ref z) "zip":=Av.typeIs;unfold VF;refine Tf (Wb GK ?_);have h1:VU (.ref s.heap.objs.size) (.ref z)=false:=by simp [VU,Ki]
 have h2:(VZ "zip" == VZ "list")=false:=by decide
 have h3:(VZ "zip" == VZ "tuple")=false:=by decide
 simp only [h1,h2,h3,YS,UQ,if_false];refine Tf (bb_zip_iter Av ?_);refine Tf (U3 ?_);unfold Wc;refine Tf (Vb GK F.bb_nolen_zip ?_);show TM _ _ (specialOf (Uc z) (Tu "__length_hint__") >>= _) _ _ _;refine Tf (Vb GK F.bb_nohint_zip ?_);refine Tt ?_
 have key:∀ (h:US) (c₁:Nat),ZSt xs ys z TI TO i1 i2 l1 l2 0 h->n0<=h.objs.size->(∀ b o,b≠s.heap.objs.size->H2.get? b=some o->h.get? b=some o)->h.get? s.heap.objs.size=some { cls:=.type "list",data:=.seq #[] c₁ } →
  XC (Ug prog w) A.in1 (.builtin "list.extend.loop" ⟨[.ref s.heap.objs.size,.ref z,.none],[]⟩) (wants (fun r yu=>r=.none/\Q (.ref s.heap.objs.size) yu) E) { s with heap:=h }:=by
  intro h c₁ hs CH hk Ae;refine bb_zip_loop hh hn hz FH hf .none n 0 _ #[] c₁ rfl (T4 _) hs CH Ae ⟨rfl,fun j v e=>by simp at e⟩ fun h' yI c' hm BJ xX=>?_;exact ⟨rfl,hQ h' yI c' (fun b o hb e=>hm b o (Ui (TJ e)) hb (hk b o (Ui (TJ e)) (old b o e))) BJ xX⟩
 show TM _ _ (rule "list.extend.makes-room" >>= fun _=>Builtin.List.listTouch (.ref s.heap.objs.size) >>= fun _=>again (.builtin "list.extend.loop" ⟨[.ref s.heap.objs.size,.ref z,.none],[]⟩)) _ _ _;refine Tf (Wm ?_);refine Tf ?_;show TM _ _ (Yd s.heap.objs.size (·.push .none) >>= fun _=>Yd s.heap.objs.size (·.pop)) _ _ _;refine Tf (Vo CU rfl ?_);have yZ:=Uq (UN (·.push U4)) CU rfl;refine Vo (hz:=by seq_fits) yZ rfl ?_;have Af:=Uq (UN (·.pop)) yZ rfl
 have Ag:∀ b o,b≠s.heap.objs.size->H2.get? b=some o->((H2.update s.heap.objs.size (UN (·.push U4))).update s.heap.objs.size (UN (·.pop))).get? b=some o :=
  fun b o hb e=>(Uu _ _ (Vp hb)).trans ((Uu _ _ (Vp hb)).trans e)
 refine Tt ⟨Wz Va _,key _ _ (Av.frame fun b o ho e=>Ag b o (fun q=>?_) e) ?_ Ag Af⟩
 · rw [q,CU] at e;cases e;exact ho rfl
 · rw [XM,XM];show n0<=H2.objs.size;omega
end
end PySem
namespace L2
open PySem PySem.Spec PyProof.Rows
theorem Inv.laidAll {X:Cx} {pins:List (Tn×VN)} {σ:St} {H H':Hp} {s:Tv} {h':US} {t':Nat} (I:Inv X pins σ H s) (k:∀ b u,s.heap.get? b=some u->h'.get? b=some u)
 (old:∀ b,b<s.heap.objs.size->H' b=H b) (new:∀ b u,s.heap.objs.size<=b->H' b=some u->ObjOk X.prog X.w H' h' b u):Inv X pins σ H' { s with heap:=h',toks:=t' }:=by
 have sm:∀ b u,H b=some u->H' b=some u:=fun b u e=>by rw [old b (I.hok.lt e)];exact e
 refine I.un ⟨fun b u q _ _ _=>k b u q,fun b u q _ _ _=>⟨u.slots,k b u q⟩,fun b u q n _=>by rw [old b (TJ q)];exact n,fun b u q _=>⟨u,k b u q⟩,fun b xs q=>sm _ _ q,fun b u xs q=>sm _ _ q,fun b ps q=>⟨#[],by rw [sm _ _ q];simp⟩⟩ fun b u q=>?_;by_cases hb:b<s.heap.objs.size
 · rw [old b hb] at q;exact (I.hok b u q).stay (fun c v _ e=>k c v e) (fun c e=>sm _ _ e) fun c xs e=>sm _ _ e
 · exact new b u (XO.mp hb) q
def lJ (H:Hp):List Tn->List (V×V)->Hp
 | t::ts,p::ps=>upd (lJ H ts ps) t (.tup [p.1,p.2])
 | _,_=>H
theorem kS {H:Hp} {b:Tn}:∀ {ts:List Tn} {ps:List (V×V)},b∉ts->lJ H ts ps b=H b
 | [],_,_=>rfl
 | _::_,[],_=>rfl
 | t::ts,p::ps,h=>by
   rw [lJ,ak (fun e=>h (by simp [e]))];exact kS fun m=>h (T1 _ m)
theorem nY {H:Hp}:∀ {ts:List Tn} {ps:List (V×V)} {b:Tn} {u:HO},lJ H ts ps b=some u->H b=some u∨∃ (j:Nat) (p:V×V),ts[j]?=some b/\ps[j]?=some p/\u=.tup [p.1,p.2]
 | [],_,_,_,h=>.inl h
 | _::_,[],_,_,h=>.inl h
 | t::ts,p::ps,b,u,h=>by
   rw [lJ] at h;by_cases e:b=t
   · subst e;rw [ab] at h;exact .inr ⟨0,p,rfl,rfl,(T5 h).symm⟩
   · rw [ak e] at h;rcases nY h with q | ⟨j,p',q1,q2,q3⟩
     · exact .inl q
     · exact .inr ⟨j+1,p',by simpa using q1,by simpa using q2,q3⟩
theorem nZ {H:Hp}:∀ {ts:List Tn} {ps:List (V×V)} {t:Tn},ts.length=ps.length->t∈ts->∃ (i:Nat) (p:V×V),ts[i]?=some t/\ps[i]?=some p/\lJ H ts ps t=some (.tup [p.1,p.2])
 | [],_,_,_,h=>nomatch h
 | _::_,[],_,hl,_=>by simp at hl
 | u::ts,p::ps,t,hl,h=>by
   by_cases e:t=u
   · subst e;exact ⟨0,p,rfl,rfl,by rw [lJ,ab]⟩
   · obtain ⟨i,p',q1,q2,q3⟩:=nZ (H:=H) (ts:=ts) (ps:=ps) (t:=t) (by simpa using hl) (by
      rcases TR.mp h with h | h
      · exact absurd h e
      · exact h)
     exact ⟨i+1,p',by simpa using q1,by simpa using q2,by rw [lJ,ak e];exact q3⟩
theorem jl {α β:Type} {F:α->β->Prop}:∀ {ps:List α} {ts:List β},ps.length=ts.length->(∀ (j:Nat) p t,ps[j]?=some p->ts[j]?=some t->F p t)->Ud F ps ts
 | [],[],_,_=>.nil
 | [],_::_,h,_=>by simp at h
 | _::_,[],h,_=>by simp at h
 | p::ps,t::ts,h,f=>.cons (f 0 p t rfl rfl) (jl (by simpa using h) fun j p' t' e1 e2=>f (j+1) p' t' (by simpa using e1) (by simpa using e2))
theorem qL {P:Nat->Tn->Prop}:∀ {vs:List Tp} (n:Nat),(∀ (j:Nat) v,vs[j]?=some v->∃ T,v=Uc T/\P (n+j) T)->∃ ts:List Tn,vs=ts.map Uc/\∀ (j:Nat) T,ts[j]?=some T->P (n+j) T
 | [],n,_=>⟨[],rfl,fun j T h=>by simp at h⟩
 | v::vs,n,h=>by
   obtain ⟨T,e1,e2⟩:=h 0 v rfl
   obtain ⟨ts,q1,q2⟩:=qL (P:=P) (vs:=vs) (n+1) fun j v' hv=>by
    have:=h (j+1) v' (by simpa using hv);rw [show n+1+j=n+(j+1) by omega];exact this
   refine ⟨T::ts,by rw [e1,q1];rfl,fun j T' hT=>?_⟩;cases j with
   | zero=>simp at hT;subst hT;exact e2
   | succ j =>
     have:=q2 j T' (by simpa using hT);rw [show n+1+j=n+(j+1) by omega] at this;exact this
theorem vF {α β:Type} {xs:List α} {ys:List β} {j:Nat} {p:α×β} (h:(xs.zip ys)[j]?=some p):xs[j]?=some p.1/\ys[j]?=some p.2:=by
 rw [Wg] at h;exact h
def sP (K:Tg) (t:TA):TE:=fun σ H Q=>t σ H fun vs H2=>∃ a b xs ys,vs=[.ref a,.ref b]/\SqT K H2 a xs/\SqT K H2 b ys ∧
 ∀ (l:Tn) (ts:List Tn) (H':Hp),Same H2 H'->H2 l=none->H' l=some (.lst (ts.map V.ref))->Ud (fun (p:V×V) t=>H' t=some (.tup [p.1,p.2])) (xs.zip ys) ts->Q (.ref l) H'
section
variable {X:Cx} {e1 e2:UP} {t:TA} {p p2 pos yh:Xv}
theorem qh (hc:X.calm=true) (g1:Gl X "list") (m1:X.mg "list"=none) (g2:Gl X "zip") (m2:X.mg "zip"=none) (ha:PA X [e1,e2] t)
 (h1:UD [.Call (.Name "zip" p2) [e1,e2] [] yh] X.env=[(false,VY (.Call (.Name "zip" p2) [e1,e2] [] yh) X.env)]:=by rfl) (h2:UD [e1,e2] X.env=(false,VY e1 X.env)::UD [e2] X.env:=by rfl) (h3:(XD yh (UD [e2] X.env)).any (·.1)=false:=by rfl) :
 PE X (.Call (.Name "list" p) [.Call (.Name "zip" p2) [e1,e2] [] yh] [] pos) (sP X.K t):=by
 intro pins s σ H Q I h;refine Ve (cU I g1 m1 boot_list (UB ?_ h1 rfl));rw [h1];show TM _ _ (spliced ((false,VY (.Call (.Name "zip" p2) [e1,e2] [] yh) X.env)::[])) _ _ s;refine Vg ?_;refine Ve (cU I g2 m2 boot_zip ?_);refine UB (thn (ha yh pins s σ H _ I h) fun us s2 ⟨vs,H2,I2,r,a,b,xs,ys,ev,DT,DU,q⟩=>?_) h2 h3;subst ev;obtain ⟨u1,u2,rfl,r1,r2⟩:=vals2 r;cases r1;cases r2;obtain ⟨ia,EH,pa,Kx⟩:=I2.tuple DT;obtain ⟨ib,EI,pb,Ky⟩:=I2.tuple DU;have zX:=EH.length;have PY:=EI.length;have zF:a<s2.heap.objs.size:=by obtain ⟨o,e,_⟩:=pa;exact TJ e
 have zN:b<s2.heap.objs.size:=by obtain ⟨o,e,_⟩:=pb;exact TJ e
 have hh:X.A.in1.in1.handled=none:=I2.ok.hd hc;refine bb_call_zip (show s2.heap.IsTuple a ia.toArray from pa) (show s2.heap.IsTuple b ib.toArray from pb) fun h' z1 z2 z3 z4 z5 z6 z7=>VJ ?_;have D:Y2 (s2.heap.objs.size+4) (s2.heap.objs.size+2) (s2.heap.objs.size+3) s2.heap.objs.size (s2.heap.objs.size+1) a b:=zipApart_new zF zN
 have st:ZSt ia.toArray ib.toArray (s2.heap.objs.size+4) (s2.heap.objs.size+2) (s2.heap.objs.size+3) s2.heap.objs.size (s2.heap.objs.size+1) a b 0 h':=by
  refine ⟨D,.inl z1,z2,⟨_,_,z3⟩,z4,z5,?_,?_⟩
  · obtain ⟨o,e,r⟩:=pa;exact ⟨o,z7 _ _ e,r⟩
  · obtain ⟨o,e,r⟩:=pb;exact ⟨o,z7 _ _ e,r⟩
 have hf:∀ c∈[s2.heap.objs.size+4,s2.heap.objs.size+3,s2.heap.objs.size,s2.heap.objs.size+1],s2.heap.objs.size<=c/\c<h'.objs.size:=fun c hc=>by
  simp at hc;rw [z6];have y8:(c:Nat)=s2.heap.objs.size+4∨(c:Nat)=s2.heap.objs.size+3∨(c:Nat)=s2.heap.objs.size∨(c:Nat)=s2.heap.objs.size+1:=hc;constructor
  · show (s2.heap.objs.size:Nat)<=(c:Nat);omega
  · show (c:Nat)<s2.heap.objs.size+5;omega
 refine bb_list_zip (s:={ s2 with heap:=h' }) hh st rfl (by rw [Tz,Tz];omega) (To _) (fun c hc=>(hf c hc).2) fun h2 acc c kp hS xX=>?_;replace hS:h2.get? h'.objs.size=some { cls:=.type "list",dict:=none,data:=.seq acc c,slots:=#[] }:=hS;have EJ:∀ b o,s2.heap.get? b=some o->h2.get? b=some o:=fun b o e=>kp b o (fun m=>absurd (TJ e) (XO.mpr (hf b m).1)) (z7 b o e);obtain ⟨hsz,hit⟩:=xX
 obtain ⟨ts,et,ht⟩:=qL (P:=fun j T=>h'.objs.size<=T/\∃ x y,VP h2 T x y/\ia.toArray[j]?=some x/\ib.toArray[j]?=some y) (vs:=acc.toList) 0 (fun j v hv=>by
  obtain ⟨T,x,y,g1,g2,g3,g4,g5⟩:=hit j v (by simpa using hv);rw [Nat.zero_add];exact ⟨T,g1,g2,x,y,g3,g4,g5⟩)
 simp only [Nat.zero_add] at ht
 have yy:ts.length=(xs.zip ys).length:=by
  have e:=congrArg Wo et;rw [Te,Uk,hsz,Tz,Tz] at e;rw [Xe];omega
 have rel:∀ (j:Nat) (p:V×V) (T:Tn),(xs.zip ys)[j]?=some p->ts[j]?=some T->∃ x y,VP h2 T x y/\RelV p.1 x/\RelV p.2 y:=fun j p T hp hT=>by
  obtain ⟨_,x,y,g3,g4,g5⟩:=ht j T hT;obtain ⟨Bp,AE⟩:=vF hp;obtain ⟨x',k1,k2⟩:=EH.get Bp;obtain ⟨y',k3,k4⟩:=EI.get AE
  have e1:x'=x:=by
   have:ia[j]?=some x:=by simpa using g4
   rw [k1] at this;exact T5 this
  have e2:y'=y:=by
   have:ib[j]?=some y:=by simpa using g5
   rw [k3] at this;exact T5 this
  subst e1 e2;exact ⟨_,_,g3,k2,k4⟩
 have same:∀ (i j:Nat) (p p':V×V) (T:Tn),(xs.zip ys)[i]?=some p->(xs.zip ys)[j]?=some p'->ts[i]?=some T->ts[j]?=some T->p=p':=fun i j p p' T h1 h2 h3 h4=>by
  obtain ⟨x,y,g1,g2,g3⟩:=rel i p T h1 h3;obtain ⟨x',y',k1,k2,k3⟩:=rel j p' T h2 h4;have e:=T5 (g1.symm.trans k1);have ed:=congrArg Obj.data e;injection ed with PZ _;have el:=congrArg Za PZ;have ex:x=x':=(YR el).1;have ey:y=y':=(YR (YR el).2).1;subst ex ey;obtain ⟨p1,p2⟩:=p;obtain ⟨q1,q2⟩:=p';have f1:p1=q1:=g2.inj k2;have f2:p2=q2:=g3.inj k3;rw [f1,f2]
 have GL:h'.objs.size∉ts:=fun m=>by
  obtain ⟨j,hj⟩:=List.getElem?_of_mem m;obtain ⟨_,x,y,g3,_⟩:=ht j _ hj;exact absurd (Vn (congrArg Obj.cls (T5 (g3.symm.trans hS)))) (by decide)
 have GN:s2.heap.objs.size<h'.objs.size:=by rw [z6];omega
 have GO:∀ T∈ts,h'.objs.size<=T:=fun T m=>by
  obtain ⟨j,hj⟩:=List.getElem?_of_mem m;exact (ht j _ hj).1
 have DV:∀ b,s2.heap.objs.size<=b->H2 b=none:=fun b hb=>I2.hok.fresh hb;have yD:H2 h'.objs.size=none:=DV _ (WW GN)
 have P0:∀ (j:Nat) (p:V×V) (T:Tn),(xs.zip ys)[j]?=some p->ts[j]?=some T->lJ H2 ts (xs.zip ys) T=some (.tup [p.1,p.2]):=fun j p T hp hT=>by
  obtain ⟨i,p',k1,k2,k3⟩:=nZ (H:=H2) yy (Tj hT);rw [k3,same i j p' p T k2 hp k1 hT]
 have I3:Inv X pins σ (upd (lJ H2 ts (xs.zip ys)) h'.objs.size (.lst (ts.map V.ref))) { s2 with heap:=h2,toks:=s2.toks }:=by
  refine I2.laidAll EJ (fun b hb=>?_) fun b u hb hu=>?_
  · rw [ak (Ui (WV hb GN)),kS];exact fun m=>absurd (WV hb GN) (XO.mpr (GO b m))
  · by_cases e:b=h'.objs.size
    · subst e;rw [ab] at hu;cases hu;refine ⟨by rw [Te,yy,Xe];omega,ts.map Uc,c,?_,by rw [<- et];exact hS⟩
      exact jl (by simp) fun j p t e1 e2=>by
       rw [Tw] at e1 e2;cases q:ts[j]? with
       | none=>rw [q] at e1;cases e1
       | some T=>rw [q] at e1 e2;cases e1;cases e2;rfl
    · rw [ak e] at hu;rcases nY hu with q | ⟨j,p,q1,q2,q3⟩
      · rw [DV b hb] at q;cases q
      · subst q3;obtain ⟨x,y,g1,g2,g3⟩:=rel j p b q2 q1;exact ⟨by show 2<=TN;decide,[x,y],0,.cons g2 (.cons g3 .nil),g1⟩
 refine ⟨.ref h'.objs.size,_,I3,rfl,q h'.objs.size ts _ (fun b o e=>?_) yD ab ?_⟩
 · have hb:=I2.hok.lt e;rw [ak (Ui (WV hb GN)),kS]
   · exact e
   · exact fun m=>absurd (WV hb GN) (XO.mpr (GO b m))
 · refine jl yy.symm fun j p T hp hT=>?_;rw [ak (show T≠h'.objs.size from fun e=>GL (by rw [<- e];exact Tj hT))];exact P0 j p T hp hT
end
end L2
namespace L2
open PySem PySem.Spec PyProof.Rows
section
variable {κ:Type} [DecidableEq κ]
def aW (f':List (κ×V)) (k:κ):Option V:=(f'.find? fun kv=>decide (kv.1=k)).map (·.2)
def putK (f':List (κ×V)) (k:κ) (v:V):List (κ×V) :=
 if (f'.any fun kv=>decide (kv.1=k))=true then f'.map (fun kv=>if kv.1=k then (kv.1,v) else kv) else f'++[(k,v)]
theorem bF {p:κ×V} {r:List (κ×V)} {k:κ} (e:p.1=k):aW (p::r) k=some p.2:=by simp [aW,Wj,e]
theorem bE {p:κ×V} {r:List (κ×V)} {k:κ} (e:¬ p.1=k):aW (p::r) k=aW r k:=by simp [aW,Wj,e]
theorem dM (k:κ):∀ f':List (κ×V),(f'.any fun kv=>decide (kv.1=k))=(aW f' k).isSome
 | []=>rfl
 | p::r=>by
   rw [List.any_cons];by_cases e:p.1=k
   · simp only [bF e,decide_eq_true e,Bool.true_or,Option.isSome_some]
   · rw [bE e,decide_eq_false e,Xb];exact dM k r
theorem oN (k j:κ) (y:V):∀ f':List (κ×V),aW (f'.map fun kv=>if kv.1=k then (kv.1,y) else kv) j=(aW f' j).map fun x=>if j=k then y else x
 | []=>rfl
 | p::r=>by
   have ih:=oN k j y r;rw [UE];by_cases h:p.1=k
   · rw [if_pos h];by_cases e:p.1=j
     · rw [bF (p:=(p.1,y)) e,bF e,XH,if_pos (e.symm.trans h)]
     · rw [bE (p:=(p.1,y)) e,bE e,ih]
   · rw [if_neg h];by_cases e:p.1=j
     · rw [bF (p:=p) e,bF e,XH,if_neg (fun z=>h (e.trans z))]
     · rw [bE (p:=p) e,bE e,ih]
theorem mh (k j:κ) (y:V):∀ f':List (κ×V),aW f' k=none->aW (f'++[(k,y)]) j=if j=k then some y else aW f' j
 | [],_=>by
   by_cases e:k=j
   · rw [if_pos e.symm];exact bF (p:=(k,y)) e
   · rw [if_neg (fun z=>e z.symm)];exact bE (p:=(k,y)) e
 | p::r,hn=>by
   rw [VA];have hk:¬ p.1=k:=fun z=>by rw [bF z] at hn;cases hn
   rw [bE hk] at hn;have ih:=mh k j y r hn;by_cases e:p.1=j
   · rw [bF e,bF e,if_neg (fun z=>hk (e.trans z))]
   · rw [bE e,bE e,ih]
theorem iV (f':List (κ×V)) (k j:κ) (y:V):aW (putK f' k y) j=if j=k then some y else aW f' j:=by
 unfold putK;by_cases a:(f'.any fun kv=>decide (kv.1=k))=true
 · rw [if_pos a,oN];rw [dM] at a;by_cases e:j=k
   · obtain ⟨x,hx⟩:=W7.mp a;rw [if_pos e,e,hx,XH,if_pos rfl]
   · rw [if_neg e];cases aW f' j with
     | none=>rfl
     | some x=>rw [XH,if_neg e]
 · rw [if_neg a];refine mh k j y f' ?_;rw [dM] at a;cases q:aW f' k with
   | none=>rfl
   | some x=>rw [q] at a;exact (a rfl).elim
theorem bX (f':List (κ×V)) (k:κ) (v:V):(putK f' k v).length<=f'.length+1:=by
 unfold putK;split
 · rw [Te];omega
 · rw [TZ,Tx,Wi];omega
theorem li {f':List (κ×V)} {k:κ} (v:V) (h:aW f' k=none):putK f' k v=f'++[(k,v)]:=by
 unfold putK;rw [dM,h];exact if_neg (by decide)
theorem RelO.isSome_eq {o:Option V} {u:Option Tp} (r:RelO o u):o.isSome=u.isSome:=by
 cases o with
 | none=>cases u with
   | none=>rfl
   | some _=>exact (show False from r).elim
 | some _=>cases u with
   | none=>exact (show False from r).elim
   | some _=>rfl
theorem RelO.getD {o:Option V} {u:Option Tp} {d:V} {d':Tp} (r:RelO o u) (rd:RelV d d'):RelV (o.getD d) (u.getD d'):=by
 cases o with
 | none=>cases u with
   | none=>exact rd
   | some _=>exact (show False from r).elim
 | some _=>cases u with
   | none=>exact (show False from r).elim
   | some _=>exact r
theorem KV.val {f':List (κ×V)} {vs:List (κ×Tp)} (r:KV f' vs) (k:κ):RelO (aW f' k) (valueAt vs k):=by
 unfold KV at r;induction r with
 | nil=>exact VM
 | @cons p q ps qs h t ih =>
   obtain ⟨h1,h2⟩:=h;by_cases e:p.1=k
   · have e':q.1=k:=h1.symm.trans e;have b:valueAt (q::qs) k=some q.2:=by simp [valueAt,Wj,e']
     rw [bF e,b];exact h2
   · have e':¬ q.1=k:=fun z=>e (h1.trans z);have b:valueAt (q::qs) k=valueAt qs k:=by simp [valueAt,Wj,e']
     rw [bE e,b];exact ih
theorem KV.any {f':List (κ×V)} {vs:List (κ×Tp)} (r:KV f' vs) (k:κ):(f'.any fun kv=>decide (kv.1=k))=vs.any fun kv=>decide (kv.1=k):=by
 unfold KV at r;induction r with
 | nil=>rfl
 | cons h t ih=>rw [List.any_cons,List.any_cons,ih,h.1]
theorem KV.repl {f':List (κ×V)} {vs:List (κ×Tp)} (r:KV f' vs) (k:κ) {y:V} {u:Tp} (ry:RelV y u) :
 KV (f'.map fun kv=>if kv.1=k then (kv.1,y) else kv) (vs.map fun kv=>if kv.1=k then (kv.1,u) else kv):=by
 unfold KV at r ⊢;induction r with
 | nil=>exact .nil
 | @cons p q ps qs h t ih =>
   rw [UE,UE];refine .cons ?_ ih;obtain ⟨h1,h2⟩:=h;by_cases e:p.1=k
   · rw [if_pos e,if_pos (h1.symm.trans e)];exact ⟨h1,ry⟩
   · rw [if_neg e,if_neg (fun z=>e (h1.trans z))];exact ⟨h1,h2⟩
theorem KV.put {f':List (κ×V)} {vs:List (κ×Tp)} (r:KV f' vs) (k:κ) {y:V} {u:Tp} (ry:RelV y u):KV (putK f' k y) (stored vs k u):=by
 unfold putK stored;rw [r.any k];by_cases e:(vs.any fun kv=>decide (kv.1=k))=true
 · rw [if_pos e,if_pos e];exact r.repl k ry
 · rw [if_neg e,if_neg e];exact Paired.snoc r ⟨rfl,ry⟩
theorem KV.length {f':List (κ×V)} {vs:List (κ×Tp)} (r:KV f' vs):f'.length=vs.length:=TB r
end
theorem kK {P:TF} {w:T3} {k:Key} {u:Tp} (r:RelV (kV k) u):(aF P w).is k u=true:=by
 cases k with
 | inl i=>obtain ⟨t,e⟩:=(show ∃ t,u=Value.int i t from r);subst e;exact oq P w i t
 | inr x=>obtain ⟨t,e⟩:=(show ∃ t,u=Value.str x t from r);subst e;exact oS P w x t
theorem l9 {P:TF} {w:T3}:∀ {ks:List Key} {us:List Tp},Vals (ks.map kV) us->ItemsAre (aF P w) ks us
 | [],_,r=>by rw [VO] at r;cases r;exact .nil
 | k::ks,_,r=>by
   rw [UE] at r;cases r with
   | cons h t=>exact .cons (kK h) (l9 t)
abbrev KTd (H:Hp):List (List Key×V)->List (List Key×Tn×Tp)->Prop:=Ud fun p q=>p.1=q.1/\H q.2.1=some (.tup (p.1.map kV))/\RelV p.2 q.2.2
theorem KTd.val {H:Hp} {f':List (List Key×V)} {xs:List (List Key×Tn×Tp)} (r:KTd H f' xs) (k:List Key):RelO (aW f' k) ((W6 xs k).map (·.2)):=by
 induction r with
 | nil=>exact VM
 | @cons p q ps qs h t ih =>
   obtain ⟨h1,_,h2⟩:=h;by_cases e:p.1=k
   · have e':q.1=k:=h1.symm.trans e;have b:W6 (q::qs) k=some q.2:=by simp [W6,Wj,e']
     rw [bF e,b];exact h2
   · have e':¬ q.1=k:=fun z=>e (h1.trans z);have b:W6 (q::qs) k=W6 qs k:=by simp [W6,Wj,e']
     rw [bE e,b];exact ih
theorem KTd.repl {H:Hp} {f':List (List Key×V)} {xs:List (List Key×Tn×Tp)} (r:KTd H f' xs) (k:List Key) {y:V} {u:Tp} (ry:RelV y u) :
 KTd H (f'.map fun kv=>if kv.1=k then (kv.1,y) else kv) (xs.map (putAt k u)):=by
 induction r with
 | nil=>exact .nil
 | @cons p q ps qs h t ih =>
   rw [UE,UE];refine .cons ?_ ih;obtain ⟨h1,h2,h3⟩:=h;unfold putAt;by_cases e:p.1=k
   · rw [if_pos e,if_pos (h1.symm.trans e)];exact ⟨h1,h2,ry⟩
   · rw [if_neg e,if_neg (fun z=>e (h1.trans z))];exact ⟨h1,h2,h3⟩
theorem KTd.put {H:Hp} {f':List (List Key×V)} {xs:List (List Key×Tn×Tp)} (r:KTd H f' xs) (k:List Key) {b:Tn} {y:V} {u:Tp} (hb:H b=some (.tup (k.map kV))) (ry:RelV y u) :
 KTd H (putK f' k y) (Yr xs k b u):=by
 have e:(f'.any fun kv=>decide (kv.1=k))=(W6 xs k).isSome:=by
  rw [dM,(r.val k).isSome_eq,Y4]
 unfold putK Yr;rw [e];by_cases q:(W6 xs k).isSome=true
 · rw [if_pos q,if_pos q];exact r.repl k ry
 · rw [if_neg q,if_neg q];exact Paired.snoc r ⟨rfl,hb,ry⟩
theorem KTd.keeps {H H':Hp} {f':List (List Key×V)} {xs:List (List Key×Tn×Tp)} (r:KTd H f' xs) (ht:∀ b ys,H b=some (.tup ys)->H' b=some (.tup ys)):KTd H' f' xs :=
 Ud.mapP r fun _ _ z=>⟨z.1,ht _ _ z.2.1,z.2.2⟩
section
variable {P:TF} {w:T3} {H:Hp} {h:US} {a:Tn}
theorem vd {u:HO} (ok:HOk P w H h) (e:Rd H a u):ObjOk P w H h a u:=e.ok ok
theorem mx {f':List (Key×V)} (ok:HOk P w H h) (e:Rd H a (.dK f')):f'.length<=TN/\(a == Vs)=false/\∃ vs,KV f' vs/\h.DictOf (aF P w) a vs :=
 show ObjOk P w H h a (.dK f') from vd ok e
theorem vn {f':List (Key×V)} (ok:HOk P w H h) (e:H a=some (.dK f')):f'.length<=TN/\(a == Vs)=false/\∃ vs,KV f' vs/\h.DictOf (aF P w) a vs:=mx ok (.inl e)
theorem ir {ks:List Key} (ok:HOk P w H h) (e:H a=some (.tup (ks.map kV))):(Yz (aF P w)).is h ks a:=by
 obtain ⟨_,its,n,r,h1⟩:=(show ObjOk P w H h a (.tup (ks.map kV)) from ok a _ e);exact ⟨_,its.toArray,n,h1,rfl,rfl,by simpa using l9 r⟩
theorem mi {f':List (List Key×V)} (ok:HOk P w H h) (e:Rd H a (.dT f')):f'.length<=TN/\(a == Vs)=false ∧
 ∃ xs,KTd H f' xs/\h.DictOfH (Yz (aF P w)) a xs:=by
 obtain ⟨z,y,xs,r,o,es,ep,h1,h2,h3,h4,h5⟩:=(show ObjOk P w H h a (.dT f') from vd ok e);refine ⟨z,y,xs,r,o,es,ep,h1,h2,h3,h4,fun x hx=>?_,h5⟩
 have all:∀ {l:List (List Key×V)} {m:List (List Key×Tn×Tp)},KTd H l m->∀ x∈m,(Yz (aF P w)).is h x.1 x.2.1:=by
  intro l m q;induction q with
  | nil=>intro x hx;exact nomatch hx
  | @cons p q ps qs hq t ih =>
    intro x hx;rcases TR.mp hx with e | hx
    · subst e;exact ir ok (by rw [<- hq.1];exact hq.2.1)
    · exact ih x hx
 exact all r x hx
theorem uW {f':List (List Key×V)} (ok:HOk P w H h) (e:H a=some (.dT f')):f'.length<=TN/\(a == Vs)=false ∧
 ∃ xs,KTd H f' xs/\h.DictOfH (Yz (aF P w)) a xs:=mi ok (.inl e)
end
def DGet (H:Hp) (a:Tn) (y:V) (r:Option V):Prop :=
 (∃ f' k,Rd H a (.dK f')/\y=kV k/\r=aW f' k)∨∃ f' k b,Rd H a (.dT f')/\y=.ref b/\H b=some (.tup (k.map kV))/\r=aW f' k
def DPut (H:Hp) (a:Tn) (y v:V) (H':Hp):Prop :=
 (∃ f' k,H a=some (.dK f')/\y=kV k/\f'.length<TN/\H'=upd H a (.dK (putK f' k v))) ∨
 ∃ f' k b,H a=some (.dT f')/\y=.ref b/\H b=some (.tup (k.map kV))/\f'.length<TN/\H'=upd H a (.dT (putK f' k v))
theorem DGet.k {H:Hp} {a:Tn} {f':List (Key×V)} {k:Key} (e:H a=some (.dK f')):DGet H a (kV k) (aW f' k):=.inl ⟨f',k,.inl e,rfl,rfl⟩
theorem DGet.t {H:Hp} {a b:Tn} {f':List (List Key×V)} {k:List Key} (e:H a=some (.dT f')) (eb:H b=some (.tup (k.map kV))):DGet H a (.ref b) (aW f' k):=.inr ⟨f',k,b,.inl e,rfl,eb,rfl⟩
theorem DPut.t {H:Hp} {a b:Tn} {f':List (List Key×V)} {k:List Key} {v:V} (e:H a=some (.dT f')) (eb:H b=some (.tup (k.map kV))) (hl:f'.length<TN) :
 DPut H a (.ref b) v (upd H a (.dT (putK f' k v))):=.inr ⟨f',k,b,e,rfl,eb,hl,rfl⟩
section
variable {X:Cx} {pins:List (Tn×VN)} {σ:St} {H:Hp} {s:Tv} {a:Tn} {y v:V} {u r:Tp} {o:Option V} {A:Ut} {E:Tp->Tv->Prop}
theorem Inv.big (I:Inv X pins σ H s):Vs<s.heap.objs.size:=by
 have h:Uo<s.heap.objs.size:=(I.mod.glob.keeps I.bk).lt;exact WV (by decide) h
theorem rj {Q:Tp->Tv->Prop} (hu:A.units+1<Vk) (I:Inv X pins σ H s) (g:DGet H a y (some v)) (ry:RelV y u) (h:∀ w' s',Inv X pins σ H s'->RelV v w'->Q w' s') :
 TM (Ug X.prog X.w) A (XA (.ref a) u) Q E s:=by
 rcases g with ⟨f',k,e,ey,l⟩ | ⟨f',k,b,e,ey,eb,l⟩
 · subst ey;obtain ⟨z,hd,vs,rel,dd⟩:=mx I.hok e;obtain ⟨w',hw,Bi⟩:=RelO.some_of (v:=v) (o:=valueAt vs k) (by rw [l];exact rel.val k);exact wpAny_getItem_of (kK ry) dd.mapOf hw (h w' _ (I.tok _) Bi)
 · subst ey;cases (show u=Uc b from ry);obtain ⟨z,hd,xs,rel,dd⟩:=mi I.hok e;obtain ⟨w',hw,Bi⟩:=RelO.some_of (v:=v) (o:=(W6 xs k).map (·.2)) (by rw [l];exact rel.val k);obtain ⟨p,hp,AE⟩:=T8.mp hw;refine wpAny_getItem_heap (Xq hu) (ir I.hok eb) dd hp ?_;rw [AE];exact h w' _ (I.tok _) Bi
theorem xk {Q:Tp->Tv->Prop} (hu:A.units+1<Vk) (I:Inv X pins σ H s) (g:DGet H a y o) (ry:RelV y u) (h:∀ s',Inv X pins σ H s'->Q (.bool o.isSome) s') :
 TM (Ug X.prog X.w) A (Xh .In u (.ref a)) Q E s:=by
 rcases g with ⟨f',k,e,ey,l⟩ | ⟨f',k,b,e,ey,eb,l⟩
 · subst ey;obtain ⟨z,hd,vs,rel,dd⟩:=mx I.hok e;refine wpAny_in_of (kK ry) hd dd.mapOf ?_;rw [<- (rel.val k).isSome_eq,<- l];exact h _ (I.tok _)
 · subst ey;cases (show u=Uc b from ry);obtain ⟨z,hd,xs,rel,dd⟩:=mi I.hok e;refine wpAny_in_heap (Xq hu) (ir I.hok eb) hd dd ?_;have q:=(rel.val k).isSome_eq;rw [Y4] at q;rw [<- q,<- l];exact h _ (I.tok _)
theorem gE {h':US} {t':Nat} {ob:HO} (I:Inv X pins σ H s) (mu:Mut (H a)) (hs:Vq a s.heap h') (he:∃ q,h'.get? a=some q) (new:ObjOk X.prog X.w (upd H a ob) h' a ob) :
 Inv X pins σ (upd H a ob) { s with heap:=h',toks:=t' } :=
 I.write (x:=a) (e:=a) mu (.inl rfl) (fun b q hb z=>(hs.2 b hb).trans z) he new
theorem tS {P:TF} {w:T3} {H':Hp} {h':US} {f':List (Key×V)} {vs:List (Key×Tp)} (z:f'.length<=TN) (hd:(a == Vs)=false) (rel:KV f' vs) (dd:h'.DictOf (aF P w) a vs) :
 ObjOk P w H' h' a (.dK f'):=⟨z,hd,vs,rel,dd⟩
theorem rN {H':Hp} {Q:Unit->Tv->Prop} (hu:A.units+1<Vk) (I:Inv X pins σ H s) (g:DPut H a y v H') (ry:RelV y u) (rv:RelV v r) (h:∀ s',Inv X pins σ H' s'->Q () s') :
 TM (Ug X.prog X.w) A (setItem (.ref a) u r) Q E s:=by
 rcases g with ⟨f',k,e,ey,l,eH⟩ | ⟨f',k,b,e,ey,eb,l,eH⟩
 · subst ey eH;obtain ⟨z,hd,vs,rel,dd⟩:=vn I.hok e;have hz:vs.length<=TN:=by rw [<- rel.length];exact z
   have hl:(putK f' k v).length<=TN:=by have:=bX f' k v;omega
   refine wpAny_setItem_pairs (hsz:=hz) (kK ry) dd fun h' Bq hs=>h _ ?_;have he:∃ q,h'.get? a=some q:=let ⟨q,_,_,hq,_⟩:=Bq;⟨q,hq⟩
   exact gE I (by rw [e];exact VM) hs he (tS hl hd (rel.put k rv) Bq)
 · subst ey eH;cases (show u=Uc b from ry);obtain ⟨z,hd,xs,rel,dd⟩:=uW I.hok e;have hz:xs.length<=TN:=by rw [<- TB rel];exact z
   have hl:(putK f' k v).length<=TN:=by have:=bX f' k v;omega
   refine wpAny_setItem_heap (hsz:=hz) (Xq hu) (ir I.hok eb) dd fun h' Bq hs=>h _ ?_;obtain ⟨q,es,ep,hq,h2,h3,h4,_,h5⟩:=Bq;refine gE I (by rw [e];exact VM) hs ⟨q,hq⟩ ⟨hl,hd,_,(rel.put k eb rv).keeps fun c ys ec=>?_,q,es,ep,hq,h2,h3,h4,h5⟩;rw [ak (gR ec e (fun z=>nomatch z))];exact ec
end
section
variable {X:Cx} {pins:List (Tn×VN)} {σ:St} {H:Hp} {s:Tv} {a:Tn} {f':List (Key×V)} {k:Key} {u:Tp} {A:Ut} {E:Tp->Tv->Prop}
end
def wa (i:UP):Prop:=∀ ov iv,subscripted i false ov iv=operate [ov,iv] (XA ov iv)
theorem qy {prog:TF} {w:T3} {A:Ut} {E:Tp->Tv->Prop} {s:Tv} {env:Env} {value slice:UP} {pos:Xv} {T id:String} {Q:Tp->Tv->Prop}
 (hl:W5 (.type T) "__getitem__"=pure (some (.builtin id))) (hs:wa slice)
 (h:TM (Ug prog w) A (VY value env) (fun o xN=>TM (Ug prog w) A (VY slice env) (fun i yu=>yu.TypeIs o T/\TM (Ug prog w) A (XA o i) Q E yu) E xN) E s) :
 TM (Ug prog w) A (VY (.Subscript value slice pos) env) Q E s:=by
 refine Subscript_ (VI h (fun o xN x8=>VI x8 (fun i yu yH=>?_) fun _ _ x=>x) fun _ _ x=>x);obtain ⟨hT,yH⟩:=yH;unfold subscriptTail;refine Tf ?_;rw [getitemInPython_of_ne hT.not_modules];refine Tf (Vb hT hl ?_)
 have fin:TM (Ug prog w) A (subscripted slice false o i) (fun r zL=>TM (Ug prog w) A (letTemporaryGo value o r >>= fun _=>pure r) Q E zL) E yu:=by
  rw [hs o i];exact wpAny_operating (VI yH (fun r zL Ad=>Tf (wpAny_letTemporaryGo (Tt Ad))) fun _ _ x=>x)
 first
  | exact Tt (Tf fin)
  | exact Tf (Tt (Tf fin))
  | exact Tf fin
theorem pe {X:Cx} {pins:List (Tn×VN)} {σ:St} {H:Hp} {s:Tv} {a:Tn} {y:V} {o:Option V} (I:Inv X pins σ H s) (g:DGet H a y o):s.TypeIs (.ref a) "dict":=by
 rcases g with ⟨f',k,e,_,_⟩ | ⟨f',k,b,e,_,_,_⟩
 · obtain ⟨_,_,vs,_,dd⟩:=mx I.hok e;exact dd.typeIs
 · obtain ⟨_,_,xs,_,dd⟩:=mi I.hok e;exact dd.typeIs
def w4 (td ty:TE):TE:=fun σ H Q=>td σ H fun x H1=>ty σ H1 fun y H2=>∃ a v,x=.ref a/\DGet H2 a y (some v)/\Q v H2
def xn (ty td:TE):TE:=fun σ H Q=>ty σ H fun y H1=>td σ H1 fun x H2=>∃ a o,x=.ref a/\DGet H2 a y o/\Q (.bl o.isSome) H2
def wX (td ty tv:TE):TS:=fun D σ H=>tv σ H fun v H1=>td σ H1 fun x H2=>ty σ H2 fun y H3=>∃ a H4,x=.ref a/\DPut H3 a y v H4/\D.nx σ H4
section
variable {X:Cx} {o i e value:UP} {pos pos' J7:Xv} {td ty tv:TE}
theorem mT (hu:X.A.units+1<Vk) (ho:PE X o td) (hi:PE X i ty) (hs:wa i):PE X (.Subscript o i pos) (w4 td ty):=by
 intro pins s σ H Q I h;refine qy PySem.F.slot_dict_getitem.lookup hs (thn (ho pins s σ H _ I h) fun u s1 ⟨x,H1,I1,rx,q1⟩=>thn (hi pins s1 σ H1 _ I1 q1) fun iv s2 ⟨y,H2,I2,ry,a,v,ex,g,q2⟩=>?_);subst ex;obtain rfl:u=Uc a:=rx;exact ⟨pe I2 g,rj hu I2 g ry fun w' s3 I3 Bi=>⟨v,H2,I3,Bi,q2⟩⟩
theorem vH (hu:X.A.units+1<Vk) (hi:PE X i ty) (ho:PE X o td):PC X .In i o (xn ty td):=by
 intro pins s σ H Q I h;refine thn (hi pins s σ H _ I h) fun iv s1 ⟨y,H1,I1,ry,q1⟩=>thn (ho pins s1 σ H1 _ I1 q1) fun u s2 ⟨x,H2,I2,rx,a,ov,ex,g,q2⟩=>?_;subst ex;obtain rfl:u=Uc a:=rx;exact xk hu I2 g ry fun s3 I3=>⟨.bl ov.isSome,H2,I3,rfl,q2⟩
theorem uV (hu:X.A.units+1<Vk) (ho:PE X o td) (hi:PE X i ty) (hv:PE X value tv) (hs:swapsWith value (some (.Subscript o i pos')) pos.line X.env=pure false) :
 PS X (.Assign [.Subscript o i pos'] value pos) (wX td ty tv):=by
 intro pins s σ H D I h;refine wpAny_Assign_Subscript (thn (hv pins s σ H _ I h) fun r s1 ⟨v,H1,I1,rv,q1⟩=>thn (ho pins s1 σ H1 _ I1 q1) fun u s2 ⟨x,H2,I2,rx,q2⟩=>thn (hi pins s2 σ H2 _ I2 q2) fun iv s3 ⟨y,H3,I3,ry,a,H4,ex,g,q3⟩=>?_) hs;subst ex;obtain rfl:u=Uc a:=rx;exact rN hu I3 g ry rv fun s4 I4=>⟨σ,H4,I4,q3⟩
end
theorem oD {P:TF} {w:T3} {H:Hp} (h:US) (hb:Vs<h.objs.size):ObjOk P w H (h.push { cls:=.type "dict",data:=.dict #[] }) h.objs.size (.dK []) :=
 ⟨T4 _,beq_eq_false_iff_ne.mpr (Vp (Ui hb)),[],.nil,Heap.DictOf.new h⟩
theorem oZ {P:TF} {w:T3} {H:Hp} (h:US) (hb:Vs<h.objs.size):ObjOk P w H (h.push { cls:=.type "dict",data:=.dict #[] }) h.objs.size (.dT []) :=
 ⟨T4 _,beq_eq_false_iff_ne.mpr (Vp (Ui hb)),[],.nil,_,#[],0,TC _ rfl,⟨rfl,rfl,rfl⟩,rfl,rfl,XR⟩
def vT:TE:=fun _ H Q=>∀ p,H p=none->Q (.ref p) (upd H p (.dK []))
def vJ:TE:=fun _ H Q=>∀ p,H p=none->Q (.ref p) (upd H p (.dT []))
section
variable {X:Cx} {pos:Xv}
theorem tM:PE X (.Dict [] [] pos) vT:=fun pins s σ H Q I h =>
 wpAny_Dict_empty ⟨.ref s.heap.objs.size,_,I.laid (a:=s.heap.objs.size) (o:=.dK []) (t':=s.toks) (fun _ _ q=>Tr _ q) (To _) (oD s.heap I.big),rfl,h _ (I.hok.fresh (To _))⟩
theorem tR:PE X (.Dict [] [] pos) vJ:=fun pins s σ H Q I h =>
 wpAny_Dict_empty ⟨.ref s.heap.objs.size,_,I.laid (a:=s.heap.objs.size) (o:=.dT []) (t':=s.toks) (fun _ _ q=>Tr _ q) (To _) (oZ s.heap I.big),rfl,h _ (I.hok.fresh (To _))⟩
end
def pJ:List (TE×TE)->St->Hp->(List (V×V)->Hp->Prop)->Prop
 | [],_,H,Q=>Q [] H
 | (tk,tv)::r,σ,H,Q=>tk σ H fun x H1=>tv σ H1 fun y H2=>pJ r σ H2 fun ps H3=>Q ((x,y)::ps) H3
abbrev VV:List (V×V)->List (Tp×Tp)->Prop:=Ud fun p q=>RelV p.1 q.1/\RelV p.2 q.2
def PPs (X:Cx) (pos:Xv) (keys:List (Option UP)) (values:List UP) (CV:List (TE×TE)):Prop :=
 ∀ (pins:List (Tn×VN)) (s:Tv) (σ:St) (H:Hp) (Q:List (V×V)->Hp->Prop),Inv X pins σ H s->pJ CV σ H Q →
   TM (Ug X.prog X.w) X.A (evalPairs (pairTrees keys values X.env pos)) (fun vs s'=>∃ ps H',Inv X pins σ H' s'/\VV ps vs/\Q ps H') X.xe s
theorem qu {X:Cx} {pos:Xv}:PPs X pos [] [] []:=fun pins s σ H Q I h=>pairTrees_nil_walk ⟨[],H,I,.nil,h⟩
theorem oz {X:Cx} {pos:Xv} {k v:UP} {ks:List (Option UP)} {vs:List UP} {tk tv:TE} {CV:List (TE×TE)} (hk:PE X k tk) (hv:PE X v tv) (hr:PPs X pos ks vs CV) :
 PPs X pos (some k::ks) (v::vs) ((tk,tv)::CV):=fun pins s σ H Q I h =>
 pairTrees_cons_walk (thn (hk pins s σ H _ I h) fun u s1 ⟨x,H1,I1,rx,q1⟩=>thn (hv pins s1 σ H1 _ I1 q1) fun w2 s2 ⟨y,H2,I2,ry,q2⟩ =>
  thn (hr pins s2 σ H2 _ I2 q2) fun ws s3 ⟨ps,H3,I3,rel,q3⟩=>⟨(x,y)::ps,H3,I3,.cons ⟨rx,ry⟩ rel,q3⟩)
def jm (f' more:List (Key×V)):List (Key×V):=more.foldl (fun acc kv=>putK acc kv.1 kv.2) f'
theorem KV.merge:∀ {more:List (Key×V)} {rs:List (Key×Tp)} {f':List (Key×V)} {vs:List (Key×Tp)},KV more rs->KV f' vs->KV (jm f' more) (merged vs rs):=by
 intro more rs f' vs r;unfold KV at r;induction r generalizing f' vs with
 | nil=>intro q;exact q
 | @cons p q ps qs h t ih =>
   intro r0
   have e:KV (putK f' p.1 p.2) (stored vs q.1 q.2):=by
    have:=r0.put p.1 h.2;rw [<- h.1];exact this
   exact ih e
theorem hZ:∀ (more f':List (Key×V)),(jm f' more).length<=f'.length+more.length
 | [],f'=>by show f'.length<=f'.length+0;omega
 | p::r,f'=>by
   have h1:=hZ r (putK f' p.1 p.2);have h2:=bX f' p.1 p.2;show (jm (putK f' p.1 p.2) r).length<=_;rw [Tx];omega
theorem lr {P:TF} {w:T3}:∀ {f':List (Key×V)} {ws:List (Tp×Tp)},VV (f'.map fun kv=>(kV kv.1,kv.2)) ws->∃ rs,Carries (aF P w) ws rs/\KV f' rs
 | [],_,r=>by rw [VO] at r;cases r;exact ⟨[],VM,.nil⟩
 | p::f',_,r=>by
   rw [UE] at r;cases r with
   | @cons a b as bs h t =>
     obtain ⟨rs,c,q⟩:=lr (P:=P) (w:=w) t;obtain ⟨b1,b2⟩:=b;exact ⟨(p.1,b2)::rs,⟨kK h.1,rfl,c⟩,.cons ⟨rfl,h.2⟩ q⟩
def wx (CV:List (TE×TE)):TE:=fun σ H Q=>∀ p,H p=none->pJ CV σ (upd H p (.dK [])) fun ps H2=>H2 p=some (.dK [])/\∃ f':List (Key×V),ps=f'.map (fun kv=>(kV kv.1,kv.2))/\f'.length<=15/\Q (.ref p) (upd H2 p (.dK (jm [] f')))
theorem qD {X:Cx} {pos:Xv} {keys:List (Option UP)} {values:List UP} {CV:List (TE×TE)} (h:PPs X pos keys values CV) (xT:keys.all (·.isSome)=true) (hl:keys.length=values.length) (h0:keys≠[])
 (P1:keys.length<=15):PE X (.Dict keys values pos) (wx CV):=by
 intro pins s σ H Q I q;have hn:=I.hok.fresh (To s.heap.objs.size);have I1:=I.laid (a:=s.heap.objs.size) (o:=.dK []) (h':=s.heap.push { cls:=.type "dict",data:=.dict #[] }) (t':=s.toks) (fun _ _ q=>Tr _ q) (To _) (oD s.heap I.big);refine wpAny_Dict_walk (knd:=aF X.prog X.w) xT hl h0 P1 (thn (h pins _ σ _ _ I1 (q _ hn)) fun ws s2 ⟨ps,H2,I2,rel,e,f',ep,lk,q2⟩=>?_);subst ep;obtain ⟨rs,c,rk⟩:=lr (P:=X.prog) (w:=X.w) rel;obtain ⟨z,hd,R',r0,dd⟩:=vn I2.hok e;cases r0;refine ⟨rs,c,dd,fun h' Bq hs=>⟨.ref s.heap.objs.size,_,?_,rfl,q2⟩⟩
 have hz:(jm [] f').length<=TN:=by
  have h1:=hZ f' [];rw [Wi] at h1;rw [Xs];omega
 have he:∃ q,h'.get? s.heap.objs.size=some q:=let ⟨q,_,_,hq,_⟩:=Bq;⟨q,hq⟩
 exact gE I2 (by rw [e];exact VM) hs he (tS hz hd (rk.merge .nil) Bq)
structure M2 (X:Cx) (o:UP) (m:T6) (apos:Xv) (e f:UP) (xZ:Xv):Prop where
 base:attributeBase o m X.env (VY o X.env)=VY o X.env
 few:((XD xZ (UD [e,f] X.env)).all (fun x=>!x.1) && (backToKw xZ (keywordEach [] X.env)).all (fun x=>x.1.isSome)
  && decide (([e,f]:List UP).length+([]:List Keyword).length+(if ([]:List Keyword).isEmpty then 0 else 1)<30))=true
 line:(apos.endLine == xZ.line)=true
 trees:XD xZ (UD [e,f] X.env)=[(false,VY e X.env),(false,VY f X.env)]
def IsD (H:Hp) (a:Tn):Prop:=(∃ f',Rd H a (.dK f'))∨∃ f',Rd H a (.dT f')
theorem vz {X:Cx} {pins:List (Tn×VN)} {σ:St} {H:Hp} {s:Tv} {a:Tn} (I:Inv X pins σ H s) (d:IsD H a) :
 s.TypeIs (.ref a) "dict"/\(∀ b,Uc a=.ref b->∃ ob,s.heap.get? b=some ob/\ob.dict=none)/\(a == Vs)=false:=by
 rcases d with ⟨f',e⟩ | ⟨f',e⟩
 · obtain ⟨_,hd,vs,_,dd⟩:=mx I.hok e;refine ⟨dd.typeIs,fun b q=>?_,hd⟩;cases q;obtain ⟨ob,_,_,h1,h2,_⟩:=dd;exact ⟨ob,h1,h2.2.1⟩
 · obtain ⟨_,hd,xs,_,dd⟩:=mi I.hok e;refine ⟨dd.typeIs,fun b q=>?_,hd⟩;cases q;obtain ⟨ob,_,_,h1,h2,_⟩:=dd;exact ⟨ob,h1,h2.2.1⟩
section
variable {X:Cx} {pins:List (Tn×VN)} {σ:St} {H:Hp} {s:Tv} {a:Tn} {y d:V} {u r:Tp} {o:Option V} {A:Ut} {E:Tp->Tv->Prop}
theorem vB {Q:Tp->Tv->Prop} (hu:A.units+1<Vk) (I:Inv X pins σ H s) (g:DGet H a y o) (ry:RelV y u) (rd:RelV d r) (h:∀ w' s',Inv X pins σ H s'->RelV (o.getD d) w'->Q w' s') :
 TM (Ug X.prog X.w) A (call (.builtin "dict.get") [.ref a,u,r]) Q E s:=by
 rcases g with ⟨f',k,e,ey,l⟩ | ⟨f',k,b,e,ey,eb,l⟩
 · subst ey;obtain ⟨z,hd,vs,rel,dd⟩:=mx I.hok e;refine call_meetsIn WE dd.typeIs Ym (Yj _ _ _) (meets_dict_get_default (aF X.prog X.w) a (kK ry) hd r) ⟨_,dd.mapOf,h _ _ (I.tok _) ?_⟩;rw [l];exact (rel.val k).getD rd
 · subst ey;cases (show u=Uc b from ry);obtain ⟨z,hd,xs,rel,dd⟩:=mi I.hok e;refine call_meetsIn WE dd.typeIs Ym (Yj _ _ _) (meetsH_dict_get_default (Yz (aF X.prog X.w)) a b hd r) ⟨Xq hu,k,xs,ir I.hok eb,dd,h _ _ (I.tok _) ?_⟩;rw [l];exact (rel.val k).getD rd
end
def sB (td ty tx:TE):TE:=fun σ H Q=>td σ H fun x H1=>∃ a,x=.ref a/\IsD H1 a/\ty σ H1 fun y H2=>tx σ H2 fun z H3=>∃ o,DGet H3 a y o/\Q (o.getD z) H3
section
variable {X:Cx} {o e f:UP} {apos xZ:Xv} {td ty tx:TE}
theorem tI (hu:X.A.units+1<Vk) (ho:PE X o td) (he:PE X e ty) (hf:PE X f tx) (m:M2 X o "get" apos e f xZ):PE X (.Call (.Attribute o "get" apos) [e,f] [] xZ) (sB td ty tx):=by
 intro pins s σ H Q I h;refine wpAny_Call_method m.base m.few m.line Yh WE PySem.F.type_dict_get (thn (ho pins s σ H _ I h) fun u s1 ⟨x,H1,I1,rx,a,ex,d,q1⟩=>?_);subst ex;obtain rfl:u=Uc a:=rx;obtain ⟨t1,t2,_⟩:=vz I1 d;refine ⟨t1,t2,?_⟩;rw [m.trees]
 refine WK rfl (XW (Vg (thn (he pins s1 σ H1 _ I1 q1) fun iv s2 ⟨y,H2,I2,ry,q2⟩ =>
  Vg (thn (hf pins s2 σ H2 _ I2 q2) fun fv s3 ⟨z,H3,I3,rz,ov,g,q3⟩=>VJ ?_))))
 exact vB hu I3 g ry rz fun w' s4 I4 Bi=>⟨_,H3,I4,Bi,q3⟩
end
section
variable {X:Cx} {pins:List (Tn×VN)} {σ:St} {H:Hp} {s:Tv} {a:Tn} {f':List (Key×V)} {A:Ut} {E:Tp->Tv->Prop}
end
section
variable {X:Cx} {pins:List (Tn×VN)} {σ:St} {H:Hp} {s:Tv} {a:Tn} {y:V} {u:Tp} {A:Ut} {E:Tp->Tv->Prop}
end
end L2
namespace L2
open PySem PySem.Spec PyProof.Rows
inductive uX (K:Tg) (T:String) (xs:List V) (H:Hp) (Q:VK):Prop
 | mk (x:_) (b:_) (t:_) (x9:xs=[x,.ty T]) (ya:iS K H x t) (ye:WM K t (.type T)=some b) (yj:Q (.bl b) H):uX K T xs H Q
def wI (K:Tg) (T:String):List V->Hp->VK->Prop:=uX K T
theorem cD {X:Cx} {T:String}:gS X (.builtin "isinstance") (wI X.K T):=by
 intro pins s σ H xs us Q I r h;obtain ⟨x,b,t,e,ty,k,q⟩:=h;exact sG (T:=T) (b:=b) (t:=t) pins s σ H xs us Q I r ⟨x,e,ty,k,q⟩
theorem sN {α:Type} {js:List (Option Nat)} {g:TG} {tt:TT} {te:TE} {σ:St} {J:It} {H:Hp} {xs:List V} {fin:Tn->Hp->Prop} (zs:List α) (p:α->Bool) (f:α->V) (hz:zs.length=xs.length) (hn:xs.length<=1000000)
 (EK:∀ i H2,Same H H2->i<xs.length->J.go i H2) (zk:∀ H2,Same H H2->J.stop xs.length H2) (AF:∀ (i:Nat) H2 x H3,Same H H2->i<xs.length->J.yld i H2 x H3->H3=H2/\xs[i]?=some x)
 (hb:∀ (i:Nat) x z H2 (R:VK) (R0:Hp->Prop),xs[i]?=some x->zs[i]?=some z->Same H H2->(p z=true->R (f z) H2)->(p z=false->R0 H2)->g x (cσ js σ) H2 fun yc H3=>tt yc H3 fun b H4=>if b=true then te yc H4 R else R0 H4)
 (q:∀ D,H D=none->fin D (upd H D (.lst ((zs.filter p).map f)))) :
 ∀ D,H D=none->∃ (n:Nat) (W:Nat->Hp->Prop),W 0 (upd H D (.lst []))/\i5 js g tt te σ J D n W fun H'=>fin D H':=by
 intro D hD;refine ⟨xs.length,fun i H2=>i<=xs.length/\H2=upd H D (.lst (((zs.take i).filter p).map f)),⟨T4 _,by simp⟩,?_⟩;rintro i H2 ⟨hi,rfl⟩;have sm:∀ o,Same H (upd H D o):=fun o=>ad hD o;by_cases h:i=xs.length
 · left;subst h;refine ⟨zk _ (sm _),?_⟩;rw [<- hz,V1];exact q D hD
 · right;have yq:i<xs.length:=by omega
   refine ⟨yq,EK i _ (sm _) yq,fun x H1 hy=>?_⟩;obtain ⟨rfl,hx⟩:=AF i _ x H1 (sm _) yq hy;have P4:i<zs.length:=by omega
   have e1:zs[i]?=some zs[i]:=Ti P4
   have e2:(zs.take (i+1)).filter p=(zs.take i).filter p++(if p zs[i]=true then [zs[i]] else []):=by
    rw [UZ,e1,XU];show _++List.filter p [zs[i]]=_;rw [Vz,List.filter_nil]
   have hlen:(((zs.take i).filter p).map f).length<=1000000:=by
    rw [Te];have:=Xw p (zs.take i);rw [Ul] at this;omega
   refine hb i x zs[i] _ _ _ hx e1 (sm _) (fun hp=>⟨_,ab,YU hlen (by decide),yq,?_⟩) (fun hp=>⟨yq,?_⟩)
   · rw [nB,e2,if_pos hp,TH];rfl
   · rw [e2,if_neg (by rw [hp];exact TV),Up]
theorem hX {α:Type} {K:Tg} {a:Tn} {js:List (Option Nat)} {g:TG} {tt:TT} {te:TE} {σ:St} {H:Hp} {xs:List V} {fin:Tn->Hp->Prop} (zs:List α) (p:α->Bool) (f:α->V) (hS:SqL K H a xs) (hz:zs.length=xs.length) (hn:xs.length<=1000000)
 (hb:∀ (i:Nat) x z H2 (R:VK) (R0:Hp->Prop),xs[i]?=some x->zs[i]?=some z->Same H H2->(p z=true->R (f z) H2)->(p z=false->R0 H2)->g x (cσ js σ) H2 fun yc H3=>tt yc H3 fun b H4=>if b=true then te yc H4 R else R0 H4)
 (q:∀ D,H D=none->fin D (upd H D (.lst ((zs.filter p).map f)))) :
 ∀ D,H D=none->∃ (n:Nat) (W:Nat->Hp->Prop),W 0 (upd H D (.lst []))/\i5 js g tt te σ (Itl K a) D n W fun H'=>fin D H' :=
 sN zs p f hz hn (fun i H2 s hi=>⟨xs,xs[i],s.seq hS,Ti hi⟩) (fun H2 s=>⟨xs,s.seq hS,To _⟩) (fun i H2 x H3 s hi hy=>⟨hy.1,hy.2 xs (s.seq hS)⟩) hb q
variable {K:Tg}
theorem pB:WM K (.type "tuple") (.type "tuple")=some true:=rfl
theorem tq:WM K (.type "str") (.type "str")=some true:=rfl
theorem pZ:WM K (.type "list") (.type "list")=some true:=rfl
end L2
namespace BB
open PySem L2
set_option genInjectivity true in
inductive Dv where
 | int (i:Int)
 | str (x:T6)
 | tup (ds:List Dv)
mutual
def Dv.deep:Dv->Nat
 | .int _=>0
 | .str _=>0
 | .tup ds=>cQ ds+1
def cQ:List Dv->Nat
 | []=>0
 | d::ds=>max d.deep (cQ ds)
end
mutual
def Dv.tot:Dv->Nat
 | .int _=>1
 | .str _=>1
 | .tup ds=>uq ds+1
def uq:List Dv->Nat
 | []=>0
 | d::ds=>d.tot+uq ds
end
mutual
def DAt (H:Hp):Dv->V->Prop
 | .int i,v=>v=.int i
 | .str x,v=>v=.str x
 | .tup ds,v=>∃ a vs,v=.ref a/\H a=some (.tup vs)/\DAts H ds vs
def DAts (H:Hp):List Dv->List V->Prop
 | [],vs=>vs=[]
 | d::ds,vs=>∃ v r,vs=v::r/\DAt H d v/\DAts H ds r
end
theorem DAts.nil {H:Hp}:DAts H [] []:=by rw [DAts]
theorem DAts.cons {H:Hp} {d:Dv} {ds:List Dv} {v:V} {vs:List V} (h1:DAt H d v) (h2:DAts H ds vs):DAts H (d::ds) (v::vs):=by rw [DAts];exact ⟨v,vs,rfl,h1,h2⟩
theorem DAts.length {H:Hp}:∀ {ds:List Dv} {vs:List V},DAts H ds vs->vs.length=ds.length
 | [],vs,h=>by rw [DAts] at h;subst h;rfl
 | d::ds,vs,h=>by
   rw [DAts] at h;obtain ⟨v,r,rfl,h1,h2⟩:=h;rw [Tx,Tx,h2.length]
theorem DAts.at {H:Hp}:∀ {ds:List Dv} {vs:List V} {i:Nat} {d:Dv},DAts H ds vs->ds[i]?=some d->∃ v,vs[i]?=some v/\DAt H d v
 | [],vs,i,d,h,e=>by simp at e
 | d0::ds,vs,i,d,h,e=>by
   rw [DAts] at h;obtain ⟨v,r,rfl,h1,h2⟩:=h;cases i with
   | zero=>simp at e;subst e;exact ⟨v,rfl,h1⟩
   | succ i =>
     obtain ⟨u,g1,g2⟩:=h2.at (i:=i) (by simpa using e);exact ⟨u,by simpa using g1,g2⟩
theorem fe:∀ {ds:List Dv} {i:Nat} {d:Dv},ds[i]?=some d->d.deep<=cQ ds
 | [],i,d,e=>by simp at e
 | d0::ds,i,d,e=>by
   rw [cQ];cases i with
   | zero=>simp at e;subst e;omega
   | succ i =>
     have:=fe (ds:=ds) (i:=i) (by simpa using e);omega
theorem nE:∀ {ds:List Dv} {i:Nat} {d:Dv},ds[i]?=some d->d.tot<=uq ds
 | [],i,d,e=>by simp at e
 | d0::ds,i,d,e=>by
   rw [uq];cases i with
   | zero=>simp at e;subst e;omega
   | succ i =>
     have:=nE (ds:=ds) (i:=i) (by simpa using e);omega
theorem Dv.tot_pos (d:Dv):1<=d.tot:=by
 cases d with
 | int i=>rw [Dv.tot];omega
 | str x=>rw [Dv.tot];omega
 | tup ds=>rw [Dv.tot];omega
mutual
def Th.dv:Th->Dv
 | .knot n ks=>.tup (.str n::dvs ks)
 | .call s k=>.tup [.str q,.int s,.int k]
def dvs:List Th->List Dv
 | []=>[]
 | t::ts=>t.dv::dvs ts
end
mutual
theorem At.dv {H:Hp}:∀ {t:Th} {a:Tn},At H t a->DAt H t.dv (.ref a)
 | .knot n ks,a,h=>by
   rw [At] at h;obtain ⟨_,as,h1,h2⟩:=h;rw [Th.dv,DAt];exact ⟨a,_,rfl,h1,.cons (by rw [DAt]) (Ats.dvs h2)⟩
 | .call s k,a,h=>by
   rw [At] at h;rw [Th.dv,DAt];exact ⟨a,_,rfl,h,.cons (by rw [DAt]) (.cons (by rw [DAt]) (.cons (by rw [DAt]) .nil))⟩
theorem Ats.dvs {H:Hp}:∀ {ts:List Th} {as:List Tn},Ats H ts as->DAts H (dvs ts) (as.map V.ref)
 | [],as,h=>by rw [Ats] at h;subst h;rw [BB.dvs];exact .nil
 | t::ts,as,h=>by
   rw [Ats] at h;obtain ⟨a,r,rfl,h1,h2⟩:=h;rw [BB.dvs,UE];exact .cons (At.dv h1) (Ats.dvs h2)
end
mutual
theorem Th.dv_deep:∀ t:Th,t.dv.deep<=t.tall
 | .knot n ks=>by
   have:=iK ks;rw [Th.dv,Dv.deep,cQ,Dv.deep,Th.tall];omega
 | .call s k=>by rw [Th.dv,Th.tall];simp [Dv.deep,cQ]
theorem iK:∀ ts:List Th,cQ (dvs ts)<=bf ts
 | []=>by rw [dvs,cQ];exact T4 _
 | t::ts=>by
   have:=t.dv_deep;have:=iK ts;rw [dvs,cQ,bf];omega
end
theorem oK {K:Tg} {H:Hp} {a b:Tn} {xs ys:List V} {Q:VK} (ha:H a=some (.tup xs)) (hb:H b=some (.tup ys)) (hz:xs.length+ys.length<=1000000) (q:∀ p H',L2.Same H H'->H' p=some (.tup (xs++ys))->Q (.ref p) H'):lW K (.ref a) (.ref b) H Q:=by
 refine ⟨a,b,xs,ys,rfl,rfl,SqT.of ha,SqT.of hb,ai hz,fun e=>?_,fun _ e=>?_,fun _ _ p hp=>?_⟩
 · exact q b H (.refl _) (by rw [e];exact hb)
 · exact q a H (.refl _) (by rw [e,Up];exact ha)
 · exact q p _ (ad hp _) ab
mutual
/-- all NJ with NK places,a knot ahead of its kids -/
def Th.pl (pre:List Int):Th->List (List Int×Th)
 | .knot n ks=>(pre,.knot n ks)::pls pre 0 ks
 | .call s k=>[(pre,.call s k)]
def pls (pre:List Int) (i:Int):List Th->List (List Int×Th)
 | []=>[]
 | t::ts=>t.pl (pre++[i])++pls pre (i+1) ts
end
theorem Th.pl_eq (pre:List Int) (t:Th):t.pl pre=(pre,t)::pls pre 0 t.kids:=by
 cases t with
 | knot n ks=>rw [Th.pl];rfl
 | call s k=>rw [Th.pl];simp [Th.kids,pls]
mutual
theorem Th.pl_len (pre:List Int):∀ t:Th,(t.pl pre).length=t.size
 | .knot n ks=>by rw [Th.pl,Th.size,Tx,qX pre 0 ks]
 | .call s k=>by rw [Th.pl,Th.size];rfl
theorem qX (pre:List Int) (i:Int):∀ ts:List Th,(pls pre i ts).length=aq ts
 | []=>by rw [pls,aq];rfl
 | t::ts=>by rw [pls,aq,TZ,Th.pl_len _ t,qX pre (i+1) ts]
end
def szP:List (List Int×Th)->Nat
 | []=>0
 | p::ps=>p.2.size+szP ps
def plP:List (List Int×Th)->List (List Int×Th)
 | []=>[]
 | p::ps=>p.2.pl p.1++plP ps
theorem cA:∀ a b,szP (a++b)=szP a+szP b
 | [],b=>by simp [szP]
 | p::a,b=>by rw [VA,szP,szP,cA a b,X9]
theorem jV (a:List (List Int×Th)):szP a.reverse=szP a:=by
 induction a with
 | nil=>rfl
 | cons x xs ih=>rw [UJ,cA,ih,szP,szP,szP];omega
theorem lw:∀ a b,plP (a++b)=plP a++plP b
 | [],b=>by simp [plP]
 | p::a,b=>by rw [VA,plP,plP,lw a b,Uy]
theorem qS:∀ a,(plP a).length=szP a
 | []=>rfl
 | p::a=>by rw [plP,szP,TZ,Th.pl_len,qS a]
theorem nH:∀ a,a.length<=szP a
 | []=>T4 _
 | p::a=>by
   have:=p.2.size_pos;have:=nH a;rw [Tx,szP];omega
def cN (pre:List Int) (i:Int):List Th->List (List Int×Th)
 | []=>[]
 | t::ts=>(pre++[i],t)::cN pre (i+1) ts
theorem fX (pre:List Int) (i:Int):∀ ts,(cN pre i ts).length=ts.length
 | []=>rfl
 | t::ts=>by rw [cN,Tx,Tx,fX pre (i+1) ts]
theorem oY (pre:List Int) (i:Int):∀ ts,plP (cN pre i ts)=pls pre i ts
 | []=>by rw [cN,plP,pls]
 | t::ts=>by rw [cN,plP,pls,oY pre (i+1) ts]
theorem iQ (pre:List Int) (i:Int):∀ ts,szP (cN pre i ts)=aq ts
 | []=>by rw [cN,szP,aq]
 | t::ts=>by rw [cN,szP,aq,iQ pre (i+1) ts]
theorem ku (pre:List Int):∀ (i:Int) (ts:List Th) (j:Nat) (t:Th),ts[j]?=some t->(cN pre i ts)[j]?=some (pre++[i+j],t)
 | i,[],j,t,e=>by simp at e
 | i,u::ts,0,t,e=>by simp at e;subst e;rw [cN];simp
 | i,u::ts,j+1,t,e=>by
   rw [cN,UH,ku pre (i+1) ts j t (by simpa using e)];have:i+1+(j:Int)=i+((j+1:Nat):Int):=by omega
   rw [this]
theorem j6 (pre:List Int):∀ (i:Int) (ts:List Th) (p:List Int×Th),p∈cN pre i ts->p.1.length=pre.length+1/\p.2∈ts
 | i,[],p,h=>by rw [cN] at h;cases h
 | i,u::ts,p,h=>by
   rw [cN] at h;rcases TR.mp h with rfl | h
   · exact ⟨by simp,T2 ..⟩
   · have:=j6 pre (i+1) ts p h;exact ⟨this.1,T1 _ this.2⟩
theorem P2.reverse {α β:Type} {F:α->β->Prop}:∀ {a:List α} {b:List β},Ud F a b->Ud F a.reverse b.reverse
 | _,_,.nil=>.nil
 | _,_,.cons r t=>by
   rw [UJ,UJ];exact P2.append (P2.reverse t) (.cons r .nil)
theorem P2.snoc_inv {α β:Type} {F:α->β->Prop} {a:List α} {b:List β} {y:β} (h:Ud F a (b++[y])):∃ us x,a=us++[x]/\Ud F us b/\F x y:=by
 have r:=P2.reverse h;rw [U5,List.reverse_singleton,List.singleton_append] at r;cases e:a.reverse with
 | nil=>rw [e] at r;cases r
 | cons x us =>
   rw [e] at r;cases r with
   | cons h1 h2 =>
     refine ⟨us.reverse,x,?_,?_,h1⟩
     · rw [<- UJ,<- e,Vy]
     · have:=P2.reverse h2;rw [Vy] at this;exact this
theorem nA {t u:Th} (h:u∈t.kids):u.tall+1<=t.tall:=by
 have:=bv h;rw [t.tall_eq];omega
def Th.sub:Th->List Int->Option Th
 | t,[]=>some t
 | t,i::r=>if 0<=i then (match t.kids[i.toNat]? with | some u=>u.sub r | none=>none) else none
termination_by _ p=>p.length
theorem qZ (t:Th):t.sub []=some t:=by rw [Th.sub]
theorem sZ {t u:Th} {i:Int} {r:List Int} (h0:0<=i) (h:t.kids[i.toNat]?=some u):t.sub (i::r)=u.sub r:=by rw [Th.sub,if_pos h0,h]
mutual
theorem tE:∀ (t:Th) (pre p:List Int) (u:Th),(p,u)∈t.pl pre->∃ r,p=pre++r/\t.sub r=some u/\r.length+u.tall<=t.tall/\u.size<=t.size
 | .knot n ks,pre,p,u,h=>by
   rw [Th.pl] at h;rcases TR.mp h with e | h
   · cases e;exact ⟨[],by simp,qZ _,by simp,To _⟩
   · obtain ⟨j,v,r,h1,rfl,h3,h4,h5,h6,h7⟩:=qU ks pre 0 p u h;refine ⟨(0+(j:Int))::r,by simp,?_,?_,?_⟩
     · rw [sZ (u:=v) (by omega) (by rw [show (0+(j:Int)).toNat=j by omega];exact h1)];exact h3
     · rw [Th.tall,Tx];omega
     · rw [Th.size];omega
 | .call s k,pre,p,u,h=>by
   rw [Th.pl] at h;have e:(p,u)=(pre,Th.call s k):=by simpa using h
   cases e;exact ⟨[],by simp,qZ _,by simp,To _⟩
theorem qU:∀ (ts:List Th) (pre:List Int) (i:Int) (p:List Int) (u:Th),(p,u)∈pls pre i ts->∃ (j:Nat) (v:Th) (r:List Int),ts[j]?=some v/\p=pre++(i+(j:Int))::r/\v.sub r=some u/\r.length+u.tall<=v.tall/\v.tall<=bf ts/\u.size<=v.size/\v.size<=aq ts
 | [],pre,i,p,u,h=>by rw [pls] at h;cases h
 | t::ts,pre,i,p,u,h=>by
   rw [pls] at h;rcases UA.mp h with h | h
   · obtain ⟨r,rfl,h1,h2,h3⟩:=tE t (pre++[i]) p u h;exact ⟨0,t,r,rfl,by simp,h1,h2,by rw [bf];omega,h3,by rw [aq];omega⟩
   · obtain ⟨j,v,r,h1,rfl,h3,h4,h5,h6,h7⟩:=qU ts pre (i+1) p u h;refine ⟨j+1,v,r,by simpa using h1,?_,h3,h4,by rw [bf];omega,h6,by rw [aq];omega⟩;have:i+1+(j:Int)=i+((j+1:Nat):Int):=by omega
     rw [this]
end
theorem aG:∀ {ts:List Th} {t:Th},t∈ts->t.size<=aq ts
 | u::ts,t,h=>by
   rw [aq];rcases TR.mp h with rfl | h
   · omega
   · have:=aG h;omega
end BB
namespace BB
open PySem L2
section
variable {ext:Th->List V} {H H':Hp} {t:Th} {a:Tn} {ts:List Th} {es:List Tn}
end
def Th.isCall:Th->Bool
 | .knot _ _=>false
 | .call _ _=>true
def mK:List Int×Th->Option (List Int×Int×Int)
 | (_,.knot _ _)=>none
 | (p,.call s k)=>some (p,s,k)
def callsOf (ps:List (List Int×Th)):List (List Int×Int×Int):=ps.filterMap mK
theorem dF (a b:List (List Int×Th)):callsOf (a++b)=callsOf a++callsOf b:=List.filterMap_append
theorem jv (a:List (List Int×Th)):(callsOf a).length<=a.length:=List.length_filterMap_le _ _
def CAt (H:Hp) (c:List Int×Int×Int) (a:Tn):Prop:=∃ pa ca,H a=some (.tup [.ref pa,.ref ca])/\H pa=some (.tup (c.1.map V.int))/\H ca=some (.tup [.int c.2.1,.int c.2.2])
def CsAt (H:Hp) (cs:List (List Int×Int×Int)) (as:List Tn):Prop:=Ud (CAt H) cs as
theorem CAt.mono {H H':Hp} (k:KT H H') {c:List Int×Int×Int} {a:Tn} (h:CAt H c a):CAt H' c a:=by
 obtain ⟨pa,ca,h1,h2,h3⟩:=h;exact ⟨pa,ca,k _ _ h1,k _ _ h2,k _ _ h3⟩
theorem CsAt.mono {H H':Hp} (k:KT H H') {cs:List (List Int×Int×Int)} {as:List Tn} (h:CsAt H cs as):CsAt H' cs as:=P2.mp (fun _ _ e=>CAt.mono k e) h
end BB
namespace BB
open PySem PySem.Spec PyProof.Rows L2
mutual
theorem DAt.inj {H:Hp}:∀ {d e:Dv} {v:V},DAt H d v->DAt H e v->d=e
 | .int i,.int j,v,h,g=>by rw [DAt] at h;rw [DAt] at g;rw [h] at g;cases g;rfl
 | .int i,.str y,v,h,g=>by rw [DAt] at h;rw [DAt] at g;rw [h] at g;cases g
 | .int i,.tup es,v,h,g=>by rw [DAt] at h;rw [DAt] at g;obtain ⟨a,vs,e,_⟩:=g;rw [h] at e;cases e
 | .str x,.int j,v,h,g=>by rw [DAt] at h;rw [DAt] at g;rw [h] at g;cases g
 | .str x,.str y,v,h,g=>by rw [DAt] at h;rw [DAt] at g;rw [h] at g;cases g;rfl
 | .str x,.tup es,v,h,g=>by rw [DAt] at h;rw [DAt] at g;obtain ⟨a,vs,e,_⟩:=g;rw [h] at e;cases e
 | .tup ds,.int j,v,h,g=>by rw [DAt] at h;rw [DAt] at g;obtain ⟨a,vs,e,_⟩:=h;rw [e] at g;cases g
 | .tup ds,.str y,v,h,g=>by rw [DAt] at h;rw [DAt] at g;obtain ⟨a,vs,e,_⟩:=h;rw [e] at g;cases g
 | .tup ds,.tup es,v,h,g=>by
   rw [DAt] at h;rw [DAt] at g;obtain ⟨a,vs,e1,h1,h2⟩:=h;obtain ⟨b,ws,e2,g1,g2⟩:=g;rw [e1] at e2;cases e2;rw [h1] at g1;cases g1;rw [DAts.inj h2 g2]
theorem DAts.inj {H:Hp}:∀ {ds es:List Dv} {vs:List V},DAts H ds vs->DAts H es vs->ds=es
 | [],[],vs,h,g=>rfl
 | [],e::es,vs,h,g=>by rw [DAts] at h;rw [DAts] at g;obtain ⟨v,r,z,_⟩:=g;rw [h] at z;cases z
 | d::ds,[],vs,h,g=>by rw [DAts] at h;rw [DAts] at g;obtain ⟨v,r,z,_⟩:=h;rw [g] at z;cases z
 | d::ds,e::es,vs,h,g=>by
   rw [DAts] at h;rw [DAts] at g;obtain ⟨v,r,z,h1,h2⟩:=h;obtain ⟨v',r',z',g1,g2⟩:=g;rw [z] at z';cases z';rw [DAt.inj h1 g1,DAts.inj h2 g2]
end
end BB
namespace L2
open PySem PySem.Spec PySem.SeqAt PyProof.Rows BB
open Classical in
theorem sO {X:Cx} {pins:List (Tn×VN)} {σ:St} {H:Hp} {s:Tv} (I:Inv X pins σ H s) {ds es:List Dv} {a b:Tn} {vs ws:List V} {A:Ut} (ha:SqT X.K H a vs) (hb:SqT X.K H b ws) (Ce:DAts H ds vs) (yJ:DAts H es ws) (hu:A.units<Vk)
 (ih:∀ (j:Nat) (d e:Dv) (x y:V) (u v:Tp),ds[j]?=some d->DAt H d x->DAt H e y->RelV x u->RelV y v->EqAt A.in1 s u v (decide (d=e))):RcAt A s (.ref a) (.ref b) (decide (Dv.tup ds=Dv.tup es)):=by
 obtain ⟨its,r1,p1,_⟩:=I.tuple ha;obtain ⟨xQ,r2,p2,_⟩:=I.tuple hb;have l1:its.length=ds.length:=by rw [<- r1.length,Ce.length]
 have l2:xQ.length=es.length:=by rw [<- r2.length,yJ.length]
 have Cf:RcAt A s (.ref a) (.ref b) ((Ue (min its.toArray.size xQ.toArray.size)).all (fun j=>decide (ds[j]?=es[j]?)) && its.toArray.size == xQ.toArray.size):=by
  refine RcAt.tuples (show s.heap.IsTuple a its.toArray from p1) (show s.heap.IsTuple b xQ.toArray from p2) hu fun j h1 h2=>?_;have Br:j<ds.length:=by rw [<- l1];simpa using h1
  have AG:j<es.length:=by rw [<- l2];simpa using h2
  have e1:ds[j]?=some ds[j]:=Ti Br;have e2:es[j]?=some es[j]:=Ti AG;obtain ⟨x',BL,dx⟩:=Ce.at e1;obtain ⟨y',Az,dy⟩:=yJ.at e2;obtain ⟨u',zf,CW⟩:=r1.get BL;obtain ⟨v',yN,AH⟩:=r2.get Az;have e3:decide (ds[j]?=es[j]?)=decide (ds[j]=es[j]):=by rw [e1,e2];simp
  have e4:its.toArray[j]=u':=by
   rw [Ti (by rw [l1];exact Br)] at zf;simpa using zf
  have e5:xQ.toArray[j]=v':=by
   rw [Ti (by rw [l2];exact AG)] at yN;simpa using yN
  rw [e3,e4,e5];exact ih j ds[j] es[j] x' y' u' v' e1 dx dy CW AH
 have e:decide (Dv.tup ds=Dv.tup es)=((Ue (min its.toArray.size xQ.toArray.size)).all (fun j=>decide (ds[j]?=es[j]?)) && its.toArray.size == xQ.toArray.size):=by
  rw [Tz,Tz,l1,l2];by_cases h:ds=es
  · subst h;rw [decide_eq_true rfl];symm;simp
  · rw [decide_eq_false (fun z=>h (Dv.tup.inj z))];symm;by_cases hl:ds.length=es.length
    · rw [hl,Yn]
      have:¬ ((Ue es.length).all (fun j=>decide (ds[j]?=es[j]?)))=true:=by
       intro z;apply h;apply X2;intro j;by_cases hj:j<es.length
       · have:=V4.mp z j (V7.mpr hj);exact of_decide_eq_true this
       · rw [Vr (by omega),Vr (by omega)]
      rw [U9.mpr this];rfl
    · have:(ds.length == es.length)=false:=by simpa using hl
      rw [this,XX]
 rw [e];exact Cf
open Classical in
theorem mZ {X:Cx} {pins:List (Tn×VN)} {σ:St} {H:Hp} {s:Tv} (I:Inv X pins σ H s):∀ (n:Nat) (d e:Dv),d.tot<=n->∀ (x y:V) (u v:Tp) (A:Ut),DAt H d x->DAt H e y->RelV x u->RelV y v->A.units+d.deep<Vk->EqAt A s u v (decide (d=e))
 | 0,d,e,hn,x,y,u,v,A,hd,he,ru,rv,hu=>by have:=d.tot_pos;omega
 | n+1,.int i,.int j,hn,x,y,u,v,A,hd,he,ru,rv,hu=>by
   rw [DAt] at hd;rw [DAt] at he;subst hd he;obtain ⟨t,rfl⟩:=ru;obtain ⟨t',rfl⟩:=rv
   have e:decide (Dv.int i=Dv.int j)=(i == j):=by
    by_cases h:i=j
    · subst h;simp
    · rw [decide_eq_false (fun z=>h (Dv.int.inj z))];simp [h]
   rw [e];exact EqAt.int_int i t j t'
 | n+1,.int i,.str b,hn,x,y,u,v,A,hd,he,ru,rv,hu=>by
   rw [DAt] at hd;rw [DAt] at he;subst hd he;obtain ⟨t,rfl⟩:=ru;obtain ⟨t',rfl⟩:=rv;rw [decide_eq_false (fun z=>by cases z)];exact EqAt.int_str i t b t'
 | n+1,.int i,.tup es,hn,x,y,u,v,A,hd,he,ru,rv,hu=>by
   rw [DAt] at hd;rw [DAt] at he;obtain ⟨a,vs,rfl,ha,_⟩:=he;subst hd;obtain ⟨t,rfl⟩:=ru;cases rv;obtain ⟨its,_,p,_⟩:=I.tuple (SqT.of (K:=X.K) ha);rw [decide_eq_false (fun z=>by cases z)];exact EqAt.int_tuple i t (show s.heap.IsTuple a its.toArray from p) (by omega)
 | n+1,.str b,.int j,hn,x,y,u,v,A,hd,he,ru,rv,hu=>by
   rw [DAt] at hd;rw [DAt] at he;subst hd he;obtain ⟨t,rfl⟩:=ru;obtain ⟨t',rfl⟩:=rv;rw [decide_eq_false (fun z=>by cases z)];exact EqAt.str_int b t j t'
 | n+1,.str b,.str c,hn,x,y,u,v,A,hd,he,ru,rv,hu=>by
   rw [DAt] at hd;rw [DAt] at he;subst hd he;obtain ⟨t,rfl⟩:=ru;obtain ⟨t',rfl⟩:=rv
   have e:decide (Dv.str b=Dv.str c)=(b == c):=by
    by_cases h:b=c
    · subst h;simp
    · rw [decide_eq_false (fun z=>h (Dv.str.inj z))];simp [h]
   rw [e];exact EqAt.str_str b t c t'
 | n+1,.str b,.tup es,hn,x,y,u,v,A,hd,he,ru,rv,hu=>by
   rw [DAt] at hd;rw [DAt] at he;obtain ⟨a,vs,rfl,ha,_⟩:=he;subst hd;obtain ⟨t,rfl⟩:=ru;cases rv;obtain ⟨its,_,p,_⟩:=I.tuple (SqT.of (K:=X.K) ha);rw [decide_eq_false (fun z=>by cases z)];exact EqAt.str_tuple b t (show s.heap.IsTuple a its.toArray from p) (by omega)
 | n+1,.tup ds,.int j,hn,x,y,u,v,A,hd,he,ru,rv,hu=>by
   rw [DAt] at hd;rw [DAt] at he;obtain ⟨a,vs,rfl,ha,_⟩:=hd;subst he;cases ru;obtain ⟨t,rfl⟩:=rv;obtain ⟨its,_,p,_⟩:=I.tuple (SqT.of (K:=X.K) ha);rw [decide_eq_false (fun z=>by cases z)];exact EqAt.tuple_int j t (show s.heap.IsTuple a its.toArray from p) (by omega)
 | n+1,.tup ds,.str b,hn,x,y,u,v,A,hd,he,ru,rv,hu=>by
   rw [DAt] at hd;rw [DAt] at he;obtain ⟨a,vs,rfl,ha,_⟩:=hd;subst he;cases ru;obtain ⟨t,rfl⟩:=rv;obtain ⟨its,_,p,_⟩:=I.tuple (SqT.of (K:=X.K) ha);rw [decide_eq_false (fun z=>by cases z)];exact EqAt.tuple_str b t (show s.heap.IsTuple a its.toArray from p) (by omega)
 | n+1,.tup ds,.tup es,hn,x,y,u,v,A,hd,he,ru,rv,hu=>by
   have DW:=hd;have Kz:=he;rw [DAt] at hd;rw [DAt] at he;obtain ⟨a,vs,rfl,ha,Ce⟩:=hd;obtain ⟨b,ws,rfl,hb,yJ⟩:=he;cases ru;cases rv;by_cases zB:a=b
   · subst zB;rw [decide_eq_true (DAt.inj DW Kz)];exact EqAt.same _
   rw [Dv.tot] at hn;rw [Dv.deep] at hu;refine EqAt.of_refs zB (sO I (SqT.of ha) (SqT.of hb) Ce yJ (by omega) fun j d e x' y' u' v' e1 dx dy CW AH=>?_);have q1:=nE e1;have q2:=fe e1;refine mZ I n d e (by omega) x' y' u' v' A.in1 dx dy CW AH ?_;show A.units+1+_<Vk;omega
def uH (K:Tg) (B:Nat):R2:=fun x y H Q=>∃ b ws d es,y=.ref b/\SqT K H b ws/\DAt H d x/\DAts H es ws/\cQ es<=B/\∀ r:Bool,(r=true↔d∉es)->Q (.bl r) H
open Classical in
theorem ml {X:Cx} {B:Nat} (hu:X.A.units+B+2<Vk):OpR X (Xh .NotIn) (uH X.K B):=by
 intro pins s σ H x y v u Q I rx ry h;obtain ⟨b,ws,d,es,rfl,hb,hd,yJ,hB,q⟩:=h;cases ry;obtain ⟨its,r1,p1,_⟩:=I.tuple hb
 have key:∀ (j:Nat) (z:Tp),its[j]?=some z->∃ e y',es[j]?=some e/\DAt H e y'/\RelV y' z:=by
  intro j z hz;have hj:j<its.length:=(Tq.mp hz).1;have l1:=r1.length;have l2:=yJ.length;have FK:j<es.length:=by omega
  obtain ⟨y',Az,dy⟩:=yJ.at (Ti FK);obtain ⟨v',yN,AH⟩:=r1.get Az;rw [hz] at yN;cases yN;exact ⟨_,y',Ti FK,dy,AH⟩
 have uniq:∀ (z:Tp) (e e':Dv) (y' Cg:V),DAt H e y'->RelV y' z->DAt H e' Cg->RelV Cg z->e=e':=by
  intro z e e' y' Cg h1 h2 h3 h4;have:=h2.inj h4;subst this;exact h1.inj h3
 refine notIn_tupleAt (fun z=>decide (∃ y',DAt H d y'/\RelV y' z)) (show s.heap.IsTuple b its.toArray from p1) (fun z hz=>?_) ⟨.bl _,H,I,rfl,q _ ?_⟩
 · obtain ⟨j,hj⟩:=TU.mp (show z∈its by simpa using hz);obtain ⟨e,y',he,dy,ry⟩:=key j z hj;have hq:=fe he
   have e3:decide (∃ y',DAt H d y'/\RelV y' z)=decide (e=d):=by
    by_cases h:e=d
    · rw [decide_eq_true h,decide_eq_true ⟨y',h ▸ dy,ry⟩]
    · rw [decide_eq_false h,decide_eq_false];rintro ⟨Cg,h1,h2⟩;exact h (uniq z e d y' Cg dy ry h1 h2)
   rw [e3];refine mZ I _ e d (To _) y' x z v X.A.in1 dy hd ry rx ?_;show X.A.units+1+_<Vk;omega
 · rw [Bool.not_eq_true',<- Bool.not_eq_true];refine not_congr ?_;constructor
   · intro z;obtain ⟨v',h1,h2⟩:=Array.any_eq_true'.mp z;obtain ⟨j,hj⟩:=TU.mp (show v'∈its by simpa using h1);obtain ⟨e,y',he,dy,ry⟩:=key j v' hj;obtain ⟨Cg,h3,h4⟩:=of_decide_eq_true h2;rw [<- uniq v' e d y' Cg dy ry h3 h4];exact Tj he
   · intro z;obtain ⟨j,hj⟩:=TU.mp z;obtain ⟨y',Az,dy⟩:=yJ.at hj;obtain ⟨v',yN,AH⟩:=r1.get Az;refine Array.any_eq_true'.mpr ⟨v',?_,decide_eq_true ⟨y',dy,AH⟩⟩;have:=Tj yN;simpa using this
end L2
namespace BB
open PySem L2
theorem Ats.set {H:Hp}:∀ {ts:List Th} {as:List Tn} (i:Nat) {x:Th} {a:Tn},Ats H ts as->At H x a->Ats H (ts.set i x) (as.set i a)
 | [],as,i,x,a,h,g=>by rw [Ats] at h;subst h;exact .nil
 | t::ts,as,i,x,a,h,g=>by
   rw [Ats] at h;obtain ⟨b,r,rfl,h1,h2⟩:=h;cases i with
   | zero=>exact .cons g h2
   | succ i=>exact .cons h1 (Ats.set i h2 g)
end BB
namespace PySem
theorem bb_extendT (l:Tn) (items:Array Tp) (n:Nat) (b:Tn) (zm:Array Tp) (n2:Nat) (dd:Option Tn) (sl:Array (Option Tp)) (g0:¬(!items.isEmpty && VT (items.size+zm.size))=true) (g1:items.size<=TN) (g2:items.size+zm.size<=TN+1) :
 Meets (We.«list.extend» ⟨[.ref l,.ref b],[]⟩) (fun _ R s=>s.heap.get? l=some { cls:=.type "list",dict:=none,data:=.seq items n,slots:=#[] }/\s.heap.get? b=some { cls:=.type "tuple",dict:=dd,data:=.seq zm n2,slots:=sl }/\R (.ok (.ret U4)) { s with heap:=s.heap.update l (UN fun x=>x++zm),toks:=s.toks }) :=
 .of_wp fun prog w A R s h=>by
  obtain ⟨hp,g,d,tk,os⟩:=s;obtain ⟨hl,hb,h⟩:=h;have f1:=AutoSeq1.idx_int;have f2:=AutoSeq1.sub_tuple_tuple;have f3:=AutoSeq1.sub_list_list;have f4:=AutoSeq1.sub_tuple_list;have f5:=AutoSeq1.sub_list_tuple;have z2:(items++zm).size<=TN+1:=by rw [Array.size_append];exact g2
  wp_walk using (Vo hl rfl (hz:=g1) (_hz':=z2)),VW hl,VW hb
  exact ⟨_,rfl,h⟩
end PySem
namespace L2
open PySem PySem.Spec PyProof.Rows
section
variable {X:Cx}
def ue (K:Tg):V->List V->Hp->VK->Prop:=fun x vs H Q=>∃ l b xs zs,x=.ref l/\vs=[.ref b]/\H l=some (.lst xs)/\SqT K H b zs/\xs.length+zs.length<=TN/\Q .non (upd H l (.lst (xs++zs)))
theorem pR:MtM X "list.extend" (ue X.K):=by
 intro pins s σ H x vs v us Q I rx rv h;obtain ⟨l,b,xs,zs,rfl,rfl,hH,hB,hz,q⟩:=h;cases rx;obtain ⟨u,rfl,ru⟩:=rv.one;cases ru;obtain ⟨z,its,n,r,hl,e⟩:=I.lstM hH;obtain ⟨xQ,r2,p2,_⟩:=I.tuple hB;have yD:=r2.length;obtain ⟨⟨Gj,FF,data2,FG⟩,e2,BH,n2,hd2⟩:=p2;simp only at BH hd2;subst BH hd2;have hsz:its.toArray.size+xQ.toArray.size<=TN:=by rw [Tz,Tz];omega
 have B4:¬ (!its.toArray.isEmpty && VT (its.toArray.size+xQ.toArray.size))=true:=by
  rw [kN hsz,XX];exact TV
 refine Ye F.slot_list_extend ⟨_,e,rfl⟩ F.entry_list_extend (F.args_list_extend_2 _ _)
  (bb_extendT l its.toArray n b xQ.toArray n2 FF FG B4 (by rw [Tz];omega) (by omega)) ⟨e,e2,?_⟩
 refine ⟨.non,_,I.lset (its':=its++xQ) hH e (by simp) (r.append r2) ?_,rfl,q⟩;rw [TZ];omega
theorem rP {bs:List Bool} {its:List Tp} (r:Vals (bs.map V.bl) its) {i:Nat} {v:Tp} (h:its[i]?=some v):∃ b,bs[i]?=some b/\v=.bool b:=by
 have hl:=r.length;have hi:i<its.length:=(Tq.mp h).1;rw [Te] at hl;obtain ⟨u,hu,ru⟩:=r.get (i:=i) (x:=.bl bs[i]) (by rw [Tw,Ti (by omega)];rfl);rw [h] at hu;cases hu;cases ru;exact ⟨_,Ti (by omega),rfl⟩
def xB (K:Tg):List V->Hp->VK->Prop:=fun xs H Q=>∃ (p:Tn) (bs:List Bool),xs=[.ref p]/\SqL K H p (bs.map V.bl)/\Q (.bl (bs.all id)) H
theorem ko (hc:X.calm=true):gS X (.builtin "all") (xB X.K):=by
 intro pins s σ H xs us Q I r h;obtain ⟨p,bs,rfl,hl,q⟩:=h;obtain ⟨u,rfl,rx⟩:=vals1 r;cases rx;obtain ⟨its,rv,pl,_⟩:=I.list hl;have hlen:=rv.length;rw [Te] at hlen;have xV:p<s.heap.objs.size:=by obtain ⟨_,_,e,_⟩:=pl;exact TJ e
 refine call_all_walk (wpAny_pyIter_list pl.isList ?_);refine ⟨s.heap.objs.size,[s.heap.objs.size,p],[s.heap.objs.size],its.toArray.size,_,_,fun i=>(bs[i]?).getD true,rfl,Walks.list (A:=X.A.in1) (I.ok.hd hc) _ p (Ui xV) its.toArray,⟨⟨_,TC _ rfl,rfl,rfl⟩,pl.isList.push _⟩,fun i v s' Q' E' hP hQ=>?_,fun h' tk hk=>?_⟩
 · obtain ⟨b,e,rfl⟩:=rP rv (i:=i) (v:=v) (by simpa using hP);simp only [e,Option.getD_some] at hQ;exact WX hQ
 · have e:((Ue its.toArray.size).all fun i=>(bs[i]?).getD true)=bs.all id:=by
    rw [Tz,<- hlen];exact LSm.range_all bs
   rw [e];exact ⟨.bl (bs.all id),H,I.kept (LSm.kept_iter hk),rfl,q⟩
end
end L2
namespace BB
open PySem L2
def kDv (k:T6×Int):Dv:=.tup [.str k.1,.int k.2]
theorem sH {H:Hp}:∀ {ks:List (T6×Int)} {as:List Tn},Ud (KAt H) ks as->DAts H (ks.map kDv) (as.map V.ref)
 | _,_,.nil=>.nil
 | _,_,.cons r h=>by
   rw [UE,UE];refine .cons ?_ (sH h);rw [kDv,DAt];exact ⟨_,_,rfl,r,.cons (by rw [DAt]) (.cons (by rw [DAt]) .nil)⟩
theorem kE:∀ ks:List (T6×Int),cQ (ks.map kDv)<=1
 | []=>by rw [VO,cQ];exact T4 _
 | k::ks=>by
   have:=kE ks;rw [UE,cQ,kDv];simp only [Dv.deep,cQ];omega
def star:T6:=Tu "*"
theorem oJ {x:T6} (h:Low x):x≠star:=by
 intro e;subst e;have:=h 42 (by decide +kernel);omega
open Classical in
def Th.isHole:Th->Bool
 | .knot n ks=>decide (n=star/\ks=[])
 | .call _ _=>false
def Th.isKnot (t:Th):Bool:=!t.isCall && !t.isHole
theorem qI {k:Nat} {A:Ut} (hr:L2.Room k A):A.units+50+2<Vk:=by
 have:=hr.units;omega
end BB
namespace PySem
open Sem (wp)
namespace F
theorem bb_entry_upd:entryFor table "dict.update.loop"=some We.«dict.update.loop»:=entryFor_of_tree (by kernel_rfl)
theorem bb_plain_upd:plainId "dict.update.loop"=true:=by decide +kernel
end F
section
variable {prog:TF} {w:T3} {A:Ut} {E:Tp->Tv->Prop} {s:Tv} {a:Tn} {xs:Array Tp} {k:Nat}
end
end PySem
namespace L2
open PySem PySem.Spec PyProof.Rows BB
section
variable {X:Cx}
end
end L2
namespace BB
open PySem L2
end BB
namespace HT
open PySem PySem.Spec PyProof.Rows
section
variable {prog:TF} {w:T3} {A:Ut} {E:Tp->Tv->Prop} {s:Tv}
theorem getItem_tuple_whole {t sl:Tn} {items:Array Tp} {vl vu:Tp} {lo hi:Option Int} {Q:Tp->Tv->Prop} (ht:IsTup s.heap t items) (hs:s.heap.IsSliceOf sl vl vu .none) (pl:YL vl lo) (pu:YL vu hi)
 (hw:sIx items.size 0 lo=0/\sIx items.size items.size hi=items.size) (h:Q (.ref t) s):TM (Ug prog w) A (XA (.ref t) (.ref sl)) Q E s:=by
 obtain ⟨os,Aa,BI,zV⟩:=id hs;have Gk:s.TypeIs (.ref sl) "slice":=⟨os,Aa,BI⟩;have hT:s.TypeIs (.ref t) "tuple":=ht.typeIs;unfold XA
 try with_reducible refine U3 ?_
 first | refine Tf (Tt ?_) | skip
 refine Tf (wpAny_sequenceKey ht.typeIs (by decide) ?_)
 refine Tf (UI (name:=Tu "__getitem__") ht.typeIs Ur
  (UM Ur ht.typeIs entry_tuple_getitem ?_ (args_tuple_getitem _ _)))
 show TM _ _ (W9 (.ref t) >>= _) _ _ s;refine Tf (tupleItemsOf_ ht ?_);refine Tf (Wb Gk ?_);rw [if_pos (by decide)];refine Tf (sliceApplied_gen hs pl pu ?_)
 have KA:(((sIx items.size 0 lo:Nat):Int) == 0 && (1:Int) == 1 && (sIx items.size items.size hi - sIx items.size 0 lo) == items.size)=true:=by
  rw [hw.1,hw.2];simp
 show TM _ _ (if (((sIx items.size 0 lo:Nat):Int) == 0 && (1:Int) == 1 && (sIx items.size items.size hi - sIx items.size 0 lo) == items.size)=true then _ else _) _ _ s;rw [if_pos KA];refine Tf (m:=Builtin.Tuple.tupleIsExact _) ?_;unfold Builtin.Tuple.tupleIsExact;refine Tf (Wb hT (Tt ?_));rw [if_pos (by decide)];exact Tf (Wm (Tt ⟨_,rfl,Tt h⟩))
end
end HT
namespace L2
open PySem PySem.Spec PyProof.Rows
end L2
namespace PySem
open Sem (wp)
section
variable {prog:TF} {w:T3} {A:Ut} {E:Tp->Tv->Prop} {s:Tv} {it d:Tn} {i ep:Nat} {od:VN} {es:Array DictEntry}
theorem bb_keyNext {en:DictEntry} {Q:Option Tp->Tv->Prop} (g:s.heap.IsKeyIter it d i es.size ep) (g1:s.heap.get? d=some od) (g2:od.data=.dict es ep) (hx:es[i]?=some en)
 (fin:∀ h',h'.IsKeyIter it d (i+1) es.size ep->Vq it s.heap h'->Q (some en.key) { s with heap:=h' }):TM (Ug prog w) A (Wy (.ref it)) Q E s:=by
 obtain ⟨o,q1,q2,q3⟩:=id g;unfold Wy;refine Tf (Wx (UI (name:=Tu "__next__") g.typeIs V5 (UM V5 g.typeIs F.entry_dict_keyiterator_next ?_ (F.args_dict_keyiterator_next_1 _))));refine Tf (Tt ?_);refine Tf ?_;refine Tf ?_
 first | refine Tf (WH g.typeIs (Tt ?_)) | refine Tf (Xk g.typeIs (Tt ?_))
 refine Tf (wpAny_fieldsOf q1 q3 ?_);have own:Builtin.Dict_items.ownsTuple "dict_keyiterator"=false:=by decide
 simp only [own,UQ,if_false];show TM _ _ (if (Uc d == U4)=true then _ else _) _ _ s;rw [if_neg (show ¬ ((Uc d == U4)=true) from TV)];refine Tf (Tt ?_);refine Tf (Yq g1 g2 ?_);rw [if_neg (by simp)];refine Tf (Tt ?_);refine Tf (wpAny_dictEpoch g1 g2 ?_);rw [if_neg (by simp)];refine Tt ?_;have lt:i<es.size:=(XY.mp hx).1;have ee:es[i]=en:=(XY.mp hx).2;simp only [show ¬ ((i:Int)<0) from by omega,if_false,Vh,VH lt];refine Tf ?_
 first | refine Tf (WH g.typeIs (Tt ?_)) | refine Tf (Xk g.typeIs (Tt ?_))
 refine Tf (wpAny_isOneOf_keyiter g.typeIs ?_);show TM _ _ (setField (.ref it) 1 (VX ((i:Int)+1)) >>= _) _ _ s;refine Tf (W4 q1 q3 (by simp) ?_);have g':(s.heap.update it (Obj.mapFields (·.setIfInBounds 1 (VX ((i:Int)+1))))).IsKeyIter it d (i+1) es.size ep:=⟨_,Uq _ q1 (XJ (VS q3 _)),(Obj.cls_mapFields ..).trans q2,by rw [VS q3];simp [VX]⟩;refine Tf (U3 ?_);refine Tf (wpAny_isOneOf_keyiter (s:={ s with heap:=s.heap.update it (Obj.mapFields (·.setIfInBounds 1 (VX ((i:Int)+1)))) }) g'.typeIs ?_);show TM _ _ (pure es[i].key) _ _ _;rw [ee];exact Tt (Tt ⟨_,rfl,Tt (fin _ g' (VL ..))⟩)
theorem bb_keyEnd {Q:Option Tp->Tv->Prop} (calm:A.handled=none) (g:s.heap.IsKeyIter it d i es.size ep) (g1:s.heap.get? d=some od) (g2:od.data=.dict es ep) (hx:es.size<=i)
 (fin:∀ h',Y9 it s.heap h'->Q none { s with heap:=h' }):TM (Ug prog w) A (Wy (.ref it)) Q E s:=by
 obtain ⟨o,q1,q2,q3⟩:=id g;unfold Wy;refine Tf (Wx (UI (name:=Tu "__next__") g.typeIs V5 (UM V5 g.typeIs F.entry_dict_keyiterator_next ?_ (F.args_dict_keyiterator_next_1 _))));refine Tf (Tt ?_);refine Tf ?_;refine Tf ?_
 first | refine Tf (WH g.typeIs (Tt ?_)) | refine Tf (Xk g.typeIs (Tt ?_))
 refine Tf (wpAny_fieldsOf q1 q3 ?_);have own:Builtin.Dict_items.ownsTuple "dict_keyiterator"=false:=by decide
 simp only [own,UQ,if_false];show TM _ _ (if (Uc d == U4)=true then _ else _) _ _ s;rw [if_neg (show ¬ ((Uc d == U4)=true) from TV)];refine Tf (Tt ?_);refine Tf (Yq g1 g2 ?_);rw [if_neg (by simp)];refine Tf (Tt ?_);refine Tf (wpAny_dictEpoch g1 g2 ?_);rw [if_neg (by simp)];refine Tt ?_;simp only [show ¬ ((i:Int)<0) from by omega,if_false,Vh,Xo hx];refine Tf ?_
 first | refine Tf (WH g.typeIs (Tt ?_)) | refine Tf (Xk g.typeIs (Tt ?_))
 show TM _ _ (setField (.ref it) 0 .none >>= _) _ _ s;refine Tf (W4 q1 q3 (by simp) ?_);show TM _ _ (newExc (.type "StopIteration") [] >>= _) _ _ _;refine Tf ?_;simp only [newExc,newTuple];refine Tf (UL ?_ (by size_fits));refine Tf (m:=XB _ _) (WI (a:=U4) (by first | rfl | (simp only [XB];rfl)) ?_);refine UL ?_ (by size_fits);simp only [raiseNew];refine Tf (wpAny_handled ?_)
 first | rw [show A.in1.handled=none from calm] | rw [calm]
 refine Tf (Tt (wpAny_throw ?_));refine Tf (Wf (T:="StopIteration") (b:=true) ⟨_,TC _ rfl,rfl⟩ isSubtype_stop ?_);exact Tt (fin _ (((VL ..).extBut.push _).push _))
theorem bb_keyIter {Q:Tp->Tv->Prop} (ns:(d == Vs)=false) (g1:s.heap.get? d=some od) (gc:od.cls=.type "dict") (g2:od.data=.dict es ep)
 (fin:Q (.ref s.heap.objs.size) { s with heap:=s.heap.push { cls:=.type "dict_keyiterator",data:=.fields #[.ref d,.int 0 0,.int es.size 0,.int ep 0] } }):TM (Ug prog w) A (pyIter (.ref d)) Q E s:=by
 have gT:s.TypeIs (.ref d) "dict":=⟨_,g1,gc⟩;refine wpAny_pyIter_slot gT F.slot_dict_iter (UM F.slot_dict_iter gT F.entry_dict_iter ?_ (F.args_dict_iter_1 _));unfold We.«dict.__iter__»;refine Tf ?_;unfold Builtin.Dict.dictSlotNone;refine Tf (YT gT ?_);show TM _ _ (pure (Uc d)) _ _ s;refine Tt ?_;show TM _ _ (Builtin.Dict.showsAll d >>= _) _ _ s;unfold Builtin.Dict.showsAll;rw [if_neg (by rw [ns];exact TV)];refine Tf (Tt ?_);refine Tf (Yq g1 g2 ?_);refine Tf (wpAny_dictEpoch g1 g2 ?_);refine Tf (UL (Tt ⟨_,rfl,"dict_keyiterator",_,⟨_,TC _ rfl,rfl⟩,V5.lookup,?_⟩));simpa [VX] using fin
end
end PySem
namespace L2
open PySem PySem.Spec PyProof.Rows
section
variable {X:Cx} {e:UP} {te:TE}
end
end L2
namespace BB
open PySem L2
inductive Top where
 | nm (n:T6) (m:Nat)
 | th (t:Th)
def bl:List Top->List Th
 | []=>[]
 | .nm n m::S=>.knot n ((bl S).take m)::(bl S).drop m
 | .th t::S=>t::bl S
def TopsOk:List Top->Prop
 | []=>True
 | .nm _ m::S=>m<=(bl S).length/\TopsOk S
 | .th _::S=>TopsOk S
theorem TopsOk.drop:∀ {l:List Top} (i:Nat),TopsOk l->TopsOk (l.drop i)
 | l,0,h=>by rw [VR];exact h
 | [],i+1,h=>by rw [List.drop_nil];exact h
 | .nm n m::S,i+1,h=>by
   rw [TopsOk] at h;rw [YK];exact TopsOk.drop i h.2
 | .th t::S,i+1,h=>by
   rw [TopsOk] at h;rw [YK];exact TopsOk.drop i h
theorem pI:∀ l:List Top,(bl l).length<=l.length
 | []=>To _
 | .nm n m::S=>by
   have:=pI S;rw [bl,Tx,Tx,Vf];omega
 | .th t::S=>by
   have:=pI S;rw [bl,Tx,Tx];omega
mutual
def Th.fill (f:Int->Int->Th):Th->Th
 | .knot n ks=>.knot n (fills f ks)
 | .call s k=>f s k
def fills (f:Int->Int->Th):List Th->List Th
 | []=>[]
 | t::ts=>t.fill f::fills f ts
end
theorem gK (f:Int->Int->Th):∀ ts:List Th,(fills f ts).length=ts.length
 | []=>by rw [fills]
 | t::ts=>by rw [fills,Tx,Tx,gK f ts]
mutual
theorem qY:∀ t:Th,t.fill Th.call=t
 | .knot n ks=>by rw [Th.fill,nS ks]
 | .call s k=>by rw [Th.fill]
theorem nS:∀ ts:List Th,fills Th.call ts=ts
 | []=>by rw [fills]
 | t::ts=>by rw [fills,qY t,nS ts]
end
def dZ (f:Int->Int->Th):Th->Top
 | .knot n ks=>.nm n ks.length
 | .call s k=>.th (f s k)
theorem lm (f:Int->Int->Th):∀ (n:Nat) (ts:List Th),aq ts<=n->∀ S,bl ((walks ts).map (dZ f)++S)=fills f ts++bl S/\(TopsOk S->TopsOk ((walks ts).map (dZ f)++S))
 | _,[],_,S=>by rw [walks,fills];exact ⟨rfl,fun h=>h⟩
 | 0,t::ts,hn,S=>by
   have:=t.size_pos;rw [aq] at hn;omega
 | n+1,t::ts,hn,S=>by
   have hs:=t.size_eq;rw [aq] at hn;have h2:=lm f n ts (by omega) S;have e:(walks (t::ts)).map (dZ f)++S=dZ f t::((walks t.kids).map (dZ f)++((walks ts).map (dZ f)++S)):=by rw [walks,t.walk_eq];simp
   have h1:=lm f n t.kids (by omega) ((walks ts).map (dZ f)++S);rw [e];cases t with
   | knot nm ks =>
     simp only [Th.kids] at h1 ⊢;refine ⟨?_,fun hS=>?_⟩
     · show bl (.nm nm ks.length::_)=_;rw [bl,h1.1,h2.1,<- gK f ks,List.take_left,List.drop_left,fills,Th.fill];rfl
     · show TopsOk (.nm nm ks.length::_);rw [TopsOk];refine ⟨?_,h1.2 (h2.2 hS)⟩;rw [h1.1,TZ,gK];exact V0 _ _
   | call s k =>
     simp only [Th.kids,walks,VO,Vv] at h1 ⊢;refine ⟨?_,fun hS=>?_⟩
     · show bl (.th (f s k)::_)=_;rw [bl,h2.1,fills,Th.fill];rfl
     · show TopsOk (.th (f s k)::_);rw [TopsOk];exact h2.2 hS
theorem qB (f:Int->Int->Th) (t:Th):bl (t.walk.map (dZ f))=[t.fill f]/\TopsOk (t.walk.map (dZ f)):=by
 have h:=lm f _ [t] (To _) [];have e:walks [t]=t.walk:=by simp [walks]
 rw [e,Up] at h;refine ⟨?_,h.2 (by rw [TopsOk];trivial)⟩;rw [h.1,fills,fills,bl];rfl
theorem qp (x:V) (xs:List V):du (x::xs) none (some 1)=[x]:=by
 unfold du;rw [show (some (1:Int))=some ((1:Nat):Int) from rfl,HT.sIx_nat,HT.sIx_none,Tx,XI (by omega)];rfl
end BB
namespace PySem
open Sem (wp)
end PySem
namespace L2
open PySem PySem.Spec PyProof.Rows BB
end L2
namespace BB
open PySem L2
theorem o6 {k:Nat} {A:Ut} (hr:L2.Room k A):A.units+150+2<Vk:=by
 have:=hr.un;omega
def hole:Th:=.knot star []
def Th.name:Th->T6
 | .knot n _=>n
 | .call _ _=>q
def aI:Th->Th->Bool
 | .knot n ks,.knot m us=>!(Th.knot n ks).isHole && decide (n=m) && decide (ks.length=us.length)
 | _,_=>false
mutual
def Th.sbs:Th->Th->List (Th×Th)
 | .knot n ks,r=>(.knot n ks,r)::(if aI (.knot n ks) r=true then sf ks r.kids else [])
 | .call s k,r=>[(.call s k,r)]
def sf:List Th->List Th->List (Th×Th)
 | [],_=>[]
 | k::ks,us=>match us with
   | []=>[]
   | u::us=>k.sbs u++sf ks us
end
def wks:List (Th×Th)->List (Th×Th)
 | []=>[]
 | p::ps=>p.1.sbs p.2++wks ps
theorem kO:∀ a b:List (Th×Th),wks (a++b)=wks a++wks b
 | [],b=>rfl
 | p::a,b=>by rw [VA,wks,wks,kO a b,Uy]
theorem qQ:∀ ks us:List Th,wks (ks.zip us)=sf ks us
 | [],_=>by rw [XZ,wks,sf]
 | k::ks,[]=>by rw [XQ,wks,sf]
 | k::ks,u::us=>by rw [Xi,wks,sf,qQ ks us]
theorem Th.sbs_eq (l r:Th):l.sbs r=(l,r)::(if aI l r=true then wks (l.kids.zip r.kids) else []):=by
 cases l with
 | knot n ks=>rw [Th.sbs,qQ];rfl
 | call s k =>
   rw [Th.sbs];have:aI (.call s k) r=false:=by cases r <;> rfl
   rw [this];rfl
def szL:List (Th×Th)->Nat
 | []=>0
 | p::ps=>p.1.size+szL ps
theorem dN:∀ a b,szL (a++b)=szL a+szL b
 | [],b=>by simp [szL]
 | p::a,b=>by rw [VA,szL,szL,dN a b,X9]
theorem qP (a:List (Th×Th)):szL a.reverse=szL a:=by
 induction a with
 | nil=>rfl
 | cons x xs ih=>rw [UJ,dN,ih,szL,szL,szL];omega
theorem i4:∀ ks us:List Th,szL (ks.zip us)<=aq ks
 | [],_=>by rw [XZ,szL];exact T4 _
 | k::ks,[]=>by rw [XQ,szL];exact T4 _
 | k::ks,u::us=>by
   have:=i4 ks us;rw [Xi,szL,aq];show k.size+_<=_;omega
theorem np:∀ a:List (Th×Th),a.length<=szL a
 | []=>T4 _
 | p::a=>by
   have:=p.1.size_pos;have:=np a;rw [Tx,szL];omega
theorem mU:∀ (n:Nat) (ps:List (Th×Th)),szL ps<=n->(wks ps).length<=szL ps
 | _,[],_=>T4 _
 | 0,p::ps,h=>by
   have:=p.1.size_pos;rw [szL] at h;omega
 | n+1,p::ps,h=>by
   have hs:=p.1.size_eq;have hz:=i4 p.1.kids p.2.kids;rw [szL] at h;have h1:=mU n ps (by omega);have h2:=mU n (p.1.kids.zip p.2.kids) (by omega);rw [wks,Th.sbs_eq,szL,TZ,Tx];split
   · omega
   · rw [Wi];omega
theorem ui (l r:Th):(l.sbs r).length<=l.size:=by
 have:=mU _ [(l,r)] (To _);rw [wks,wks,Up,szL,szL] at this;exact this
theorem nQ:∀ (n:Nat) (ps:List (Th×Th)),szL ps<=n->∀ x∈wks ps,∃ p∈ps,x.1.tall<=p.1.tall/\x.2.tall<=p.2.tall/\x.1.size<=p.1.size/\x.2.size<=p.2.size
 | _,[],_,x,h=>nomatch h
 | 0,p::ps,h,x,_=>by
   have:=p.1.size_pos;rw [szL] at h;omega
 | n+1,p::ps,h,x,hx=>by
   have hs:=p.1.size_eq;have hz:=i4 p.1.kids p.2.kids;rw [szL] at h;rw [wks,Th.sbs_eq,UA] at hx;rcases hx with hx | hx
   · rcases TR.mp hx with rfl | hx
     · exact ⟨p,T2 ..,To _,To _,To _,To _⟩
     · split at hx
       · obtain ⟨y,hy,h1,h2,h3,h4⟩:=nQ n _ (by omega) x hx;have m1:y.1∈p.1.kids:=(WD hy).1;have m2:y.2∈p.2.kids:=(WD hy).2;have t1:=bv m1;have t2:=bv m2;have z1:=aG m1;have z2:=aG m2;have e1:=p.1.tall_eq;have e2:=p.2.tall_eq;have e4:=p.2.size_eq;exact ⟨p,T2 ..,by omega,by omega,by omega,by omega⟩
       · cases hx
   · obtain ⟨y,hy,r⟩:=nQ n ps (by omega) x hx;exact ⟨y,T1 _ hy,r⟩
theorem uU {l r:Th} {x:Th×Th} (h:x∈l.sbs r):x.1.tall<=l.tall/\x.2.tall<=r.tall/\x.1.size<=l.size/\x.2.size<=r.size:=by
 obtain ⟨p,hp,r⟩:=nQ _ [(l,r)] (To _) x (by rw [wks,wks,Up];exact h);rw [TY] at hp;subst hp;exact r
mutual
def Th.lies:Th->Th->Bool
 | .knot n ks,r=>(Th.knot n ks).isHole || (aI (.knot n ks) r && bH ks r.kids)
 | .call _ _,_=>false
def bH:List Th->List Th->Bool
 | [],_=>true
 | k::ks,us=>match us with
   | []=>true
   | u::us=>k.lies u && bH ks us
end
theorem iL {l r:Th} (h:l.isHole=true):aI l r=false:=by
 cases l with
 | knot n ks =>
   cases r with
   | knot m us =>
     show (!(Th.knot n ks).isHole && decide (n=m) && decide (ks.length=us.length))=false;rw [h];rfl
   | call s k=>rfl
 | call s k=>cases h
mutual
def Th.noCall:Th->Prop
 | .knot _ ks=>bQ ks
 | .call _ _=>False
def bQ:List Th->Prop
 | []=>True
 | t::ts=>t.noCall/\bQ ts
end
theorem bp:∀ {ts:List Th} {t:Th},bQ ts->t∈ts->t.noCall
 | [],_,_,h=>nomatch h
 | u::ts,t,hn,h=>by
   rw [bQ] at hn;rcases TR.mp h with rfl | h
   · exact hn.1
   · exact bp hn.2 h
end BB
namespace BB
open PySem L2
def Th.wid:Th->Nat
 | .knot _ ks=>ks.length
 | .call _ _=>2
theorem bD {l r:Th} (h:aI l r=true):∃ n ks us,l=.knot n ks/\r=.knot n us/\ks.length=us.length/\l.isHole=false:=by
 cases l with
 | knot n ks =>
   cases r with
   | knot m us =>
     have h':(!(Th.knot n ks).isHole && decide (n=m) && decide (ks.length=us.length))=true:=h;simp only [VB,decide_eq_true_eq,Bool.not_eq_true'] at h';obtain ⟨⟨h1,h2⟩,h3⟩:=h';subst h2;exact ⟨n,ks,us,rfl,rfl,h3,h1⟩
   | call s k=>cases h
 | call s k=>cases r <;> cases h
theorem tQ (l r:Th) (S:List (Th×Th)):wks ((l,r)::S)=(l,r)::((if aI l r=true then wks (l.kids.zip r.kids) else [])++wks S):=by
 rw [wks,Th.sbs_eq];rfl
end BB
namespace BB
open PySem L2
theorem kc:∀ {ts:List Th},(∀ t∈ts,t.noCall)->bQ ts
 | [],_=>by rw [bQ];trivial
 | t::ts,h=>by
   rw [bQ];exact ⟨h t (T2 ..),kc fun u hu=>h u (T1 _ hu)⟩
theorem jH:hole.noCall:=by rw [hole,Th.noCall,bQ];trivial
theorem fR:hole.isHole=true:=by
 show decide (star=star/\([]:List Th)=[])=true;exact decide_eq_true ⟨rfl,rfl⟩
theorem mB:hole.tall=1:=by rw [hole,Th.tall,bf]
theorem eV:hole.size=1:=by rw [hole,Th.size,aq]
theorem ug:star≠q:=by decide
end BB
namespace L2
open PySem PySem.Spec PySem.SeqAt PyProof.Rows BB
end L2
namespace BB
open PySem L2
theorem ij {k u:Th} {ks us:List Th}:bH (k::ks) (u::us)=(k.lies u && bH ks us):=by rw [bH]
theorem pick {α β γ:Type} {F:α->β->Prop} {G:α->β->γ->Prop} (h:∀ x a,F x a->∃ c,G x a c):∀ {xs:List α} {as:List β},Ud F xs as->∃ cs:List γ,cs.length=as.length/\∀ (i:Nat) x a c,xs[i]?=some x->as[i]?=some a->cs[i]?=some c->G x a c
 | _,_,.nil=>⟨[],rfl,fun i x a c e=>by simp at e⟩
 | _,_,.cons r t=>by
   obtain ⟨c,hc⟩:=h _ _ r;obtain ⟨cs,h1,h2⟩:=pick h t;refine ⟨c::cs,by rw [Tx,Tx,h1],fun i x a c' e1 e2 e3=>?_⟩;cases i with
   | zero=>simp at e1 e2 e3;subst e1 e2 e3;exact hc
   | succ i=>exact h2 i x a c' (by simpa using e1) (by simpa using e2) (by simpa using e3)
theorem qz {α γ:Type} {R:α->γ->Prop} (p:α->Bool):∀ {xs:List α} {cs:List γ},xs.length=cs.length->(∀ (i:Nat) x c,xs[i]?=some x->cs[i]?=some c->R x c)->Ud R (xs.filter p) (((xs.zip cs).filter fun z=>p z.1).map (·.2))
 | [],[],_,_=>.nil
 | [],_::_,h,_=>by simp at h
 | _::_,[],h,_=>by simp at h
 | x::xs,c::cs,h,r=>by
   rw [Xi,Vz,Vz];have ih:=qz p (xs:=xs) (cs:=cs) (R:=R) (by simpa using h) fun i x' c' e1 e2=>r (i+1) x' c' (by simpa using e1) (by simpa using e2);by_cases e:p x=true
   · rw [if_pos e,if_pos e];exact .cons (r 0 x c rfl rfl) ih
   · rw [if_neg e,if_neg e];exact ih
theorem P2.mapl {α β γ:Type} {R:β->γ->Prop} (f:α->β):∀ {xs:List α} {cs:List γ},Ud (fun x c=>R (f x) c) xs cs->Ud R (xs.map f) cs
 | _,_,.nil=>.nil
 | _,_,.cons r h=>.cons r (P2.mapl f h)
end BB
namespace BB
open PySem L2
def TK (K:Tg) (H:Hp) (a:Tn) (xs:List V):Prop:=H a=some (.tup xs)∨∃ (o:VN) (its:Array Tp) (n:Nat),K.lookup a=some o/\o.cls=.type "tuple"/\o.data=.seq its n/\its.size<=TN/\Vals xs its.toList
theorem TK.of {K:Tg} {H:Hp} {a:Tn} {xs:List V} (h:H a=some (.tup xs)):TK K H a xs:=.inl h
theorem TK.sq {K:Tg} {H:Hp} {a:Tn} {xs:List V} (h:TK K H a xs):SqT K H a xs:=by
 rcases h with h | h
 · exact SqT.of h
 · exact .inr h
theorem TK.mono {K:Tg} {H H':Hp} {a:Tn} {xs:List V} (h:TK K H a xs) (k:KT H H'):TK K H' a xs:=by
 rcases h with h | h
 · exact .inl (k _ _ h)
 · exact .inr h
mutual
def AtK (K:Tg) (H:Hp):Th->Tn->Prop
 | .knot n ks,a=>n≠q/\∃ as:List Tn,TK K H a (.str n::as.map V.ref)/\AtsK K H ks as
 | .call s k,a=>TK K H a [.str q,.int s,.int k]
def AtsK (K:Tg) (H:Hp):List Th->List Tn->Prop
 | [],as=>as=[]
 | t::ts,as=>∃ a r,as=a::r/\AtK K H t a/\AtsK K H ts r
end
mutual
theorem AtK.mono {K:Tg} {H H':Hp} (k:KT H H'):∀ {t:Th} {a:Tn},AtK K H t a->AtK K H' t a
 | .knot n ks,a,h=>by
   rw [AtK] at h ⊢;obtain ⟨h0,as,h1,h2⟩:=h;exact ⟨h0,as,h1.mono k,AtsK.mono k h2⟩
 | .call s c,a,h=>by
   rw [AtK] at h ⊢;exact h.mono k
theorem AtsK.mono {K:Tg} {H H':Hp} (k:KT H H'):∀ {ts:List Th} {as:List Tn},AtsK K H ts as->AtsK K H' ts as
 | [],as,h=>by rw [AtsK] at h ⊢;exact h
 | t::ts,as,h=>by
   rw [AtsK] at h ⊢;obtain ⟨a,r,e,h1,h2⟩:=h;exact ⟨a,r,e,AtK.mono k h1,AtsK.mono k h2⟩
end
theorem AtsK.nil {K:Tg} {H:Hp}:AtsK K H [] []:=by rw [AtsK]
theorem AtsK.cons {K:Tg} {H:Hp} {t:Th} {ts:List Th} {a:Tn} {as:List Tn} (h1:AtK K H t a) (h2:AtsK K H ts as):AtsK K H (t::ts) (a::as):=by rw [AtsK];exact ⟨a,as,rfl,h1,h2⟩
theorem AtsK.append {K:Tg} {H:Hp}:∀ {ts us:List Th} {as bs:List Tn},AtsK K H ts as->AtsK K H us bs->AtsK K H (ts++us) (as++bs)
 | [],us,as,bs,h,g=>by rw [AtsK] at h;subst h;exact g
 | t::ts,us,as,bs,h,g=>by
   rw [AtsK] at h;obtain ⟨a,r,rfl,h1,h2⟩:=h;exact .cons h1 (h2.append g)
theorem AtsK.length {K:Tg} {H:Hp}:∀ {ts:List Th} {as:List Tn},AtsK K H ts as->as.length=ts.length
 | [],as,h=>by rw [AtsK] at h;subst h;rfl
 | t::ts,as,h=>by
   rw [AtsK] at h;obtain ⟨a,r,rfl,h1,h2⟩:=h;rw [Tx,Tx,h2.length]
theorem AtsK.reverse {K:Tg} {H:Hp}:∀ {ts:List Th} {as:List Tn},AtsK K H ts as->AtsK K H ts.reverse as.reverse
 | [],as,h=>by rw [AtsK] at h;subst h;exact .nil
 | t::ts,as,h=>by
   rw [AtsK] at h;obtain ⟨a,r,rfl,h1,h2⟩:=h;rw [UJ,UJ];exact h2.reverse.append (.cons h1 .nil)
theorem AtsK.get {K:Tg} {H:Hp}:∀ {ts:List Th} {as:List Tn} {i:Nat} {a:Tn},AtsK K H ts as->as[i]?=some a->∃ t,ts[i]?=some t/\AtK K H t a
 | [],as,i,a,h,e=>by rw [AtsK] at h;subst h;simp at e
 | t::ts,as,i,a,h,e=>by
   rw [AtsK] at h;obtain ⟨b,r,rfl,h1,h2⟩:=h;cases i with
   | zero=>simp at e;subst e;exact ⟨t,rfl,h1⟩
   | succ i=>exact h2.get (i:=i) (by simpa using e)
theorem AtsK.at {K:Tg} {H:Hp}:∀ {ts:List Th} {as:List Tn} {i:Nat} {t:Th},AtsK K H ts as->ts[i]?=some t->∃ a,as[i]?=some a/\AtK K H t a
 | [],as,i,a,h,e=>by simp at e
 | t::ts,as,i,a,h,e=>by
   rw [AtsK] at h;obtain ⟨b,r,rfl,h1,h2⟩:=h;cases i with
   | zero=>simp at e;subst e;exact ⟨b,rfl,h1⟩
   | succ i=>exact h2.at (i:=i) (by simpa using e)
theorem AtsK.snoc_inv {K:Tg} {H:Hp} {ts:List Th} {as:List Tn} {a:Tn} (h:AtsK K H ts (as++[a])):∃ us t,ts=us++[t]/\AtsK K H us as/\AtK K H t a:=by
 have r:=h.reverse;rw [U5,List.reverse_singleton,List.singleton_append] at r;cases e:ts.reverse with
 | nil=>rw [e,AtsK] at r;cases r
 | cons t us =>
   rw [e,AtsK] at r;obtain ⟨b,z,e1,h1,h2⟩:=r;cases e1;refine ⟨us.reverse,t,?_,?_,h1⟩
   · rw [<- UJ,<- e,Vy]
   · have:=h2.reverse;rw [Vy] at this;exact this
mutual
def DAtK (K:Tg) (H:Hp):Dv->V->Prop
 | .int i,v=>v=.int i
 | .str x,v=>v=.str x
 | .tup ds,v=>∃ a vs,v=.ref a/\TK K H a vs/\DAtsK K H ds vs
def DAtsK (K:Tg) (H:Hp):List Dv->List V->Prop
 | [],vs=>vs=[]
 | d::ds,vs=>∃ v r,vs=v::r/\DAtK K H d v/\DAtsK K H ds r
end
theorem DAtsK.nil {K:Tg} {H:Hp}:DAtsK K H [] []:=by rw [DAtsK]
theorem DAtsK.cons {K:Tg} {H:Hp} {d:Dv} {ds:List Dv} {v:V} {vs:List V} (h1:DAtK K H d v) (h2:DAtsK K H ds vs):DAtsK K H (d::ds) (v::vs):=by rw [DAtsK];exact ⟨v,vs,rfl,h1,h2⟩
theorem DAtsK.length {K:Tg} {H:Hp}:∀ {ds:List Dv} {vs:List V},DAtsK K H ds vs->vs.length=ds.length
 | [],vs,h=>by rw [DAtsK] at h;subst h;rfl
 | d::ds,vs,h=>by
   rw [DAtsK] at h;obtain ⟨v,r,rfl,h1,h2⟩:=h;rw [Tx,Tx,h2.length]
theorem DAtsK.at {K:Tg} {H:Hp}:∀ {ds:List Dv} {vs:List V} {i:Nat} {d:Dv},DAtsK K H ds vs->ds[i]?=some d->∃ v,vs[i]?=some v/\DAtK K H d v
 | [],vs,i,d,h,e=>by simp at e
 | d0::ds,vs,i,d,h,e=>by
   rw [DAtsK] at h;obtain ⟨v,r,rfl,h1,h2⟩:=h;cases i with
   | zero=>simp at e;subst e;exact ⟨v,rfl,h1⟩
   | succ i =>
     obtain ⟨u,g1,g2⟩:=h2.at (i:=i) (by simpa using e);exact ⟨u,by simpa using g1,g2⟩
mutual
theorem AtK.dv {K:Tg} {H:Hp}:∀ {t:Th} {a:Tn},AtK K H t a->DAtK K H t.dv (.ref a)
 | .knot n ks,a,h=>by
   rw [AtK] at h;obtain ⟨_,as,h1,h2⟩:=h;rw [Th.dv,DAtK];exact ⟨a,_,rfl,h1,.cons (by rw [DAtK]) (AtsK.dvs h2)⟩
 | .call s k,a,h=>by
   rw [AtK] at h;rw [Th.dv,DAtK];exact ⟨a,_,rfl,h,.cons (by rw [DAtK]) (.cons (by rw [DAtK]) (.cons (by rw [DAtK]) .nil))⟩
theorem AtsK.dvs {K:Tg} {H:Hp}:∀ {ts:List Th} {as:List Tn},AtsK K H ts as->DAtsK K H (dvs ts) (as.map V.ref)
 | [],as,h=>by rw [AtsK] at h;subst h;rw [BB.dvs];exact .nil
 | t::ts,as,h=>by
   rw [AtsK] at h;obtain ⟨a,r,rfl,h1,h2⟩:=h;rw [BB.dvs,UE];exact .cons (AtK.dv h1) (AtsK.dvs h2)
end
mutual
theorem At.k {K:Tg} {H:Hp}:∀ {t:Th} {a:Tn},At H t a->AtK K H t a
 | .knot n ks,a,h=>by
   rw [At] at h;rw [AtK];obtain ⟨h0,as,h1,h2⟩:=h;exact ⟨h0,as,.of h1,Ats.k h2⟩
 | .call s c,a,h=>by
   rw [At] at h;rw [AtK];exact .of h
theorem Ats.k {K:Tg} {H:Hp}:∀ {ts:List Th} {as:List Tn},Ats H ts as->AtsK K H ts as
 | [],as,h=>by rw [Ats] at h;rw [AtsK];exact h
 | t::ts,as,h=>by
   rw [Ats] at h;rw [AtsK];obtain ⟨a,r,e,h1,h2⟩:=h;exact ⟨a,r,e,At.k h1,Ats.k h2⟩
end
theorem AtK.row {K:Tg} {H:Hp} {t:Th} {a:Tn} (h:AtK K H t a):∃ r,TK K H a (.str t.name::r)/\r.length=t.wid:=by
 cases t with
 | knot n ks =>
   rw [AtK] at h;obtain ⟨_,as,h1,h2⟩:=h;exact ⟨_,h1,by rw [Te,h2.length];rfl⟩
 | call s k =>
   rw [AtK] at h;exact ⟨_,h,rfl⟩
theorem pc {K:Tg} {H:Hp} {l:Th} {x:Tn} (h:AtK K H l x) (r:Th):aI l r=(l.isKnot && (decide (l.name=r.name) && decide (l.wid=r.wid))):=by
 cases l with
 | knot n ks =>
   rw [AtK] at h;cases r with
   | knot m us =>
     show (!(Th.knot n ks).isHole && decide (n=m) && decide (ks.length=us.length))=(!false && !(Th.knot n ks).isHole && (decide (n=m) && decide (ks.length=us.length)));rw [Bool.and_assoc];rfl
   | call s k =>
     show false=(_ && (decide (n=q) && _));rw [decide_eq_false h.1];simp
 | call s k=>cases r <;> rfl
theorem w9 {K:Tg} {H:Hp} {a b:Tn} {xs ys:List V} {Q:VK} (ha:TK K H a xs) (hb:TK K H b ys) (hz:xs.length+ys.length<=1000000) (q:∀ p H',L2.Same H H'->TK K H' p (xs++ys)->Q (.ref p) H'):lW K (.ref a) (.ref b) H Q:=by
 refine ⟨a,b,xs,ys,rfl,rfl,ha.sq,hb.sq,ai hz,fun e=>?_,fun _ e=>?_,fun _ _ p hp=>?_⟩
 · exact q b H (.refl _) (by rw [e];exact hb)
 · exact q a H (.refl _) (by rw [e,Up];exact ha)
 · exact q p _ (ad hp _) (.of ab)
def PPK (K:Tg) (H:Hp) (p:Th×Th) (a:Tn):Prop:=∃ x y,H a=some (.tup [.ref x,.ref y])/\AtK K H p.1 x/\AtK K H p.2 y
theorem PPK.mono {K:Tg} {H H':Hp} (k:KT H H') {p:Th×Th} {a:Tn} (h:PPK K H p a):PPK K H' p a:=by
 obtain ⟨x,y,h1,h2,h3⟩:=h;exact ⟨x,y,k _ _ h1,h2.mono k,h3.mono k⟩
theorem dA {K:Tg} {H H':Hp} (k:KT H H') {ps:List (Th×Th)} {as:List Tn} (h:Ud (PPK K H) ps as):Ud (PPK K H') ps as:=P2.mp (fun _ _ e=>PPK.mono k e) h
theorem pk {K:Tg} {H:Hp}:∀ {ks us:List Th} {as bs ts:List Tn},AtsK K H ks as->AtsK K H us bs->Ud (fun (p:V×V) t=>H t=some (.tup [p.1,p.2])) ((as.map V.ref).zip (bs.map V.ref)) ts->Ud (PPK K H) (ks.zip us) ts
 | [],us,as,bs,ts,h1,h2,h=>by
   rw [AtsK] at h1;subst h1;rw [VO,XZ] at h;cases h;rw [XZ];exact .nil
 | k::ks,[],as,bs,ts,h1,h2,h=>by
   rw [AtsK] at h2;subst h2;rw [VO,XQ] at h;cases h;rw [XQ];exact .nil
 | k::ks,u::us,as,bs,ts,h1,h2,h=>by
   rw [AtsK] at h1 h2;obtain ⟨a,ar,rfl,a1,a2⟩:=h1;obtain ⟨b,br,rfl,b1,b2⟩:=h2;rw [UE,UE,Xi] at h;cases h with
   | cons r h =>
     rw [Xi];exact .cons ⟨a,b,r,a1,b1⟩ (pk a2 b2 h)
def TopAtK (K:Tg) (H:Hp):Top->Tn->Prop
 | .nm n m,a=>∃ ta,H a=some (.tup [.ref ta,.int (m:Nat)])/\n≠q/\TK K H ta [.str n]
 | .th t,a=>∃ ta,H a=some (.tup [.ref ta,.int 0])/\AtK K H t ta
theorem TopAtK.mono {K:Tg} {H H':Hp} (k:KT H H'):∀ {x:Top} {a:Tn},TopAtK K H x a->TopAtK K H' x a
 | .nm n m,a,h=>by
   obtain ⟨ta,h1,h2,h3⟩:=h;exact ⟨ta,k _ _ h1,h2,h3.mono k⟩
 | .th t,a,h=>by
   obtain ⟨ta,h1,h2⟩:=h;exact ⟨ta,k _ _ h1,h2.mono k⟩
theorem dQ {K:Tg} {H H':Hp} (k:KT H H') {l:List Top} {as:List Tn} (h:Ud (TopAtK K H) l as):Ud (TopAtK K H') l as:=P2.mp (fun _ _ e=>TopAtK.mono k e) h
theorem AtK.whole {K:Tg} {H:Hp} {t:Th} {a:Tn} (h:AtK K H t a):∃ xs,TK K H a xs/\xs.length<=t.size+2/\∀ (H':Hp) (p:Tn),KT H H'->TK K H' p xs->AtK K H' t p:=by
 cases t with
 | knot n ks =>
   rw [AtK] at h;obtain ⟨h0,as,h1,h2⟩:=h;refine ⟨_,h1,?_,fun H' p kt hp=>?_⟩
   · have:=h2.length;have:=bS ks;rw [Tx,Te,Th.size];omega
   · rw [AtK];exact ⟨h0,as,hp,h2.mono kt⟩
 | call s k =>
   rw [AtK] at h;refine ⟨_,h,by rw [Th.size];exact To _,fun H' p kt hp=>?_⟩;rw [AtK];exact hp
theorem t8 {K:Tg} {H:Hp} {a:Tn} (h:TK K H a [.str star]):AtK K H hole a:=by
 rw [hole,AtK];exact ⟨ug,[],h,by rw [AtsK]⟩
mutual
theorem DAtK.inj {X:Cx} {pins:List (Tn×VN)} {σ:St} {H:Hp} {s:Tv} (I:Inv X pins σ H s):∀ {d e:Dv} {v:V},DAtK X.K H d v->DAtK X.K H e v->d=e
 | .int i,.int j,v,h,g=>by rw [DAtK] at h;rw [DAtK] at g;rw [h] at g;cases g;rfl
 | .int i,.str y,v,h,g=>by rw [DAtK] at h;rw [DAtK] at g;rw [h] at g;cases g
 | .int i,.tup es,v,h,g=>by rw [DAtK] at h;rw [DAtK] at g;obtain ⟨a,vs,e,_⟩:=g;rw [h] at e;cases e
 | .str x,.int j,v,h,g=>by rw [DAtK] at h;rw [DAtK] at g;rw [h] at g;cases g
 | .str x,.str y,v,h,g=>by rw [DAtK] at h;rw [DAtK] at g;rw [h] at g;cases g;rfl
 | .str x,.tup es,v,h,g=>by rw [DAtK] at h;rw [DAtK] at g;obtain ⟨a,vs,e,_⟩:=g;rw [h] at e;cases e
 | .tup ds,.int j,v,h,g=>by rw [DAtK] at h;rw [DAtK] at g;obtain ⟨a,vs,e,_⟩:=h;rw [e] at g;cases g
 | .tup ds,.str y,v,h,g=>by rw [DAtK] at h;rw [DAtK] at g;obtain ⟨a,vs,e,_⟩:=h;rw [e] at g;cases g
 | .tup ds,.tup es,v,h,g=>by
   rw [DAtK] at h;rw [DAtK] at g;obtain ⟨a,vs,e1,h1,h2⟩:=h;obtain ⟨b,ws,e2,g1,g2⟩:=g;rw [e1] at e2;cases e2;have e3:=I.tuple_inj h1.sq g1.sq;subst e3;rw [DAtsK.inj I h2 g2]
theorem DAtsK.inj {X:Cx} {pins:List (Tn×VN)} {σ:St} {H:Hp} {s:Tv} (I:Inv X pins σ H s):∀ {ds es:List Dv} {vs:List V},DAtsK X.K H ds vs->DAtsK X.K H es vs->ds=es
 | [],[],vs,h,g=>rfl
 | [],e::es,vs,h,g=>by rw [DAtsK] at h;rw [DAtsK] at g;obtain ⟨v,r,z,_⟩:=g;rw [h] at z;cases z
 | d::ds,[],vs,h,g=>by rw [DAtsK] at h;rw [DAtsK] at g;obtain ⟨v,r,z,_⟩:=h;rw [g] at z;cases z
 | d::ds,e::es,vs,h,g=>by
   rw [DAtsK] at h;rw [DAtsK] at g;obtain ⟨v,r,z,h1,h2⟩:=h;obtain ⟨v',r',z',g1,g2⟩:=g;rw [z] at z';cases z';rw [DAtK.inj I h1 g1,DAtsK.inj I h2 g2]
end
end BB
namespace L2
open PySem PySem.Spec PySem.SeqAt PyProof.Rows BB
open Classical in
theorem mD {X:Cx} {pins:List (Tn×VN)} {σ:St} {H:Hp} {s:Tv} (I:Inv X pins σ H s) {ds es:List Dv} {a b:Tn} {vs ws:List V} {A:Ut} (ha:SqT X.K H a vs) (hb:SqT X.K H b ws) (Ce:DAtsK X.K H ds vs) (yJ:DAtsK X.K H es ws) (hu:A.units<Vk)
 (ih:∀ (j:Nat) (d e:Dv) (x y:V) (u v:Tp),ds[j]?=some d->DAtK X.K H d x->DAtK X.K H e y->RelV x u->RelV y v->EqAt A.in1 s u v (decide (d=e))):RcAt A s (.ref a) (.ref b) (decide (Dv.tup ds=Dv.tup es)):=by
 obtain ⟨its,r1,p1,_⟩:=I.tuple ha;obtain ⟨xQ,r2,p2,_⟩:=I.tuple hb;have l1:its.length=ds.length:=by rw [<- r1.length,Ce.length]
 have l2:xQ.length=es.length:=by rw [<- r2.length,yJ.length]
 have Cf:RcAt A s (.ref a) (.ref b) ((Ue (min its.toArray.size xQ.toArray.size)).all (fun j=>decide (ds[j]?=es[j]?)) && its.toArray.size == xQ.toArray.size):=by
  refine RcAt.tuples (show s.heap.IsTuple a its.toArray from p1) (show s.heap.IsTuple b xQ.toArray from p2) hu fun j h1 h2=>?_;have Br:j<ds.length:=by rw [<- l1];simpa using h1
  have AG:j<es.length:=by rw [<- l2];simpa using h2
  have e1:ds[j]?=some ds[j]:=Ti Br;have e2:es[j]?=some es[j]:=Ti AG;obtain ⟨x',BL,dx⟩:=Ce.at e1;obtain ⟨y',Az,dy⟩:=yJ.at e2;obtain ⟨u',zf,CW⟩:=r1.get BL;obtain ⟨v',yN,AH⟩:=r2.get Az;have e3:decide (ds[j]?=es[j]?)=decide (ds[j]=es[j]):=by rw [e1,e2];simp
  have e4:its.toArray[j]=u':=by
   rw [Ti (by rw [l1];exact Br)] at zf;simpa using zf
  have e5:xQ.toArray[j]=v':=by
   rw [Ti (by rw [l2];exact AG)] at yN;simpa using yN
  rw [e3,e4,e5];exact ih j ds[j] es[j] x' y' u' v' e1 dx dy CW AH
 have e:decide (Dv.tup ds=Dv.tup es)=((Ue (min its.toArray.size xQ.toArray.size)).all (fun j=>decide (ds[j]?=es[j]?)) && its.toArray.size == xQ.toArray.size):=by
  rw [Tz,Tz,l1,l2];by_cases h:ds=es
  · subst h;rw [decide_eq_true rfl];symm;simp
  · rw [decide_eq_false (fun z=>h (Dv.tup.inj z))];symm;by_cases hl:ds.length=es.length
    · rw [hl,Yn]
      have:¬ ((Ue es.length).all (fun j=>decide (ds[j]?=es[j]?)))=true:=by
       intro z;apply h;apply X2;intro j;by_cases hj:j<es.length
       · have:=V4.mp z j (V7.mpr hj);exact of_decide_eq_true this
       · rw [Vr (by omega),Vr (by omega)]
      rw [U9.mpr this];rfl
    · have:(ds.length == es.length)=false:=by simpa using hl
      rw [this,XX]
 rw [e];exact Cf
open Classical in
theorem oV {X:Cx} {pins:List (Tn×VN)} {σ:St} {H:Hp} {s:Tv} (I:Inv X pins σ H s):∀ (n:Nat) (d e:Dv),d.tot<=n->∀ (x y:V) (u v:Tp) (A:Ut),DAtK X.K H d x->DAtK X.K H e y->RelV x u->RelV y v->A.units+d.deep<Vk->EqAt A s u v (decide (d=e))
 | 0,d,e,hn,x,y,u,v,A,hd,he,ru,rv,hu=>by have:=d.tot_pos;omega
 | n+1,.int i,.int j,hn,x,y,u,v,A,hd,he,ru,rv,hu=>by
   rw [DAtK] at hd;rw [DAtK] at he;subst hd he;obtain ⟨t,rfl⟩:=ru;obtain ⟨t',rfl⟩:=rv
   have e:decide (Dv.int i=Dv.int j)=(i == j):=by
    by_cases h:i=j
    · subst h;simp
    · rw [decide_eq_false (fun z=>h (Dv.int.inj z))];simp [h]
   rw [e];exact EqAt.int_int i t j t'
 | n+1,.int i,.str b,hn,x,y,u,v,A,hd,he,ru,rv,hu=>by
   rw [DAtK] at hd;rw [DAtK] at he;subst hd he;obtain ⟨t,rfl⟩:=ru;obtain ⟨t',rfl⟩:=rv;rw [decide_eq_false (fun z=>by cases z)];exact EqAt.int_str i t b t'
 | n+1,.int i,.tup es,hn,x,y,u,v,A,hd,he,ru,rv,hu=>by
   rw [DAtK] at hd;rw [DAtK] at he;obtain ⟨a,vs,rfl,ha,_⟩:=he;subst hd;obtain ⟨t,rfl⟩:=ru;cases rv;obtain ⟨its,_,p,_⟩:=I.tuple (ha.sq);rw [decide_eq_false (fun z=>by cases z)];exact EqAt.int_tuple i t (show s.heap.IsTuple a its.toArray from p) (by omega)
 | n+1,.str b,.int j,hn,x,y,u,v,A,hd,he,ru,rv,hu=>by
   rw [DAtK] at hd;rw [DAtK] at he;subst hd he;obtain ⟨t,rfl⟩:=ru;obtain ⟨t',rfl⟩:=rv;rw [decide_eq_false (fun z=>by cases z)];exact EqAt.str_int b t j t'
 | n+1,.str b,.str c,hn,x,y,u,v,A,hd,he,ru,rv,hu=>by
   rw [DAtK] at hd;rw [DAtK] at he;subst hd he;obtain ⟨t,rfl⟩:=ru;obtain ⟨t',rfl⟩:=rv
   have e:decide (Dv.str b=Dv.str c)=(b == c):=by
    by_cases h:b=c
    · subst h;simp
    · rw [decide_eq_false (fun z=>h (Dv.str.inj z))];simp [h]
   rw [e];exact EqAt.str_str b t c t'
 | n+1,.str b,.tup es,hn,x,y,u,v,A,hd,he,ru,rv,hu=>by
   rw [DAtK] at hd;rw [DAtK] at he;obtain ⟨a,vs,rfl,ha,_⟩:=he;subst hd;obtain ⟨t,rfl⟩:=ru;cases rv;obtain ⟨its,_,p,_⟩:=I.tuple (ha.sq);rw [decide_eq_false (fun z=>by cases z)];exact EqAt.str_tuple b t (show s.heap.IsTuple a its.toArray from p) (by omega)
 | n+1,.tup ds,.int j,hn,x,y,u,v,A,hd,he,ru,rv,hu=>by
   rw [DAtK] at hd;rw [DAtK] at he;obtain ⟨a,vs,rfl,ha,_⟩:=hd;subst he;cases ru;obtain ⟨t,rfl⟩:=rv;obtain ⟨its,_,p,_⟩:=I.tuple (ha.sq);rw [decide_eq_false (fun z=>by cases z)];exact EqAt.tuple_int j t (show s.heap.IsTuple a its.toArray from p) (by omega)
 | n+1,.tup ds,.str b,hn,x,y,u,v,A,hd,he,ru,rv,hu=>by
   rw [DAtK] at hd;rw [DAtK] at he;obtain ⟨a,vs,rfl,ha,_⟩:=hd;subst he;cases ru;obtain ⟨t,rfl⟩:=rv;obtain ⟨its,_,p,_⟩:=I.tuple (ha.sq);rw [decide_eq_false (fun z=>by cases z)];exact EqAt.tuple_str b t (show s.heap.IsTuple a its.toArray from p) (by omega)
 | n+1,.tup ds,.tup es,hn,x,y,u,v,A,hd,he,ru,rv,hu=>by
   have DW:=hd;have Kz:=he;rw [DAtK] at hd;rw [DAtK] at he;obtain ⟨a,vs,rfl,ha,Ce⟩:=hd;obtain ⟨b,ws,rfl,hb,yJ⟩:=he;cases ru;cases rv;by_cases zB:a=b
   · subst zB;rw [decide_eq_true (DAtK.inj I DW Kz)];exact EqAt.same _
   rw [Dv.tot] at hn;rw [Dv.deep] at hu;refine EqAt.of_refs zB (mD I ha.sq hb.sq Ce yJ (by omega) fun j d e x' y' u' v' e1 dx dy CW AH=>?_);have q1:=nE e1;have q2:=fe e1;refine oV I n d e (by omega) x' y' u' v' A.in1 dx dy CW AH ?_;show A.units+1+_<Vk;omega
def ve (K:Tg) (B:Nat):R2:=fun x y H Q=>∃ a b vs ws ds es,x=.ref a/\y=.ref b/\SqT K H a vs/\SqT K H b ws/\DAtsK K H ds vs/\DAtsK K H es ws/\cQ ds<=B/\∀ b:Bool,(b=true↔ds=es)->Q (.bl b) H
open Classical in
theorem uL {X:Cx} {B:Nat} (hu:X.A.units+B+2<Vk):OpR X (Xh .Eq) (ve X.K B):=by
 intro pins s σ H x y v u Q I rx ry h;obtain ⟨a,b,vs,ws,ds,es,rfl,rfl,ha,hb,Ce,yJ,hB,q⟩:=h;cases rx;cases ry
 have r:RcAt X.A s (.ref a) (.ref b) (decide (Dv.tup ds=Dv.tup es)):=mD I ha hb Ce yJ (by omega) fun j d e x' y' u' v' e1 dx dy CW AH=>by
  have q2:=fe e1;refine oV I _ d e (To _) x' y' u' v' X.A.in1 dx dy CW AH ?_;show X.A.units+1+_<Vk;omega
 refine r X.prog X.w X.xe _ ⟨.bl (decide (Dv.tup ds=Dv.tup es)),H,I,rfl,q _ ?_⟩;constructor
 · intro z;exact Dv.tup.inj (of_decide_eq_true z)
 · intro z;rw [z];exact decide_eq_true rfl
def xz (K:Tg):V->Option Int->Option Int->Hp->VK->Prop:=fun x lo hi H Q=>∃ a xs,x=.ref a/\TK K H a xs/\∀ p H',Same H H'->TK K H' p (du xs lo hi)->Q (.ref p) H'
theorem qW {X:Cx}:SlR X (xz X.K):=by
 intro pins s σ H x v vl vu lo hi sl Q I rx hs pl pu h;obtain ⟨a,xs,rfl,ha,q⟩:=h;by_cases hw:HT.sIx xs.length 0 lo=0/\HT.sIx xs.length xs.length hi=xs.length
 · obtain ⟨its,r,p1,hz⟩:=I.tuple ha.sq;have hl:=r.length;cases rx
   have e:du xs lo hi=xs:=by
    unfold du;rw [hw.1,hw.2,VR,Y5,V1]
   refine ⟨"tuple",_,Ur.lookup,p1.typeIs,HT.getItem_tuple_whole p1 hs pl pu (by rw [Tz,<- hl];exact hw) ⟨.ref a,H,I,rfl,q a H (.refl _) (by rw [e];exact ha)⟩⟩
 · exact fz pins s σ H _ v vl vu lo hi sl Q I rx hs pl pu ⟨a,xs,rfl,ha.sq,hw,fun p hp=>q p _ (ad hp _) (.of ab)⟩
end L2
namespace BB
open PySem L2
mutual
def Th.com:Th->Th->Th
 | .knot n ks,r=>if aI (.knot n ks) r=true then .knot n (dw ks r.kids) else hole
 | .call _ _,_=>hole
def dw:List Th->List Th->List Th
 | [],_=>[]
 | k::ks,us=>match us with
   | []=>[]
   | u::us=>k.com u::dw ks us
end
theorem ou:∀ ks us:List Th,dw ks us=(ks.zip us).map fun p=>p.1.com p.2
 | [],_=>by rw [dw];rfl
 | k::ks,[]=>by rw [dw];rfl
 | k::ks,u::us=>by rw [dw,ou ks us];rfl
theorem ig (l r:Th):l.com r=if aI l r=true then .knot l.name ((l.kids.zip r.kids).map fun p=>p.1.com p.2) else hole:=by
 cases l with
 | knot n ks=>rw [Th.com,ou];rfl
 | call s k =>
   rw [Th.com];have:aI (.call s k) r=false:=by cases r <;> rfl
   rw [this];rfl
def topC (p:Th×Th):Top:=if aI p.1 p.2=true then .nm p.1.name p.1.kids.length else .th hole
theorem pz:∀ (n:Nat) (ps:List (Th×Th)),szL ps<=n->∀ S,bl ((wks ps).map topC++S)=ps.map (fun p=>p.1.com p.2)++bl S/\(TopsOk S->TopsOk ((wks ps).map topC++S))
 | _,[],_,S=>⟨rfl,fun h=>h⟩
 | 0,p::ps,h,S=>by
   have:=p.1.size_pos;rw [szL] at h;omega
 | n+1,p::ps,h,S=>by
   have hs:=p.1.size_eq;have hz:=i4 p.1.kids p.2.kids;rw [szL] at h;have i2:=pz n ps (by omega) S;rw [wks,Th.sbs_eq,TH,Uy,UE,VA];have hc:(p::ps).map (fun p=>p.1.com p.2)=p.1.com p.2::ps.map (fun p=>p.1.com p.2):=rfl;by_cases yG:aI p.1 p.2=true
   · have i1:=pz n (p.1.kids.zip p.2.kids) (by omega) ((wks ps).map topC++S);obtain ⟨nm,ks,us,e1,e2,e3,_⟩:=bD yG
     have hl:((p.1.kids.zip p.2.kids).map fun p=>p.1.com p.2).length=p.1.kids.length:=by
      rw [Te,Xe,e1,e2];simp only [Th.kids];omega
     have ht:topC (p.1,p.2)=.nm p.1.name p.1.kids.length:=by unfold topC;rw [if_pos yG]
     rw [if_pos yG,ht];refine ⟨?_,fun hS=>?_⟩
     · rw [bl,i1.1,i2.1,hc,ig,if_pos yG,<- hl,List.take_left,List.drop_left];rfl
     · rw [TopsOk];exact ⟨by rw [i1.1,TZ,hl];exact V0 _ _,i1.2 (i2.2 hS)⟩
   · have ht:topC (p.1,p.2)=.th hole:=by unfold topC;rw [if_neg yG]
     rw [if_neg yG,ht,VO,Vv];refine ⟨?_,fun hS=>?_⟩
     · rw [bl,i2.1,hc,ig,if_neg yG];rfl
     · rw [TopsOk];exact i2.2 hS
theorem vW (l r:Th):bl ((l.sbs r).map topC)=[l.com r]/\TopsOk ((l.sbs r).map topC):=by
 have h:=pz _ [(l,r)] (To _) [];rw [wks,wks,Up,Up] at h;refine ⟨?_,h.2 (by rw [TopsOk];trivial)⟩;rw [h.1,bl];rfl
theorem cG (l r:Th):aI l r=aI r l:=by
 cases l with
 | knot n ks =>
   cases r with
   | knot m us =>
     show (!decide (n=star/\ks=[]) && decide (n=m) && decide (ks.length=us.length))=(!decide (m=star/\us=[]) && decide (m=n) && decide (us.length=ks.length));by_cases h1:n=m
     · subst h1;by_cases h2:ks.length=us.length
       · have h3:(n=star/\ks=[])↔(n=star/\us=[]):=by
          constructor
          · rintro ⟨a,b⟩;rw [b] at h2;exact ⟨a,UO.mp h2.symm⟩
          · rintro ⟨a,b⟩;rw [b] at h2;exact ⟨a,UO.mp h2⟩
         rw [decide_eq_decide.mpr h3,h2]
       · have AG:¬ us.length=ks.length:=fun e=>h2 e.symm;simp [h2,AG]
     · have Br:¬ m=n:=fun e=>h1 e.symm;simp [h1,Br]
   | call s k=>rfl
 | call s k=>cases r <;> rfl
mutual
theorem og:∀ l r:Th,(l.com r).size<=l.size/\(l.com r).tall<=l.tall
 | .knot n ks,r=>by
   have h:=mF ks r.kids;rw [Th.com];split
   · rw [Th.size,Th.size,Th.tall,Th.tall];omega
   · have:=(Th.knot n ks).size_pos;have:=(Th.knot n ks).tall_eq;rw [eV,mB];omega
 | .call s k,r=>by rw [Th.com,eV,mB,Th.size,Th.tall];omega
theorem mF:∀ ks us:List Th,aq (dw ks us)<=aq ks/\bf (dw ks us)<=bf ks
 | [],us=>by rw [dw,aq,bf];exact ⟨To _,To _⟩
 | k::ks,[]=>by rw [dw,aq,bf];exact ⟨T4 _,T4 _⟩
 | k::ks,u::us=>by
   have h1:=og k u;have h2:=mF ks us;rw [dw,aq,aq,bf,bf];omega
end
mutual
theorem kf:∀ l r:Th,(l.com r).noCall
 | .knot n ks,r=>by
   rw [Th.com];split
   · rw [Th.noCall];exact jw ks r.kids
   · exact jH
 | .call s k,r=>by rw [Th.com];exact jH
theorem jw:∀ ks us:List Th,bQ (dw ks us)
 | [],us=>by rw [dw,bQ];trivial
 | k::ks,[]=>by rw [dw,bQ];trivial
 | k::ks,u::us=>by rw [dw,bQ];exact ⟨kf k u,jw ks us⟩
end
end BB
namespace BB
open PySem L2
theorem TK.const {K:Tg} {H:Hp} {a:Tn} {xs:List V} (h:∀ H:Hp,SqT K H a xs):TK K H a xs:=by
 rcases h (fun _=>none) with (h | ⟨o,h⟩) | h
 · cases h
 · cases h
 · exact .inr h
theorem uz {K:Tg} {H:Hp} {t:Th} {a h0:Tn} {Q:VK} (hA:AtK K H t a) (e0:TK K H h0 [.str star]) (yy:t.tall<=150) (k:Q (.bl t.isHole) H):ve K 150 (.ref a) (.ref h0) H Q:=by
 cases t with
 | knot n ks =>
   rw [AtK] at hA;obtain ⟨hn,as,h1,h2⟩:=hA;rw [Th.tall] at yy;have hd:=iK ks;refine ⟨a,h0,_,_,.str n::dvs ks,[.str star],rfl,rfl,h1.sq,e0.sq,.cons (by rw [DAtK]) h2.dvs,.cons (by rw [DAtK]) .nil,by rw [cQ,Dv.deep];omega,fun b hb=>?_⟩
   have e:b=(Th.knot n ks).isHole:=by
    rw [Xg,hb];show _↔decide (n=star/\ks=[])=true;rw [decide_eq_true_iff];constructor
    · intro z;have z1:=YR z;refine ⟨Dv.str.inj z1.1,?_⟩;cases ks with
      | nil=>rfl
      | cons x xs=>rw [dvs] at z1;cases z1.2
    · rintro ⟨z1,z2⟩;rw [z1,z2,dvs]
   rw [e];exact k
 | call sn kn =>
   rw [AtK] at hA;refine ⟨a,h0,_,_,[.str q,.int sn,.int kn],[.str star],rfl,rfl,hA.sq,e0.sq,.cons (by rw [DAtK]) (.cons (by rw [DAtK]) (.cons (by rw [DAtK]) .nil)),.cons (by rw [DAtK]) .nil,by simp [cQ,Dv.deep],fun b hb=>?_⟩
   have e:b=(Th.call sn kn).isHole:=by
    show b=false;cases b with
    | false=>rfl
    | true=>exact absurd (hb.mp rfl) (by simp)
   rw [e];exact k
end BB
namespace L2
open PySem PySem.Spec PyProof.Rows BB
def wv (K:Tg) (T:String):List V->Hp->VK->Prop:=fun xs H Q=>wI K T xs H Q∨∃ a ys b,xs=[.ref a,.ty T]/\SqT K H a ys/\WM K (.type "tuple") (.type T)=some b/\Q (.bl b) H
theorem rL {X:Cx} {T:String}:gS X (.builtin "isinstance") (wv X.K T):=by
 intro pins s σ H xs us Q I r h;rcases h with h | ⟨a,ys,b,rfl,hq,e,q⟩
 · exact cD pins s σ H xs us Q I r h
 · obtain ⟨u1,u2,rfl,r1,r2⟩:=vals2 r;cases r1;cases r2;obtain ⟨its,rv,⟨o,h1,h2,_⟩,hz⟩:=I.tuple hq;exact Vj PySem.W.kitx_tuple I.kIn ⟨o,h1,h2⟩ e (fun z=>nomatch z) fun tk=>⟨.bl b,H,I.tok _,rfl,q⟩
end L2
namespace BB
open PySem L2
theorem iy {f:Th} (h:f.isHole=false):f.lies hole=false:=by
 cases f with
 | knot n ks =>
   rw [Th.lies,h]
   have:aI (.knot n ks) hole=false:=by
    rw [cG];exact iL fR
   rw [this];rfl
 | call s k=>rw [Th.lies]
theorem eL {f a b:Th} (h1:aI f a=true) (h2:aI f b=true):aI a b=true:=by
 obtain ⟨n,ks,us,rfl,rfl,e3,hh⟩:=bD h1;obtain ⟨n',KC,vs,e1,rfl,e4,_⟩:=bD h2;cases e1
 have hn:(Th.knot n us).isHole=false:=by
  cases hz:(Th.knot n us).isHole with
  | false=>rfl
  | true =>
    rw [cG,iL hz] at h1;cases h1
 show (!(Th.knot n us).isHole && decide (n=n) && decide (us.length=vs.length))=true;rw [hn];have:us.length=vs.length:=by omega
 simp [this]
theorem lK {f a b:Th} (h:aI a b=true):aI f a=aI f b:=by
 cases h1:aI f a with
 | true =>
   cases h2:aI f b with
   | true=>rfl
   | false =>
     have:=eL (f:=a) (a:=f) (b:=b) (by rw [cG];exact h1) h;rw [h2] at this;cases this
 | false =>
   cases h2:aI f b with
   | false=>rfl
   | true =>
     have:=eL (f:=b) (a:=f) (b:=a) (by rw [cG];exact h2) (by rw [cG];exact h);rw [h1] at this;cases this
theorem oG {n:T6} {us vs:List Th} (f:Th) (h:us.length=vs.length):aI f (.knot n us)=aI f (.knot n vs):=by
 cases f with
 | knot m ks=>show (_ && _ && decide (ks.length=us.length))=(_ && _ && decide (ks.length=vs.length));rw [h]
 | call s k=>rfl
theorem oF:∀ ks us:List Th,(dw ks us).length=min ks.length us.length
 | [],us=>by rw [dw];simp
 | k::ks,[]=>by rw [dw];simp
 | k::ks,u::us=>by rw [dw,Tx,oF ks us,Tx,Tx];omega
mutual
theorem oj:∀ f a b:Th,f.lies (a.com b)=(f.lies a && f.lies b)
 | .call s k,a,b=>by rw [Th.lies,Th.lies,Th.lies];rfl
 | .knot n ks,a,b=>by
   cases hh:(Th.knot n ks).isHole with
   | true =>
     rw [Th.lies,Th.lies,Th.lies,hh];rfl
   | false =>
     by_cases zB:aI a b=true
     · obtain ⟨m,us,vs,rfl,rfl,e3,_⟩:=bD zB;have hc:(Th.knot m us).com (.knot m vs)=.knot m (dw us vs):=by rw [Th.com,if_pos zB];rfl
       have hl:(dw us vs).length=us.length:=by rw [oF];omega
       rw [hc,Th.lies,Th.lies,Th.lies,hh,Xb,Xb,Xb,oG (.knot n ks) hl,<- lK (f:=.knot n ks) zB];cases hs:aI (.knot n ks) (.knot m us) with
       | false=>rfl
       | true =>
         show (true && bH ks (dw us vs))=((true && bH ks us) && (true && bH ks vs));rw [Bool.true_and,Bool.true_and,Bool.true_and];obtain ⟨_,_,_,e1,e2,e4,_⟩:=bD hs;cases e1;cases e2;exact kx ks us vs e4 (by omega)
     · have hc:a.com b=hole:=by rw [ig,if_neg zB]
       rw [hc,iy hh];cases h1:(Th.knot n ks).lies a with
       | false=>rfl
       | true =>
         cases h2:(Th.knot n ks).lies b with
         | false=>rfl
         | true =>
           rw [Th.lies,hh,Xb,VB] at h1 h2;exact absurd (eL h1.1 h2.1) zB
theorem kx:∀ ks us vs:List Th,ks.length=us.length->ks.length=vs.length->bH ks (dw us vs)=(bH ks us && bH ks vs)
 | [],us,vs,_,_=>by rw [bH,bH,bH];rfl
 | k::ks,[],vs,h,_=>by simp at h
 | k::ks,u::us,[],_,h=>by simp at h
 | k::ks,u::us,v::vs,h1,h2=>by
   rw [dw,ij,ij,ij,oj k u v,kx ks us vs (by simpa using h1) (by simpa using h2)];cases k.lies u <;> cases k.lies v <;> cases bH ks us <;> cases bH ks vs <;> rfl
end
end BB
namespace BB
open PySem L2
def PAtK (K:Tg) (H:Hp) (p:List Int×Th) (a:Tn):Prop:=∃ pa ta,H a=some (.tup [.ref pa,.ref ta])/\H pa=some (.tup (p.1.map V.int))/\AtK K H p.2 ta
def PsAtK (K:Tg) (H:Hp) (ps:List (List Int×Th)) (as:List Tn):Prop:=Ud (PAtK K H) ps as
theorem PAtK.mono {K:Tg} {H H':Hp} (k:KT H H') {p:List Int×Th} {a:Tn} (h:PAtK K H p a):PAtK K H' p a:=by
 obtain ⟨pa,ta,h1,h2,h3⟩:=h;exact ⟨pa,ta,k _ _ h1,k _ _ h2,h3.mono k⟩
theorem PsAtK.mono {K:Tg} {H H':Hp} (k:KT H H') {ps:List (List Int×Th)} {as:List Tn} (h:PsAtK K H ps as):PsAtK K H' ps as:=P2.mp (fun _ _ e=>PAtK.mono k e) h
theorem rc {xs:List V} {n:Nat} (h:n<=xs.length):du xs none (some (n:Int))=xs.take n:=by
 unfold du;rw [HT.sIx_none,HT.sIx_nat,XI h,VR,Y5]
end BB
namespace L2
open PySem PySem.Spec PySem.Calls PyProof.Rows PySem.W
section
variable {prog:TF} {w:T3} {A:Ut} {E:Tp->Tv->Prop} {h:US} {g:Array GenState} {d:Drawn} {t:Nat} {os:X7} {a C:Tn} {o:VN} {K:Frag}
end
end L2
namespace L2
open PySem PySem.Spec PySem.Calls PyProof.Rows PySem.W
section
variable {P:TF} {w:T3} {K:Tg} {mg:T6->Option Tp} {base:US} {N:List T6} {qual:T6} {scope:Xu} {f:Tn} {cd:Tp} {A:Ut} {outer:List Env} {s:Tv} {H:Hp} {E:XK}
end
end L2
namespace L2
open PySem PySem.Spec PySem.Calls PyProof.Rows PySem.W
section
variable {X:Cx} {pins:List (Tn×VN)} {σ:St} {H:Hp} {s:Tv}
end
end L2
namespace L2
open PySem PySem.Spec PySem.Calls PyProof.Rows PySem.W
section
variable {P:TF} {w:T3} {K:Tg} {mg:T6->Option Tp} {base:US}
end
end L2
namespace L2
open PySem PySem.Spec PySem.Calls PyProof.Rows PySem.SeqAt
theorem fV {k:Nat} {A:Ut} (hr:Room k A):A.units+2<Vk:=by
 have:=hr.units;omega
end L2
namespace L2
open PySem PySem.Spec PySem.Calls PyProof.Rows
end L2
namespace BB
open PySem
end BB
namespace L2
open PySem PySem.Spec PySem.Calls PyProof.Rows BB
section
variable {prog:TF} {w:T3} {A:Ut} {R:Result->Tv->Prop}
end
end L2
namespace PySem
section
variable {prog:TF} {w:T3} {A:Ut} {E:Tp->Tv->Prop} {s:Tv}
end
end PySem
namespace L2
open PySem PySem.Spec PySem.Calls PyProof.Rows BB
end L2
namespace L2
open PySem PySem.Spec PySem.Calls PyProof.Rows BB
section
variable {X:Cx}
end
end L2
namespace BB
open PySem L2
theorem mP {α:Type} {js:List (Option Nat)} {g:TG} {tt:TT} {te:TE} {σ:St} {J:It} {H:Hp} {xs:List V} {fin:Tn->Hp->Prop} (zs:List α) (f:α->V) (hz:zs.length=xs.length) (hn:xs.length<=1000000)
 (EK:∀ i H2,L2.Same H H2->i<xs.length->J.go i H2) (zk:∀ H2,L2.Same H H2->J.stop xs.length H2) (AF:∀ (i:Nat) H2 x H3,L2.Same H H2->i<xs.length->J.yld i H2 x H3->H3=H2/\xs[i]?=some x)
 (hb:∀ (i:Nat) x z H2 (R:VK) (W':Hp->Prop),xs[i]?=some x->zs[i]?=some z->L2.Same H H2->(∀ H3,L2.Same H2 H3->R (f z) H3)->g x (cσ js σ) H2 fun yc H3=>tt yc H3 fun b H4=>if b=true then te yc H4 R else W' H4)
 (zb:∀ D H',H D=none->L2.Same H H'->H' D=some (.lst (zs.map f))->fin D H') :
 ∀ D,H D=none->∃ (n:Nat) (W:Nat->Hp->Prop),W 0 (upd H D (.lst []))/\i5 js g tt te σ J D n W fun H'=>fin D H':=by
 intro D hD;refine ⟨xs.length,fun i H'=>i<=xs.length/\L2.Same H H'/\H' D=some (.lst ((zs.take i).map f)),⟨T4 _,ad hD _,by rw [ab];rfl⟩,?_⟩;rintro i H' ⟨hi,s1,e1⟩;by_cases xV:i<xs.length
 · refine .inr ⟨xV,EK i H' s1 xV,fun v H1 hy=>?_⟩;obtain ⟨e,hx⟩:=AF i H' v H1 s1 xV hy;subst e;obtain ⟨z,zz⟩:∃ z,zs[i]?=some z:=⟨_,Ti (by omega)⟩;refine hb i v z _ _ _ hx zz s1 fun H3 s3=>⟨_,s3 _ _ e1,?_,xV,aw (s1.trans s3) hD,?_⟩
   · rw [Te,Ul];have:TN=16777216:=Xs;omega
   · rw [ab,take_snoc zz,TH];rfl
 · have yq:i=xs.length:=by omega
   subst yq;refine .inl ⟨zk _ s1,zb D H' hD s1 ?_⟩;rw [e1,UY (by omega)]
theorem oW {α:Type} {K:Tg} {a:Tn} {js:List (Option Nat)} {g:TG} {tt:TT} {te:TE} {σ:St} {H:Hp} {xs:List V} {fin:Tn->Hp->Prop} (zs:List α) (f:α->V) (hS:SqT K H a xs) (hz:zs.length=xs.length) (hn:xs.length<=1000000)
 (hb:∀ (i:Nat) x z H2 (R:VK) (W':Hp->Prop),xs[i]?=some x->zs[i]?=some z->L2.Same H H2->(∀ H3,L2.Same H2 H3->R (f z) H3)->g x (cσ js σ) H2 fun yc H3=>tt yc H3 fun b H4=>if b=true then te yc H4 R else W' H4)
 (zb:∀ D H',H D=none->L2.Same H H'->H' D=some (.lst (zs.map f))->fin D H') :
 ∀ D,H D=none->∃ (n:Nat) (W:Nat->Hp->Prop),W 0 (upd H D (.lst []))/\i5 js g tt te σ (Itt K a) D n W fun H'=>fin D H' :=
 mP zs f hz hn (fun i H2 s hi=>⟨xs,xs[i],s.seqT hS,Ti hi⟩) (fun H2 s=>⟨xs,s.seqT hS,To _⟩) (fun i H2 x H3 s hi hy=>⟨hy.1,hy.2 xs (s.seqT hS)⟩) hb zb
theorem m8 {α:Type} {K:Tg} {a:Tn} {js:List (Option Nat)} {g:TG} {tt:TT} {te:TE} {σ:St} {H:Hp} {xs:List V} {fin:Tn->Hp->Prop} (zs:List α) (f:α->V) (hS:SqL K H a xs) (hz:zs.length=xs.length) (hn:xs.length<=1000000)
 (hb:∀ (i:Nat) x z H2 (R:VK) (W':Hp->Prop),xs[i]?=some x->zs[i]?=some z->L2.Same H H2->(∀ H3,L2.Same H2 H3->R (f z) H3)->g x (cσ js σ) H2 fun yc H3=>tt yc H3 fun b H4=>if b=true then te yc H4 R else W' H4)
 (zb:∀ D H',H D=none->L2.Same H H'->H' D=some (.lst (zs.map f))->fin D H') :
 ∀ D,H D=none->∃ (n:Nat) (W:Nat->Hp->Prop),W 0 (upd H D (.lst []))/\i5 js g tt te σ (Itl K a) D n W fun H'=>fin D H' :=
 mP zs f hz hn (fun i H2 s hi=>⟨xs,xs[i],s.seq hS,Ti hi⟩) (fun H2 s=>⟨xs,s.seq hS,To _⟩) (fun i H2 x H3 s hi hy=>⟨hy.1,hy.2 xs (s.seq hS)⟩) hb zb
end BB
namespace HT
open PySem PySem.Spec PyProof.Rows
section
variable {prog:TF} {w:T3} {A:Ut} {E:Tp->Tv->Prop} {s:Tv}
theorem adjust_back (n:Nat):Wt none none (-1) (n:Int)=((n:Int) - 1,-1):=rfl
theorem places_back (n:Nat):Vd ((n:Int) - 1) (-1) (-1)=n:=by
 unfold Vd;have h1:¬ ((-1:Int) > 0):=by omega
 simp only [h1,if_false];by_cases h:n=0
 · subst h;decide
 · have h2:((n:Int) - 1) > -1:=by omega
   simp only [h2,if_true];rw [show (- -1:Int)=1 by decide,Y8];omega
theorem pick_back (xs:Array Tp):((Ue xs.size).filterMap fun (m:Nat)=>xs[(((xs.size:Nat):Int) - 1+(m:Int) * (-1)).toNat]?).toArray=xs.toList.reverse.toArray:=by
 congr 1
 have e:∀ m∈Ue xs.size,xs[(((xs.size:Nat):Int) - 1+(m:Int) * (-1)).toNat]?=xs.toList.reverse[m]?:=by
  intro m hm;have DX:=V7.mp hm;rw [List.getElem?_reverse (by rw [Uk];exact DX),WG,Uk];congr 1;omega
 have f:∀ (l:List Nat) (f g:Nat->Option Tp),(∀ m∈l,f m=g m)->l.filterMap f=l.filterMap g:=by
  intro l f g;induction l with
  | nil=>intro _;rfl
  | cons y ys ih =>
    intro h;rw [W2,W2,h y (by simp),ih (fun m hm=>h m (by simp [hm]))]
 rw [f _ _ _ e]
 have gl:∀ (ys:List Tp),(Ue ys.length).filterMap (fun m=>ys[m]?)=ys:=by
  intro ys;have:=pick_run ys.toArray 0 ys.length;simp only [YX] at this
  have e3:((fun x=>ys.toArray[x]?) ∘ fun x=>0+x)=fun m=>ys[m]?:=by
   funext m;simp
  rw [e3] at this;rw [this];simp
 have:=gl xs.toList.reverse;rw [UT,Uk] at this;exact this
theorem sliceApplied_back {sl:Tn} {n:Nat} {t:Tok} {Q:Int×Int×Nat->Tv->Prop} (hs:s.heap.IsSliceOf sl .none .none (.int (-1) t))
 (h:Q ((n:Int) - 1,-1,n) s):TM (Ug prog w) A (Xa (.ref sl) (pure (n:Int))) Q E s:=by
 obtain ⟨os,Aa,BI,zV⟩:=id hs;unfold Xa Builtin.Slice.sliceFields;refine Tf (Tf (Uz Aa zV (x:=.none) rfl (Tf (Uz Aa zV (x:=.none) rfl (Tf (Uz Aa zV (x:=.int (-1) t) rfl (Tt ?_)))))));refine Tf (slicePart_int ?_);show TM _ _ (if ((-1:Int) == 0)=true then _ else _) _ _ s;rw [if_neg (by decide)];refine Tf (slicePart_none (Tf (slicePart_none (Tf (Tt ?_)))));show TM _ _ (match Wt none none (-1) (n:Int) with | (lo,hi)=>pure (lo,(-1:Int),Vd lo hi (-1))) _ _ s;rw [adjust_back n];show TM _ _ (pure ((n:Int) - 1,(-1:Int),Vd ((n:Int) - 1) (-1) (-1))) _ _ s;rw [places_back];exact Tt h
theorem getItem_tuple_back {t sl:Tn} {items:Array Tp} {tk:Tok} {Q:Tp->Tv->Prop} (ht:IsTup s.heap t items) (hs:s.heap.IsSliceOf sl .none .none (.int (-1) tk))
 (h:Q (.ref s.heap.objs.size) { s with heap:=s.heap.push { cls:=.type "tuple",data:=.seq items.toList.reverse.toArray } })
 (hsz:items.size<=TN):TM (Ug prog w) A (XA (.ref t) (.ref sl)) Q E s:=by
 have yP:sizeOk (.seq items.toList.reverse.toArray):=by
  show items.toList.reverse.toArray.size<=TN;rw [Tz,UT,Uk];exact hsz
 obtain ⟨os,Aa,BI,zV⟩:=id hs;have Gk:s.TypeIs (.ref sl) "slice":=⟨os,Aa,BI⟩;unfold XA
 try with_reducible refine U3 ?_
 first | refine Tf (Tt ?_) | skip
 refine Tf (wpAny_sequenceKey ht.typeIs (by decide) ?_)
 refine Tf (UI (name:=Tu "__getitem__") ht.typeIs Ur
  (UM Ur ht.typeIs entry_tuple_getitem ?_ (args_tuple_getitem _ _)))
 show TM _ _ (W9 (.ref t) >>= _) _ _ s;refine Tf (tupleItemsOf_ ht ?_);refine Tf (Wb Gk ?_);rw [if_pos (by decide)];refine Tf (sliceApplied_back hs ?_)
 have Ax:¬ ((((items.size:Nat):Int) - 1 == 0 && (-1:Int) == 1 && items.size == items.size)=true):=by
  simp
 show TM _ _ (if (((items.size:Nat):Int) - 1 == 0 && (-1:Int) == 1 && items.size == items.size)=true then _ else _) _ _ s;rw [if_neg Ax,pick_back]
 first
  | exact Tf (m:=Vi _) (UL (Tt ⟨_,rfl,Tt h⟩) yP)
  | exact Tf (m:=Vi _) (UL (Tf (Tt (Tt ⟨_,rfl,Tt h⟩))) yP)
  | exact Tf (Tf (m:=Vi _) (UL (Tt (Tt ⟨_,rfl,Tt h⟩)) yP))
  | exact Tf (Tf (m:=Vi _) (UL (Tt ⟨_,rfl,Tt h⟩) yP))
end
end HT
namespace L2
open PySem PySem.Spec PyProof.Rows
section
variable {X:Cx} {e:UP} {te:TE} {pos p2 p3 p4:Xv}
def BkR (X:Cx) (r:V->Hp->VK->Prop):Prop :=
 ∀ (pins:List (Tn×VN)) (s:Tv) (σ:St) (H:Hp) (x:V) (v:Tp) (t:Tok) (sl:Tn) (Q:VK),Inv X pins σ H s->RelV x v->s.heap.IsSliceOf sl .none .none (.int (-1) t)->r x H Q →
   ∃ T id,W5 (.type T) "__getitem__"=pure (some (.builtin id))/\s.TypeIs v T/\TM (Ug X.prog X.w) X.A (XA v (.ref sl)) (EP X pins σ Q) X.xe s
def tBk (r:V->Hp->VK->Prop) (te:TE):TE:=fun σ H Q=>te σ H fun x H1=>r x H1 Q
theorem qC {r:V->Hp->VK->Prop} (hr:BkR X r) (he:PE X e te):PE X (.Subscript e (.Slice none none (some (.UnaryOp .USub (.Constant (.int 1) 0 p3) p4)) p2) pos) (tBk r te):=by
 intro pins s σ H Q I h;refine Subscript_ (thn (he pins s σ H _ I h) fun v s1 ⟨x,H1,I1,r1,q1⟩=>?_);refine wpAny_Slice ?_;rw [evalPart_none];refine Tt ?_;refine Tt ?_;have P5:PO X (some (.UnaryOp .USub (.Constant (.int 1) 0 p3) p4)) (vi (tUn (rU fun i=>.int (-i)) (tC (.int 1)))):=bJ (wt we af);refine thn (P5 pins s1 σ H1 (fun o H'=>o=some (-1)/\r x H' Q) I1 ⟨1,rfl,_,rfl,rfl,q1⟩) fun vs s2 ⟨o,H2,I2,ps,ho,q2⟩=>?_;subst ho;cases ps with
 | int i t =>
   have I4:Inv X pins σ H2 { s2 with heap:=s2.heap.push { cls:=.type "slice",data:=.fields #[.none,.none,.int (-1) t] } }:=I2.kept (t':=s2.toks) fun b ob q=>Tr _ q;obtain ⟨T,id,hT,ht,hg⟩:=hr pins { s2 with heap:=s2.heap.push { cls:=.type "slice",data:=.fields #[.none,.none,.int (-1) t] } } σ H2 x v t s2.heap.objs.size Q I4 r1 (Heap.IsSliceOf.new ..) q2;show TM (Ug X.prog X.w) X.A (subscriptTail e (.Slice none none (some (.UnaryOp .USub (.Constant (.int 1) 0 p3) p4)) p2) v (.ref s2.heap.objs.size)) (EP X pins σ Q) X.xe { s2 with heap:=s2.heap.push { cls:=.type "slice",data:=.fields #[.none,.none,.int (-1) t] } };exact tail_any (ops:=[v,.ref s2.heap.objs.size]) ht hT hg (by with_unfolding_all rfl)
def xC (K:Tg):V->Hp->VK->Prop:=fun x H Q=>∃ a xs,x=.ref a/\SqT K H a xs/\∀ p,H p=none->Q (.ref p) (upd H p (.tup xs.reverse))
def xj (K:Tg):V->Hp->VK->Prop:=fun x H Q=>∃ a xs,x=.ref a/\SqL K H a xs/\∀ p,H p=none->Q (.ref p) (upd H p (.lst xs.reverse))
theorem Vals.rev {xs:List V} {us:List Tp} (r:Vals xs us):Vals xs.reverse us.reverse:=by
 induction r with
 | nil=>exact .nil
 | cons r1 r2 ih=>rw [UJ,UJ];exact ih.append (.cons r1 .nil)
theorem vP:BkR X (xC X.K):=by
 intro pins s σ H x v t sl Q I rx hs h;obtain ⟨a,xs,rfl,hx,q⟩:=h;cases rx;obtain ⟨its,r,ht,hz⟩:=I.tuple hx;have hlen:its.toArray.size=xs.length:=by rw [Tz];exact r.length.symm
 refine ⟨"tuple",_,Ur.lookup,ht.typeIs,?_⟩;refine HT.getItem_tuple_back ht hs ?_ (by rw [hlen];exact hz);refine ⟨.ref s.heap.objs.size,_,I.laid (t':=s.toks) (o:=.tup xs.reverse) (fun b ob q=>Tr _ q) (To _) ?_,rfl,q _ (I.hok.fresh (To _))⟩;exact ⟨by rw [UT];exact hz,_,0,r.rev,TC _ rfl⟩
theorem kC (its:List Tp):slicePick its.toArray none none (some (-1))=its.reverse.toArray:=by
 unfold slicePick;have e:Xr none none (some (-1)) its.toArray.size=((its.toArray.size:Int) - 1,-1,-1):=rfl;rw [e];unfold sliceRange;have h1:¬ ((-1:Int) > 0):=by omega
 simp only [h1,if_false]
 have hc:(if ((its.toArray.size:Nat):Int) - 1 > -1 then (((its.toArray.size:Nat):Int) - 1 - -1 - -1 - 1) / (- -1) else 0).toNat=its.toArray.size:=by
  by_cases h:its.toArray.size=0
  · rw [h];decide
  · rw [if_pos (by omega),show (- -1:Int)=1 by decide,Y8];omega
 rw [hc,YX];have:=HT.pick_back its.toArray;rw [<- this];congr 1;congr 1;funext m;show its.toArray[(((its.toArray.size:Nat):Int) - 1+-1 * (m:Int)).toNat]?=_;rw [Int.mul_comm]
theorem uF:BkR X (xj X.K):=by
 intro pins s σ H x v t sl Q I rx hs h;obtain ⟨a,xs,rfl,hx,q⟩:=h;cases rx;obtain ⟨its,r,ht,hz⟩:=I.list hx;have hlen:=r.length;refine ⟨"list",_,slot_list_getitem.lookup,ht.isList.typeIs,?_⟩;refine wpAny_getItem_list_slice ht.isList hs .none .none (.int _ _) (by simp) ?_ (by rw [Tz] <;> omega);rw [kC];refine ⟨.ref s.heap.objs.size,_,I.laid (t':=s.toks) (o:=.lst xs.reverse) (fun b ob q=>Tr _ q) (To _) ?_,rfl,q _ (I.hok.fresh (To _))⟩;exact ⟨by rw [UT];exact hz,_,0,r.rev,TC _ rfl⟩
end
end L2
namespace L2
open PySem PySem.Spec PySem.Calls PyProof.Rows
section
variable {X:Cx}
end
end L2
namespace L2
open PySem PySem.Spec PySem.Calls PyProof.Rows
section
variable {X:Cx}
def isStr (z:T6):Tp->Bool
 | .str y _=>y == z
 | _=>false
def uR (K:Tg):V->List V->Hp->VK->Prop:=fun x vs H Q=>∃ (l:Tn) (zs:List T6) (z:T6) (j:Nat),x=.ref l/\vs=[.str z]/\SqL K H l (zs.map V.str)/\zs[j]?=some z/\(∀ i,i<j->zs[i]?≠some z)/\zs.length<=100000/\Q (.int (j:Nat)) H
theorem me:MtM X "list.index" (uR X.K):=by
 intro pins s σ H x vs v us Q I rx rv h;obtain ⟨l,zs,z,j,rfl,rfl,hS,hj,Ax,hz,q⟩:=h;cases rx;obtain ⟨u,rfl,t,rfl⟩:=rv.one;obtain ⟨its,r,pl,_⟩:=I.list hS;have hlen:=r.length;rw [Te] at hlen;obtain ⟨⟨cls,dd,data,sl⟩,ho,hc,n,hd⟩:=pl.isList;simp only at hc hd;subst hc hd;have Ai:j<zs.length:=(Tq.mp hj).1
 have get:∀ m,m<zs.length->∃ y t',its[m]?=some (.str y t')/\zs[m]?=some y:=fun m hm=>by
  obtain ⟨v,hv,rv⟩:=r.get (i:=m) (x:=.str zs[m]) (by rw [Tw,Ti hm];rfl);obtain ⟨t',rfl⟩:=rv;exact ⟨_,t',hv,Ti hm⟩
 refine Ye Wv ⟨_,ho,rfl⟩ PySem.F.entry_list_index (PySem.F.args_list_index_2 _ _)
  (SeqAt.list_indexAt l its.toArray n dd sl (.str z t) (isStr z) j (by rw [Tz];omega) (by omega) ?_ ?_) ⟨ho,fun y hy=>?_,⟨.int (j:Nat),H,I.tok _,⟨_,rfl⟩,q⟩⟩
 · obtain ⟨y,t',h1,h2⟩:=get j Ai;rw [hj] at h2;cases h2
   have h3:its.toArray[j]'(by rw [Tz];omega)=.str z t':=by
    rw [Ti (by omega)] at h1;simpa using h1
   rw [h3];show (z == z)=true;simp
 · intro m hm xV;obtain ⟨y,t',h1,h2⟩:=get m (by omega)
   have h3:its.toArray[m]'hm=.str y t':=by
    rw [Ti (by omega)] at h1;simpa using h1
   rw [h3];show (y == z)=false;refine U9.mpr fun e=>Ax m xV ?_;rw [h2,beq_iff_eq.mp e]
 · have Az:y∈its:=by simpa using hy
   obtain ⟨m,hm,rfl⟩:=List.getElem_of_mem Az;obtain ⟨y,t',h1,h2⟩:=get m (by omega);rw [Ti hm] at h1;have h3:=T5 h1;rw [h3];exact SeqAt.EqAt.str_str _ _ _ _
end
end L2
namespace BB
open PySem L2
structure cf (ks:List (T6×Int)):Prop where
 ne:1<=ks.length
 le:ks.length<=8
 low:∀ k∈ks,Low k.1/\k.1.length<=8
 num:∀ k∈ks,0<=k.2/\k.2<=3
 zero:∃ k∈ks,k.2=0
 nd:∀ (i j:Nat) (k l:T6×Int),ks[i]?=some k->ks[j]?=some l->k.1=l.1->i=j
mutual
/-- a pattern over kinds,its calls of so many states and kids -/
def Th.FitS (ks:List (T6×Int)) (S C:Int):Th->Prop
 | .knot n ts=>(n,(ts.length:Int))∈ks/\FitSs ks S C ts
 | .call s k=>0<=s/\s<S/\0<=k/\k<C
def FitSs (ks:List (T6×Int)) (S C:Int):List Th->Prop
 | []=>True
 | t::ts=>t.FitS ks S C/\FitSs ks S C ts
end
theorem FitSs.of {ks:List (T6×Int)} {S C:Int}:∀ {ts:List Th},(∀ t∈ts,t.FitS ks S C)->FitSs ks S C ts
 | [],_=>by rw [FitSs];trivial
 | t::ts,h=>by
   rw [FitSs];exact ⟨h t (T2 ..),FitSs.of fun u hu=>h u (T1 _ hu)⟩
theorem fb {ts:List Th} {n:Nat} (h:∀ t∈ts,t.tall<=n):bf ts<=n:=by
 induction ts with
 | nil=>rw [bf];exact T4 _
 | cons t ts ih =>
   rw [bf];have h1:=h t (T2 ..);have h2:=ih fun u hu=>h u (T1 _ hu);omega
def RowAt (H:Hp) (row:List Th) (a:Tn):Prop:=∃ as:List Tn,H a=some (.tup (as.map V.ref))/\Ats H row as
theorem RowAt.mono {H H':Hp} (k:KT H H') {row:List Th} {a:Tn} (h:RowAt H row a):RowAt H' row a:=by
 obtain ⟨as,h1,h2⟩:=h;exact ⟨as,k _ _ h1,h2.mono k⟩
structure BookAt (H:Hp) (ins outs:List (T6×Int)) (head:Th) (rows:List (List Th)) (r ia oa ha ra:Tn) (xU yE yx:List Tn):Prop where
 bk:H r=some (.tup [.ref ia,.ref oa,.ref ha,.ref ra])
 inE:H ia=some (.tup (xU.map V.ref))
 inK:KsAt H ins xU
 outE:H oa=some (.tup (yE.map V.ref))
 outK:KsAt H outs yE
 hd:At H head ha
 rl:H ra=some (.tup (yx.map V.ref))
 rw:Ud (RowAt H) rows yx
theorem BookAt.mono {H H':Hp} (k:KT H H') {ins outs:List (T6×Int)} {head:Th} {rows:List (List Th)} {r ia oa ha ra:Tn} {xU yE yx:List Tn} (b:BookAt H ins outs head rows r ia oa ha ra xU yE yx):BookAt H' ins outs head rows r ia oa ha ra xU yE yx :=
 ⟨k _ _ b.bk,k _ _ b.inE,b.inK.mono k,k _ _ b.outE,b.outK.mono k,b.hd.mono k,k _ _ b.rl,P2.mp (fun _ _ e=>e.mono k) b.rw⟩
theorem fc {z:T6} {n:Nat} (h:n<=z.length):(dU z none (some (n:Int))).cps.toList=z.cps.toList.take n/\(dU z none (some (n:Int))).length=n:=by
 have hz:z.cps.toList.length=z.length:=Uk
 have e:(dU z none (some (n:Int))).cps.toList=z.cps.toList.take n:=by
  show (jM z.cps.toList none (some (n:Int))).toArray.toList=_;rw [List.toList_toArray];unfold jM;rw [HT.sIx_nat,HT.sIx_none,hz,XI h];simp
 refine ⟨e,?_⟩;show (dU z none (some (n:Int))).cps.size=n;rw [<- Uk,e,Ul,hz];omega
end BB
namespace BB
open PySem L2
theorem jg {ks:List (T6×Int)} {S C:Int}:∀ {ts:List Th},FitSs ks S C ts->∀ t∈ts,t.FitS ks S C
 | [],_,t,ht=>by cases ht
 | a::ts,h,t,ht=>by
   rw [FitSs] at h;rcases TR.mp ht with rfl | ht
   · exact h.1
   · exact jg h.2 t ht
def Bk (H:Hp) (ins outs:List (T6×Int)) (head:Th) (rows:List (List Th)) (r:Tn):Prop:=∃ ia oa ha ra xU yE yx,BookAt H ins outs head rows r ia oa ha ra xU yE yx
theorem Bk.mono {H H':Hp} (k:KT H H') {ins outs:List (T6×Int)} {head:Th} {rows:List (List Th)} {r:Tn} (b:Bk H ins outs head rows r):Bk H' ins outs head rows r:=by
 obtain ⟨ia,oa,ha,ra,xU,yE,yx,b⟩:=b;exact ⟨ia,oa,ha,ra,xU,yE,yx,b.mono k⟩
end BB
namespace L2
open PySem PySem.Spec PySem.Calls PyProof.Rows PySem.SeqAt
end L2
namespace BB
open PySem L2
end BB
namespace L2
open PySem PySem.Spec PyProof.Rows
section
variable {X:Cx} {e:UP} {te:TE} {p p2 pos yh:Xv}
end
end L2
namespace BB
open PySem L2
theorem jS {α:Type} {F:Hp->α->Tn->Prop} {js:List (Option Nat)} {g:TG} {tt:TT} {te:TE} {σ:St} {J:It} {H:Hp} {xs:List V} {fin:Tn->Hp->Prop} (zs:List α) (hF:∀ H1 H2 z p,KT H1 H2->F H1 z p->F H2 z p) (hz:zs.length=xs.length) (hn:xs.length<=1000000)
 (EK:∀ i H2,L2.Same H H2->i<xs.length->J.go i H2) (zk:∀ H2,L2.Same H H2->J.stop xs.length H2) (AF:∀ (i:Nat) H2 x H3,L2.Same H H2->i<xs.length->J.yld i H2 x H3->H3=H2/\xs[i]?=some x)
 (hb:∀ (i:Nat) x z H2 (R:VK) (W':Hp->Prop),xs[i]?=some x->zs[i]?=some z->L2.Same H H2->(∀ H3 p,L2.Same H2 H3->F H3 z p->R (.ref p) H3)->g x (cσ js σ) H2 fun yc H3=>tt yc H3 fun b H4=>if b=true then te yc H4 R else W' H4)
 (zb:∀ D H' as,H D=none->L2.Same H H'->H' D=some (.lst (as.map V.ref))->Ud (F H') zs as->fin D H') :
 ∀ D,H D=none->∃ (n:Nat) (W:Nat->Hp->Prop),W 0 (upd H D (.lst []))/\i5 js g tt te σ J D n W fun H'=>fin D H':=by
 intro D hD;refine ⟨xs.length,fun i H'=>i<=xs.length/\L2.Same H H'/\∃ as:List Tn,H' D=some (.lst (as.map V.ref))/\Ud (F H') (zs.take i) as,⟨T4 _,ad hD _,[],by rw [ab];rfl,.nil⟩,?_⟩;rintro i H' ⟨hi,s1,as,e1,hp⟩;by_cases xV:i<xs.length
 · refine .inr ⟨xV,EK i H' s1 xV,fun v H1 hy=>?_⟩;obtain ⟨e,hx⟩:=AF i H' v H1 s1 xV hy;subst e;obtain ⟨z,zz⟩:∃ z,zs[i]?=some z:=⟨_,Ti (by omega)⟩;have hl:(zs.take i).length=as.length:=TB hp;rw [Ul] at hl;refine hb i v z _ _ _ hx zz s1 fun H3 p s3 KD=>⟨_,s3 _ _ e1,?_,xV,aw (s1.trans s3) hD,as++[p],?_,?_⟩
   · rw [Te];have:TN=16777216:=Xs;omega
   · rw [ab,TH];rfl
   · have kt:KT H3 (upd H3 D (.lst (as.map V.ref++[.ref p]))):=aT (s3 _ _ e1);rw [take_snoc zz];exact P2.append (P2.mp (fun x y e=>hF _ _ _ _ ((Same.kt s3).trans kt) e) hp) (.cons (hF _ _ _ _ kt KD) .nil)
 · have yq:i=xs.length:=by omega
   subst yq;refine .inl ⟨zk _ s1,zb D H' as hD s1 e1 ?_⟩;rw [UY (by omega)] at hp;exact hp
end BB
namespace L2
open PySem PySem.Spec PyProof.Rows
end L2
namespace L2
open PySem
theorem us1 {α:Type}:∀ {us:List α},us.length=1->∃ a,us=[a]
 | [a],_=>⟨a,rfl⟩
theorem us2 {α:Type}:∀ {us:List α},us.length=2->∃ a b,us=[a,b]
 | [a,b],_=>⟨a,b,rfl⟩
theorem us3 {α:Type}:∀ {us:List α},us.length=3->∃ a b c,us=[a,b,c]
 | [a,b,c],_=>⟨a,b,c,rfl⟩
theorem us4 {α:Type}:∀ {us:List α},us.length=4->∃ a b c d,us=[a,b,c,d]
 | [a,b,c,d],_=>⟨a,b,c,d,rfl⟩
theorem us5 {α:Type}:∀ {us:List α},us.length=5->∃ a b c d e,us=[a,b,c,d,e]
 | [a,b,c,d,e],_=>⟨a,b,c,d,e,rfl⟩
end L2
namespace PySem
open Sem (wp)
section
variable {prog:TF} {w:T3} {K:Type} [DecidableEq K] {knd:HeapKind prog w K} {A:Ut} {E:Tp->Tv->Prop} {s:Tv}
end
end PySem
namespace L2
open PySem PySem.Spec PyProof.Rows BB
end L2
namespace BB
open PySem L2
theorem v7:(Tu "*")≠q:=by decide +kernel
end BB
namespace PySem
open Sem (wp)
section
variable {prog:TF} {w:T3} {A:Ut} {E:Tp->Tv->Prop} {s:Tv} {I:Tn} {fp wr:List Tn} {G:Array GenState->Array GenState->Prop} {n:Nat} {P:Nat->Tp->Prop} {St:Nat->Tv->Prop}
end
end PySem
namespace L2
open PySem PySem.Spec PyProof.Rows
section
variable {X:Cx} {o e:UP} {to te:TE} {p2 yh apos xZ:Xv}
end
end L2
namespace PySem
open Sem (wp)
namespace F
theorem bb_list_nokeys:W5 (.type "list") "keys"=pure none:=by rw [VC,UU];kernel_rfl
end F
section
variable {prog:TF} {w:T3} {A:Ut} {E:Tp->Tv->Prop} {s:Tv} {a:Tn} {xs:Array Tp} {k:Nat}
theorem bb_nokeysL {Q:Option Tp->Tv->Prop} (hA:A.handled=none) (hx:s.heap.get? a=some { cls:=.type "list",data:=.seq xs k })
 (q:∀ h' tk,(∀ b o,s.heap.get? b=some o->h'.get? b=some o)->Q none { s with heap:=h',toks:=tk }):TM (Ug prog w) A (getAttr? (.ref a) "keys") Q E s:=by
 obtain ⟨hp,g,d,tk,os⟩:=s;have gT:∀ z,(⟨hp,g,d,z,os⟩:Tv).TypeIs (.ref a) "list":=fun _=>⟨_,hx,rfl⟩;have g1:=sub_AttributeError;have g3:=Yy.lookup;have g4:=Yy.bind (.ref a);have g5:=am_list_getattr_none;unfold getAttr? getAttrBy? getAttrBy
 repeat (any_goals (first | assumption | exact gT _ | ((with_reducible show TM _ _ (call (Value.builtin "list.__getattribute__") _ _) _ _ _);refine Ye Yy (gT _) am_entry_list_getattribute (F.args_list_getattribute_2 _ _) (meets_getattribute_miss_list a xs k #[] "keys" _ F.bb_list_nokeys (by decide +kernel) (by decide)) ⟨hx,hA,fun h' P6 e BL=>?_⟩) | wp_step))
 obtain ⟨t',u',he⟩:=BL.there;show TM _ _ (getattributeRaised _ _ _ _ _ _ _) _ _ _;unfold getattributeRaised
 repeat (any_goals (first | assumption | wp_step))
 exact q h' P6 BL.keeps
end
end PySem
namespace L2
open PySem PySem.Spec PyProof.Rows
def ci:List (List Key×V)->List (List Key×V)->List (List Key×V)
 | f',[]=>f'
 | f',p::ps=>ci (putK f' p.1 p.2) ps
def PrA (H:Hp) (pr:List Key×V) (pa:Tn):Prop:=∃ ka,H pa=some (.tup [.ref ka,pr.2])/\H ka=some (.tup (pr.1.map kV))
section
variable {X:Cx} {pins:List (Tn×VN)} {σ:St}
theorem rC {H:Hp} {s:Tv} {a b:Tn} {v:V} {r:Tp} {k:List Key} {f':List (List Key×V)} {A:Ut} {E:Tp->Tv->Prop} {Q:Unit->Tv->Prop} (hu:(Yz (aF X.prog X.w)).room A) (I:Inv X pins σ H s) (e:H a=some (.dT f')) (eb:H b=some (.tup (k.map kV))) (l:f'.length<TN) (rv:RelV v r) (h:∀ h' tk,Vq a s.heap h'->Inv X pins σ (upd H a (.dT (putK f' k v))) { s with heap:=h',toks:=tk }->Q () { s with heap:=h',toks:=tk }) :
 TM (Ug X.prog X.w) A (dictSet a (.ref b) r) Q E s:=by
 obtain ⟨z,hd,xs,rel,dd⟩:=uW I.hok e;have hz:xs.length<=TN:=by rw [<- TB rel];exact z
 have hl:(putK f' k v).length<=TN:=by have:=bX f' k v;omega
 refine wpAny_dictSet_heap (hsz:=hz) hu (ir I.hok eb) dd fun h' Bq hs=>h _ _ hs ?_;obtain ⟨q,es,ep,hq,h2,h3,h4,_,h5⟩:=Bq;refine gE I (by rw [e];exact VM) hs ⟨q,hq⟩ ⟨hl,hd,_,(rel.put k eb rv).keeps fun c ys ec=>?_,q,es,ep,hq,h2,h3,h4,h5⟩;rw [ak (gR ec e (fun z=>nomatch z))];exact ec
theorem pV {A:Ut} {d it l:Tn} {prs:List (List Key×V)} {ps:List Tn} {R:Result->Tv->Prop} (hh:A.handled=none) (hu:A.units+8<Vk) (hn:prs.length<=10000) :
 ∀ (m i:Nat) (s:Tv) (tk:Tok) (H:Hp) (f':List (List Key×V)),prs.length - i=m->i<=prs.length->Inv X pins σ H s->H d=some (.dT f')->f'.length<=i->jN X pins H it->s.heap.IsListIter it l i->H l=some (.lst (ps.map V.ref))->Ud (PrA H) prs ps →
   (∀ s',Inv X pins σ (upd H d (.dT (ci f' (prs.drop i)))) s'->R (.ok (.ret .none)) s') →
   XC (Ug X.prog X.w) A (.builtin "dict.update.loop" ⟨[.ref d,.ref it,.int i tk,.none],[]⟩) R s:=by
 intro m;induction m with
 | zero =>
   intro i s tk H f' hk hi I ed zo hf hit el yB hR;have A':i=prs.length:=by omega
   subst A';obtain ⟨its,rv,p,hz⟩:=I.list (SqL.of (K:=X.K) el);have ze:prs.length=ps.length:=TB yB;have hl:=rv.length;rw [Te] at hl;obtain ⟨f0,f1,f2,f3,f4,f5⟩:=hf;refine Xp PySem.F.bb_entry_upd ?_;rw [Ww PySem.F.bb_plain_upd _];show TM _ A.in1 (Wy (.ref it) >>= _) _ _ s;refine Tf (wpAny_pyNext_list_end hh hit p.isList (by simp;omega) fun h' eb=>?_);refine Tf (Tt (Tt ?_));refine hR _ ?_;rw [List.drop_length]
   have e0:upd H d (.dT (ci f' []))=H:=by
    funext b;by_cases hb:b=d
    · rw [hb,ab,ed];rfl
    · rw [ak hb]
   rw [e0];exact I.turned (t':=s.toks) (fun b o hb e=>eb b o hb e) f0 f1 f3 f4 f5
 | succ m ih =>
   intro i s tk H f' hk hi I ed zo hf hit el yB hR;have xV:i<prs.length:=by omega
   have ze:prs.length=ps.length:=TB yB;obtain ⟨its,rv,p,hz⟩:=I.list (SqL.of (K:=X.K) el);have hl:=rv.length;rw [Te] at hl;obtain ⟨pa,AI,ka,AJ,P7⟩:=BB.P2.get yB (Ti xV);have hx:(ps.map V.ref)[i]?=some (.ref pa):=by rw [Tw,AI];rfl
   obtain ⟨u,P8,ru⟩:=rv.get hx;cases ru;obtain ⟨f0,f1,f2,f3,f4,f5⟩:=id hf;refine Xp PySem.F.bb_entry_upd ?_;rw [Ww PySem.F.bb_plain_upd _];show TM _ A.in1 (Wy (.ref it) >>= _) _ _ s;refine Tf (wpAny_pyNext_list_item hit p.isList (x:=.ref pa) (by simpa using P8) fun h1 KG P9=>?_);have I1:Inv X pins σ H { s with heap:=h1 }:=I.turned (t':=s.toks) (fun b o hb e=>(P9.2 b hb).trans e) f0 f1 f3 f4 f5;obtain ⟨_,xQ,n2,P',e2⟩:=(show ObjOk X.prog X.w H h1 pa (.tup [.ref ka,(prs[i]).2]) from I1.hok pa _ AJ)
   obtain ⟨vv,rfl,Qa⟩:∃ vv,xQ=[.ref ka,vv]/\RelV (prs[i]).2 vv:=by
    cases P' with
    | cons a b =>
      cases b with
      | cons c d =>
        cases d;cases a;exact ⟨_,rfl,c⟩
   have Qb:(⟨h1,s.gens,s.drawn,s.toks,s.os⟩:Tv).TypeIs (.ref pa) "tuple":=⟨_,e2,rfl⟩;refine Tf (U3 ?_);refine Tf (wpAny_tryCatch ?_);unfold Builtin.Dict.pairItems;refine Tf (Wb Qb ?_);rw [if_pos (by decide)];refine Tf (U2 e2 rfl (Tt ?_));show TM _ _ (holding [.ref ka,vv] (dictSet d (.ref ka) vv)) _ _ _;refine U3 (rC (k:=(prs[i]).1) ?_ I1 ed P7 (by have:=fu;rw [Xs];omega) Qa fun h2 Sa B6 I2=>?_)
   · exact Xq (by omega)
   refine Tt ⟨Wz PySem.F.bb_plain_upd _,?_⟩
   have GP:VX ((i:Int)+1)=.int ((i+1:Nat):Int) 0:=by
    show Value.int ((i:Int)+1) 0=_;rw [show ((i+1:Nat):Int)=(i:Int)+1 by omega]
   rw [GP];have Jl:it≠d:=fun z=>by rw [z,ed] at f0;cases f0
   refine ih (i+1) _ 0 _ (putK f' (prs[i]).1 (prs[i]).2) (by omega) xV I2 ab (by have:=bX f' (prs[i]).1 (prs[i]).2;omega) ⟨by rw [ak Jl];exact f0,f1,f2,f3,f4,f5⟩ ?_ ?_ ?_ fun s' I'=>hR s' ?_
   · obtain ⟨o,g1,r⟩:=KG;exact ⟨o,(B6.2 it Jl).trans g1,r⟩
   · rw [ak (gR el ed (fun z=>nomatch z))];exact el
   · refine BB.P2.mp (fun x y e=>?_) yB;obtain ⟨Ci,g1,g2⟩:=e;exact ⟨Ci,by rw [ak (gR g1 ed (fun z=>nomatch z))];exact g1,by rw [ak (gR g2 ed (fun z=>nomatch z))];exact g2⟩
   · rw [nB] at I';rw [WY xV];exact I'
def vU:List V->Hp->VK->Prop:=fun xs H Q=>∃ (l:Tn) (ps:List Tn) (prs:List (List Key×V)),xs=[.ref l]/\H l=some (.lst (ps.map V.ref))/\Ud (PrA H) prs ps/\prs.length<=10000/\∀ d,H d=none->Q (.ref d) (upd H d (.dT (ci [] prs)))
theorem ky (hu:X.A.units+12<Vk) (hc:X.calm=true):gS X (.type "dict") vU:=by
 intro pins s σ H xs us Q I r h;obtain ⟨l,ps,prs,rfl,el,yB,hn,q⟩:=h;obtain ⟨u,rfl,rx⟩:=vals1 r;cases rx;obtain ⟨z,its,n,rv,e⟩:=(show ObjOk X.prog X.w H s.heap l (.lst (ps.map V.ref)) from I.hok l _ el);refine Y0 (Q₁:=fun obj xN=>obj=.ref s.heap.objs.size/\xN={ s with heap:=s.heap.push { cls:=.type "dict",data:=.dict #[] } }) PySem.F.kt_called_dict (PySem.F.kt_typeCall_dict_1 _) PySem.F.entry_dict_init (kt_code_dict_new _ ⟨rfl,rfl⟩) ?_;rintro obj xN ⟨rfl,rfl⟩;have gn:(s.heap.push { cls:=.type "dict",data:=.dict #[] }).DictOf (aF X.prog X.w) s.heap.objs.size []:=Heap.DictOf.new s.heap;have gt:(s.heap.push { cls:=.type "dict",data:=.dict #[] }).get? l=some { cls:=.type "list",data:=.seq its.toArray n }:=Tr _ e;refine ⟨gn.typeIs,PySem.F.args_dict_init_2 _ _,?_⟩;have DW:=I.hok.fresh (To s.heap.objs.size);have I1:Inv X pins σ (upd H s.heap.objs.size (.dT [])) { s with heap:=s.heap.push { cls:=.type "dict",data:=.dict #[] } }:=I.laid (a:=s.heap.objs.size) (o:=.dT []) (t':=s.toks) (fun _ _ q=>Tr _ q) (To _) (oZ s.heap I.big);unfold We.«dict.__init__»;refine Tf ?_;unfold Builtin.Dict.selfAndRest;refine Tf (YT gn.typeIs ?_);show TM _ _ (pure (s.heap.objs.size,[Uc l])) _ _ _;refine Tt ?_;show TM _ _ (Builtin.Dict.updateFrom "dict.__init__" s.heap.objs.size (.ref l) [] .none) _ _ _;unfold Builtin.Dict.updateFrom;refine Tf (Wb (T:="list") ⟨_,gt,rfl⟩ ?_);rw [if_pos (by decide)];refine Tf (bb_nokeysL (A:=X.A.in1.in1) (I.ok.hd hc) gt fun h1 FL k1=>?_);have I2:Inv X pins σ (upd H s.heap.objs.size (.dT [])) { s with heap:=h1,toks:=FL }:=I1.kept (t':=FL) fun b o e=>k1 b o e;simp only [Option.isNone_none,if_true];refine Tf (Wm ?_);obtain ⟨od,es,ep,Qc,Sb⟩:=id gn;have xV:s.heap.objs.size<h1.objs.size:=TJ (k1 _ _ Qc);refine Tf (wpAny_pyIter_list (l:=l) (items:=its.toArray) ⟨_,k1 _ _ gt,rfl,n,rfl⟩ ?_);refine Tt ⟨Wz PySem.F.bb_plain_upd _,?_⟩;have EL:l≠s.heap.objs.size:=aL el DW
 have KH:Ud (PrA (upd H s.heap.objs.size (.dT []))) prs ps:=BB.P2.mp (fun x y e=>by
  obtain ⟨ka,g1,g2⟩:=e;exact ⟨ka,by rw [ak (aL g1 DW)];exact g1,by rw [ak (aL g2 DW)];exact g2⟩) yB
 have Qd:(upd H s.heap.objs.size (.dT [])) h1.objs.size=none:=I2.hok.fresh (To _);refine pV (A:=X.A.in1) (d:=s.heap.objs.size) (it:=h1.objs.size) (l:=l) (prs:=prs) (ps:=ps) (I.ok.hd hc) (by show X.A.units+1+8<Vk;omega) hn prs.length 0 _ 0 (upd H s.heap.objs.size (.dT [])) [] (Y5 _) (T4 _) (I2.kept (t':=FL) fun b o e=>Tr _ e) ab (To _) (I2.fpOk (To _) Qd) ⟨_,TC _ rfl,rfl,rfl⟩ (by rw [ak EL];exact el) KH fun s' I'=>?_;rw [nB,VR] at I';exact ⟨rfl,.ref s.heap.objs.size,_,I',rfl,q _ DW⟩
end
end L2
namespace BB
open PySem L2
theorem uE {k:Nat} {A:Ut} (hr:L2.Room k A):A.units+12<Vk:=by
 have:=hr.units;omega
theorem jB {R:List Key->V->Prop}:∀ (prs f':List (List Key×V)),(∀ k v,aW f' k=some v->R k v)->(∀ p∈prs,R p.1 p.2) →
 (∀ k v,aW (ci f' prs) k=some v->R k v)/\(∀ k,((∃ v,aW f' k=some v)∨∃ p∈prs,p.1=k)->∃ v,aW (ci f' prs) k=some v)
 | [],f',h1,_=>⟨h1,fun k h=>by
   rcases h with h | ⟨p,hp,_⟩
   · exact h
   · cases hp⟩
 | p::prs,f',h1,h2=>by
   have ih:=jB (R:=R) prs (putK f' p.1 p.2) (fun k v hv=>by
    rw [iV] at hv;by_cases e:k=p.1
    · rw [if_pos e] at hv;cases hv;rw [e];exact h2 p (T2 ..)
    · rw [if_neg e] at hv;exact h1 k v hv) (fun x hx=>h2 x (T1 _ hx))
   refine ⟨ih.1,fun k h=>ih.2 k ?_⟩;by_cases e:k=p.1
   · left;exact ⟨p.2,by rw [iV,if_pos e]⟩
   · rcases h with ⟨v,hv⟩ | ⟨x,hx,NL⟩
     · left;exact ⟨v,by rw [iV,if_neg e];exact hv⟩
     · rcases TR.mp hx with rfl | hx
       · exact absurd NL.symm e
       · exact .inr ⟨x,hx,NL⟩
end BB
namespace PySem
section
variable {prog:TF} {w:T3} {A:Ut} {E:Tp->Tv->Prop} {s:Tv}
theorem bb_zip_next0 {z TI TO i1 i2 l1 l2:Tn} {k:Nat} {xs ys:Array Tp} {x y a b:Tp} {Q:Option Tp->Tv->Prop} (D:Y2 z TI TO i1 i2 l1 l2)
 (hz:YG s.heap z TI TO .none) (hTI:VP s.heap TI (.ref i1) (.ref i2)) (hTO:VP s.heap TO a b)
 (h1:s.heap.IsTupleIter i1 l1 k) (h2:s.heap.IsTupleIter i2 l2 k) (yV:s.heap.IsTuple l1 xs) (yD:s.heap.IsTuple l2 ys) (hx:xs[k]?=some x) (hy:ys[k]?=some y)
 (hQ:∀ h',YG h' z TI TO (VX s.heap.objs.size)->VP h' TO x y->h'.IsTupleIter i1 l1 (k+1)->h'.IsTupleIter i2 l2 (k+1)->VP h' s.heap.objs.size x y->h'.objs.size=s.heap.objs.size+1 →
  (∀ c o,c≠z->c≠TO->c≠i1->c≠i2->s.heap.get? c=some o->h'.get? c=some o)->Q (some (.ref s.heap.objs.size)) { s with heap:=h' }) :
 TM (Ug prog w) A (Wy (.ref z)) Q E s:=by
 have hT:s.TypeIs (.ref z) "zip":=⟨_,hz,rfl⟩;unfold Wy;refine Tf (Wx (UI (name:=Tu "__next__") hT WR (UM WR hT F.entry_zip_next ?_ (F.args_zip_next_1 _))));exact bb_zip_itemA D hz hTI hTO h1 h2 yV yD hx hy fun h' a1 a2 a3 a4 a5 a6 a7=>Tt (hQ h' a1 a2 a3 a4 a5 a6 a7)
end
end PySem
namespace L2
open PySem PySem.Spec PyProof.Rows
def Itz (K:Tg) (a b:Tn):It:=⟨fun i H=>∃ xs ys x y,SqT K H a xs/\SqT K H b ys/\xs[i]?=some x/\ys[i]?=some y,fun i H v H'=>∃ p x y,H p=none/\v=.ref p/\H'=upd H p (.tup [x,y])/\(∀ xs,SqT K H a xs->xs[i]?=some x)/\(∀ ys,SqT K H b ys->ys[i]?=some y),fun i H=>∃ xs ys,SqT K H a xs/\SqT K H b ys/\(xs.length<=i∨ys.length<=i)⟩
structure ZTn (z TI TO i1 i2 a b:Tn) (i:Nat) (h:US):Prop where
 ap:Y2 z TI TO i1 i2 a b
 zip:YG h z TI TO .none
 hTI:VP h TI (.ref i1) (.ref i2)
 hTO:∃ u v,VP h TO u v
 h1:h.IsTupleIter i1 a i
 h2:h.IsTupleIter i2 b i
theorem tY {P:TF} {w:T3} {K:Tg} {elts:List UP} {k1} {pos:Xv} (a b z TI TO i1 i2:Tn):Turn P w K (.Tuple elts k1 pos) (Itz K a b) [z,TI,TO,i1,i2] z (ZTn z TI TO i1 i2 a b) where
 mem:=by simp
 obj:=fun i h st c hc=>by
  obtain ⟨D,hz,hTI,⟨u,v,hTO⟩,⟨o1,a1,a2,a3⟩,⟨o2,b1,b2,b3⟩⟩:=st;simp only [TR,V2,or_false] at hc;rcases hc with rfl | rfl | rfl | rfl | rfl
  · exact ⟨_,hz,fun v z=>by cases z⟩
  · exact ⟨_,hTI,fun v z=>by cases z⟩
  · exact ⟨_,hTO,fun v z=>by cases z⟩
  · exact ⟨o1,a1,fun v z=>by rw [a3] at z;cases z⟩
  · exact ⟨o2,b1,fun v z=>by rw [b3] at z;cases z⟩
 keep:=fun i h h' st k=>by
  obtain ⟨D,hz,hTI,⟨u,v,hTO⟩,⟨o1,a1,a2⟩,⟨o2,b1,b2⟩⟩:=st;exact ⟨D,k _ (by simp) _ hz,k _ (by simp) _ hTI,⟨u,v,k _ (by simp) _ hTO⟩,⟨o1,k _ (by simp) _ a1,a2⟩,⟨o2,k _ (by simp) _ b1,b2⟩⟩
 item:=by
  intro X hP hw hK hc i pins s σ H E I hf st hg;subst hP hw hK;obtain ⟨xs,ys,x,y,DT,DU,hx,hy⟩:=hg;obtain ⟨ia,EH,pa,Kx⟩:=I.tuple DT;obtain ⟨ib,EI,pb,Ky⟩:=I.tuple DU;obtain ⟨u,hu,ru⟩:=EH.get hx;obtain ⟨v,hv,rv⟩:=EI.get hy;obtain ⟨D,hz,hTI,⟨ta,tb,hTO⟩,h1,h2⟩:=st
  have lt:∀ c∈[z,TI,TO,i1,i2],c<s.heap.objs.size:=fun c hc=>by
   simp only [TR,V2,or_false] at hc;rcases hc with rfl | rfl | rfl | rfl | rfl
   · exact TJ hz
   · exact TJ hTI
   · exact TJ hTO
   · obtain ⟨o,e,_⟩:=h1;exact TJ e
   · obtain ⟨o,e,_⟩:=h2;exact TJ e
  refine bb_zip_next0 D hz hTI hTO h1 h2 (show s.heap.IsTuple a ia.toArray from pa) (show s.heap.IsTuple b ib.toArray from pb) (by simpa using hu) (by simpa using hv) fun Br a1 a2 a3 a4 a5 a6 a7=>?_;refine ⟨_,rfl,wpAny_letOwnedTupleGo_zip a1 fun AG g1 sb=>?_⟩;replace sb:Vq z Br AG:=sb;have GA:H s.heap.objs.size=none:=I.hok.fresh (To _)
  have IA:Inv X pins σ (upd H s.heap.objs.size (.tup [x,y])) { s with heap:=s.heap.push { cls:=.type "tuple",data:=.seq #[u,v] },toks:=s.toks } :=
   I.laid (o:=.tup [x,y]) (fun b ob q=>Tr _ q) (To _) ⟨by show 2<=TN;decide,[u,v],0,.cons ru (.cons rv .nil),TC _ rfl⟩
  have Sd:s.heap.objs.size≠z:=WU (lt z (by simp));refine ⟨.ref s.heap.objs.size,upd H s.heap.objs.size (.tup [x,y]),?_,rfl,⟨_,x,y,GA,rfl,rfl,fun zs GQ=>by rw [I.tuple_inj GQ DT];exact hx,fun zs GQ=>by rw [I.tuple_inj GQ DU];exact hy⟩,?_,fun c hc=>?_⟩
  · have IB:Inv X pins σ (upd H s.heap.objs.size (.tup [x,y])) { s with heap:=AG,toks:=s.toks }:=by
     refine Inv.turnedL (s:={ s with heap:=s.heap.push { cls:=.type "tuple",data:=.seq #[u,v] },toks:=s.toks }) (h':=AG) (fp:=[z,TI,TO,i1,i2]) (t':=s.toks) IA (fun c o hc q=>?_) fun c hc=>?_
     · have n1:c≠z:=fun e=>hc (by simp [e]);have n2:c≠TO:=fun e=>hc (by simp [e]);have n3:c≠i1:=fun e=>hc (by simp [e]);have n4:c≠i2:=fun e=>hc (by simp [e]);rw [sb.2 c n1];by_cases yf:c=s.heap.objs.size
       · subst yf;have q':(s.heap.push { cls:=.type "tuple",data:=.seq #[u,v] }).get? s.heap.objs.size=some o:=q;rw [TC _ rfl] at q';rw [<- q'];exact a5
       · have q':(s.heap.push { cls:=.type "tuple",data:=.seq #[u,v] }).get? c=some o:=q;rw [Heap.get?_push_ne _ _ _ yf] at q';exact a7 c o n1 n2 n3 n4 q'
     · obtain ⟨f0,f1⟩:=hf c hc;exact ⟨by rw [ak (Ui (lt c hc))];exact f0,f1⟩
    exact IB
  · have sT:∀ c o,c≠z->Br.get? c=some o->AG.get? c=some o:=fun c o hc e=>(sb.2 c hc).trans e;refine ⟨D,g1,sT _ _ D.TIz (a7 _ _ D.TIz D.TITO D.TIi1 D.TIi2 hTI),⟨_,_,sT _ _ D.TOz a2⟩,?_,?_⟩
    · obtain ⟨o,e,r⟩:=a3;exact ⟨o,sT _ _ D.i1z e,r⟩
    · obtain ⟨o,e,r⟩:=a4;exact ⟨o,sT _ _ D.i2z e,r⟩
  · rw [ak (Ui (lt c hc))];exact (hf c hc).1
 done:=by
  intro X hP hw hK hc i pins s σ H E I hf st hg;subst hP hw hK;obtain ⟨xs,ys,DT,DU,zA⟩:=hg;obtain ⟨ia,EH,pa,Kx⟩:=I.tuple DT;obtain ⟨ib,EI,pb,Ky⟩:=I.tuple DU;have zX:=EH.length;have PY:=EI.length;obtain ⟨D,hz,hTI,hTO,h1,h2⟩:=st;refine bb_zip_done (show X.A.handled=none from I.ok.hd hc) ⟨D,.inl hz,hTI,hTO,h1,h2,pa,pb⟩ ?_ fun h' kp=>⟨rfl,?_⟩
  · rcases zA with h | h
    · exact .inl (by simp;omega)
    · exact .inr (by simp;omega)
  exact I.turnedL (fp:=[z,TI,TO,i1,i2]) (t':=s.toks) (fun c o hc q=>kp c o (fun hm=>hc (by simp only [TR,V2,or_false] at hm ⊢;rcases hm with h | h | h | h <;> simp [h])) q) hf
 self:=fun _ _ _ _ _ st h=>wpAny_pyIter_zip st.zip h
section
variable {X:Cx} {e1 e2:UP} {t:TA} {p2 yh:Xv}
def xx (K:Tg) (t:TA):TI:=fun σ H R=>t σ H fun vs H1=>∃ a b,vs=[.ref a,.ref b]/\(∃ xs,SqT K H1 a xs)/\(∃ ys,SqT K H1 b ys)/\R (Itz K a b) H1
theorem sU {elts:List UP} {k1} {pos:Xv} (g2:Gl X "zip") (m2:X.mg "zip"=none) (ha:PA X [e1,e2] t)
 (h2:UD [e1,e2] X.env=(false,VY e1 X.env)::UD [e2] X.env:=by rfl) (h3:(XD yh (UD [e2] X.env)).any (·.1)=false:=by rfl):PI X (.Tuple elts k1 pos) (.Call (.Name "zip" p2) [e1,e2] [] yh) (xx X.K t):=by
 intro pins s σ H R I h;refine Ve (cU I g2 m2 boot_zip ?_);refine UB (thn (ha yh pins s σ H _ I h) fun us s2 ⟨vs,H2,I2,r,a,b,ev,⟨xs,DT⟩,⟨ys,DU⟩,q⟩=>?_) h2 h3;subst ev;obtain ⟨u1,u2,rfl,r1,r2⟩:=vals2 r;cases r1;cases r2;obtain ⟨ia,EH,pa,Kx⟩:=I2.tuple DT;obtain ⟨ib,EI,pb,Ky⟩:=I2.tuple DU;have zF:a<s2.heap.objs.size:=by obtain ⟨o,e,_⟩:=pa;exact TJ e
 have zN:b<s2.heap.objs.size:=by obtain ⟨o,e,_⟩:=pb;exact TJ e
 refine bb_call_zip (show s2.heap.IsTuple a ia.toArray from pa) (show s2.heap.IsTuple b ib.toArray from pb) fun h' z1 z2 z3 z4 z5 z6 z7=>?_;have D:Y2 (s2.heap.objs.size+4) (s2.heap.objs.size+2) (s2.heap.objs.size+3) s2.heap.objs.size (s2.heap.objs.size+1) a b:=zipApart_new zF zN;refine wpAny_pyIter_zip (s:={ s2 with heap:=h' }) z1 ?_;refine ⟨s2.heap.objs.size+4,[s2.heap.objs.size+4,s2.heap.objs.size+2,s2.heap.objs.size+3,s2.heap.objs.size,s2.heap.objs.size+1],_,_,H2,rfl,I2.kept (t':=s2.toks) z7,tY a b _ _ _ _ _,⟨D,z1,z2,⟨_,_,z3⟩,z4,z5⟩,fun c hc=>?_,q⟩
 have y8:s2.heap.objs.size<=c:=by
  simp only [TR,V2,or_false] at hc;rcases hc with h | h | h | h | h <;> rw [h]
  · exact V0 _ _
  · exact V0 _ _
  · exact V0 _ _
  · exact To _
  · exact V0 _ _
 exact I2.fpOk y8 (I2.hok.fresh y8)
end
end L2
namespace BB
open PySem L2
end BB
namespace BB
open PySem L2
noncomputable section
local instance:DecidableEq Th:=fun _ _=>Classical.propDecidable _
end
end BB
namespace PySem
open Sem (wp)
section
variable {prog:TF} {w:T3} {K:Type} [DecidableEq K] {knd:HeapKind prog w K} {A:Ut} {E:Tp->Tv->Prop} {s:Tv}
theorem bb_setDefault_heap {d a:Tn} {xs:List (K×Tn×Tp)} {k:K} {v:Tp} {Q:Tp->Tv->Prop} (hu:knd.room A) (zy:knd.is s.heap k a) (hm:s.heap.DictOfH knd d xs)
 (EM:∀ p,W6 xs k=some p->Q p.2 { s with toks:=s.toks+knd.draws k })
 (EN:W6 xs k=none->∀ h',h'.DictOfH knd d (Yr xs k a v)->Vq d s.heap h'->Q v { s with heap:=h',toks:=s.toks+knd.draws k })
 (hsz:xs.length<=TN):TM (Ug prog w) A (dictSetDefault d (.ref a) v) Q E s:=by
 obtain ⟨o,es,ep,ho,hc,hd,he,Jm,hn⟩:=hm;unfold dictSetDefault
 try with_reducible refine U3 ?_
 refine Tf (knd.pyHash hu zy ?_);refine Tf (wpAny_dictFind_heap (s:={ s with toks:=s.toks+knd.draws k }) hu zy ho hd he Jm hn ?_ ?_)
 · intro Ax;have KI:k∉xs.map (·.1):=not_mem_keys_of_get Ax
   refine Tf (Wm (Tf (wpAny_updateDictKeys (hz:=by have e:=size_of_entries he;omega) (s:={ s with toks:=s.toks+knd.draws k }) ho hd (Tt (EN (Ys Ax) _ ⟨_,_,ep+1,Uq _ ho (Obj.isFreed_of_dict (Obj.data_mapDictKeys hd _)),
    hc.mapDictKeys _,Obj.data_mapDictKeys hd _,?_,?_,?_⟩ (VL ..))))))
   · rw [storedH_new (Ys Ax)];simp [he,entryOfKey]
   · rw [storedH_new (Ys Ax)];intro x hx;rcases UA.mp hx with hx | hx
     · exact knd.keeps (Jm x hx) ho hd (VL ..)
     · simp only [TY] at hx;subst hx;exact knd.keeps zy ho hd (VL ..)
   · rw [storedH_new (Ys Ax)];rw [TH,X0];refine ⟨hn,by simp,?_⟩;intro x hx y hy;simp only [UE,VO,TY] at hy;subst hy;exact fun e=>KI (e ▸ hx)
 · intro j p hj;have h1:=EM _ (atKey_of_get hn hj);refine Tf (Yq (s:={ s with toks:=s.toks+knd.draws k }) ho hd ?_);rw [entry_at he j,hj];exact Tf (Wm (Tt h1))
theorem bb_meets_setdefault (knd:HeapKind prog w K) (d a:Tn) (dflt:Tp) (hd:(d == Vs)=false) :
 MeetsIn prog w (We.«dict.setdefault» ⟨[.ref d,.ref a,dflt],[]⟩) (fun A R s=>knd.room A.in1/\∃ k xs,knd.is s.heap k a/\s.heap.DictOfH knd d xs/\xs.length<=TN ∧
  (∀ p,W6 xs k=some p->R (.ok (.ret p.2)) { s with toks:=s.toks+knd.draws k }) ∧
  (W6 xs k=none->∀ h',h'.DictOfH knd d (Yr xs k a dflt)->Vq d s.heap h'->R (.ok (.ret dflt)) { s with heap:=h',toks:=s.toks+knd.draws k })) :=
 .of_wp fun A R s ⟨hu,k,xs,zy,hm,hz,h1,h2⟩=>by
  unfold We.«dict.setdefault»;refine Tf ?_;unfold Builtin.Dict.keyAndDefault;have hT:s.TypeIs (.ref d) "dict":=hm.typeIs;refine Tf (YT hT ?_);show TM _ _ (pure (d,Uc a,some dflt)) _ _ s;refine Tt ?_;show TM _ _ (if (d == Vs)=true then _ else (dictSetDefault d (.ref a) dflt >>= _)) _ _ s;rw [if_neg (by rw [hd];exact TV)];exact Tf (bb_setDefault_heap hu zy hm (fun p hp=>Tt ⟨_,rfl,h1 p hp⟩) (fun hn h' DX yA=>Tt ⟨_,rfl,h2 hn h' DX yA⟩) hz)
end
end PySem
namespace L2
open PySem PySem.Spec PyProof.Rows
end L2
namespace PySem
open Sem (wp)
section
variable {prog:TF} {w:T3} {A:Ut} {R:Result->Tv->Prop}
theorem bb_key_loop {S it d:Tn} {es:Array DictEntry} {ep:Nat} {od:VN} (hh:A.in1.handled=none) (hz:es.size<=TN) (EO:S≠it) (GR:S≠d) (Jl:d≠it) (g2:od.data=.dict es ep) (res:Tp) :
 ∀ (k i:Nat) (s:Tv) (acc:Array Tp) (c:Nat),es.size - i=k->i<=es.size->s.heap.IsKeyIter it d i es.size ep->s.heap.get? d=some od->s.heap.get? S=some { cls:=.type "list",dict:=none,data:=.seq acc c,slots:=#[] }->acc.toList=(es.toList.take i).map (·.key) →
 (∀ h' yI c',(∀ b o,b≠S->b≠it->s.heap.get? b=some o->h'.get? b=some o)->h'.get? S=some { cls:=.type "list",dict:=none,data:=.seq yI c',slots:=#[] }->yI.toList=es.toList.map (·.key)->R (.ok (.ret res)) { s with heap:=h' }) →
 XC (Ug prog w) A (.builtin "list.extend.loop" ⟨[.ref S,.ref it,res],[]⟩) R s:=by
 intro k;induction k with
 | zero =>
   intro i s acc c hk hi hit hd hS xX hR;have A':i=es.size:=by omega
   subst A';refine Xp X3 ?_;rw [Ww Va _];show TM _ A.in1 (Wy (.ref it) >>= _) _ _ s;refine Tf (bb_keyEnd hh hit hd g2 (To _) fun h' za=>Tt ?_);refine hR h' acc c (fun b o _ hb e=>za b o hb e) (za _ _ EO hS) ?_;rw [xX,UY (by rw [Uk];omega)]
 | succ k ih =>
   intro i s acc c hk hi hit hd hS xX hR;have xV:i<es.size:=by omega
   refine Xp X3 ?_;rw [Ww Va _];show TM _ A.in1 (Wy (.ref it) >>= _) _ _ s;have hx:es[i]?=some es[i]:=VH xV
   have zF:acc.size=i:=by
    have:=congrArg Wo xX;rw [Uk,Te,Ul,Uk] at this;omega
   refine Tf (bb_keyNext hit hd g2 hx fun h' CT za=>?_);have BJ:=(za.2 S EO).trans hS;have zu:=(za.2 d Jl).trans hd;show TM _ A.in1 (Yd S (·.push es[i].key) >>= _) _ _ _;refine Tf ?_;have Ag:∀ b o,b≠S->h'.get? b=some o->(h'.update S (UN (·.push es[i].key))).get? b=some o:=fun b o hb e=>(Uu _ _ (Vp hb)).trans e
   refine Vo BJ rfl (Tt ⟨Wz Va _,ih (i+1) _ (acc.push es[i].key) _ (by omega) xV (CT.at fun o e=>Ag _ _ (Vp EO) e) (Ag _ _ (Vp GR) zu) (Uq _ BJ rfl) ?_ fun Kw yI c' EF EG Cd=>?_⟩)
    (by rw [zF];omega) (by show (acc.push _).size<=TN+1;rw [Array.size_push,zF];omega)
   · rw [Array.toList_push,xX,UZ,Ti (by rw [Uk];exact xV),TH];simp
   · exact hR Kw yI c' (fun b o hb yf e=>EF b o hb yf (Ag b o hb ((za.2 b yf).trans e))) EG Cd
end
section
variable {prog:TF} {w:T3} {A:Ut} {E:Tp->Tv->Prop} {s:Tv}
theorem bb_list_keys {d:Tn} {es:Array DictEntry} {ep:Nat} {od:VN} {Q:Tp->Tv->Prop} (hh:A.in1.in1.handled=none) (ns:(d == Vs)=false) (hd:s.heap.get? d=some od) (gc:od.cls=.type "dict") (g2:od.data=.dict es ep) (hz:es.size<=TN)
 (hQ:∀ h' acc c,(∀ b o,s.heap.get? b=some o->h'.get? b=some o)->h'.get? s.heap.objs.size=some { cls:=.type "list",dict:=none,data:=.seq acc c,slots:=#[] }->acc.toList=es.toList.map (·.key)->Q (.ref s.heap.objs.size) { s with heap:=h' }) :
 TM (Ug prog w) A (call (.type "list") [.ref d]) Q E s:=by
 have CY:=TJ hd;have GR:s.heap.objs.size≠d:=WU CY
 refine Y0 (Q₁:=fun obj xN=>obj=.ref s.heap.objs.size/\xN={ s with heap:=s.heap.push { cls:=.type "list",data:=.seq #[] } }) F.called_list (F.typeCall_list_1 _) F.entry_list_init
  (code_list_new _ ⟨rfl,rfl⟩) fun obj xN x8=>?_
 obtain ⟨rfl,rfl⟩:=x8;have hS:(s.heap.push { cls:=.type "list",data:=.seq #[] }).get? s.heap.objs.size=some { cls:=.type "list",data:=.seq #[] }:=TC _ rfl;refine ⟨⟨_,hS,rfl⟩,F.args_list_init_2 _ _,?_⟩;show TM _ A.in1.in1 (do let old ← Wd (.ref s.heap.objs.size);YH (.ref s.heap.objs.size) (fun _=>#[]);letGo old.toList.reverse;VF (.ref s.heap.objs.size) (.ref d) .none) _ _ _;refine Tf ?_;unfold Wd;refine Tf (U2 hS rfl (Tt ?_));refine Tf (Vo hS rfl ?_);have yY:=Uq (UN (fun _=>(#[]:Array Tp))) hS rfl;refine Tf (Yp ?_);have Bo:((s.heap.push { cls:=.type "list",data:=.seq #[] }).update s.heap.objs.size (UN (fun _=>(#[]:Array Tp)))).objs.size=s.heap.objs.size+1:=by rw [XM,UR]
 generalize hH:(s.heap.push { cls:=.type "list",data:=.seq #[] }).update s.heap.objs.size (UN (fun _=>(#[]:Array Tp)))=H2 at yY Bo ⊢
 have old:∀ b o,s.heap.get? b=some o->H2.get? b=some o:=fun b o e=>by
  rw [<- hH,Uu _ _ (Vp (Ui (TJ e)))];exact Tr _ e
 obtain ⟨c2,CU⟩:∃ c,H2.get? s.heap.objs.size=some { cls:=.type "list",data:=.seq #[] c }:=⟨_,yY⟩;have hd2:=old _ _ hd;have GK:({ s with heap:=H2 }:Tv).TypeIs (.ref d) "dict":=⟨_,hd2,gc⟩;unfold VF;refine Tf (Wb GK ?_);have h1:VU (.ref s.heap.objs.size) (.ref d)=false:=by simp [VU,GR]
 have h2:(VZ "dict" == VZ "list")=false:=by decide
 have h3:(VZ "dict" == VZ "tuple")=false:=by decide
 simp only [h1,h2,h3,YS,UQ,if_false];refine Tf (bb_keyIter (s:={ s with heap:=H2 }) ns hd2 gc g2 ?_);refine Tf (U3 ?_);have ER:(H2.push { cls:=.type "dict_keyiterator",data:=.fields #[.ref d,.int 0 0,.int es.size 0,.int ep 0] }).IsKeyIter H2.objs.size d 0 es.size ep:=⟨_,TC _ rfl,rfl,rfl⟩;have CZ:∀ b o,H2.get? b=some o->(H2.push { cls:=.type "dict_keyiterator",data:=.fields #[.ref d,.int 0 0,.int es.size 0,.int ep 0] }).get? b=some o:=fun b o e=>Tr _ e;have GS:s.heap.objs.size≠H2.objs.size:=by rw [Bo];omega
 have KJ:d≠H2.objs.size:=by rw [Bo];exact Ui (Xn CY)
 show TM _ _ _ _ _ ({ s with heap:=H2.push { cls:=.type "dict_keyiterator",data:=.fields #[.ref d,.int 0 0,.int es.size 0,.int ep 0] } }:Tv);generalize H2.push { cls:=.type "dict_keyiterator",data:=.fields #[.ref d,.int 0 0,.int es.size 0,.int ep 0] }=H3 at ER CZ ⊢;have NM:=CZ _ _ hd2;have KL:=CZ _ _ CU;have KN:({ s with heap:=H3 }:Tv).TypeIs (.ref d) "dict":=⟨_,NM,gc⟩
 have key:∀ (h:US) (c₁:Nat),h.IsKeyIter H2.objs.size d 0 es.size ep->(∀ b o,b≠s.heap.objs.size->H3.get? b=some o->h.get? b=some o)->h.get? s.heap.objs.size=some { cls:=.type "list",data:=.seq #[] c₁ } →
  XC (Ug prog w) A.in1 (.builtin "list.extend.loop" ⟨[.ref s.heap.objs.size,.ref H2.objs.size,.none],[]⟩) (wants (fun r yu=>r=.none/\Q (.ref s.heap.objs.size) yu) E) { s with heap:=h }:=by
  intro h c₁ hit hk Ae;refine bb_key_loop hh hz GS GR KJ g2 .none es.size 0 _ #[] c₁ rfl (T4 _) hit (hk _ _ (Vp GR) NM) Ae rfl fun h' yI c' hm BJ xX=>?_;refine ⟨rfl,hQ h' yI c' (fun b o e=>?_) BJ xX⟩;have hb:=Ui (TJ e);exact hm b o hb (by rw [Bo];exact Ui (Xn (TJ e))) (hk b o hb (CZ b o (old b o e)))
 unfold Wc;refine Tf (Vb KN F.slot_dict_len.lookup ?_);generalize hid:("dict.__len__":String)=EB
 wp_delta
 rw [show splitId EB=some ("dict","__len__") from by subst hid;decide +kernel];subst hid;refine Tf (Wf (T:="dict") (b:=true) KN (by rw [WC];kernel_rfl) ?_);refine YM (fun zB=>absurd zB (by decide)) (fun _=>?_);refine YM (fun _=>?_) (fun zB=>absurd (by decide +kernel) zB);refine Tf (Wb KN ?_);refine Tt ?_;refine YM (fun _=>?_) (fun _=>Tt ⟨Wz Va _,key _ c2 ER (fun b o _ e=>e) KL⟩);refine Tf (Wm ?_);refine Tf ?_;show TM _ _ (Yd s.heap.objs.size (·.push .none) >>= fun _=>Yd s.heap.objs.size (·.pop)) _ _ _;refine Tf (Vo KL rfl ?_);have yZ:=Uq (UN (·.push U4)) KL rfl;refine Vo (hz:=by seq_fits) yZ rfl ?_;have Af:=Uq (UN (·.pop)) yZ rfl
 have Ag:∀ b o,b≠s.heap.objs.size->H3.get? b=some o->((H3.update s.heap.objs.size (UN (·.push U4))).update s.heap.objs.size (UN (·.pop))).get? b=some o :=
  fun b o hb e=>(Uu _ _ (Vp hb)).trans ((Uu _ _ (Vp hb)).trans e)
 exact Tt ⟨Wz Va _,key _ _ (ER.at fun o e=>Ag _ _ (Vp GS) e) Ag Af⟩
end
end PySem
namespace L2
open PySem PySem.Spec PyProof.Rows
end L2
namespace L2
open PySem PySem.Spec PyProof.Rows BB
theorem xA {H:Hp} {es:List Dv} {ws:List V} {its:List Tp} (r1:Vals ws its) (yJ:DAts H es ws) (j:Nat) (z:Tp) (hz:its[j]?=some z):∃ e y',es[j]?=some e/\DAt H e y'/\RelV y' z:=by
 have hj:j<its.length:=(Tq.mp hz).1;have l1:=r1.length;have l2:=yJ.length;have FK:j<es.length:=by omega
 obtain ⟨y',Az,dy⟩:=yJ.at (Ti FK);obtain ⟨v',yN,AH⟩:=r1.get Az;rw [hz] at yN;cases yN;exact ⟨_,y',Ti FK,dy,AH⟩
theorem wU {H:Hp} {z:Tp} {e e':Dv} {y' Cg:V} (h1:DAt H e y') (h2:RelV y' z) (h3:DAt H e' Cg) (h4:RelV Cg z):e=e':=by
 have:=h2.inj h4;subst this;exact h1.inj h3
def uI (K:Tg) (B:Nat):V->List V->Hp->VK->Prop:=fun x vs H Q=>∃ (l:Tn) (y:V) (ws:List V) (d:Dv) (es:List Dv) (j:Nat),x=.ref l/\vs=[y]/\SqL K H l ws/\DAt H d y/\DAts H es ws/\cQ es<=B/\es[j]?=some d/\(∀ i,i<j->es[i]?≠some d)/\es.length<=100000/\Q (.int (j:Nat)) H
open Classical in
theorem rJ {X:Cx} {B:Nat} (hu:X.A.units+B+4<Vk):MtM X "list.index" (uI X.K B):=by
 intro pins s σ H x vs v us Q I rx rv h;obtain ⟨l,y,ws,d,es,j,rfl,rfl,hS,hd,yJ,hB,hj,Ax,hz,q⟩:=h;cases rx;obtain ⟨u,rfl,ru⟩:=rv.one;obtain ⟨its,r,pl,_⟩:=I.list hS;have hlen:=r.length;have yD:=yJ.length;obtain ⟨⟨cls,dd,data,sl⟩,ho,hc,n,Jn⟩:=pl.isList;simp only at hc Jn;subst hc Jn;have Ai:j<es.length:=(Tq.mp hj).1
 have KO:∀ (m:Nat) (z:Tp),its[m]?=some z->∃ e y',es[m]?=some e/\DAt H e y'/\RelV y' z/\decide (∃ y',DAt H d y'/\RelV y' z)=decide (e=d):=fun m z hz=>by
  obtain ⟨e,y',he,dy,ry⟩:=xA r yJ m z hz;refine ⟨e,y',he,dy,ry,?_⟩;by_cases h:e=d
  · rw [decide_eq_true h,decide_eq_true ⟨y',h ▸ dy,ry⟩]
  · rw [decide_eq_false h,decide_eq_false];rintro ⟨Cg,h1,h2⟩;exact h (wU dy ry h1 h2)
 refine Ye Wv ⟨_,ho,rfl⟩ PySem.F.entry_list_index (PySem.F.args_list_index_2 _ _)
  (SeqAt.list_indexAt l its.toArray n dd sl u (fun z=>decide (∃ y',DAt H d y'/\RelV y' z)) j (by rw [Tz];omega) (by omega) ?_ ?_) ⟨ho,fun y hy=>?_,⟨.int (j:Nat),H,I.tok _,⟨_,rfl⟩,q⟩⟩
 · obtain ⟨e,y',he,dy,ry,e3⟩:=KO j (its.toArray[j]'(by rw [Tz];omega)) (by simp);rw [hj] at he;cases he;rw [e3];exact decide_eq_true rfl
 · intro m hm xV;obtain ⟨e,y',he,dy,ry,e3⟩:=KO m (its.toArray[m]'hm) (by simp);rw [e3];exact decide_eq_false fun z=>Ax m xV (by rw [he,z])
 · have Az:y∈its:=by simpa using hy
   obtain ⟨m,hm⟩:=TU.mp Az;obtain ⟨e,y',he,dy,ry,e3⟩:=KO m y hm;rw [e3];have hq:=fe he;refine mZ I _ e d (To _) y' _ y u _ dy hd ry ru ?_;show X.A.units+1+_<Vk;omega
end L2
namespace PySem
open Sem (wp)
section
variable {prog:TF} {w:T3} {K:Type} [DecidableEq K] (knd:HeapKind prog w K) (d:Tn)
end
section
variable {prog:TF} {w:T3} {K:Type} [DecidableEq K] {knd:HeapKind prog w K} {A:Ut} {E:Tp->Tv->Prop} {s:Tv}
end
end PySem
namespace L2
open PySem PySem.Spec PyProof.Rows
end L2
namespace BB
open PySem L2
end BB
namespace BB
open PySem L2
end BB
namespace BB
open PySem L2
mutual
theorem jr:∀ t:Th,t.tall<=t.size
 | .knot n ts=>by rw [Th.tall,Th.size];have:=jD ts;omega
 | .call _ _=>by rw [Th.tall,Th.size];omega
theorem jD:∀ ts:List Th,bf ts<=aq ts
 | []=>by rw [bf,aq];omega
 | t::ts=>by rw [bf,aq];have:=jr t;have:=jD ts;omega
end
end BB
namespace BB
open PySem L2
theorem nL {α β:Type} {F:α->β->Prop}:∀ {xs:List α} {ys:List β} {i:Nat} {x:α} {y:β},Ud F xs ys->xs[i]?=some x->ys[i]?=some y->F x y
 | _,_,_,_,_,.nil,h,_=>by simp at h
 | _,_,0,_,_,.cons r _,h,g=>by simp at h g;subst h;subst g;exact r
 | _,_,i+1,_,_,.cons _ t,h,g=>nL (i:=i) t (by simpa using h) (by simpa using g)
structure ni (ws:List T6):Prop where
 len:ws.length=4
 low:∀ x∈ws,Low x/\x.length<=8
 inj:∀ (i j:Nat) (x:T6),ws[i]?=some x->ws[j]?=some x->i=j
def gM (a st:Int) (j:Nat):Nat:=97+((a+5 * st * (j:Int))%26).toNat
theorem tX (a st:Int) (j:Nat):97<=gM a st j/\gM a st j<=122:=by
 unfold gM;have h1:=U7 (a+5 * st * (j:Int)) (by decide:(26:Int)≠0);have h2:=U1 (a+5 * st * (j:Int)) (by decide:(0:Int)<26);omega
theorem kh {a st:Int} (h1:1<=st) (h4:st<=4) {i j:Nat} (hi:i<4) (hj:j<4) (h:gM a st i=gM a st j):i=j:=by
 unfold gM at h;have e1:=U7 (a+5 * st * (i:Int)) (by decide:(26:Int)≠0);have e2:=U7 (a+5 * st * (j:Int)) (by decide:(26:Int)≠0);have h':(a+5 * st * (i:Int))%26=(a+5 * st * (j:Int))%26:=by omega
 clear h e1 e2;rcases (by omega:st=1∨st=2∨st=3∨st=4) with rfl | rfl | rfl | rfl <;> omega
def jp (c a st:Int) (word:T6) (j:Nat):T6 :=
 if c=0 then ⟨#[gM a st j]⟩ else if c=1 then ⟨#[gM a st j]⟩++dU word (some 1) (some 4) else if c=2 then dU word none (some 5)++⟨#[gM a st j]⟩ else dU word none (some (2 * (j:Int)+2))
theorem oA {z:T6} (h:z.length=8):(dU z (some 1) (some 4)).length=3:=by
 have hz:z.cps.toList.length=8:=by rw [Uk];exact h
 show (jM z.cps.toList (some 1) (some 4)).toArray.size=3;rw [Tz];unfold jM;rw [show (some (1:Int))=some ((1:Nat):Int) from rfl,show (some (4:Int))=some ((4:Nat):Int) from rfl,HT.sIx_nat,HT.sIx_nat,hz,Ul,Vf,hz];rfl
theorem sI {c a st:Int} {word:T6} (hw:Low word) (hl:word.length=8) {j:Nat} (hj:j<4):Low (jp c a st word j)/\(jp c a st word j).length<=8:=by
 have ht:=tX a st j;unfold jp;split
 · exact ⟨jU ht.1 ht.2,by show 1<=8;omega⟩
 · split
   · refine ⟨m5 (jU ht.1 ht.2) (mY hw _ _),?_⟩;rw [strLen_append,oA hl];show 1+3<=8;omega
   · split
     · refine ⟨m5 (mY hw _ _) (jU ht.1 ht.2),?_⟩;have:=(fc (z:=word) (n:=5) (by omega)).2;rw [strLen_append];show (dU word none (some ((5:Nat):Int))).length+1<=8;omega
     · refine ⟨mY hw _ _,?_⟩;have:=(fc (z:=word) (n:=2 * j+2) (by omega)).2;have e:(2 * (j:Int)+2)=((2 * j+2:Nat):Int):=by omega
       rw [e];omega
theorem sJ {c a st:Int} {word:T6} (h1:1<=st) (h4:st<=4) (hl:word.length=8) {i j:Nat} (hi:i<4) (hj:j<4) (h:jp c a st word i=jp c a st word j):i=j:=by
 unfold jp at h;split at h
 · refine kh h1 h4 hi hj (a:=a) ?_;have h2:=congrArg (fun z:T6=>z.cps.toList) h;simpa using h2
 · split at h
   · refine kh h1 h4 hi hj (a:=a) ?_;have h2:((#[gM a st i]:Array Nat)++(dU word (some 1) (some 4)).cps).toList=((#[gM a st j]:Array Nat)++(dU word (some 1) (some 4)).cps).toList:=congrArg (fun z:T6=>z.cps.toList) h;rw [W3,W3] at h2;have h3:=List.append_cancel_right h2;simpa using h3
   · split at h
     · refine kh h1 h4 hi hj (a:=a) ?_;have h2:((dU word none (some 5)).cps++(#[gM a st i]:Array Nat)).toList=((dU word none (some 5)).cps++(#[gM a st j]:Array Nat)).toList:=congrArg (fun z:T6=>z.cps.toList) h;rw [W3,W3] at h2;have h3:=List.append_cancel_left h2;simpa using h3
     · have e1:(2 * (i:Int)+2)=((2 * i+2:Nat):Int):=by omega
       have e2:(2 * (j:Int)+2)=((2 * j+2:Nat):Int):=by omega
       rw [e1,e2] at h;have l1:=(fc (z:=word) (n:=2 * i+2) (by omega)).2;have l2:=(fc (z:=word) (n:=2 * j+2) (by omega)).2;rw [h] at l1;omega
end BB
namespace BB
open PySem L2 PySem.Builtin PySem.Builtin.Str
end BB
namespace L2
open PySem PySem.Spec PySem.Calls PyProof.Rows BB
section
variable {X:Cx} {pins:List (Tn×VN)} {σ:List (Option V)} {H:Hp} {s:Tv}
end
end L2
namespace L2
open PySem PySem.Spec PySem.Calls PyProof.Rows PySem.Builtin PySem.Builtin.Str BB
variable {X:Cx}
end L2
namespace BB
open PySem L2
end BB
namespace BB
open PySem L2
section
variable {H H':Hp} {t:Th} {a:Tn} {ts:List Th} {es:List Tn}
end
end BB
namespace L2
open PySem PySem.Spec PyProof.Rows BB
variable {X:Cx}
end L2
namespace L2
open PySem PySem.Spec PyProof.Rows PySem.W
end L2
namespace L2
open PySem PySem.Spec PyProof.Rows BB
variable {X:Cx}
end L2
namespace L2
open PySem PySem.Spec PySem.Calls PyProof.Rows PySem.W
end L2
namespace BB
open PySem L2 PySem.Builtin PySem.Builtin.Str
end BB
namespace L2
open PySem PySem.Spec PySem.Calls PyProof.Rows PySem.Builtin PySem.Builtin.Str BB
variable {X:Cx}
end L2
namespace L2
open PySem PySem.Spec PyProof.Rows
end L2
namespace BB
open PySem L2
end BB
namespace L2
open PySem PySem.Spec PyProof.Rows
end L2
namespace L2
open PySem PySem.Spec PySem.Calls PyProof.Rows
section
variable {X:Cx} {CX:CXT} {k i:Nat} {E:XK} {x:T6} {p pos:Xv} {e:UP} {es:List UP} {t:TA}
end
section
variable {X:Cx} {k:Nat} {f:Tn} {fd:WO} {ps:List T6} {sp:Sp} {x:T6} {p pos:Xv} {e:UP} {es:List UP} {t:TA}
end
end L2
namespace L2
open PySem PySem.Spec PyProof.Rows
end L2
namespace L2
open PySem PySem.Spec PyProof.Rows
end L2
namespace BB
open PySem L2
theorem gD (f:Int->Int->Th):∀ ts:List Th,fills f ts=ts.map (·.fill f)
 | []=>rfl
 | t::ts=>by rw [fills,gD f ts];rfl
def rowOf (rows:List (List Th)) (s:Int):List Th:=rows.getD s.toNat []
section
variable {head:Th} {rows:List (List Th)}
end
end BB
namespace L2
open PySem PySem.Spec PySem.SeqAt PyProof.Rows
theorem kI {α:Type} [DecidableEq α] {s:Tv} {A:Ut} {a b:Tn} {its xQ:List Tp} {ds es:List α} (p1:s.heap.IsTuple a its.toArray) (p2:s.heap.IsTuple b xQ.toArray) (l1:its.length=ds.length) (l2:xQ.length=es.length) (hu:A.units<Vk)
 (ih:∀ (j:Nat) (d e:α) (u v:Tp),ds[j]?=some d->es[j]?=some e->its[j]?=some u->xQ[j]?=some v->EqAt A.in1 s u v (decide (d=e))):RcAt A s (.ref a) (.ref b) (decide (ds=es)):=by
 have Cf:RcAt A s (.ref a) (.ref b) ((Ue (min its.toArray.size xQ.toArray.size)).all (fun j=>decide (ds[j]?=es[j]?)) && its.toArray.size == xQ.toArray.size):=by
  refine RcAt.tuples p1 p2 hu fun j h1 h2=>?_;have Br:j<ds.length:=by rw [<- l1];simpa using h1
  have AG:j<es.length:=by rw [<- l2];simpa using h2
  have e1:ds[j]?=some ds[j]:=Ti Br;have e2:es[j]?=some es[j]:=Ti AG;have e3:decide (ds[j]?=es[j]?)=decide (ds[j]=es[j]):=by rw [e1,e2];simp
  have g1:its[j]?=some its[j]:=Ti (by rw [l1];exact Br);have g2:xQ[j]?=some xQ[j]:=Ti (by rw [l2];exact AG);rw [e3];exact ih j ds[j] es[j] its[j] xQ[j] e1 e2 g1 g2
 have e:decide (ds=es)=((Ue (min its.toArray.size xQ.toArray.size)).all (fun j=>decide (ds[j]?=es[j]?)) && its.toArray.size == xQ.toArray.size):=by
  rw [Tz,Tz,l1,l2];by_cases h:ds=es
  · subst h;rw [decide_eq_true rfl];symm;simp
  · rw [decide_eq_false h];symm;by_cases hl:ds.length=es.length
    · rw [hl,Yn]
      have:¬ ((Ue es.length).all (fun j=>decide (ds[j]?=es[j]?)))=true:=by
       intro z;apply h;apply X2;intro j;by_cases hj:j<es.length
       · exact of_decide_eq_true (V4.mp z j (V7.mpr hj))
       · rw [Vr (by omega),Vr (by omega)]
      rw [U9.mpr this];rfl
    · have:(ds.length == es.length)=false:=by simpa using hl
      rw [this,XX]
 rw [e];exact Cf
theorem oo {A:Ut} {s:Tv} {k l:Key} {u v:Tp} (hu:gN k u=true) (hv:gN l v=true):EqAt A s u v (decide (k=l)):=by
 rcases bh hu with ⟨i,t,rfl,rfl⟩ | ⟨x,t,rfl,rfl⟩
 · rcases bh hv with ⟨j,t',rfl,rfl⟩ | ⟨y,t',rfl,rfl⟩
   · have:decide ((Um i:Key)=Um j)=(i == j):=by
      by_cases h:i=j
      · subst h;simp
      · rw [decide_eq_false (fun z=>h (WA z)),beq_eq_false_iff_ne.mpr h]
     rw [this];exact EqAt.int_int i t j t'
   · rw [decide_eq_false (fun z=>nomatch z)];exact EqAt.int_str i t y t'
 · rcases bh hv with ⟨j,t',rfl,rfl⟩ | ⟨y,t',rfl,rfl⟩
   · rw [decide_eq_false (fun z=>nomatch z)];exact EqAt.str_int x t j t'
   · have:decide ((WS x:Key)=WS y)=(x == y):=by
      by_cases h:x=y
      · subst h;simp
      · rw [decide_eq_false (fun z=>h (Sum.inr.inj z)),beq_eq_false_iff_ne.mpr h]
     rw [this];exact EqAt.str_str x t y t'
theorem ji {P:TF} {w:T3}:∀ {ks:List Key} {vs:List Tp} {j:Nat} {k:Key} {v:Tp},ItemsAre (aF P w) ks vs->ks[j]?=some k->vs[j]?=some v->gN k v=true
 | _,_,0,k,v,.cons h _,e1,e2=>by cases e1;cases e2;exact h
 | _,_,j+1,k,v,.cons _ h,e1,e2=>ji (j:=j) h e1 e2
theorem rf {P:TF} {w:T3} {A:Ut} {s:Tv} {x y:List Key} {a b:Tn} (hx:IsTupleKey (aF P w) s.heap x a) (hy:IsTupleKey (aF P w) s.heap y b) (hu:A.units<Vk):EqAt A s (.ref a) (.ref b) (decide (x=y)):=by
 by_cases zB:a=b
 · subst zB;obtain rfl:=hx.inj hy;rw [decide_eq_true rfl];exact EqAt.same _
 · obtain ⟨o,its,n,ho,hc,hd,hi⟩:=hx;obtain ⟨o',its',n',zK,y8,zu,yq⟩:=hy;have p1:s.heap.IsTuple a its.toList.toArray:=⟨o,ho,hc,n,by rw [hd]⟩;have p2:s.heap.IsTuple b its'.toList.toArray:=⟨o',zK,y8,n',by rw [zu]⟩;have:=kI (ds:=x) (es:=y) p1 p2 hi.length.symm yq.length.symm hu fun j d e u v e1 e2 e3 e4=>oo (A:=A.in1) (s:=s) (ji hi e1 e3) (ji yq e2 e4);exact EqAt.of_refs zB this
abbrev az:=List Key×Key
theorem qd {P:TF} {w:T3} {A:Ut} {E:Tp->Tv->Prop} {s:Tv} {m:Nat} {ks:List Key} {a:Tn} {Q:Bool->Tv->Prop} (hk:IsTupleKey (aF P w) s.heap ks a) (h:Q true s):TM (Ug P w) A (eqIsQuiet (m+1) (.ref a)) Q E s:=by
 have hT:=hk.typeIs;obtain ⟨o,items,n,ho,_,hd,hi⟩:=hk;unfold eqIsQuiet;refine Tf (Vb hT F.slot_tuple_eq.lookup ?_);show TM _ _ (isInstance (.ref a) (.type "tuple") >>= _) _ _ s;refine Tf (Wf hT isSubtype_tuple_tuple ?_);simp only [Xy,UQ,if_false];refine Tf (U2 ho hd ?_);refine Tf ?_;show TM _ _ (forIn items _ _) _ _ s;rw [<- Xj];refine wpAny_forIn_list _ (fun rest r s'=>r.1=none/\s'=s/\∀ v∈rest,carriedByValue v=true) _ ?_ ?_ _ _ ⟨rfl,rfl,hi.byValue⟩
 · rintro v rest r s' ⟨hr,rfl,xT⟩;rw [eqIsQuiet_byValue _ (xT v T2)];refine Tf (Tt ?_);simp only [Xy,UQ,if_false];exact Tt ⟨rfl,rfl,fun u zf=>xT u (T1 _ zf)⟩
 · rintro ⟨r1,r2⟩ s' ⟨hr,rfl,_⟩;simp only at hr;subst hr;exact Tt h
section
variable {X:Cx} {pins:List (Tn×VN)} {σ:St} {H:Hp} {s:Tv} {o i value:UP} {pos pos':Xv} {td ty tv:TE}
end
end L2
namespace BB
open PySem L2
end BB
namespace BB
open PySem L2
theorem FitSs.mem' {ks:List (T6×Int)} {S C:Int}:∀ {ts:List Th},FitSs ks S C ts->∀ t∈ts,t.FitS ks S C
 | [],_,t,ht=>by cases ht
 | u::us,h,t,ht=>by
   rw [FitSs] at h;rcases TR.mp ht with e | e
   · rw [e];exact h.1
   · exact FitSs.mem' h.2 t e
structure wW (ins outs:List (T6×Int)) (S:Int) (rows:List (List Th)):Prop where
 len:(rows.length:Int)=S
 row:∀ row∈rows,row.length=ins.length/\∀ (j:Nat) (p:Th) (k:T6×Int),row[j]?=some p->ins[j]?=some k->p.FitS outs S k.2
end BB
namespace BB
open PySem L2
end BB
namespace BB
open PySem L2
theorem r8 {ins outs:List (T6×Int)} {S:Int} {rows:List (List Th)} (ok:wW ins outs S rows) {l:Int} (h0:0<=l) (h1:l<S):∃ row,rows[l.toNat]?=some row/\rowOf rows l=row/\row.length=ins.length/\∀ t∈row,∃ C,t.FitS outs S C:=by
 have hl:=ok.len;have hs:l.toNat<rows.length:=by omega
 refine ⟨rows[l.toNat],Ti hs,?_,(ok.row _ (Xx hs)).1,fun t ht=>?_⟩
 · unfold rowOf;rw [List.getD,Ti hs];rfl
 · obtain ⟨hlen,ES⟩:=ok.row _ (Xx hs);obtain ⟨j,hj⟩:=TU.mp ht;have Ai:=(Tq.mp hj).1;exact ⟨_,ES j t _ hj (Ti (by omega))⟩
section
variable {ins mid outs:List (T6×Int)} {S1 S2:Int} {Cj Ck:Th} {Cm Cn:List (List Th)}
end
end BB
namespace L2
open PySem PySem.Spec PySem.Calls PyProof.Rows
end L2
namespace BB
open PySem L2
end BB
namespace BB
open PySem L2
section
variable {ins mid outs:List (T6×Int)} {S1 S2:Int} {Cj Ck:Th} {Cm Cn:List (List Th)} {Qe Qf Qg Qh Qi Qj Qk:Nat}
end
end BB
namespace BB
open PySem L2
theorem j3 {H:Hp}:∀ {ts:List Th} {as:List Tn},Ud (At H) ts as->Ats H ts as
 | _,_,.nil=>.nil
 | _,_,.cons h g=>.cons h (j3 g)
end BB
namespace BB
open PySem L2
end BB
namespace L2
open PySem PySem.Spec PySem.Calls PyProof.Rows
end L2
namespace L2
open PySem PySem.Spec PySem.Calls PyProof.Rows
end L2
namespace BB
open PySem L2
end BB
namespace BB
open PySem L2
section
variable {k0 k1 k2 k3:List (T6×Int)} {SA SB SC:Int} {a0 b0 c0:Th} {NN NO NP:List (List Th)}
end
end BB
namespace BB
open PySem L2
section
variable {ins mid outs:List (T6×Int)} {S1 S2:Int} {Cj Ck:Th} {Cm Cn:List (List Th)} {Qe Qf Qg Qh Qi Qj Qk:Nat}
end
end BB
namespace BB
theorem vk {p:Prop} [Decidable p] {A B:Prop} (hp:p) (h:A):if decide p=true then A else B:=by rw [if_pos (decide_eq_true hp)];exact h
theorem hid {G:Prop} (k:∀ F:Prop,(G->F)->F):G:=k G id
inductive Ex1 {A0:Type} (p:A0->Prop):Prop
 | mk (x0:A0) (h:p x0):Ex1 p
inductive Ex2 {A0 A1:Type} (p:A0->A1->Prop):Prop
 | mk (x0:A0) (x1:A1) (h:p x0 x1):Ex2 p
inductive Ex3 {A0 A1 A2:Type} (p:A0->A1->A2->Prop):Prop
 | mk (x0:A0) (x1:A1) (x2:A2) (h:p x0 x1 x2):Ex3 p
inductive Ex4 {A0 A1 A2 A3:Type} (p:A0->A1->A2->A3->Prop):Prop
 | mk (x0:A0) (x1:A1) (x2:A2) (x3:A3) (h:p x0 x1 x2 x3):Ex4 p
inductive Ex5 {A0 A1 A2 A3 A4:Type} (p:A0->A1->A2->A3->A4->Prop):Prop
 | mk (x0:A0) (x1:A1) (x2:A2) (x3:A3) (x4:A4) (h:p x0 x1 x2 x3 x4):Ex5 p
inductive Ex6 {A0 A1 A2 A3 A4 A5:Type} (p:A0->A1->A2->A3->A4->A5->Prop):Prop
 | mk (x0:A0) (x1:A1) (x2:A2) (x3:A3) (x4:A4) (x5:A5) (h:p x0 x1 x2 x3 x4 x5):Ex6 p
inductive Ex7 {A0 A1 A2 A3 A4 A5 A6:Type} (p:A0->A1->A2->A3->A4->A5->A6->Prop):Prop
 | mk (x0:A0) (x1:A1) (x2:A2) (x3:A3) (x4:A4) (x5:A5) (x6:A6) (h:p x0 x1 x2 x3 x4 x5 x6):Ex7 p
inductive An2 (a0 a1:Prop):Prop
 | mk (h0:a0) (h1:a1):An2 a0 a1
inductive An3 (a0 a1 a2:Prop):Prop
 | mk (h0:a0) (h1:a1) (h2:a2):An3 a0 a1 a2
inductive An4 (a0 a1 a2 a3:Prop):Prop
 | mk (h0:a0) (h1:a1) (h2:a2) (h3:a3):An4 a0 a1 a2 a3
inductive An5 (a0 a1 a2 a3 a4:Prop):Prop
 | mk (h0:a0) (h1:a1) (h2:a2) (h3:a3) (h4:a4):An5 a0 a1 a2 a3 a4
inductive An6 (a0 a1 a2 a3 a4 a5:Prop):Prop
 | mk (h0:a0) (h1:a1) (h2:a2) (h3:a3) (h4:a4) (h5:a5):An6 a0 a1 a2 a3 a4 a5
inductive An7 (a0 a1 a2 a3 a4 a5 a6:Prop):Prop
 | mk (h0:a0) (h1:a1) (h2:a2) (h3:a3) (h4:a4) (h5:a5) (h6:a6):An7 a0 a1 a2 a3 a4 a5 a6
inductive An8 (a0 a1 a2 a3 a4 a5 a6 a7:Prop):Prop
 | mk (h0:a0) (h1:a1) (h2:a2) (h3:a3) (h4:a4) (h5:a5) (h6:a6) (h7:a7):An8 a0 a1 a2 a3 a4 a5 a6 a7
inductive An9 (a0 a1 a2 a3 a4 a5 a6 a7 a8:Prop):Prop
 | mk (h0:a0) (h1:a1) (h2:a2) (h3:a3) (h4:a4) (h5:a5) (h6:a6) (h7:a7) (h8:a8):An9 a0 a1 a2 a3 a4 a5 a6 a7 a8
inductive vZ (a0 a1 a2 a3 a4 a5 a6 a7 a8 a9:Prop):Prop
 | mk (h0:a0) (h1:a1) (h2:a2) (h3:a3) (h4:a4) (h5:a5) (h6:a6) (h7:a7) (h8:a8) (h9:a9):vZ a0 a1 a2 a3 a4 a5 a6 a7 a8 a9
end BB
namespace L2
open PySem PySem.Spec PyProof.Rows
end L2
namespace BB
open PySem L2
section
variable {ins outs:List (T6×Int)} {S:Int} {d:Nat} {head:Th} {rows:List (List Th)}
end
end BB
namespace L2
open PySem PySem.Spec PyProof.Rows
end L2
namespace L2
open PySem PySem.Spec PyProof.Rows
end L2
namespace L2
open PySem PySem.Spec PyProof.Rows
section
variable {X:Cx} {e:UP} {te:TE} {apos xZ:Xv}
end
section
variable {X:Cx} {e:UP} {te:TE} {apos xZ:Xv}
end
end L2
namespace PySem
open Sem (wp)
section
variable {prog:TF} {w:T3} {A:Ut} {E:Tp->Tv->Prop} {s:Tv} {it d:Tn} {i ep:Nat} {od:VN} {es:Array DictEntry} {ok ov:Tp}
end
end PySem
namespace L2
open PySem PySem.Spec PyProof.Rows
section
variable {X:Cx} {e:UP} {te:TE} {apos xZ:Xv}
end
end L2
namespace L2
open PySem PySem.Spec PyProof.Rows
section
variable {X:Cx} {e1 e2:UP} {t:TA} {p2 yh:Xv}
end
end L2
namespace L2
open PySem PySem.Spec PyProof.Rows
section
variable {X:Cx} {pins:List (Tn×VN)} {σ:St}
end
end L2
namespace BB
open PySem L2
theorem mQ (pre:List Int) (n:T6) (ts:List Th):callsOf (Th.pl pre (.knot n ts))=callsOf (pls pre 0 ts):=by
 rw [Th.pl];rfl
theorem nP (pre:List Int) (s k:Int):callsOf (Th.pl pre (.call s k))=[(pre,s,k)]:=by
 rw [Th.pl];rfl
theorem mX (pre:List Int) (i:Int) (t:Th) (ts:List Th):callsOf (pls pre i (t::ts))=callsOf (t.pl (pre++[i]))++callsOf (pls pre (i+1) ts):=by
 rw [pls,dF]
end BB
namespace BB
open PySem L2
end BB
namespace BB
open PySem L2
theorem jt {α:Type}:∀ {l m:List α},l.Nodup->(∀ a∈l,a∈m)->l.length<=m.length
 | [],m,_,_=>T4 _
 | a::l,m,h,hs=>by
   rw [Xd] at h;obtain ⟨m1,m2,rfl⟩:=List.append_of_mem (hs a (T2 ..))
   have:l.length<=(m1++m2).length:=jt h.2 fun b hb=>by
    rcases UA.mp (hs b (T1 _ hb)) with z | z
    · exact Ux _ z
    · rcases TR.mp z with z | z
      · exact absurd (z ▸ hb) h.1
      · exact Uj _ z
   rw [TZ,Tx] at *;rw [Tx];omega
end BB
namespace L2
open PySem
theorem tu {K:Tg} {a:Tn} {xs:List V} {g:TG} {tb:TS} {D:Ends} {σ:St} {H:Hp} (Pv:Nat->St->Hp->Prop) (h0:Pv 0 σ H) (hl:∀ i σ H,i<=xs.length->Pv i σ H->SqT K H a xs)
 (hs:∀ i x p σ H,xs[i]?=some x->H p=none->Pv i σ H->g (.ref p) σ (upd H p (.tup [.int (i:Nat),x])) fun yc H2=>tb { D with nx:=Pv (i+1),ct:=Pv (i+1),bk:=D.nx } yc H2) (hd:∀ σ H,Pv xs.length σ H->D.nx σ H) :
 ∃ W:Nat->Nat->St->Hp->Prop,(∃ m,W 0 m σ H)/\∀ i m σ H,W i m σ H →
   ((Ite K a).stop i H/\D.nx σ H)∨((Ite K a).go i H/\∃ N:St->Hp->Prop,(∀ xM H',N xM H'->∃ m',m'<m/\W (i+1) m' xM H')/\∀ x H',(Ite K a).yld i H x H'->g x σ H' fun yc H2=>tb { D with nx:=N,ct:=N,bk:=D.nx } yc H2):=by
 refine ⟨fun i m σ H=>m=xs.length - i/\i<=xs.length/\Pv i σ H,⟨xs.length,by simp,T4 _,h0⟩,?_⟩;rintro i m σ H ⟨rfl,hi,p⟩;have q:=hl i σ H hi p;by_cases xV:i<xs.length
 · refine .inr ⟨⟨xs,xs[i],q,by simp [xV]⟩,Pv (i+1),fun xM H' p'=>⟨xs.length - (i+1),by omega,rfl,xV,p'⟩,fun x H' y=>?_⟩;obtain ⟨pa,y,hp,rfl,rfl,hy⟩:=y;exact hs i y pa σ H (hy xs q) hp p
 · have e:i=xs.length:=by omega
   subst e;exact .inl ⟨⟨xs,q,rfl⟩,hd σ H p⟩
theorem qV {K:Tg} {a b:Tn} {xs ys:List V} {g:TG} {tb:TS} {D:Ends} {σ:St} {H:Hp} (Se:xs.length=ys.length) (Pv:Nat->St->Hp->Prop) (h0:Pv 0 σ H) (hl:∀ i σ H,i<=xs.length->Pv i σ H->SqT K H a xs/\SqT K H b ys)
 (hs:∀ i x y p σ H,xs[i]?=some x->ys[i]?=some y->H p=none->Pv i σ H->g (.ref p) σ (upd H p (.tup [x,y])) fun yc H2=>tb { D with nx:=Pv (i+1),ct:=Pv (i+1),bk:=D.nx } yc H2) (hd:∀ σ H,Pv xs.length σ H->D.nx σ H) :
 ∃ W:Nat->Nat->St->Hp->Prop,(∃ m,W 0 m σ H)/\∀ i m σ H,W i m σ H →
   ((Itz K a b).stop i H/\D.nx σ H)∨((Itz K a b).go i H/\∃ N:St->Hp->Prop,(∀ xM H',N xM H'->∃ m',m'<m/\W (i+1) m' xM H')/\∀ x H',(Itz K a b).yld i H x H'->g x σ H' fun yc H2=>tb { D with nx:=N,ct:=N,bk:=D.nx } yc H2):=by
 refine ⟨fun i m σ H=>m=xs.length - i/\i<=xs.length/\Pv i σ H,⟨xs.length,by simp,T4 _,h0⟩,?_⟩;rintro i m σ H ⟨rfl,hi,p⟩;obtain ⟨q1,q2⟩:=hl i σ H hi p;by_cases xV:i<xs.length
 · have KP:i<ys.length:=by omega
   refine .inr ⟨⟨xs,ys,xs[i],ys[i],q1,q2,by simp [xV],by simp [KP]⟩,Pv (i+1),fun xM H' p'=>⟨xs.length - (i+1),by omega,rfl,xV,p'⟩,fun x H' y=>?_⟩;obtain ⟨pa,x,y,hp,rfl,rfl,hx,hy⟩:=y;exact hs i x y pa σ H (hx xs q1) (hy ys q2) hp p
 · have e:i=xs.length:=by omega
   subst e;exact .inl ⟨⟨xs,ys,q1,q2,.inl (To _)⟩,hd σ H p⟩
end L2
namespace BB
open PySem L2
end BB
namespace BB
open PySem L2
end BB
namespace BB
open PySem L2
section
variable {C:Tn} {Dp:DP} {ins:List (T6×Int)} {rows:List (List Th)} {head:Th} {ok:Th->Prop} {H:Hp} {L:Lv} {i:Nat} {n:Nd} {B:Lv} {Hg:Hp} {B':Lv} {sp:List (Key×V)}
end
end BB
namespace BB
open PySem L2
end BB
namespace BB
open PySem L2
end BB
namespace BB
open PySem L2
section
variable {C:Tn} {Dp:DP} {ins:List (T6×Int)} {rows:List (List Th)} {head:Th} {ok:Th->Prop} {H0:Hp} {L B:Lv} {i:Nat} {H:Hp} {L' B':Lv}
end
end BB
namespace BB
open PySem L2
end BB
namespace BB
open PySem L2
end BB
namespace BB
open PySem L2
mutual
theorem gG {ks:List (T6×Int)} {S C:Int}:∀ (t:Th) (pre:List Int),t.FitS ks S C->∀ c∈callsOf (t.pl pre),0<=c.2.1/\c.2.1<S/\0<=c.2.2/\c.2.2<C
 | .call s k,pre,h,c,hc=>by
   rw [nP] at hc;rw [TY.mp hc];rw [Th.FitS] at h;exact h
 | .knot n ts,pre,h,c,hc=>by
   rw [mQ] at hc;rw [Th.FitS] at h;exact kY ts pre 0 h.2 c hc
theorem kY {ks:List (T6×Int)} {S C:Int}:∀ (ts:List Th) (pre:List Int) (i:Int),FitSs ks S C ts->∀ c∈callsOf (pls pre i ts),0<=c.2.1/\c.2.1<S/\0<=c.2.2/\c.2.2<C
 | [],pre,i,_,c,hc=>by rw [pls] at hc;cases hc
 | t::ts,pre,i,h,c,hc=>by
   rw [mX] at hc;rw [FitSs] at h;rcases UA.mp hc with hc | hc
   · exact gG t _ h.1 c hc
   · exact kY ts _ _ h.2 c hc
end
end BB
namespace BB
open PySem L2
end BB
namespace BB
open PySem L2
section
variable {ins mid outs:List (T6×Int)} {S1 S2:Int} {Cj Ck:Th} {Cm Cn:List (List Th)}
end
end BB
namespace BB
open PySem L2
end BB
namespace L2
open PySem PySem.Spec PySem.SeqAt PyProof.Rows
def IsNesm (P:TF) (w:T3) (h:US) (k:az) (a:Tn):Prop:=∃ (o:VN) (n:Nat) (b:Tn) (u:Tp),h.get? a=some o/\o.cls=.type "tuple"/\o.data=.seq #[u,.ref b] n/\IsTupleKey (aF P w) h k.1 b/\gN k.2 u=true
theorem IsNesm.typeIs {P:TF} {w:T3} {s:Tv} {k:az} {a:Tn} (x:IsNesm P w s.heap k a):s.TypeIs (.ref a) "tuple":=let ⟨o,_,_,_,ho,hc,_⟩:=x;⟨o,ho,hc⟩
theorem IsNesm.inj {P:TF} {w:T3} {h:US} {a:Tn} {x y:az} (hx:IsNesm P w h x a) (hy:IsNesm P w h y a):x=y:=by
 obtain ⟨o,n,b,u,ho,_,hd,hb,hu⟩:=hx;obtain ⟨o',n',b',u',zK,_,zu,zw,zf⟩:=hy;obtain rfl:o=o':=T5 (ho.symm.trans zK);rw [hd] at zu;injection zu with h1 _;have h2:=congrArg Za h1;cases h2;exact Prod.ext (hb.inj zw) ((aF P w).inj _ _ _ hu zf)
theorem IsNesm.keeps {P:TF} {w:T3} {h h':US} {k:az} {a d:Tn} {o:VN} {es ep} (x:IsNesm P w h k a) (ho:h.get? d=some o) (hd:o.data=.dict es ep) (hs:Vq d h h'):IsNesm P w h' k a:=by
 obtain ⟨o',n,b,u,zK,hc,zu,hb,hu⟩:=x
 have yd:a≠d:=by
  rintro rfl;obtain rfl:o'=o:=T5 (zK.symm.trans ho);rw [hd] at zu;exact nomatch zu
 exact ⟨o',n,b,u,(hs.2 a yd).trans zK,hc,zu,hb.keeps ho hd hs,hu⟩
theorem ss {P:TF} {w:T3} {A:Ut} {s:Tv} {x y:az} {a b:Tn} (hx:IsNesm P w s.heap x a) (hy:IsNesm P w s.heap y b) (hu:A.units+1<Vk):EqAt A s (.ref a) (.ref b) (decide (x=y)):=by
 by_cases zB:a=b
 · subst zB;obtain rfl:=hx.inj hy;rw [decide_eq_true rfl];exact EqAt.same _
 · obtain ⟨o,n,c,u,ho,hc,hd,hb,hk⟩:=hx;obtain ⟨o',n',c',u',zK,y8,zu,zw,za⟩:=hy;have p1:s.heap.IsTuple a [u,Uc c].toArray:=⟨o,ho,hc,n,by rw [hd]⟩;have p2:s.heap.IsTuple b [u',Uc c'].toArray:=⟨o',zK,y8,n',by rw [zu]⟩
   have:=kI (A:=A) (ds:=[(WS x.2:Sum (List Key) Key),Um x.1]) (es:=[WS y.2,Um y.1]) p1 p2 rfl rfl (by omega) fun j d e v v' e1 e2 e3 e4=>by
    match j with
    | 0 =>
      cases e1;cases e2;cases e3;cases e4;rw [show decide ((WS x.2:Sum (List Key) Key)=WS y.2)=decide (x.2=y.2) from decide_eq_decide.mpr ⟨fun z=>Sum.inr.inj z,fun z=>congrArg _ z⟩];exact oo (A:=A.in1) (s:=s) hk za
    | 1 =>
      cases e1;cases e2;cases e3;cases e4;rw [show decide ((Um x.1:Sum (List Key) Key)=Um y.1)=decide (x.1=y.1) from decide_eq_decide.mpr ⟨fun z=>WA z,fun z=>congrArg _ z⟩];exact rf (A:=A.in1) hb zw (show A.units+1<Vk from hu)
    | j+2=>cases e1
   refine EqAt.of_refs zB ?_
   rw [show decide (x=y)=decide ([(WS x.2:Sum (List Key) Key),Um x.1]=[WS y.2,Um y.1]) from decide_eq_decide.mpr ⟨fun z=>by rw [z],fun z=>by
    injection z with z1 z2;injection z2 with z2 _;exact Prod.ext (WA z2) (Sum.inr.inj z1)⟩]
   exact this
def kJ (P:TF) (w:T3) (k:az):Int:=reduceHash (VQ [(aF P w).hash k.2,Xz (aF P w) k.1])
theorem oM {P:TF} {w:T3} {A:Ut} {E:Tp->Tv->Prop} {s:Tv} {k:az} {a:Tn} {Q:Int->Tv->Prop} (hu:A.units+1<Vk) (hk:IsNesm P w s.heap k a) (h:Q (kJ P w k) { s with toks:=s.toks+(k.1.length+3) }) :
 TM (Ug P w) A (pyHash (.ref a)) Q E s:=by
 have hT:=hk.typeIs;obtain ⟨o,n,c,u,ho,hc,hd,hb,hk⟩:=hk;unfold pyHash
 first | unfold pyHashByItsType | skip
 first | refine Tf (wpAny_cRoomFor_or (.inr (by omega)) ?_) | skip
 refine Tf (Vb hT Yv.lookup ?_);show TM _ _ (if (some (Value.builtin "tuple.__hash__") == some U4)=true then _ else _) Q E s;rw [if_neg (by rw [beq_builtin_none];exact TV)];refine Tf (Vb hT Yv.lookup ?_);show TM _ _ (callSpecialIfBoundUnlessNone? (.ref a) "__hash__" _ >>= _) Q E s;refine Tf (wpAny_callSpecialIfBoundUnlessNone?_slot hT Yv (UM Yv hT F.entry_tuple_hash ?_ (F.args_tuple_hash_1 _)));show TM _ _ (W9 (.ref a) >>= _) _ _ s;refine Tf (wpAny_tupleItemsOf ho hd ?_);refine Tf ?_;rw [<- Xj]
 refine wpAny_forIn_list _
  (fun rest (b:Array Int) s'=>(rest=[u,.ref c]/\b=#[]/\s'=s)∨(rest=[.ref c]/\b=#[(aF P w).hash k.2]/\s'={ s with toks:=s.toks+1 })∨(rest=[]/\b=#[(aF P w).hash k.2,Xz (aF P w) k.1]/\s'={ s with toks:=s.toks+1+(k.1.length+1) }))
  _ ?_ ?_ _ _ (.inl ⟨rfl,rfl,rfl⟩)
 · rintro x rest b s' (⟨e1,rfl,rfl⟩ | ⟨e1,rfl,rfl⟩ | ⟨e1,_⟩)
   · cases e1;refine Tf ((aF P w).pyHash hk ?_)
     first
      | exact Tt (.inr (.inl ⟨rfl,rfl,rfl⟩))
      | exact Tf (Tt (Tt (.inr (.inl ⟨rfl,rfl,rfl⟩))))
   · cases e1;refine Tf (wpAny_pyHash_tuple (by show _<Vk;first | exact hu | omega) hb ?_)
     first
      | exact Tt (.inr (.inr ⟨rfl,rfl,rfl⟩))
      | exact Tf (Tt (Tt (.inr (.inr ⟨rfl,rfl,rfl⟩))))
   · cases e1
 · rintro b s' (⟨e1,_⟩ | ⟨e1,_⟩ | ⟨_,rfl,rfl⟩)
   · cases e1
   · cases e1
   show TM _ _ (retInt (VQ [(aF P w).hash k.2,Xz (aF P w) k.1])) _ _ _;refine wpAny_ret_mkInt ?_;show TM _ _ (if (decide (-(2:Int) ^ 63<=VQ [(aF P w).hash k.2,Xz (aF P w) k.1]) && decide (VQ [(aF P w).hash k.2,Xz (aF P w) k.1]<2 ^ 63))=true then _ else _) Q E _;unfold kJ reduceHash at h;by_cases hr:(decide (-(2:Int) ^ 63<=VQ [(aF P w).hash k.2,Xz (aF P w) k.1]) && decide (VQ [(aF P w).hash k.2,Xz (aF P w) k.1]<2 ^ 63))=true
   · rw [if_pos hr];rw [if_pos hr] at h;exact Tt (by rw [show k.1.length+3=1+(k.1.length+2) by omega] at h;simpa [X9] using h)
   · rw [if_neg hr];rw [if_neg hr] at h;exact Tf (Wm (Tt (by rw [show k.1.length+3=1+(k.1.length+2) by omega] at h;simpa [X9] using h)))
theorem pC {P:TF} {w:T3} {A:Ut} {E:Tp->Tv->Prop} {s:Tv} {k:az} {a:Tn} {Q:Bool->Tv->Prop} (hk:IsNesm P w s.heap k a) (h:Q true s):TM (Ug P w) A (eqIsQuiet 8 (.ref a)) Q E s:=by
 have hT:=hk.typeIs;obtain ⟨o,n,c,u,ho,hc,hd,hb,hk⟩:=hk;unfold eqIsQuiet;refine Tf (Vb hT F.slot_tuple_eq.lookup ?_);show TM _ _ (isInstance (.ref a) (.type "tuple") >>= _) _ _ s;refine Tf (Wf hT isSubtype_tuple_tuple ?_);simp only [Xy,UQ,if_false];refine Tf (U2 ho hd ?_);refine Tf ?_;show TM _ _ (forIn #[u,Uc c] _ _) _ _ s;rw [<- Xj];refine wpAny_forIn_list _ (fun rest r s'=>r.1=none/\s'=s/\∀ v∈rest,v=.ref c∨v=u) _ ?_ ?_ _ _ ⟨rfl,rfl,fun v hv=>by simpa [or_comm] using hv⟩
 · rintro v rest r s' ⟨hr,rfl,xT⟩;have DY:∀ z∈rest,z=.ref c∨z=u:=fun z hz=>xT z (T1 _ hz);rcases xT v T2 with rfl | rfl
   · refine Tf (qd hb ?_);simp only [Xy,UQ,if_false];exact Tt ⟨rfl,rfl,DY⟩
   · rw [eqIsQuiet_byValue _ ((aF P w).byValue _ _ hk)];refine Tf (Tt ?_);simp only [Xy,UQ,if_false];exact Tt ⟨rfl,rfl,DY⟩
 · rintro ⟨r1,r2⟩ s' ⟨hr,rfl,_⟩;simp only at hr;subst hr;exact Tt h
def cq (P:TF) (w:T3):HeapKind P w az where
 is:=IsNesm P w
 hash:=kJ P w
 draws:=fun k=>k.1.length+3
 room:=fun A=>A.units+1<Vk
 inj:=fun hx hy=>hx.inj hy
 keeps:=fun x ho hd hs=>x.keeps ho hd hs
 pyHash:=fun hu hk h=>oM hu hk h
 eqBool:=fun hu hx hy h=>ss hx hy hu _ _ _ _ h
 quiet:=fun hk h=>pC hk h
def oT (P:TF) (w:T3) (xs:List (az×Tn×Tp)) (a:Tn) (h:US):Prop:=∃ o es ep,h.get? a=some o/\o.ExactDict/\o.data=.dict es ep/\es.toList=xs.map (entryOfKey (cq P w))/\(xs.map (·.1)).Nodup
def MKAt (H:Hp) (k:az) (b:Tn):Prop:=∃ c,H b=some (.tup [kV k.2,.ref c])/\H c=some (.tup (k.1.map kV))
abbrev KTm (H:Hp):List (az×V)->List (az×Tn×Tp)->Prop:=Ud fun p q=>p.1=q.1/\MKAt H q.1 q.2.1/\RelV p.2 q.2.2
def DM (P:TF) (w:T3) (H:Hp) (a:Tn) (f':List (az×V)):Prop:=f'.length<=TN/\(a == Vs)=false/\∃ xs φ,H a=some (.ext φ)/\(∀ h,φ h->oT P w xs a h)/\KTm H f' xs
theorem MKAt.mono {H H':Hp} (k:BB.KT H H') {n:az} {b:Tn} (h:MKAt H n b):MKAt H' n b:=by
 obtain ⟨c,h1,h2⟩:=h;exact ⟨c,k _ _ h1,k _ _ h2⟩
theorem KTm.mono {H H':Hp} (k:BB.KT H H') {f':List (az×V)} {xs:List (az×Tn×Tp)} (r:KTm H f' xs):KTm H' f' xs:=Ud.mapP r fun _ _ z=>⟨z.1,z.2.1.mono k,z.2.2⟩
theorem DM.mono {P:TF} {w:T3} {H H':Hp} (s:Same H H') {a:Tn} {f':List (az×V)} (h:DM P w H a f'):DM P w H' a f':=by
 obtain ⟨z,hd,xs,φ,e,f,r⟩:=h;exact ⟨z,hd,xs,φ,s _ _ e,f,KTm.mono (BB.Same.kt s) r⟩
theorem fD {P:TF} {w:T3} {H:Hp} {h:US} {k:az} {b:Tn} (ok:HOk P w H h) (e:MKAt H k b):IsNesm P w h k b:=by
 obtain ⟨c,h1,h2⟩:=e;obtain ⟨_,its,n,r,e1⟩:=(show ObjOk P w H h b (.tup [kV k.2,.ref c]) from ok b _ h1);cases r with
 | cons r1 r =>
 cases r with
 | cons r2 r =>
 cases r;cases r2;exact ⟨_,n,c,_,e1,rfl,rfl,ir ok h2,kK (P:=P) (w:=w) r1⟩
theorem jG {P:TF} {w:T3} {H:Hp} {h:US} {a:Tn} {f':List (az×V)} (ok:HOk P w H h) (e:DM P w H a f'):f'.length<=TN/\(a == Vs)=false/\∃ xs φ,H a=some (.ext φ)/\KTm H f' xs/\h.DictOfH (cq P w) a xs:=by
 obtain ⟨z,y,xs,φ,ea,f,r⟩:=e;obtain ⟨o,es,ep,h1,h2,h3,h4,h5⟩:=f h (ok a _ ea).1;refine ⟨z,y,xs,φ,ea,r,o,es,ep,h1,h2,h3,h4,fun x hx=>?_,h5⟩
 have all:∀ {l:List (az×V)} {m:List (az×Tn×Tp)},KTm H l m->∀ x∈m,(cq P w).is h x.1 x.2.1:=by
  intro l m q;induction q with
  | nil=>intro x hx;exact nomatch hx
  | @cons p q ps qs hq t ih =>
    intro x hx;rcases TR.mp hx with e | hx
    · subst e;exact fD ok hq.2.1
    · exact ih x hx
 exact all r x hx
theorem KTm.val {H:Hp} {f':List (az×V)} {xs:List (az×Tn×Tp)} (r:KTm H f' xs) (k:az):RelO (aW f' k) ((W6 xs k).map (·.2)):=by
 induction r with
 | nil=>exact VM
 | @cons p q ps qs hq t ih =>
   by_cases e:p.1=k
   · rw [bF e];have:W6 (q::qs) k=some q.2:=by simp [W6,Wj,<- hq.1,e]
     rw [this];exact hq.2.2
   · rw [bE e];have:W6 (q::qs) k=W6 qs k:=by simp [W6,Wj,<- hq.1,e]
     rw [this];exact ih
theorem KTm.put {H:Hp} {f':List (az×V)} {xs:List (az×Tn×Tp)} (r:KTm H f' xs) (k:az) {b:Tn} {y:V} {u:Tp} (hb:MKAt H k b) (ry:RelV y u):KTm H (putK f' k y) (Yr xs k b u):=by
 have hv:=KTm.val r k;cases e:aW f' k with
 | none =>
   rw [e] at hv
   have hn:W6 xs k=none:=by
    cases q:W6 xs k with
    | none=>rfl
    | some p=>rw [q] at hv;exact hv.elim
   rw [li y e,storedH_new hn];exact BB.P2.append r (.cons ⟨rfl,hb,ry⟩ .nil)
 | some v0 =>
   rw [e] at hv
   obtain ⟨p,hp⟩:∃ p,W6 xs k=some p:=by
    cases q:W6 xs k with
    | none=>rw [q] at hv;exact hv.elim
    | some p=>exact ⟨p,rfl⟩
   rw [storedH_old hp];unfold putK;rw [if_pos (by rw [dM,e];rfl)]
   have all:∀ {l:List (az×V)} {m:List (az×Tn×Tp)},KTm H l m->KTm H (l.map fun kv=>if kv.1=k then (kv.1,y) else kv) (m.map (putAt k u)):=by
    intro l m q;induction q with
    | nil=>exact .nil
    | @cons p q ps qs hq t ih =>
      refine .cons ?_ ih;unfold putAt;dsimp only;by_cases z:p.1=k
      · rw [if_pos z,if_pos (by rw [<- hq.1];exact z)];exact ⟨hq.1,hq.2.1,ry⟩
      · rw [if_neg z,if_neg (by rw [<- hq.1];exact z)];exact hq
   exact all r
section
variable {X:Cx} {pins:List (Tn×VN)} {σ:St} {H:Hp} {s:Tv} {o i value:UP} {pos pos':Xv} {td ty tv:TE}
inductive tV (P:TF) (w:T3) (x y:V) (H:Hp) (Q:VK):Prop
 | mk (a b:Tn) (k:az) (f':List (az×V)) (v:V) (z0:x=.ref a) (z1:y=.ref b) (z2:DM P w H a f') (z3:MKAt H k b) (z4:aW f' k=some v) (z5:Q v H):tV P w x y H Q
def t7 (P:TF) (w:T3) (td ty:TE):TE:=fun σ H Q=>td σ H fun x H1=>ty σ H1 fun y H2=>tV P w x y H2 Q
theorem o7 (hu:X.A.units+2<Vk) (ho:PE X o td) (hi:PE X i ty) (hs:wa i):PE X (.Subscript o i pos) (t7 X.prog X.w td ty):=by
 intro pins s σ H Q I h;refine qy PySem.F.slot_dict_getitem.lookup hs (thn (ho pins s σ H _ I h) fun u s1 ⟨x,H1,I1,rx,q1⟩=>thn (hi pins s1 σ H1 _ I1 q1) fun iv s2 ⟨y,H2,I2,ry,q2⟩=>?_);obtain ⟨a,b,k,f',v,rfl,rfl,hd,hk,hv,q⟩:=q2;obtain rfl:u=Uc a:=rx;obtain rfl:iv=Uc b:=ry;obtain ⟨_,_,xs,φ,ea,rel,dd⟩:=jG I2.hok hd;obtain ⟨w',hw,Bi⟩:=RelO.some_of (v:=v) (o:=(W6 xs k).map (·.2)) (by rw [<- hv];exact KTm.val rel k);obtain ⟨p,hp,AE⟩:=T8.mp hw;refine ⟨dd.typeIs,wpAny_getItem_heap (knd:=cq X.prog X.w) (show X.A.units+1+1<Vk from hu) (fD I2.hok hk) dd hp ?_⟩;rw [AE];exact ⟨v,H2,I2.tok _,Bi,q⟩
inductive tW (P:TF) (w:T3) (x y v:V) (H:Hp) (R:Hp->Prop):Prop
 | mk (a b:Tn) (k:az) (f':List (az×V)) (z0:x=.ref a) (z1:y=.ref b) (z2:DM P w H a f') (z3:MKAt H k b) (z4:f'.length<TN) (z5:∀ H',(∀ c o,c≠a->H c=some o->H' c=some o)->DM P w H' a (putK f' k v)->R H'):tW P w x y v H R
def vy (P:TF) (w:T3) (td ty tv:TE):TS:=fun D σ H=>tv σ H fun v H1=>td σ H1 fun x H2=>ty σ H2 fun y H3=>tW P w x y v H3 fun H4=>D.nx σ H4
theorem uc (hu:X.A.units+2<Vk) (ho:PE X o td) (hi:PE X i ty) (hv:PE X value tv) (hs:swapsWith value (some (.Subscript o i pos')) pos.line X.env=pure false) :
 PS X (.Assign [.Subscript o i pos'] value pos) (vy X.prog X.w td ty tv):=by
 intro pins s σ H D I h;refine wpAny_Assign_Subscript (thn (hv pins s σ H _ I h) fun r s1 ⟨v,H1,I1,rv,q1⟩=>thn (ho pins s1 σ H1 _ I1 q1) fun u s2 ⟨x,H2,I2,rx,q2⟩=>thn (hi pins s2 σ H2 _ I2 q2) fun iv s3 ⟨y,H3,I3,ry,q3⟩=>?_) hs;obtain ⟨a,b,k,f',rfl,rfl,hd,hk,hl,q⟩:=q3;obtain rfl:u=Uc a:=rx;obtain rfl:iv=Uc b:=ry;obtain ⟨z,zu,xs,φ,ea,rel,dd⟩:=jG I3.hok hd;have hz:xs.length<=TN:=by rw [<- TB rel];exact z
 have J4:(putK f' k v).length<=TN:=by have:=bX f' k v;omega
 refine wpAny_setItem_heap (knd:=cq X.prog X.w) (hsz:=hz) (show X.A.units+1+1<Vk from hu) (fD I3.hok hk) dd fun h' Bq hs=>?_;obtain ⟨ob,es,ep,hq,h2,h3,h4,_,h5⟩:=Bq;have ne:oT X.prog X.w (Yr xs k b r) a h':=⟨ob,es,ep,hq,h2,h3,h4,h5⟩
 have I4:=gE (ob:=.ext (oT X.prog X.w (Yr xs k b r) a)) (t':=s3.toks+(cq X.prog X.w).draws k) I3 (by rw [ea];exact VM) hs ⟨ob,hq⟩ ⟨ne,⟨ob,hq⟩,fun h1 h2 p kk=>by
  obtain ⟨o1,GU,GV,g1,g2⟩:=p;exact ⟨o1,GU,GV,kk _ g1,g2⟩⟩
 have kt:BB.KT H3 (upd H3 a (.ext (oT X.prog X.w (Yr xs k b r) a))):=fun c ys ec=>by
  rw [ak (gR ec ea (fun z=>nomatch z))];exact ec
 exact ⟨σ,_,I4,q _ (fun c o hc e=>by rw [ak hc];exact e) ⟨J4,zu,_,_,ab,fun _ p=>p,KTm.mono kt (KTm.put rel k hk rv)⟩⟩
def wd (P:TF) (w:T3):TE:=fun _ H Q=>∀ p H',H p=none->Same H H'->DM P w H' p []->Q (.ref p) H'
theorem oy:PE X (.Dict [] [] pos) (wd X.prog X.w):=fun pins s σ H Q I h=>by
 have hn:H s.heap.objs.size=none:=I.hok.fresh (To _);have ne:oT X.prog X.w [] s.heap.objs.size (s.heap.push { cls:=.type "dict",data:=.dict #[] }):=⟨_,#[],0,TC _ rfl,⟨rfl,rfl,rfl⟩,rfl,rfl,XR⟩;refine wpAny_Dict_empty ⟨.ref s.heap.objs.size,_,I.laid (a:=s.heap.objs.size) (o:=.ext (oT X.prog X.w [] s.heap.objs.size)) (t':=s.toks) (fun _ _ q=>Tr _ q) (To _) ⟨ne,⟨_,TC _ rfl⟩,fun h1 h2 p kk=>?_⟩,rfl,h _ _ hn (ad hn _) ⟨T4 _,beq_eq_false_iff_ne.mpr (Vp (Ui I.big)),[],_,ab,fun _ p=>p,.nil⟩⟩;obtain ⟨o1,GU,GV,g1,g2⟩:=p;exact ⟨o1,GU,GV,kk _ g1,g2⟩
end
end L2
namespace L2
open PySem PySem.Spec PyProof.Rows
section
variable {X:Cx} {pins:List (Tn×VN)} {σ:St} {H:Hp} {s:Tv} {o i e f:UP} {pos apos xZ:Xv} {td ty tx:TE}
theorem qo {f':List (az×V)} {xs:List (az×Tn×Tp)} (rel:KTm H f' xs) (k:az):(aW f' k).isSome=(W6 xs k).isSome:=by
 have q:=(KTm.val rel k).isSome_eq;rw [Y4] at q;exact q
inductive vq (f:Bool->Bool) (P:TF) (w:T3) (y x:V) (H:Hp) (Q:VK):Prop
 | mk (a b:Tn) (k:az) (f':List (az×V)) (z0:x=.ref a) (z1:y=.ref b) (z2:DM P w H a f') (z3:MKAt H k b) (z4:Q (.bl (f (aW f' k).isSome)) H):vq f P w y x H Q
def vg (f:Bool->Bool) (P:TF) (w:T3) (ty td:TE):TE:=fun σ H Q=>ty σ H fun y H1=>td σ H1 fun x H2=>vq f P w y x H2 Q
theorem uQ (hu:X.A.units+2<Vk) (hi:PE X i ty) (ho:PE X o td):PC X .In i o (vg (fun b=>b) X.prog X.w ty td):=by
 intro pins s σ H Q I h;refine thn (hi pins s σ H _ I h) fun iv s1 ⟨y,H1,I1,ry,q1⟩=>thn (ho pins s1 σ H1 _ I1 q1) fun u s2 ⟨x,H2,I2,rx,q2⟩=>?_;obtain ⟨a,b,k,f',rfl,rfl,hd,hk,q⟩:=q2;obtain rfl:u=Uc a:=rx;obtain rfl:iv=Uc b:=ry;obtain ⟨_,zu,xs,φ,ea,rel,dd⟩:=jG I2.hok hd;refine wpAny_in_heap (knd:=cq X.prog X.w) (show X.A.units+1+1<Vk from hu) (fD I2.hok hk) zu dd ?_;rw [<- qo rel k];exact ⟨.bl _,H2,I2.tok _,rfl,q⟩
theorem qb (hu:X.A.units+2<Vk) (hi:PE X i ty) (ho:PE X o td):PC X .NotIn i o (vg (fun b=>!b) X.prog X.w ty td):=by
 intro pins s σ H Q I h;refine thn (hi pins s σ H _ I h) fun iv s1 ⟨y,H1,I1,ry,q1⟩=>thn (ho pins s1 σ H1 _ I1 q1) fun u s2 ⟨x,H2,I2,rx,q2⟩=>?_;obtain ⟨a,b,k,f',rfl,rfl,hd,hk,q⟩:=q2;obtain rfl:u=Uc a:=rx;obtain rfl:iv=Uc b:=ry;obtain ⟨_,zu,xs,φ,ea,rel,dd⟩:=jG I2.hok hd;refine wpAny_notIn_heap (knd:=cq X.prog X.w) (show X.A.units+1+1<Vk from hu) (fD I2.hok hk) zu dd ?_;rw [<- qo rel k];exact ⟨.bl _,H2,I2.tok _,rfl,q⟩
inductive qt (P:TF) (w:T3) (x y z:V) (H:Hp) (Q:VK):Prop
 | mk (a b:Tn) (k:az) (f':List (az×V)) (z0:x=.ref a) (z1:y=.ref b) (z2:DM P w H a f') (z3:MKAt H k b) (z4:Q ((aW f' k).getD z) H):qt P w x y z H Q
def uO (P:TF) (w:T3) (td ty tx:TE):TE:=fun σ H Q=>td σ H fun x H1=>∃ a f',x=.ref a/\DM P w H1 a f'/\ty σ H1 fun y H2=>tx σ H2 fun z H3=>qt P w x y z H3 Q
theorem sR {a:Tn} {f':List (az×V)} (I:Inv X pins σ H s) (d:DM X.prog X.w H a f'):s.TypeIs (.ref a) "dict"/\(∀ b,Uc a=.ref b->∃ ob,s.heap.get? b=some ob/\ob.dict=none):=by
 obtain ⟨_,hd,xs,φ,_,_,dd⟩:=jG I.hok d;refine ⟨dd.typeIs,fun b q=>?_⟩;cases q;obtain ⟨ob,_,_,h1,h2,_⟩:=dd;exact ⟨ob,h1,h2.2.1⟩
theorem r9 (hu:X.A.units+2<Vk) (ho:PE X o td) (he:PE X e ty) (hf:PE X f tx) (m:M2 X o "get" apos e f xZ):PE X (.Call (.Attribute o "get" apos) [e,f] [] xZ) (uO X.prog X.w td ty tx):=by
 intro pins s σ H Q I h;refine wpAny_Call_method m.base m.few m.line Yh WE PySem.F.type_dict_get (thn (ho pins s σ H _ I h) fun u s1 ⟨x,H1,I1,rx,a,Ql,ex,d,q1⟩=>?_);subst ex;obtain rfl:u=Uc a:=rx;obtain ⟨t1,t2⟩:=sR I1 d;refine ⟨t1,t2,?_⟩;rw [m.trees]
 refine WK rfl (XW (Vg (thn (he pins s1 σ H1 _ I1 q1) fun iv s2 ⟨y,H2,I2,ry,q2⟩ =>
  Vg (thn (hf pins s2 σ H2 _ I2 q2) fun fv s3 ⟨z,H3,I3,rz,q3⟩=>VJ ?_))))
 obtain ⟨a',b,k,f',Qm,rfl,hd,hk,q⟩:=q3;cases Qm;obtain rfl:iv=Uc b:=ry;obtain ⟨_,zu,xs,φ,ea,rel,dd⟩:=jG I3.hok hd;refine call_meetsIn WE dd.typeIs Ym (Yj _ _ _) (meetsH_dict_get_default (cq X.prog X.w) a b zu fv) ⟨(show X.A.units+1+1<Vk from hu),k,xs,fD I3.hok hk,dd,?_⟩;exact ⟨_,H3,I3.tok _,(KTm.val rel k).getD rz,q⟩
inductive n6 (P:TF) (w:T3) (x:V) (vs:List V) (H:Hp) (Q:VK):Prop
 | mk (a b:Tn) (v:V) (k:az) (f':List (az×V)) (z0:x=.ref a) (z1:vs=[.ref b,v]) (z2:DM P w H a f') (z3:MKAt H k b) (z4:f'.length<TN)
  (z5:∀ u,aW f' k=some u->Q u H) (z6:aW f' k=none->∀ H',(∀ c o,c≠a->H c=some o->H' c=some o)->DM P w H' a (putK f' k v)->Q v H'):n6 P w x vs H Q
theorem gr (hu:X.A.units+2<Vk):MtM X "dict.setdefault" (n6 X.prog X.w):=by
 intro pins s σ H x vs v us Q I rx rv h;obtain ⟨a,b,y,k,f',rfl,rfl,e,eb,l,q1,q2⟩:=h;cases rx;cases rv with
 | cons r1 rv =>
 cases rv with
 | cons r2 rv =>
 cases rv;cases r1;obtain ⟨z,hd,xs,φ,ea,rel,dd⟩:=jG I.hok e;have hz:xs.length<=TN:=by rw [<- TB rel];exact z
 have hl:(putK f' k y).length<=TN:=by have:=bX f' k y;omega
 have hT:s.TypeIs (.ref a) "dict":=dd.typeIs;refine call_meetsIn XG hT PySem.F.entry_dict_setdefault (PySem.F.args_dict_setdefault_3 _ _ _) (bb_meets_setdefault (cq X.prog X.w) a b _ hd) ⟨(show X.A.units+1+1<Vk from hu),k,xs,fD I.hok eb,dd,hz,fun p hp=>?_,fun hn h' Bq hs=>?_⟩
 · have hr:=KTm.val rel k;rw [hp] at hr;cases hv:aW f' k with
   | none=>rw [hv] at hr;exact hr.elim
   | some u =>
     rw [hv] at hr;exact ⟨u,H,I.tok _,hr,q1 u hv⟩
 · have hr:=KTm.val rel k;rw [hn] at hr;cases hv:aW f' k with
   | some u=>rw [hv] at hr;exact hr.elim
   | none =>
     obtain ⟨ob,es,ep,hq,h2,h3,h4,_,h5⟩:=Bq;have ne:oT X.prog X.w (Yr xs k b _) a h':=⟨ob,es,ep,hq,h2,h3,h4,h5⟩
     have I4:=gE (t':=s.toks+(cq X.prog X.w).draws k) I (by rw [ea];exact VM) hs ⟨ob,hq⟩ (ob:=.ext (oT X.prog X.w (Yr xs k b _) a)) ⟨ne,⟨ob,hq⟩,fun h1 h2 p kk=>by
      obtain ⟨o1,GU,GV,g1,g2⟩:=p;exact ⟨o1,GU,GV,kk _ g1,g2⟩⟩
     have kt:∀ ψ:US->Prop,BB.KT H (upd H a (.ext ψ)):=fun ψ c ys ec=>by
      rw [ak (gR ec ea (fun z=>nomatch z))];exact ec
     exact ⟨y,_,I4,r2,q2 hv _ (fun c o hc e=>by rw [ak hc];exact e) ⟨hl,hd,_,_,ab,fun _ p=>p,KTm.mono (kt _) (KTm.put rel k eb r2)⟩⟩
inductive tK (P:TF) (w:T3) (xs:List V) (H:Hp) (Q:VK):Prop
 | mk (a:Tn) (f':List (az×V)) (z0:xs=[.ref a]) (z1:DM P w H a f') (z2:∀ (l:Tn) (bs:List Tn),H l=none->Ud (fun kv b=>MKAt H kv.1 b) f' bs->Q (.ref l) (upd H l (.lst (bs.map V.ref)))):tK P w xs H Q
theorem sF {f':List (az×V)} {ys:List (az×Tn×Tp)} (rel:KTm H f' ys):Ud (fun kv b=>MKAt H kv.1 b) f' (ys.map fun y=>y.2.1):=by
 induction rel with
 | nil=>exact .nil
 | cons h t ih=>exact .cons (by rw [h.1];exact h.2.1) ih
theorem qc (hc:X.calm=true):gS X (.type "list") (tK X.prog X.w):=by
 intro pins s σ H xs us Q I r h;obtain ⟨a,f',rfl,e,q⟩:=h;obtain ⟨u,rfl,rx⟩:=vals1 r;cases rx;obtain ⟨z,hd,ys,φ,ea,rel,dd⟩:=jG I.hok e;have hT:=dd.typeIs;obtain ⟨o,es,ep,ho,Sf,Jn,he,Jm,hn⟩:=dd;obtain ⟨o',zK,A9⟩:=hT;have eo:o'=o:=T5 (zK.symm.trans ho);subst eo;have hl:f'.length=ys.length:=TB rel
 have Jo:es.toList.map (·.key)=ys.map fun y=>Uc y.2.1:=by
  rw [he,VE];rfl
 have hsz:es.size<=TN:=by
  have:=congrArg Wo Jo;rw [Te,Te,Uk] at this;omega
 have hh:X.A.in1.in1.handled=none:=I.ok.hd hc;refine bb_list_keys hh hd zK A9 Jn hsz fun h' acc c hk hS xX=>?_;have hp:Ud (fun kv b=>MKAt H kv.1 b) f' (ys.map fun y=>y.2.1):=sF rel;refine ⟨.ref s.heap.objs.size,upd H s.heap.objs.size (.lst ((ys.map fun y=>y.2.1).map V.ref)),?_,rfl,q _ _ I.fresh hp⟩;refine I.laid (t':=s.toks) hk (To _) ⟨by rw [Te,Te];omega,acc.toList,c,?_,hS⟩;rw [xX,Jo];clear hn Jm he Jo xX hS hl z rel hp q;induction ys with
 | nil=>exact .nil
 | cons y ys ih=>exact .cons rfl ih
def xu (P:TF) (w:T3) (r:V->List V->Hp->VK->Prop) (to:TE) (t:TA):TE:=fun σ H Q=>to σ H fun x H1=>(∃ a f',x=.ref a/\DM P w H1 a f')/\t σ H1 fun xs H2=>r x xs H2 Q
theorem sA {es:List UP} {to:TE} {t:TA} {name:T6} {id:String} {r:V->List V->Hp->VK->Prop} (slot:Slot "dict" name id) (Gm:typeOf (.builtin id)=pure (.type "method_descriptor")) (hm:MtR X id r) (ho:PE X o to) (ha:PA X (e::es) t)
 (Ab:attributeBase o name X.env (VY o X.env)=VY o X.env:=by rfl)
 (Ez:((XD xZ (UD (e::es) X.env)).all (fun x=>!x.1) && (backToKw xZ (keywordEach [] X.env)).all (fun x=>x.1.isSome)
  && decide ((e::es).length+([]:List Keyword).length+(if ([]:List Keyword).isEmpty then 0 else 1)<30))=true:=by rfl)
 (Ac:(apos.endLine == xZ.line)=true:=by rfl) (hs:UD (e::es) X.env=(false,VY e X.env)::UD es X.env:=by rfl) (Ay:(XD xZ (UD es X.env)).any (·.1)=false:=by rfl) :
 PE X (.Call (.Attribute o name apos) (e::es) [] xZ) (xu X.prog X.w r to t):=by
 intro pins s σ H Q I h;refine wpAny_Call_method_late Ab Ez Ac rfl (thn (ho pins s σ H _ I h) fun v s1 ⟨x,H1,I1,r1,⟨a,f',ex,hd⟩,q1⟩=>?_);subst ex;obtain rfl:v=Uc a:=r1;obtain ⟨h1,h2⟩:=sR I1 hd;refine ⟨"dict",id,Yh,slot,Gm,h1,h2,?_⟩;have hA:=ha xZ pins s1 σ H1 _ I1 q1;rw [hs] at hA ⊢;refine WK (by show (false || (XD xZ (UD es X.env)).any (·.1))=false;rw [Ay] <;> rfl) (XW ?_);exact thn hA fun vs s2 ⟨xs,H2,I2,rv,q2⟩=>hm pins s2 σ H2 (.ref a) xs (.ref a) vs Q I2 rfl rv q2
end
end L2
namespace BB
open PySem L2
theorem lV {K:Tg} {H:Hp}:∀ {ps:List (List Int×Th)} {as:List Tn},PsAtK K H ps as->∃ bs,Ud (fun (p:List Int×Th) b=>H b=some (.tup (p.1.map V.int))) ps bs/\bs.length=as.length/\∀ (i:Nat) x b,(as.map V.ref)[i]?=some x->bs[i]?=some b->∃ a ta,x=.ref a/\H a=some (.tup [.ref b,.ref ta])
 | _,_,.nil=>⟨[],.nil,rfl,fun i x b h=>by simp at h⟩
 | _,_,.cons r h=>by
   obtain ⟨pa,ta,h1,h2,_⟩:=r;obtain ⟨bs,g1,g2,g3⟩:=lV h;refine ⟨pa::bs,.cons h2 g1,by rw [Tx,Tx,g2],fun i x b hx hb=>?_⟩;cases i with
   | zero =>
     simp at hx hb;subst hx;subst hb;exact ⟨_,ta,rfl,h1⟩
   | succ i=>exact g3 i x b (by simpa using hx) (by simpa using hb)
theorem tD {α:Type} {F:Hp->α->Tn->Prop} {js:List (Option Nat)} {g:TG} {tt:TT} {te:TE} {σ:St} {J:It} {H:Hp} {xs:List V} {fin:Tn->Hp->Prop} (zs:List α) (p:α->Bool) (hF:∀ H1 H2 z p,KT H1 H2->F H1 z p->F H2 z p) (hz:zs.length=xs.length) (hn:xs.length<=1000000)
 (EK:∀ i H2,L2.Same H H2->i<xs.length->J.go i H2) (zk:∀ H2,L2.Same H H2->J.stop xs.length H2) (AF:∀ (i:Nat) H2 x H3,L2.Same H H2->i<xs.length->J.yld i H2 x H3->H3=H2/\xs[i]?=some x)
 (hb:∀ (i:Nat) x z H2 (R:VK) (W':Hp->Prop),xs[i]?=some x->zs[i]?=some z->L2.Same H H2->(p z=true->∀ H3 q,L2.Same H2 H3->F H3 z q->R (.ref q) H3)->(p z=false->∀ H3,L2.Same H2 H3->W' H3)->g x (cσ js σ) H2 fun yc H3=>tt yc H3 fun b H4=>if b=true then te yc H4 R else W' H4)
 (zb:∀ D H' as,H D=none->L2.Same H H'->H' D=some (.lst (as.map V.ref))->Ud (F H') (zs.filter p) as->fin D H') :
 ∀ D,H D=none->∃ (n:Nat) (W:Nat->Hp->Prop),W 0 (upd H D (.lst []))/\i5 js g tt te σ J D n W fun H'=>fin D H':=by
 intro D hD;refine ⟨xs.length,fun i H'=>i<=xs.length/\L2.Same H H'/\∃ as:List Tn,H' D=some (.lst (as.map V.ref))/\Ud (F H') ((zs.take i).filter p) as,⟨T4 _,ad hD _,[],by rw [ab];rfl,.nil⟩,?_⟩;rintro i H' ⟨hi,s1,as,e1,hp⟩;by_cases xV:i<xs.length
 · refine .inr ⟨xV,EK i H' s1 xV,fun v H1 hy=>?_⟩;obtain ⟨e,hx⟩:=AF i H' v H1 s1 xV hy;subst e;obtain ⟨z,zz⟩:∃ z,zs[i]?=some z:=⟨_,Ti (by omega)⟩;have hl:((zs.take i).filter p).length=as.length:=TB hp;have yD:=Xw p (zs.take i);rw [Ul] at yD;refine hb i v z _ _ _ hx zz s1 (fun FN H3 q s3 KD=>⟨_,s3 _ _ e1,?_,xV,aw (s1.trans s3) hD,as++[q],?_,?_⟩) (fun FN H3 s3=>⟨xV,s1.trans s3,as,s3 _ _ e1,?_⟩)
   · rw [Te];have:TN=16777216:=Xs;omega
   · rw [ab,TH];rfl
   · have kt:KT H3 (upd H3 D (.lst (as.map V.ref++[.ref q]))):=aT (s3 _ _ e1);rw [take_snoc zz,XU,Vz,if_pos FN,List.filter_nil];exact P2.append (P2.mp (fun x y e=>hF _ _ _ _ ((Same.kt s3).trans kt) e) hp) (.cons (hF _ _ _ _ kt KD) .nil)
   · rw [take_snoc zz,XU,Vz,if_neg (by rw [FN];exact TV),List.filter_nil,Up];exact P2.mp (fun x y e=>hF _ _ _ _ (Same.kt s3) e) hp
 · have yq:i=xs.length:=by omega
   subst yq;refine .inl ⟨zk _ s1,zb D H' as hD s1 e1 ?_⟩;rw [UY (by omega)] at hp;exact hp
def aQ (ins:List (T6×Int)):Th:=.knot (((ins.filter fun k=>decide (k.2=0))[0]?.map (·.1)).getD (Tu "")) []
theorem eX {ins:List (T6×Int)} {k:T6×Int} (h:(ins.filter fun k=>decide (k.2=0))[0]?=some k):aQ ins=.knot k.1 []:=by
 unfold aQ;rw [h];rfl
theorem jW {ins:List (T6×Int)} (g:cf ins):∃ k,(ins.filter fun k=>decide (k.2=0))[0]?=some k/\k.2=0:=by
 obtain ⟨k,hk,hz⟩:=g.zero;have hm:k∈ins.filter fun k=>decide (k.2=0):=VG.mpr ⟨hk,decide_eq_true hz⟩;have hl:0<(ins.filter fun k=>decide (k.2=0)).length:=List.length_pos_of_mem hm;refine ⟨_,Ti hl,?_⟩;exact of_decide_eq_true (VG.mp (Xx hl)).2
def cK (ins:List (T6×Int)):Nat:=ins.findIdx fun k=>decide (k.2=0)
theorem eY:∀ {ins:List (T6×Int)} {k:T6×Int},(ins.filter fun k=>decide (k.2=0))[0]?=some k->ins[cK ins]?=some k
 | [],k,h=>by simp at h
 | x::xs,k,h=>by
   unfold cK;by_cases hx:x.2=0
   · rw [Vz,if_pos (decide_eq_true hx)] at h;rw [List.findIdx_cons,decide_eq_true hx];simpa using h
   · rw [Vz,if_neg (by simpa using hx)] at h;rw [List.findIdx_cons,decide_eq_false hx];simpa [cK] using eY h
def MkAt (H:Hp) (ins:List (T6×Int)) (rows:List (List Th)) (f':List (List Key×V)):Prop :=
 ∀ (s k:Nat) (row:List Th) (p:Th),k<3->rows[s]?=some row->row[cK ins]?=some p->∃ a,aW f' [Um (s:Int),Um (k:Int)]=some (.ref a)/\At H p a
theorem MkAt.mono {H H':Hp} (kt:KT H H') {ins:List (T6×Int)} {rows:List (List Th)} {f':List (List Key×V)} (h:MkAt H ins rows f'):MkAt H' ins rows f':=fun s k row p hk hr hp=>by
 obtain ⟨a,h1,h2⟩:=h s k row p hk hr hp;exact ⟨a,h1,h2.mono kt⟩
theorem pX:∀ {ts:List Th} {i:Nat},(dvs ts)[i]?=(ts[i]?).map Th.dv
 | [],i=>by rw [dvs];simp
 | t::ts,0=>by rw [dvs];rfl
 | t::ts,i+1=>by rw [dvs,UH,UH];exact pX
theorem qJ:∀ ts:List Th,(dvs ts).length=ts.length
 | []=>by rw [dvs];rfl
 | t::ts=>by rw [dvs,Tx,Tx,qJ ts]
theorem pi {α:Type} {f:α->Th} {H:Hp}:∀ {zs:List α} {as:List Tn},Ud (fun z a=>At H (f z) a) zs as->Ats H (zs.map f) as
 | _,_,.nil=>.nil
 | _,_,.cons r h=>.cons r (pi h)
end BB
namespace BB
open PySem L2
theorem cF {x:List Int×Th} {pre:List Int}:∀ {ts:List Th} {i:Int},x∈pls pre i ts↔∃ (j:Nat) (t:Th),ts[j]?=some t/\x∈t.pl (pre++[i+(j:Int)])
 | [],i=>by rw [pls];simp
 | t::ts,i=>by
   rw [pls,UA,cF (ts:=ts) (i:=i+1)];constructor
   · rintro (h | ⟨j,u,hu,h⟩)
     · exact ⟨0,t,rfl,by simpa using h⟩
     · refine ⟨j+1,u,by simpa using hu,?_⟩;rw [show i+((j+1:Nat):Int)=i+1+(j:Int) by omega];exact h
   · rintro ⟨j,u,hu,h⟩;cases j with
     | zero =>
       simp at hu;subst hu;exact .inl (by simpa using h)
     | succ j =>
       refine .inr ⟨j,u,by simpa using hu,?_⟩;rw [show i+1+(j:Int)=i+((j+1:Nat):Int) by omega];exact h
theorem f8 {n:T6} {ks:List Th} {pre:List Int} {j:Nat} {t:Th} (h:ks[j]?=some t) {x:List Int×Th} (hx:x∈t.pl (pre++[(j:Int)])):x∈(Th.knot n ks).pl pre:=by
 rw [Th.pl];refine T1 _ (cF.mpr ⟨j,t,h,?_⟩);rw [U6];exact hx
theorem db (t:Th) (pre:List Int):(pre,t)∈t.pl pre:=by rw [Th.pl_eq];exact T2 ..
theorem sY:∀ (n:Nat) (l r:Th) (pre:List Int),l.size<=n->∀ x∈(l.com r).pl pre,∃ u,(x.1,u)∈l.pl pre
 | 0,l,r,pre,hn=>by have:=l.size_pos;omega
 | n+1,.call a b,r,pre,hn=>fun x hx=>by
   rw [ig,aI] at hx
   · rw [if_neg TV,hole,Th.pl,pls] at hx;rw [TY.mp hx];exact ⟨_,db _ _⟩
   · intro _ _ _ _ h;cases h
 | n+1,.knot m ks,r,pre,hn=>fun x hx=>by
   rw [ig] at hx;by_cases hs:aI (.knot m ks) r=true
   · rw [if_pos hs,Th.pl] at hx;rcases TR.mp hx with rfl | hx
     · exact ⟨_,db _ _⟩
     · obtain ⟨j,t,ht,hx⟩:=cF.mp hx;rw [U6] at hx;rw [Tw,T8] at ht;obtain ⟨p,hp,rfl⟩:=ht;obtain ⟨h1,h2⟩:=Wg.mp hp;rw [Th.size] at hn;have hz:p.1.size<=aq ks:=aG (Tj h1);obtain ⟨u,hu⟩:=sY n p.1 p.2 _ (by omega) x hx;exact ⟨u,f8 h1 hu⟩
   · rw [if_neg hs,hole,Th.pl,pls] at hx;rw [TY.mp hx];exact ⟨_,db _ _⟩
mutual
/-- a front with holes at some places -/
def Th.cut (D:List Int->Bool) (pre:List Int):Th->Th
 | .knot n ks=>if (Th.knot n ks).isHole=true∨D pre=true then hole else .knot n (cz D pre 0 ks)
 | .call _ _=>hole
def cz (D:List Int->Bool) (pre:List Int) (i:Int):List Th->List Th
 | []=>[]
 | t::ts=>t.cut D (pre++[i])::cz D pre (i+1) ts
end
theorem eZ {D:List Int->Bool} {pre:List Int}:∀ {ts:List Th} {i:Int} {j:Nat},(cz D pre i ts)[j]?=(ts[j]?).map fun t=>t.cut D (pre++[i+(j:Int)])
 | [],i,j=>by rw [cz];simp
 | t::ts,i,0=>by rw [cz];simp
 | t::ts,i,j+1=>by
   rw [cz,UH,UH,eZ,show i+1+(j:Int)=i+((j+1:Nat):Int) by omega]
theorem cH {D:List Int->Bool} {pre:List Int}:∀ {ts:List Th} {i:Int},(cz D pre i ts).length=ts.length
 | [],i=>by rw [cz]
 | t::ts,i=>by rw [cz,Tx,Tx,cH]
theorem fC:∀ {as bs:List Th},(∀ (i:Nat) (a b:Th),as[i]?=some a->bs[i]?=some b->a.lies b=true)->bH as bs=true
 | [],bs,_=>by rw [bH]
 | a::as,[],_=>by rw [bH]
 | a::as,b::bs,h=>by
   rw [bH,h 0 a b rfl rfl,fC fun i x y hx hy=>h (i+1) x y (by simpa using hx) (by simpa using hy)];rfl
theorem dz:∀ {as bs:List Th},bH as bs=true->∀ (i:Nat) (a b:Th),as[i]?=some a->bs[i]?=some b->a.lies b=true
 | [],bs,_,i,a,b,ha,_=>by simp at ha
 | x::as,[],_,i,a,b,_,hb=>by simp at hb
 | x::as,y::bs,h,i,a,b,ha,hb=>by
   rw [bH,VB] at h;cases i with
   | zero =>
     simp at ha hb;subst ha;subst hb;exact h.1
   | succ i=>exact dz h.2 i a b (by simpa using ha) (by simpa using hb)
theorem jK {n:T6} {ks:List Th} {r:Th} (h:aI (.knot n ks) r=true):∃ us,r=.knot n us/\ks.length=us.length/\(Th.knot n ks).isHole=false:=by
 cases r with
 | call a b=>rw [aI] at h;exact absurd h TV;intro _ _ _ _ _ h;cases h
 | knot m us =>
   rw [aI,VB,VB] at h;obtain ⟨⟨h1,h2⟩,h3⟩:=h;obtain rfl:=of_decide_eq_true h2;exact ⟨us,rfl,of_decide_eq_true h3,by simpa using h1⟩
theorem fB {n:T6} {ks us:List Th} (h1:(Th.knot n ks).isHole=false) (h2:ks.length=us.length):aI (.knot n ks) (.knot n us)=true:=by
 rw [aI,h1,decide_eq_true rfl,decide_eq_true h2];rfl
theorem lies_of {n:T6} {ks:List Th} {r:Th} (h:(Th.knot n ks).lies r=true) (hh:(Th.knot n ks).isHole=false):∃ us,r=.knot n us/\ks.length=us.length/\bH ks us=true:=by
 rw [Th.lies,hh,Xb,VB] at h;obtain ⟨us,rfl,hl,_⟩:=jK h.1;exact ⟨us,rfl,hl,h.2⟩
theorem kq (r:Th):hole.lies r=true:=by
 rw [hole,Th.lies];have:(Th.knot star []).isHole=true:=fR;rw [this];rfl
theorem oi {n:T6} {ks cs:List Th} (hl:cs.length=ks.length) (h:(Th.knot n ks).isHole=false):(Th.knot n cs).isHole=false:=by
 rw [Th.isHole,decide_eq_false_iff_not] at h ⊢;rintro ⟨h1,h2⟩;rw [h2] at hl;exact h ⟨h1,UO.mp hl.symm⟩
theorem cC {c:List Int×Int×Int} {ps:List (List Int×Th)}:c∈callsOf ps↔(c.1,Th.call c.2.1 c.2.2)∈ps:=by
 unfold callsOf;rw [YW];constructor
 · rintro ⟨⟨pl,t⟩,hx,e⟩;cases t with
   | knot n ks=>rw [mK] at e;cases e
   | call a b=>rw [mK] at e;cases e;exact hx
 · intro h;exact ⟨_,h,by rw [mK]⟩
theorem ow {n:T6} {ks:List Th} {pre:List Int} {j:Nat} {t:Th} (h:ks[j]?=some t) {c:List Int×Int×Int} (hc:c∈callsOf (t.pl (pre++[(j:Int)]))):c∈callsOf ((Th.knot n ks).pl pre):=cC.mpr (f8 h (cC.mp hc))
section
variable {D:Int->List Int->Bool} {mk f0:Int->Th}
theorem l6 {s l:Int} {q:List Int} (Hl:∀ (r:List Int) (u:Th),D l r=true->(q++r,u)∈(f0 s).pl []->D s (q++r)=true) (Hh:∀ (r:List Int) (u:Th),(r,u)∈(f0 l).pl []->u.isHole=true->D l r=true) :
 ∀ (n:Nat) (f g m:Th) (r:List Int),f.size<=n->(∀ x∈f.pl (q++r),x∈(f0 s).pl [])->(∀ x∈g.pl r,x∈(f0 l).pl [])->f.noCall->g.noCall->f.lies m=true->g.lies m=true->(f.cut (D s) (q++r)).lies (g.cut (D l) r)=true
 | 0,f,g,m,r,hn=>by have:=f.size_pos;omega
 | n+1,.call a b,g,m,r,_=>fun _ _ h=>by rw [Th.noCall] at h;exact h.elim
 | n+1,.knot nm ks,.call a b,m,r,_=>fun _ _ _ h=>by rw [Th.noCall] at h;exact h.elim
 | n+1,.knot nm ks,.knot gm vs,m,r,hn=>fun hF hG nf ng hf hg=>by
   rw [Th.cut];by_cases hc:(Th.knot nm ks).isHole=true∨D s (q++r)=true
   · rw [if_pos hc];exact kq _
   · rw [if_neg hc];have h1:(Th.knot nm ks).isHole=false:=U9.mpr fun z=>hc (.inl z);have h2:¬ D s (q++r)=true:=fun z=>hc (.inr z);have h3:¬ D l r=true:=fun z=>h2 (Hl r _ z (hF _ (db _ _)));have h4:(Th.knot gm vs).isHole=false:=U9.mpr fun z=>h3 (Hh r _ (hG _ (db _ _)) z);obtain ⟨us,rfl,l1,b1⟩:=lies_of hf h1;obtain ⟨Sg,e,l2,b2⟩:=lies_of hg h4;cases e;rw [Th.cut,if_neg (by rintro (z | z);(rw [h4] at z;cases z);exact h3 z)];rw [Th.lies,fB (oi cH h1) (by rw [cH,cH];omega)];rw [Th.size] at hn;rw [Th.noCall] at nf ng
     have:bH (cz (D s) (q++r) 0 ks) (cz (D l) r 0 vs)=true:=fC fun i a b ha hb=>by
      rw [eZ,T8] at ha hb;obtain ⟨k,hk,rfl⟩:=ha;obtain ⟨v,hv,rfl⟩:=hb;have zo:=(Tq.mp hk).1;obtain ⟨u,hu⟩:∃ u,us[i]?=some u:=⟨_,Ti (by omega)⟩;have hz:=aG (Tj hk);rw [U6,Uy];refine l6 Hl Hh n k v u (r++[(i:Int)]) (by omega) (fun x hx=>hF x (f8 hk (by rw [Uy];exact hx))) (fun x hx=>hG x (f8 hv hx)) (bp nf (Tj hk)) (bp ng (Tj hv)) (dz b1 i k u hk hu) (dz b2 i v u hv hu)
     show ((Th.knot nm (cz (D s) (q++r) 0 ks)).isHole || (true && bH (cz (D s) (q++r) 0 ks) (Th.knot nm (cz (D l) r 0 vs)).kids))=true;rw [show (Th.knot nm (cz (D l) r 0 vs)).kids=cz (D l) r 0 vs from rfl,this,Bool.or_comm];rfl
theorem lv {s:Int} {pat:Th} (Hc:∀ c∈callsOf (pat.pl []),(f0 c.2.1).lies (mk c.2.1)=true/\(f0 c.2.1).noCall/\(∀ (r:List Int) (u:Th),(r,u)∈(f0 c.2.1).pl []->u.isHole=true->D c.2.1 r=true)/\∀ (r:List Int) (u:Th),D c.2.1 r=true->(c.1++r,u)∈(f0 s).pl []->D s (c.1++r)=true) :
 ∀ (n:Nat) (f p:Th) (q:List Int),f.size<=n->(∀ x∈f.pl q,x∈(f0 s).pl [])->(∀ c∈callsOf (p.pl q),c∈callsOf (pat.pl []))->f.noCall->f.lies (p.fill fun l _=>mk l)=true->(f.cut (D s) q).lies (p.fill fun l _=>(f0 l).cut (D l) [])=true
 | 0,f,p,q,hn=>by have:=f.size_pos;omega
 | n+1,.call a b,p,q,_=>fun _ _ h=>by rw [Th.noCall] at h;exact h.elim
 | n+1,.knot nm ks,.call l k,q,hn=>fun hF hC nf hf=>by
   obtain ⟨g1,g2,g3,g4⟩:=Hc (q,l,k) (hC _ (cC.mpr (db _ _)));rw [Th.fill] at hf ⊢;have:=l6 (q:=q) g4 g3 (n+1) (.knot nm ks) (f0 l) (mk l) [] hn (by rw [Up];exact hF) (fun x hx=>hx) nf g2 hf g1;rw [Up] at this;exact this
 | n+1,.knot nm ks,.knot pm ps,q,hn=>fun hF hC nf hf=>by
   rw [Th.cut];by_cases hc:(Th.knot nm ks).isHole=true∨D s q=true
   · rw [if_pos hc];exact kq _
   · rw [if_neg hc];have h1:(Th.knot nm ks).isHole=false:=U9.mpr fun z=>hc (.inl z);rw [Th.fill,gD] at hf ⊢;obtain ⟨us,e,l1,b1⟩:=lies_of hf h1;cases e;rw [Te] at l1;rw [Th.lies,fB (oi cH h1) (by rw [cH,Te];omega)];rw [Th.size] at hn;rw [Th.noCall] at nf
     have:bH (cz (D s) q 0 ks) (ps.map fun t=>t.fill fun l _=>(f0 l).cut (D l) [])=true:=fC fun i a b ha hb=>by
      rw [eZ,T8] at ha;rw [Tw,T8] at hb;obtain ⟨k,hk,rfl⟩:=ha;obtain ⟨v,hv,rfl⟩:=hb;have hz:=aG (Tj hk);rw [U6];refine lv Hc n k v (q++[(i:Int)]) (by omega) (fun x hx=>hF x (f8 hk hx)) (fun c Ew=>hC c (ow hv Ew)) (bp nf (Tj hk)) (dz b1 i k _ hk (by rw [Tw,hv];rfl))
     show ((Th.knot nm (cz (D s) q 0 ks)).isHole || (true && bH (cz (D s) q 0 ks) (Th.knot nm (ps.map fun t=>t.fill fun l _=>(f0 l).cut (D l) [])).kids))=true;rw [show (Th.knot nm (ps.map fun t=>t.fill fun l _=>(f0 l).cut (D l) [])).kids=ps.map fun t=>t.fill fun l _=>(f0 l).cut (D l) [] from rfl,this,Bool.or_comm];rfl
end
theorem gI:∀ (n:Nat) (t:Th),t.size<=n->t.noCall->t.lies t=true
 | 0,t,hn,_=>by have:=t.size_pos;omega
 | n+1,.call a b,_,h=>by rw [Th.noCall] at h;exact h.elim
 | n+1,.knot m ks,hn,h=>by
   by_cases hh:(Th.knot m ks).isHole=true
   · rw [Th.lies,hh];rfl
   · have Jp:(Th.knot m ks).isHole=false:=U9.mpr hh;rw [Th.size] at hn;rw [Th.noCall] at h;rw [Th.lies,fB Jp rfl]
     have:bH ks ks=true:=fC fun i a b ha hb=>by
      rw [ha] at hb;cases hb;have:=aG (Tj ha);exact gI n a (by omega) (bp h (Tj ha))
     show ((Th.knot m ks).isHole || (true && bH ks (Th.knot m ks).kids))=true;rw [show (Th.knot m ks).kids=ks from rfl,this,Bool.or_comm];rfl
def mkF (ins:List (T6×Int)) (rows:List (List Th)) (l:Int):Th:=(rowOf rows l).getD (cK ins) hole
def frF (mk:Int->Th) (m:Th) (row:List Th):Th:=row.foldl (fun f p=>f.com (p.fill fun l _=>mk l)) m
theorem j7 (mk:Int->Th) (m:Th) (row:List Th) (p:Th):frF mk m (row++[p])=(frF mk m row).com (p.fill fun l _=>mk l):=by
 unfold frF;rw [List.foldl_append];rfl
theorem io {mk:Int->Th} {m:Th} (h:m.noCall):∀ row:List Th,(frF mk m row).noCall:=fun row=>by
 cases hr:row.reverse with
 | nil =>
   have:row=[]:=by simpa using hr
   subst this;exact h
 | cons p ps =>
   have:row=ps.reverse++[p]:=by
    have:=congrArg List.reverse hr;simpa using this
   rw [this,j7];exact kf _ _
theorem iM (mk:Int->Th) (m:Th) (row:List Th):(frF mk m row).size<=m.size/\(frF mk m row).tall<=m.tall:=by
 unfold frF;induction row generalizing m with
 | nil=>exact ⟨To _,To _⟩
 | cons p row ih =>
   rw [List.foldl_cons];have h1:=ih (m.com (p.fill fun l _=>mk l));have h2:=og m (p.fill fun l _=>mk l);omega
theorem pq (mk:Int->Th) (m:Th) (row:List Th):∀ x∈(frF mk m row).pl [],∃ u,(x.1,u)∈m.pl []:=by
 unfold frF;induction row generalizing m with
 | nil=>exact fun x hx=>⟨x.2,hx⟩
 | cons p row ih =>
   rw [List.foldl_cons];intro x hx;obtain ⟨u,hu⟩:=ih _ x hx;exact sY _ m _ [] (To _) (x.1,u) hu
theorem kD {mk:Int->Th} (f:Th):∀ (row:List Th) (m:Th),f.lies (frF mk m row)=true->f.lies m=true/\∀ p∈row,f.lies (p.fill fun l _=>mk l)=true
 | [],m,h=>⟨h,fun p hp=>by cases hp⟩
 | p::row,m,h=>by
   have h':f.lies (frF mk (m.com (p.fill fun l _=>mk l)) row)=true:=h;obtain ⟨h1,h2⟩:=kD f row _ h';rw [oj,VB] at h1;refine ⟨h1.1,fun x hx=>?_⟩;rcases TR.mp hx with rfl | hx
   · exact h1.2
   · exact h2 x hx
def nk (s:Int) (pl:List Int):az:=(pl.map Um,Um s)
theorem pG {s s':Int} {p p':List Int} (h:nk s p=nk s' p'):s=s'/\p=p':=by
 unfold nk at h;injection h with h1 h2;refine ⟨WA h2,?_⟩;exact (XS (fun _ _ e=>WA e)).mp h1
theorem lF {H:Hp} {s:Int} {pl:List Int} {b c:Tn} (h1:H b=some (.tup [.int s,.ref c])) (h2:H c=some (.tup (pl.map V.int))):MKAt H (nk s pl) b:=by
 refine ⟨c,h1,?_⟩;rw [h2];unfold nk;rw [VE];rfl
def But (p:Tn) (H H':Hp):Prop:=∀ c o,c≠p->H c=some o->H' c=some o
theorem But.refl (p:Tn) (H:Hp):But p H H:=fun _ _ _ e=>e
theorem But.trans {p:Tn} {H H' GW:Hp} (a:But p H H') (b:But p H' GW):But p H GW:=fun c o hc e=>b c o hc (a c o hc e)
theorem Same.but {p:Tn} {H H':Hp} (a:L2.Same H H'):But p H H':=fun c o _ e=>a c o e
theorem But.kt {p:Tn} {H H':Hp} {φ:US->Prop} (a:But p H H') (e:H p=some (.ext φ)):KT H H':=fun c ys ec=>a c _ (fun z=>by rw [z,e] at ec;cases ec) ec
abbrev VlT:=List az->az->Th->Th->Prop
def PtV (H:Hp) (R:Th->Th->Prop) (v:V):Prop:=∃ (pr ta tb:Tn) (t1 t2:Th),v=.ref pr/\H pr=some (.tup [.ref ta,.ref tb])/\At H t1 ta/\At H t2 tb/\R t1 t2
theorem PtV.mono {H H':Hp} (k:KT H H') {R:Th->Th->Prop} {v:V} (h:PtV H R v):PtV H' R v:=by
 obtain ⟨pr,ta,tb,t1,t2,e,h1,h2,h3,h4⟩:=h;exact ⟨pr,ta,tb,t1,t2,e,k _ _ h1,h2.mono k,h3.mono k,h4⟩
structure Pt (P:TF) (w:T3) (Vl:VlT) (H:Hp) (pt:Tn) (f':List (az×V)) (Al:List az):Prop where
 dm:DM P w H pt f'
 nd:(f'.map (·.1)).Nodup
 al:∀ p∈f',p.1∈Al
 vl:∀ (j:Nat) (p:az×V),f'[j]?=some p->PtV H (Vl ((f'.map (·.1)).take j) p.1) p.2
theorem cp {P:TF} {w:T3} {H:Hp} {a:Tn} {f':List (az×V)} (h:DM P w H a f'):∃ φ,H a=some (.ext φ):=by
 obtain ⟨_,_,xs,φ,e,_⟩:=h;exact ⟨φ,e⟩
theorem Pt.same {P:TF} {w:T3} {Vl:VlT} {H H':Hp} {pt:Tn} {f':List (az×V)} {Al:List az} (h:Pt P w Vl H pt f' Al) (s:L2.Same H H'):Pt P w Vl H' pt f' Al:=⟨h.dm.mono s,h.nd,h.al,fun j p hp=>(h.vl j p hp).mono (Same.kt s)⟩
theorem Pt.len {P:TF} {w:T3} {Vl:VlT} {H:Hp} {pt:Tn} {f':List (az×V)} {Al:List az} (h:Pt P w Vl H pt f' Al):f'.length<=Al.length:=by
 have:=jt (m:=Al) h.nd fun k hk=>by
  obtain ⟨p,hp,rfl⟩:=Uw.mp hk;exact h.al p hp
 rwa [Te] at this
theorem cB {f':List (az×V)} {k:az} (h:aW f' k=none):k∉f'.map (·.1):=by
 intro hk;obtain ⟨p,hp,rfl⟩:=Uw.mp hk;have:=dM p.1 f';rw [h] at this;have h2:(f'.any fun kv=>decide (kv.1=p.1))=true:=List.any_eq_true.mpr ⟨p,hp,decide_eq_true rfl⟩;rw [h2] at this;cases this
theorem eR {f':List (az×V)} {k:az} {v:V} (h:aW f' k=some v):(k,v)∈f':=by
 induction f' with
 | nil=>cases h
 | cons p f' ih =>
   by_cases e:p.1=k
   · rw [bF e] at h;cases h;rw [<- e];exact T2 ..
   · rw [bE e] at h;exact T1 _ (ih h)
theorem Pt.put {P:TF} {w:T3} {Vl:VlT} {H H':Hp} {pt:Tn} {f':List (az×V)} {Al:List az} (h:Pt P w Vl H pt f' Al) {k:az} {v:V} (hn:aW f' k=none) (hb:But pt H H') (hd:DM P w H' pt (putK f' k v)) (hv:PtV H (Vl (f'.map (·.1)) k) v) (hk:k∈Al):Pt P w Vl H' pt (putK f' k v) Al/\(putK f' k v).map (·.1)=f'.map (·.1)++[k]:=by
 obtain ⟨φ,e⟩:=cp h.dm;have kt:=hb.kt e;rw [li v hn] at hd ⊢;refine ⟨⟨hd,?_,fun p hp=>?_,fun j p hp=>?_⟩,by rw [TH];rfl⟩
 · rw [TH];refine X0.mpr ⟨h.nd,by simp,fun a ha b zw=>?_⟩;simp at zw;subst zw;exact fun z=>cB hn (z ▸ ha)
 · rcases UA.mp hp with hp | hp
   · exact h.al p hp
   · rw [TY.mp hp];exact hk
 · by_cases hj:j<f'.length
   · rw [Wh hj] at hp;rw [TH,XF (by rw [Te];omega)];exact (h.vl j p hp).mono kt
   · rw [XT (by omega)] at hp
     have Qn:j - f'.length=0:=by
      have:=(Tq.mp hp).1;have h1:[(k,v)].length=1:=rfl;omega
     rw [Qn] at hp;have Ai:j=f'.length:=by omega
     cases hp;rw [Ai,TH,XF (by rw [Te];omega),UY (by rw [Te];omega)];exact hv.mono kt
mutual
theorem qO {u:Th}:∀ (t:Th) (pre:List Int),u∈t.walk->∃ pl,(pl,u)∈t.pl pre
 | .call a b,pre,h=>by
   rw [Th.walk] at h;rw [TY.mp h];exact ⟨pre,db _ _⟩
 | .knot n ks,pre,h=>by
   rw [Th.walk] at h;rcases TR.mp h with rfl | h
   · exact ⟨pre,db _ _⟩
   · obtain ⟨pl,hp⟩:=pf ks pre 0 h;exact ⟨pl,by rw [Th.pl];exact T1 _ hp⟩
theorem pf {u:Th}:∀ (ts:List Th) (pre:List Int) (i:Int),u∈walks ts->∃ pl,(pl,u)∈pls pre i ts
 | [],pre,i,h=>by rw [walks] at h;cases h
 | t::ts,pre,i,h=>by
   rw [walks] at h;rw [pls];rcases UA.mp h with h | h
   · obtain ⟨pl,hp⟩:=qO t (pre++[i]) h;exact ⟨pl,Ux _ hp⟩
   · obtain ⟨pl,hp⟩:=pf ts pre (i+1) h;exact ⟨pl,Uj _ hp⟩
end
theorem sr {ks:List (T6×Int)} {S C:Int} {t:Th} (h:t.FitS ks S C) {s k:Int} (hm:Th.call s k∈t.walk):0<=s/\s<S/\0<=k/\k<C:=by
 obtain ⟨pl,hp⟩:=qO t [] hm;exact gG t [] h (pl,s,k) (cC.mpr hp)
theorem f7 {ks:List (T6×Int)} {S:Int}:∀ (n:Nat) (t:Th),t.size<=n->t.FitS ks S 0->t.noCall
 | 0,t,hn,_=>by have:=t.size_pos;omega
 | n+1,.call a b,_,h=>by rw [Th.FitS] at h;omega
 | n+1,.knot m us,hn,h=>by
   rw [Th.FitS] at h;rw [Th.size] at hn;rw [Th.noCall]
   have:∀ (l:List Th),(∀ t∈l,t.noCall)->bQ l:=fun l=>by
    induction l with
    | nil=>intro _;rw [bQ];trivial
    | cons x l ih=>intro hl;rw [bQ];exact ⟨hl x (T2 ..),ih fun t ht=>hl t (T1 _ ht)⟩
   refine this us fun t ht=>?_;have hz:=aG ht;exact f7 n t (by omega) (FitSs.mem' h.2 t ht)
mutual
theorem pw:∀ (t:Th) (a b:List Int),t.pl (a++b)=(t.pl b).map fun x=>(a++x.1,x.2)
 | .call s k,a,b=>by rw [Th.pl,Th.pl];rfl
 | .knot n ks,a,b=>by rw [Th.pl,Th.pl,UE,qE ks a b 0]
theorem qE:∀ (ts:List Th) (a b:List Int) (i:Int),pls (a++b) i ts=(pls b i ts).map fun x=>(a++x.1,x.2)
 | [],a,b,i=>by rw [pls,pls];rfl
 | t::ts,a,b,i=>by rw [pls,pls,TH,Uy,pw t a (b++[i]),qE ts a b (i+1)]
end
theorem dj {t:Th} {a:List Int} {x:List Int×Th}:x∈t.pl a↔∃ r,x.1=a++r/\(r,x.2)∈t.pl []:=by
 have:=pw t a [];rw [Up] at this;rw [this,Uw];constructor
 · rintro ⟨y,hy,rfl⟩;exact ⟨y.1,rfl,hy⟩
 · rintro ⟨r,h1,h2⟩;exact ⟨(r,x.2),h2,by rw [<- h1]⟩
theorem nC:∀ (n:Nat) {t u v:Th} {a r:List Int},t.size<=n->(a,u)∈t.pl []->(r,v)∈u.pl []->(a++r,v)∈t.pl []
 | 0,t,_,_,_,_,hn=>by have:=t.size_pos;omega
 | n+1,.call s k,u,v,a,r,hn=>fun h1 h2=>by
   rw [Th.pl] at h1;cases TY.mp h1;exact h2
 | n+1,.knot m ks,u,v,a,r,hn=>fun h1 h2=>by
   rw [Th.pl] at h1;rcases TR.mp h1 with h1 | h1
   · cases h1;exact h2
   · obtain ⟨j,t,ht,hx⟩:=cF.mp h1;obtain ⟨r',e,zQ⟩:=dj.mp hx;dsimp only at e zQ;rw [U6,Vv] at e;rw [Th.size] at hn;have hz:=aG (Tj ht);have:=nC n (by omega) zQ h2;refine f8 ht (dj.mpr ⟨r'++r,?_,this⟩);show a++r=[]++[(j:Int)]++(r'++r);rw [e,Vv,Uy]
theorem oX:∀ (n:Nat) {t v:Th} {a r:List Int} {u:Th},t.size<=n->(a++r,v)∈t.pl []->(∃ w,(a,w)∈t.pl []/\(r,v)∈w.pl [])
 | 0,t,_,_,_,_,hn=>by have:=t.size_pos;omega
 | n+1,t,v,[],r,_,hn=>fun h=>⟨t,db _ _,h⟩
 | n+1,.call s k,v,x::a,r,_,hn=>fun h=>by
   rw [Th.pl] at h;have:=congrArg Prod.fst (TY.mp h);cases this
 | n+1,.knot m ks,v,x::a,r,u,hn=>fun h=>by
   rw [Th.pl] at h;rcases TR.mp h with h | h
   · have:=congrArg Prod.fst h;cases this
   · obtain ⟨j,t,ht,hx⟩:=cF.mp h;obtain ⟨r',e,zQ⟩:=dj.mp hx;dsimp only at e zQ;rw [U6,Vv] at e;injection e with e1 e2;have e2:a++r=r':=e2;rw [Th.size] at hn;have hz:=aG (Tj ht);rw [<- e2] at zQ;obtain ⟨w,h1,h2⟩:=oX n (u:=u) (by omega) zQ;refine ⟨w,f8 ht (dj.mpr ⟨a,?_,h1⟩),h2⟩;show x::a=[]++[(j:Int)]++a;rw [e1];rfl
end BB
namespace BB
open PySem L2
theorem pE:∀ (n:Nat) {t u v:Th} {a:List Int},t.size<=n->(a,u)∈t.pl []->(a,v)∈t.pl []->u=v
 | 0,t,_,_,_,hn=>by have:=t.size_pos;omega
 | n+1,.call s k,u,v,a,hn=>fun h1 h2=>by
   rw [Th.pl] at h1 h2;cases TY.mp h1;cases TY.mp h2;rfl
 | n+1,.knot m ks,u,v,a,hn=>fun h1 h2=>by
   rw [Th.pl] at h1 h2;rcases TR.mp h1 with h1 | h1
   · cases h1;rcases TR.mp h2 with h2 | h2
     · cases h2;rfl
     · obtain ⟨j,t,ht,hx⟩:=cF.mp h2;obtain ⟨r',e,_⟩:=dj.mp hx;cases e
   · obtain ⟨j,t,ht,hx⟩:=cF.mp h1;obtain ⟨r',e,zQ⟩:=dj.mp hx;rcases TR.mp h2 with h2 | h2
     · cases h2;cases e
     · obtain ⟨j2,t2,DZ,AK⟩:=cF.mp h2;obtain ⟨r2,e2,ET⟩:=dj.mp AK;dsimp only at e e2 zQ ET;rw [e] at e2;have e3:(0+(j:Int))::r'=(0+(j2:Int))::r2:=e2;injection e3 with e4 e5;have:j=j2:=by omega
       subst this;rw [ht] at DZ;cases DZ;subst e5;rw [Th.size] at hn;have hz:=aG (Tj ht);exact pE n (by omega) zQ ET
abbrev LkT:=az->Int->List Int->T6×Int->Int->Prop
def LE (H:Hp) (ins:List (T6×Int)) (Al:List az) (Lk:LkT) (k0:az) (a:Tn):Prop:=∃ (s kid:Int) (pl:List Int) (pa ka:Tn) (kd:T6×Int),H a=some (.tup [.int s,.ref pa,.ref ka,.int kid])/\H pa=some (.tup (pl.map V.int))/\KAt H kd ka/\kd∈ins/\nk s pl∈Al/\Lk k0 s pl kd kid
theorem LE.mono {H H':Hp} (k:KT H H') {ins:List (T6×Int)} {Al:List az} {Lk:LkT} {k0:az} {a:Tn} (h:LE H ins Al Lk k0 a):LE H' ins Al Lk k0 a:=by
 obtain ⟨s,kid,pl,pa,ka,kd,h1,h2,h3,h4,h5⟩:=h;exact ⟨s,kid,pl,pa,ka,kd,k _ _ h1,k _ _ h2,k _ _ h3,h4,h5⟩
abbrev LG:=List (az×Tn×List Tn)
def lkv (G:LG):List (az×V):=G.map fun g=>(g.1,V.ref g.2.1)
structure LkI (P:TF) (w:T3) (ins:List (T6×Int)) (Al:List az) (Lk:LkT) (H0 H:Hp) (la:Tn) (G:LG) (N:Nat):Prop where
 sm:L2.Same H0 H
 la0:H0 la=none
 dm:DM P w H la (lkv G)
 kn:(G.map (·.1)).Nodup
 an:(G.map (·.2.1)).Nodup
 ls:∀ g∈G,H0 g.2.1=none/\H g.2.1=some (.lst (g.2.2.map V.ref))/\g.2.2.length<=N/\∀ a∈g.2.2,LE H ins Al Lk g.1 a
 le:G.length<=N
def gL (H:Hp) (G:LG) (k:az) (s:Int) (pl:List Int):Prop:=∃ g∈G,g.1=k/\∃ a∈g.2.2,∃ (pa ka:Tn) (kid:Int),H a=some (.tup [.int s,.ref pa,.ref ka,.int kid])/\H pa=some (.tup (pl.map V.int))
def LSub (H H':Hp) (G G':LG):Prop:=∀ k s pl,gL H G k s pl->gL H' G' k s pl
theorem LSub.refl (H:Hp) (G:LG):LSub H H G G:=fun _ _ _ h=>h
theorem LSub.trans {H H' GW:Hp} {G G' NQ:LG} (a:LSub H H' G G') (b:LSub H' GW G' NQ):LSub H GW G NQ:=fun k s pl h=>b k s pl (a k s pl h)
theorem LSub.kt {H H':Hp} (k:KT H H') (G:LG):LSub H H' G G:=fun _ _ _ ⟨g,hg,e,a,ha,pa,ka,kid,h1,h2⟩=>⟨g,hg,e,a,ha,pa,ka,kid,k _ _ h1,k _ _ h2⟩
theorem qM {P:TF} {w:T3} {H H':Hp} {a:Tn} {f':List (az×V)} (h:DM P w H a f') (k:KT H H') (e:∀ o,H a=some o->H' a=some o):DM P w H' a f':=by
 obtain ⟨z,hd,xs,φ,e1,f,r⟩:=h;exact ⟨z,hd,xs,φ,e _ e1,f,KTm.mono k r⟩
section
variable {P:TF} {w:T3} {ins:List (T6×Int)} {Al:List az} {Lk:LkT} {H0 H:Hp} {la:Tn} {G:LG} {N:Nat}
theorem LkI.ne (h:LkI P w ins Al Lk H0 H la G N) {g:az×Tn×List Tn} (hg:g∈G):g.2.1≠la:=fun z=>by
 obtain ⟨φ,e⟩:=cp h.dm;have:=(h.ls g hg).2.1;rw [z,e] at this;cases this
theorem LkI.same {H':Hp} (h:LkI P w ins Al Lk H0 H la G N) (s:L2.Same H H'):LkI P w ins Al Lk H0 H' la G N:=by
 refine ⟨h.sm.trans s,h.la0,h.dm.mono s,h.kn,h.an,fun g hg=>?_,h.le⟩;obtain ⟨a,b,c,d⟩:=h.ls g hg;exact ⟨a,s _ _ b,c,fun x hx=>(d x hx).mono (Same.kt s)⟩
theorem LkI.up (h:LkI P w ins Al Lk H0 H la G N) {M:Nat} (hm:N<=M):LkI P w ins Al Lk H0 H la G M:=by
 refine ⟨h.sm,h.la0,h.dm,h.kn,h.an,fun g hg=>?_,Vu h.le hm⟩;obtain ⟨a,b,c,d⟩:=h.ls g hg;exact ⟨a,b,Vu c hm,d⟩
theorem LkI.new {H':Hp} (h:LkI P w ins Al Lk H0 H la G N) {k:az} {l:Tn} (hn:aW (lkv G) k=none) (hb:But la H H') (hd:DM P w H' la (putK (lkv G) k (.ref l))) (CG:H0 l=none) (hl:H l=some (.lst [])) (hf:∀ g∈G,g.2.1≠l):LkI P w ins Al Lk H0 H' la (G++[(k,l,[])]) (N+1)/\LSub H H' G (G++[(k,l,[])]):=by
 obtain ⟨φ,e⟩:=cp h.dm;have kt:=hb.kt e;have KQ:l≠la:=fun z=>by rw [z,e] at hl;cases hl
 refine ⟨⟨fun c o ec=>hb c o (fun z=>by rw [z,h.la0] at ec;cases ec) (h.sm _ _ ec),h.la0,?_,?_,?_,fun g hg=>?_,by rw [TZ];have:=h.le;show G.length+1<=N+1;omega⟩,fun k' s pl h'=>?_⟩
 · rw [li _ hn] at hd;unfold lkv at hd ⊢;rw [TH];exact hd
 · rw [TH];refine X0.mpr ⟨h.kn,by simp,fun a ha b zw=>?_⟩;simp at zw;subst zw;intro z;subst z;refine cB hn ?_;unfold lkv;rw [VE];exact ha
 · rw [TH];refine X0.mpr ⟨h.an,by simp,fun a ha b zw=>?_⟩;simp at zw;subst zw;obtain ⟨g,hg,rfl⟩:=Uw.mp ha;exact hf g hg
 · rcases UA.mp hg with hg | hg
   · obtain ⟨a,b,c,d⟩:=h.ls g hg;exact ⟨a,hb _ _ (h.ne hg) b,by omega,fun x hx=>(d x hx).mono kt⟩
   · rw [TY.mp hg];exact ⟨CG,hb _ _ KQ hl,T4 _,fun x hx=>by cases hx⟩
 · obtain ⟨g,hg,r⟩:=LSub.kt kt G k' s pl h';exact ⟨g,Ux _ hg,r⟩
def fo (l en:Tn) (g:az×Tn×List Tn):az×Tn×List Tn:=if g.2.1=l then (g.1,g.2.1,g.2.2++[en]) else g
theorem dS (l en:Tn) (g:az×Tn×List Tn):(fo l en g).1=g.1/\(fo l en g).2.1=g.2.1:=by
 unfold fo;split <;> exact ⟨rfl,rfl⟩
theorem LkI.app (h:LkI P w ins Al Lk H0 H la G N) {g:az×Tn×List Tn} (hg:g∈G) {en:Tn} (he:LE H ins Al Lk g.1 en):LkI P w ins Al Lk H0 (upd H g.2.1 (.lst (g.2.2.map V.ref++[.ref en]))) la (G.map (fo g.2.1 en)) (N+1)/\KT H (upd H g.2.1 (.lst (g.2.2.map V.ref++[.ref en])))/\LSub H (upd H g.2.1 (.lst (g.2.2.map V.ref++[.ref en]))) G (G.map (fo g.2.1 en))/\(∀ (s:Int) (pl:List Int) (pa ka:Tn) (kid:Int),H en=some (.tup [.int s,.ref pa,.ref ka,.int kid])->H pa=some (.tup (pl.map V.int))->gL (upd H g.2.1 (.lst (g.2.2.map V.ref++[.ref en]))) (G.map (fo g.2.1 en)) g.1 s pl):=by
 obtain ⟨gl,ge,gn,Qo⟩:=h.ls g hg;have kt:KT H (upd H g.2.1 (.lst (g.2.2.map V.ref++[.ref en]))):=aT ge;have zX:=h.ne hg;have k1:(G.map (fo g.2.1 en)).map (·.1)=G.map (·.1):=by rw [VE];exact W0 fun x _=>(dS _ _ x).1
 have k2:(G.map (fo g.2.1 en)).map (·.2.1)=G.map (·.2.1):=by rw [VE];exact W0 fun x _=>(dS _ _ x).2
 have k3:lkv (G.map (fo g.2.1 en))=lkv G:=by
  unfold lkv;rw [VE];refine W0 fun x _=>?_;show ((fo g.2.1 en x).1,V.ref (fo g.2.1 en x).2.1)=_;rw [(dS _ _ x).1,(dS _ _ x).2]
 refine ⟨⟨aw h.sm gl,h.la0,?_,by rw [k1];exact h.kn,by rw [k2];exact h.an,fun x hx=>?_,by rw [Te];have:=h.le;omega⟩,kt,fun k s pl hh=>?_,fun s pl pa ka kid h1 h2=>?_⟩
 · rw [k3];exact qM h.dm kt fun o eo=>by rw [ak zX.symm];exact eo
 · obtain ⟨y,hy,rfl⟩:=Uw.mp hx;obtain ⟨a,b,c,d⟩:=h.ls y hy;by_cases hc:y.2.1=g.2.1
   · have Qp:y=g:=by
      obtain ⟨i,hi⟩:=TU.mp hy;obtain ⟨j,hj⟩:=TU.mp hg
      have CI:i=j:=by
       have h1:(G.map (·.2.1))[i]?=some y.2.1:=by rw [Tw,hi];rfl
       have h2:(G.map (·.2.1))[j]?=some y.2.1:=by rw [Tw,hj,hc];rfl
       exact (X1 (by have:=(Tq.mp h1).1;exact this) h.an).mp (h1.trans h2.symm)
      subst CI;rw [hi] at hj;exact T5 hj
     subst Qp;unfold fo;rw [if_pos rfl];refine ⟨a,?_,?_,fun x hx=>?_⟩
     · show (upd H y.2.1 _) y.2.1=_;rw [ab];show some (HO.lst (y.2.2.map V.ref++[.ref en]))=some (.lst ((y.2.2++[en]).map V.ref));rw [TH];rfl
     · show (y.2.2++[en]).length<=N+1;rw [TZ];show y.2.2.length+1<=N+1;omega
     · rcases UA.mp hx with hx | hx
       · exact (d x hx).mono kt
       · rw [TY.mp hx];exact he.mono kt
   · unfold fo;rw [if_neg hc];exact ⟨a,by rw [ak hc];exact b,by omega,fun x hx=>(d x hx).mono kt⟩
 · obtain ⟨x,hx,e,a,ha,pa,ka,kid,h1,h2⟩:=hh;refine ⟨fo g.2.1 en x,Uw.mpr ⟨x,hx,rfl⟩,by rw [(dS _ _ x).1];exact e,a,?_,pa,ka,kid,kt _ _ h1,kt _ _ h2⟩;unfold fo;split
   · exact Ux _ ha
   · exact ha
 · refine ⟨fo g.2.1 en g,Uw.mpr ⟨g,hg,rfl⟩,(dS _ _ g).1,en,?_,pa,ka,kid,kt _ _ h1,kt _ _ h2⟩;unfold fo;rw [if_pos rfl];exact Uj _ (T2 ..)
end
theorem tH {K:Tg} {H:Hp}:∀ {ps:List (List Int×Th)} {as:List Tn},PsAtK K H ps as->∃ prs:List (List Key×V),Ud (PrA H) prs as/\(∀ p∈prs,∃ x∈ps,p.1=x.1.map Um/\∃ a,p.2=.ref a/\AtK K H x.2 a)/\∀ x∈ps,∃ p∈prs,p.1=x.1.map Um
 | _,_,.nil=>⟨[],.nil,(fun p hp=>by cases hp),(fun p hp=>by cases hp)⟩
 | _,_,.cons (a:=x) r h=>by
   obtain ⟨pa,ta,h1,h2,h3⟩:=r;obtain ⟨prs,g1,g2,g3⟩:=tH h;refine ⟨(x.1.map Um,.ref ta)::prs,.cons ⟨pa,h1,by rw [h2,VE];rfl⟩ g1,fun p hp=>?_,fun y hy=>?_⟩
   · rcases TR.mp hp with rfl | hp
     · exact ⟨x,T2 ..,rfl,ta,rfl,h3⟩
     · obtain ⟨y,hy,r⟩:=g2 p hp;exact ⟨y,T1 _ hy,r⟩
   · rcases TR.mp hy with rfl | hy
     · exact ⟨_,T2 ..,rfl⟩
     · obtain ⟨p,hp,e⟩:=g3 y hy;exact ⟨p,T1 _ hp,e⟩
structure LQ (P:TF) (w:T3) (ins:List (T6×Int)) (Al:List az) (Lk:LkT) (H0:Hp) (la:Tn) (Hb:Hp) (Gb:LG) (Hc:Hp) (Gc:LG) (n:Nat):Prop where
 lk:LkI P w ins Al Lk H0 Hc la Gc n
 sub:LSub Hb Hc Gb Gc
 fr:∀ c o,Hb c=some o->c≠la->(∀ g∈Gb,g.2.1≠c)->Hc c=some o
 dom:∀ c o,Hb c=some o->∃ o',Hc c=some o'
 ext:∀ g∈Gc,(∃ g0∈Gb,g0.2.1=g.2.1)∨Hb g.2.1=none
section
variable {P:TF} {w:T3} {ins:List (T6×Int)} {Al:List az} {Lk:LkT} {H0 Hb Hc Hd:Hp} {la:Tn} {Gb Gc Gd:LG} {n m:Nat}
theorem LQ.refl (h:LkI P w ins Al Lk H0 Hb la Gb n):LQ P w ins Al Lk H0 la Hb Gb Hb Gb n:=⟨h,LSub.refl _ _,fun _ _ e _ _=>e,fun c o e=>⟨o,e⟩,fun g hg=>.inl ⟨g,hg,rfl⟩⟩
theorem LQ.same (h:LQ P w ins Al Lk H0 la Hb Gb Hc Gc n) (s:L2.Same Hc Hd):LQ P w ins Al Lk H0 la Hb Gb Hd Gc n :=
 ⟨h.lk.same s,h.sub.trans (LSub.kt (Same.kt s) _),fun c o e h1 h2=>s _ _ (h.fr c o e h1 h2),fun c o e=>by obtain ⟨o',e'⟩:=h.dom c o e;exact ⟨o',s _ _ e'⟩,h.ext⟩
theorem LQ.up (h:LQ P w ins Al Lk H0 la Hb Gb Hc Gc n) (hm:n<=m):LQ P w ins Al Lk H0 la Hb Gb Hc Gc m:=⟨h.lk.up hm,h.sub,h.fr,h.dom,h.ext⟩
theorem LQ.trans (a:LQ P w ins Al Lk H0 la Hb Gb Hc Gc n) (b:LQ P w ins Al Lk H0 la Hc Gc Hd Gd m):LQ P w ins Al Lk H0 la Hb Gb Hd Gd m:=by
 refine ⟨b.lk,a.sub.trans b.sub,fun c o e h1 h2=>b.fr c o (a.fr c o e h1 h2) h1 fun g hg=>?_,fun c o e=>?_,fun g hg=>?_⟩
 · rcases a.ext g hg with ⟨g0,h3,h4⟩ | h3
   · rw [<- h4];exact h2 g0 h3
   · intro z;rw [z,e] at h3;cases h3
 · obtain ⟨o',e'⟩:=a.dom c o e;exact b.dom c o' e'
 · rcases b.ext g hg with ⟨g0,h3,h4⟩ | h3
   · rw [<- h4];exact a.ext g0 h3
   · refine .inr ?_;cases hh:Hb g.2.1 with
     | none=>rfl
     | some o =>
       obtain ⟨o',e'⟩:=a.dom _ o hh;rw [h3] at e';cases e'
theorem LQ.kt (h:LQ P w ins Al Lk H0 la Hb Gb Hc Gc n) (L:LkI P w ins Al Lk H0 Hb la Gb m):KT Hb Hc:=fun c ys e=>by
 obtain ⟨φ,el⟩:=cp L.dm;refine h.fr c _ e (fun z=>by rw [z,el] at e;cases e) fun g hg z=>?_;have:=(L.ls g hg).2.1;rw [z,e] at this;cases this
theorem LQ.newG (a:LQ P w ins Al Lk H0 la Hb Gb Hc Gc n) {k:az} {l:Tn} {He:Hp} (hl:Hc l=none) (hn:aW (lkv Gc) k=none) (hb:But la (upd Hc l (.lst [])) He) (hd:DM P w He la (putK (lkv Gc) k (.ref l))):LQ P w ins Al Lk H0 la Hb Gb He (Gc++[(k,l,[])]) (n+1):=by
 have s1:L2.Same Hc (upd Hc l (.lst [])):=ad hl _;have L1:=a.lk.same s1
 obtain ⟨h1,h2⟩:=L1.new hn hb hd (a.lk.sm.free hl) ab fun g hg z=>by
  have:=(a.lk.ls g hg).2.1;rw [z,hl] at this;cases this
 refine a.trans ⟨h1,(LSub.kt (Same.kt s1) _).trans h2,fun c o e hc _=>hb c o hc (s1 _ _ e),fun c o e=>?_,fun g hg=>?_⟩
 · by_cases hc:c=la
   · obtain ⟨φ,e'⟩:=cp hd;exact ⟨_,by rw [hc];exact e'⟩
   · exact ⟨o,hb c o hc (s1 _ _ e)⟩
 · rcases UA.mp hg with hg | hg
   · exact .inl ⟨g,hg,rfl⟩
   · rw [TY.mp hg];exact .inr hl
theorem LQ.appG (a:LQ P w ins Al Lk H0 la Hb Gb Hc Gc n) {g:az×Tn×List Tn} (hg:g∈Gc) {en:Tn} (he:LE Hc ins Al Lk g.1 en):LQ P w ins Al Lk H0 la Hb Gb (upd Hc g.2.1 (.lst (g.2.2.map V.ref++[.ref en]))) (Gc.map (fo g.2.1 en)) (n+1)/\∀ (s:Int) (pl:List Int) (pa ka:Tn) (kid:Int),Hc en=some (.tup [.int s,.ref pa,.ref ka,.int kid])->Hc pa=some (.tup (pl.map V.int))->gL (upd Hc g.2.1 (.lst (g.2.2.map V.ref++[.ref en]))) (Gc.map (fo g.2.1 en)) g.1 s pl:=by
 obtain ⟨h1,h2,h3,h4⟩:=a.lk.app hg he;refine ⟨⟨h1,a.sub.trans h3,fun c o e hc hf=>?_,fun c o e=>?_,fun x hx=>?_⟩,h4⟩
 · rw [ak]
   · exact a.fr c o e hc hf
   · intro z;rcases a.ext g hg with ⟨g0,h5,h6⟩ | h5
     · exact hf g0 h5 (h6.trans z.symm)
     · rw [<- z,e] at h5;cases h5
 · by_cases hc:c=g.2.1
   · exact ⟨_,by rw [hc];exact ab⟩
   · rw [ak hc];exact a.dom c o e
 · obtain ⟨y,hy,rfl⟩:=Uw.mp hx;rw [(dS _ _ y).2];exact a.ext y hy
theorem qG {G:LG} {k:az} {u:V} (h:aW (lkv G) k=some u):∃ g∈G,g.1=k/\u=.ref g.2.1:=by
 have:=eR h;unfold lkv at this;obtain ⟨g,hg,e⟩:=Uw.mp this;cases e;exact ⟨g,hg,rfl,rfl⟩
end
theorem u5:∀ (n:Nat) (t:Th) (pre:List Int),t.size<=n->∀ x∈t.pl pre,x.2.size<=t.size/\x.2.tall<=t.tall
 | 0,t,_,hn=>by have:=t.size_pos;omega
 | n+1,.call a b,pre,hn=>fun x hx=>by
   rw [Th.pl] at hx;rw [TY.mp hx];exact ⟨To _,To _⟩
 | n+1,.knot m ks,pre,hn=>fun x hx=>by
   rw [Th.pl] at hx;rcases TR.mp hx with rfl | hx
   · exact ⟨To _,To _⟩
   · obtain ⟨j,t,ht,hx⟩:=cF.mp hx;rw [Th.size] at hn;have hz:=aG (Tj ht);have DZ:=bv (Tj ht);obtain ⟨h1,h2⟩:=u5 n t _ (by omega) x hx;rw [Th.size,Th.tall];omega
theorem ff {n:Nat} (h:n<=16000000):n<TN:=by
 have:TN=16777216:=Xs;omega
theorem ol:∀ (n:Nat) (t:Th) (pre:List Int),t.size<=n->∀ x∈t.pl pre,x.1.length<=pre.length+t.tall
 | 0,t,_,hn=>by have:=t.size_pos;omega
 | n+1,.call a b,pre,hn=>fun x hx=>by
   rw [Th.pl] at hx;rw [TY.mp hx];exact V0 _ _
 | n+1,.knot m ks,pre,hn=>fun x hx=>by
   rw [Th.pl] at hx;rcases TR.mp hx with rfl | hx
   · exact V0 _ _
   · obtain ⟨j,t,ht,hx⟩:=cF.mp hx;rw [Th.size] at hn;have hz:=aG (Tj ht);have DZ:=bv (Tj ht);have h1:=ol n t _ (by omega) x hx;rw [TZ] at h1;rw [Th.tall];have h2:[(0:Int)+(j:Int)].length=1:=rfl;omega
structure LkR (P:TF) (w:T3) (ins:List (T6×Int)) (Al:List az) (Lk:LkT) (H:Hp) (la:Tn) (G:LG):Prop where
 dm:DM P w H la (lkv G)
 ls:∀ g∈G,H g.2.1=some (.lst (g.2.2.map V.ref))/\∀ a∈g.2.2,LE H ins Al Lk g.1 a
 kn:(G.map (·.1)).Nodup
theorem LkI.r {P:TF} {w:T3} {ins:List (T6×Int)} {Al:List az} {Lk:LkT} {H0 H:Hp} {la:Tn} {G:LG} {N:Nat} (h:LkI P w ins Al Lk H0 H la G N):LkR P w ins Al Lk H la G:=⟨h.dm,fun g hg=>⟨(h.ls g hg).2.1,(h.ls g hg).2.2.2⟩,h.kn⟩
theorem LkR.but {P:TF} {w:T3} {ins:List (T6×Int)} {Al:List az} {Lk:LkT} {H H':Hp} {la pt:Tn} {G:LG} {φ:US->Prop} (h:LkR P w ins Al Lk H la G) (hb:But pt H H') (e:H pt=some (.ext φ)) (hn:pt≠la):LkR P w ins Al Lk H' la G:=by
 have kt:=hb.kt e;refine ⟨qM h.dm kt fun o eo=>hb _ _ hn.symm eo,fun g hg=>?_,h.kn⟩;obtain ⟨h1,h2⟩:=h.ls g hg;exact ⟨hb _ _ (fun z=>by rw [z,e] at h1;cases h1) h1,fun a ha=>(h2 a ha).mono kt⟩
theorem LkR.at {P:TF} {w:T3} {ins:List (T6×Int)} {Al:List az} {Lk:LkT} {H:Hp} {la:Tn} {G:LG} (h:LkR P w ins Al Lk H la G) {g:az×Tn×List Tn} (hg:g∈G) {s:Int} {pl:List Int} (hh:gL H G g.1 s pl):∃ a∈g.2.2,∃ (pa ka:Tn) (kid:Int),H a=some (.tup [.int s,.ref pa,.ref ka,.int kid])/\H pa=some (.tup (pl.map V.int)):=by
 obtain ⟨g',Kk,e,r⟩:=hh
 have:g'=g:=by
  obtain ⟨i,hi⟩:=TU.mp Kk;obtain ⟨j,hj⟩:=TU.mp hg;have h1:(G.map (·.1))[i]?=some g.1:=by rw [Tw,hi,<- e];rfl
  have h2:(G.map (·.1))[j]?=some g.1:=by rw [Tw,hj];rfl
  have CI:i=j:=(X1 (by have:=(Tq.mp h1).1;exact this) h.kn).mp (h1.trans h2.symm);subst CI;rw [hi] at hj;exact T5 hj
 subst this;exact r
theorem sC {G:LG} {k:az} (h:aW (lkv G) k=none) {H:Hp} {s:Int} {pl:List Int}:¬ gL H G k s pl:=fun ⟨g,hg,e,_⟩=>by
 refine cB h ?_;unfold lkv;rw [VE];exact Uw.mpr ⟨g,hg,e⟩
theorem oH {a b:List Int} (h:a.map V.int=b.map V.int):a=b:=(XS (fun _ _ e=>V.int.inj e)).mp h
theorem LkR.back {P:TF} {w:T3} {ins:List (T6×Int)} {Al:List az} {Lk:LkT} {H H':Hp} {la:Tn} {G:LG} (R:LkR P w ins Al Lk H la G) (kt:KT H H') {k:az} {s:Int} {pl:List Int} (hh:gL H' G k s pl):gL H G k s pl:=by
 obtain ⟨g,hg,e,a,ha,pa,ka,kid,h1,h2⟩:=hh;obtain ⟨s',zR,zg,AL,Ci,NR,g1,g2,_⟩:=(R.ls g hg).2 a ha;have e1:=kt _ _ g1;rw [h1] at e1;cases e1;have e2:=kt _ _ g2;rw [h2] at e2;have:pl=zg:=oH (by injection e2 with e3;injection e3);subst this;exact ⟨g,hg,e,a,ha,pa,ka,kid,g1,g2⟩
def Dk (f':List (az×V)) (s:Int) (pl:List Int):Bool:=(aW f' (nk s pl)).isSome
theorem jo {f':List (az×V)} {s:Int} {pl:List Int}:Dk f' s pl=true↔nk s pl∈f'.map (·.1):=by
 unfold Dk;constructor
 · intro h;obtain ⟨v,hv⟩:=W7.mp h;exact Uw.mpr ⟨_,eR hv,rfl⟩
 · intro h;cases hv:aW f' (nk s pl) with
   | none=>exact absurd h (cB hv)
   | some v=>rfl
def iD (D:List Int->Bool) (As:List (List Int×Th)):List Th:=As.flatMap fun x=>(x.2.cut D x.1).walk
theorem o9 (D:List Int->Bool) (a b:List (List Int×Th)):iD D (a++b)=iD D a++iD D b:=by unfold iD;rw [List.flatMap_append]
theorem mr (D:List Int->Bool) (pre:List Int):∀ (i:Int) (ks:List Th),iD D (cN pre i ks)=walks (cz D pre i ks)
 | i,[]=>by rw [cN,cz,walks];rfl
 | i,k::ks=>by
   rw [cN,cz,walks,<- mr D pre (i+1) ks];rfl
theorem lg (D:List Int->Bool):∀ (n:Nat) (t:Th) (pre:List Int),t.size<=n->(t.cut D pre).size<=t.size
 | 0,t,_,hn=>by have:=t.size_pos;omega
 | n+1,.call a b,pre,hn=>by rw [Th.cut,eV,Th.size];exact To _
 | n+1,.knot m ks,pre,hn=>by
   rw [Th.cut];split
   · rw [eV,Th.size];omega
   · rw [Th.size] at hn;rw [Th.size,Th.size]
     have:∀ (us:List Th) (i:Int),aq us<=n->aq (cz D pre i us)<=aq us:=fun us=>by
      induction us with
      | nil=>intro i _;rw [cz];exact To _
      | cons u us ih =>
        intro i h;rw [aq] at h;rw [cz,aq,aq];have h1:=ih (i+1) (by omega);have h2:=lg D n u (pre++[i]) (by omega);omega
     have:=this ks 0 (by omega);omega
end BB
namespace BB
open PySem L2
inductive In:Th->List Int->Th->Prop
 | here {t:Th}:In t [] t
 | kid {n:T6} {ks:List Th} {j:Nat} {u v:Th} {r:List Int} (h:ks[j]?=some u) (i:In u r v):In (.knot n ks) ((j:Int)::r) v
theorem In.of:∀ (n:Nat) {t v:Th} {pl:List Int},t.size<=n->(pl,v)∈t.pl []->In t pl v
 | 0,t,_,_,hn,_=>by have:=t.size_pos;omega
 | n+1,.call s k,v,pl,hn,h=>by
   rw [Th.pl] at h;cases TY.mp h;exact .here
 | n+1,.knot m ks,v,pl,hn,h=>by
   rw [Th.pl] at h;rcases TR.mp h with h | h
   · cases h;exact .here
   · obtain ⟨j,t,ht,hx⟩:=cF.mp h;obtain ⟨r,e,hr⟩:=dj.mp hx;dsimp only at e hr;rw [U6,Vv] at e;rw [Th.size] at hn;have hz:=aG (Tj ht);have e2:pl=(j:Int)::r:=e;rw [e2];exact .kid ht (In.of n (by omega) hr)
theorem In.to {t v:Th} {pl:List Int} (h:In t pl v):(pl,v)∈t.pl []:=by
 induction h with
 | here=>exact db _ _
 | kid h i ih =>
   refine f8 h (dj.mpr ⟨_,?_,ih⟩);rfl
theorem In.iff {t v:Th} {pl:List Int}:(pl,v)∈t.pl []↔In t pl v:=⟨In.of _ (To _),In.to⟩
theorem ju {f:Int->Int->Th}:∀ {ts:List Th} {j:Nat},(fills f ts)[j]?=(ts[j]?).map (Th.fill f)
 | [],j=>by rw [fills];simp
 | t::ts,0=>by rw [fills];rfl
 | t::ts,j+1=>by rw [fills,UH,UH];exact ju
theorem gv {ks:List (T6×Int)} {S C:Int} {n:T6} {us:List Th} (h:(Th.knot n us).FitS ks S C) {j:Nat} {u:Th} (hu:us[j]?=some u):u.FitS ks S C:=by
 rw [Th.FitS] at h;exact FitSs.mem' h.2 u (Tj hu)
theorem mJ {ks:List (T6×Int)} {S C C':Int} {f:Int->Int->Th} (hf:∀ l k,0<=l->l<S->(f l k).FitS ks S C'):∀ (n:Nat) (p:Th),p.size<=n->p.FitS ks S C->(p.fill f).FitS ks S C'
 | 0,p,hn,_=>by have:=p.size_pos;omega
 | n+1,.call l k,_,h=>by
   rw [Th.FitS] at h;rw [Th.fill];exact hf l k h.1 h.2.1
 | n+1,.knot m us,hn,h=>by
   rw [Th.fill,Th.FitS,gK];have h0:=h;rw [Th.FitS] at h0;rw [Th.size] at hn;refine ⟨h0.1,FitSs.of fun t ht=>?_⟩;obtain ⟨j,hj⟩:=TU.mp ht;rw [ju,T8] at hj;obtain ⟨u,hu,rfl⟩:=hj;have hz:=aG (Tj hu);exact mJ hf n u (by omega) (gv h hu)
theorem qm {outs:List (T6×Int)} (go:cf outs) {S:Int}:∀ (n:Nat) (f g m h:Th) (pl:List Int),f.size<=n->In (f.com g) pl h->h.isHole=true->(∀ v,In f pl v->v.isHole=false)->f.lies m=true->f.noCall->m.FitS outs S 0->g.FitS outs S 0->∃ m1 m2 k1 k2,m1≠m2/\In m pl (.knot m1 k1)/\In g pl (.knot m2 k2)
 | 0,f,_,_,_,_,hn=>by have:=f.size_pos;omega
 | n+1,.call a b,_,_,_,_,_=>fun _ _ _ _ hc=>by rw [Th.noCall] at hc;exact hc.elim
 | n+1,.knot nm ks,g,m,h,pl,hn=>fun hi hh hv hl hc fm fg=>by
   rw [ig] at hi;by_cases hs:aI (.knot nm ks) g=true
   · rw [if_pos hs] at hi;obtain ⟨vs,rfl,hlen,Co⟩:=jK hs;obtain ⟨us,rfl,NS,Aq⟩:=lies_of hl Co;have yq:In (.knot nm ((ks.zip vs).map fun p=>p.1.com p.2)) pl h:=hi;cases yq with
     | here =>
       have:=hv _ .here;exfalso;rw [Th.isHole,decide_eq_true_iff] at hh;rw [Th.isHole,decide_eq_false_iff_not] at Co;refine Co ⟨hh.1,?_⟩;have h2:=congrArg Wo hh.2;rw [Te,Xe,<- hlen,Yn] at h2;exact UO.mp h2
     | kid hj hr =>
       rename_i j u r
       rw [Tw,T8] at hj;obtain ⟨p,hp,rfl⟩:=hj;obtain ⟨h1,h2⟩:=Wg.mp hp;obtain ⟨w,hw⟩:∃ w,us[j]?=some w:=⟨_,Ti (by have:=(Tq.mp h1).1;omega)⟩;rw [Th.size] at hn;have hz:=aG (Tj h1);rw [Th.noCall] at hc;obtain ⟨m1,m2,k1,k2,e,a1,a2⟩:=qm go n p.1 p.2 w h r (by omega) hr hh (fun v yN=>hv v (.kid h1 yN)) (dz Aq j _ _ h1 hw) (bp hc (Tj h1)) (gv fm hw) (gv fg h2);exact ⟨m1,m2,k1,k2,e,.kid hw a1,.kid h2 a2⟩
   · rw [if_neg hs] at hi;rw [hole] at hi;cases hi with
     | here =>
       have Co:=hv _ .here;obtain ⟨us,rfl,NS,Aq⟩:=lies_of hl Co;cases g with
       | call a b=>rw [Th.FitS] at fg;omega
       | knot gm vs =>
         refine ⟨nm,gm,us,vs,fun e=>hs ?_,.here,.here⟩;subst e;rw [Th.FitS] at fm fg;obtain ⟨i1,g1⟩:=TU.mp fm.1;obtain ⟨i2,g2⟩:=TU.mp fg.1;have:=go.nd i1 i2 _ _ g1 g2 rfl;subst this;rw [g1] at g2;injection g2 with g2;injection g2 with _ g2;exact fB Co (by omega)
     | kid hj _=>simp at hj
inductive NmAt (ins:List (T6×Int)) (rows:List (List Th)):Nat->Th->Th->List Int->T6->Prop
 | here {m:T6} {ks:List Th} {t:Th}:NmAt ins rows 0 (.knot m ks) t [] m
 | step {n:Nat} {nm m:T6} {ks:List Th} {j:Nat} {u t:Th} {r:List Int} (h:ks[j]?=some u) (i:NmAt ins rows n u t r m):NmAt ins rows (n+1) (.knot nm ks) t ((j:Int)::r) m
 | call {n:Nat} {s k:Int} {tm vm m:T6} {us vs:List Th} {row:List Th} {i:Nat} {kd:T6×Int} {p:Th} {r:List Int} (hk:0<=k) (hs:0<=s) (hu:us[k.toNat]?=some (.knot vm vs)) (hr:rows[s.toNat]?=some row) (hi:ins[i]?=some kd) (hn:kd.1=vm) (hp:row[i]?=some p) (h:NmAt ins rows n p (.knot vm vs) r m):NmAt ins rows (n+1) (.call s k) (.knot tm us) r m
theorem NmAt.of {ins:List (T6×Int)} {rows:List (List Th)} {t v:Th} {pl:List Int} (h:In t pl v):∀ {m:T6} {ks:List Th} (tree:Th),v=.knot m ks->∃ n,NmAt ins rows n t tree pl m:=by
 induction h with
 | here=>intro m ks tree e;subst e;exact ⟨0,.here⟩
 | kid h i ih =>
   intro m ks tree e;obtain ⟨n,hn⟩:=ih tree e;exact ⟨n+1,.step h hn⟩
def qa (ins:List (T6×Int)) (rows:List (List Th)) (s:Int) (t:Th) (pl:List Int) (m:T6):Prop:=∃ (vm:T6) (vs row:List Th) (i:Nat) (kd:T6×Int) (p:Th) (n:Nat),0<=s/\t=.knot vm vs/\rows[s.toNat]?=some row/\ins[i]?=some kd/\kd.1=vm/\row[i]?=some p/\NmAt ins rows n p t pl m
theorem NmAt.goes {ins:List (T6×Int)} {rows:List (List Th)} {p v:Th} {q r:List Int} (h:In p q v):∀ {l k:Int} {tm m:T6} {us:List Th} {t1:Th},v=.call l k->0<=k->us[k.toNat]?=some t1->qa ins rows l t1 r m->∃ n,NmAt ins rows n p (.knot tm us) (q++r) m:=by
 induction h with
 | here =>
   intro l k tm m us t1 e hk hu hs;subst e;obtain ⟨vm,vs,row,i,kd,p,n,h0,rfl,hr,hi,hn,hp,h⟩:=hs;exact ⟨n+1,.call hk h0 hu hr hi hn hp h⟩
 | kid h i ih =>
   intro l k tm m us t1 e hk hu hs;obtain ⟨n,hn⟩:=ih e hk hu hs;exact ⟨n+1,.step h hn⟩
theorem NmAt.fill {ins outs:List (T6×Int)} {rows:List (List Th)} {S C:Int} {f:Int->Int->Th} {us:List Th} {tm:T6} (hf:∀ l k,0<=l->l<S->0<=k->k<C->∃ t1,us[k.toNat]?=some t1/\∀ pl m ks,In (f l k) pl (.knot m ks)->qa ins rows l t1 pl m):∀ (n:Nat) (p:Th) (pl:List Int) (m:T6) (ks:List Th),p.size<=n->p.FitS outs S C->In (p.fill f) pl (.knot m ks)->∃ n,NmAt ins rows n p (.knot tm us) pl m
 | 0,p,_,_,_,hn,_,_=>by have:=p.size_pos;omega
 | n+1,.call l k,pl,m,ks,_,h,hi=>by
   rw [Th.FitS] at h;rw [Th.fill] at hi;obtain ⟨t1,h1,h2⟩:=hf l k h.1 h.2.1 h.2.2.1 h.2.2.2;have:=NmAt.goes (p:=.call l k) (q:=[]) (tm:=tm) .here rfl h.2.2.1 h1 (h2 pl m ks hi);exact this
 | n+1,.knot nm vs,pl,m,ks,hn,h,hi=>by
   rw [Th.fill] at hi;cases hi with
   | here=>exact ⟨0,.here⟩
   | kid hj hr =>
     rename_i j u r
     rw [ju,T8] at hj;obtain ⟨v,hv,rfl⟩:=hj;rw [Th.size] at hn;have hz:=aG (Tj hv);obtain ⟨k,hk⟩:=NmAt.fill hf n v r m ks (by omega) (gv h hv) hr;exact ⟨k+1,.step hv hk⟩
end BB
namespace BB
open PySem L2
structure FrK (ins outs:List (T6×Int)) (rows:List (List Th)):Prop where
 gi:cf ins
 fit:wW ins outs (rows.length:Nat) rows
 le:rows.length<=20
 sz:∀ row∈rows,∀ p∈row,p.size<=200/\p.tall<=100
theorem FrK.mkd {ins outs:List (T6×Int)} {rows:List (List Th)} (F:FrK ins outs rows) {l:Int} (h0:0<=l) (h1:l<(rows.length:Nat)):∃ row p,rows[l.toNat]?=some row/\row[cK ins]?=some p/\mkF ins rows l=p/\p.size<=200/\p.tall<=100/\p.FitS outs (rows.length:Nat) 0:=by
 obtain ⟨k0,yW,CH⟩:=jW F.gi;have hI:=eY yW;obtain ⟨row,hr,er,hl,_⟩:=r8 F.fit h0 h1;have Qq:=(Tq.mp hI).1;obtain ⟨p,hp⟩:∃ p,row[cK ins]?=some p:=⟨_,Ti (by omega)⟩;have hm:=Tj hr;obtain ⟨z1,z2⟩:=F.sz row hm p (Tj hp);have hf:=(F.fit.row row hm).2 _ p k0 hp hI;rw [CH] at hf;exact ⟨row,p,hr,hp,by unfold mkF;rw [er,List.getD,hp];rfl,z1,z2,hf⟩
def bN (ins:List (T6×Int)) (n:Nat) (kid:Int) (t:Th):List Th:=(Ue n).map fun (i:Nat)=>if (i:Int)=kid then t else aQ ins
theorem im (ins:List (T6×Int)) (n:Nat) (kid:Int) (t:Th):(bN ins n kid t).length=n:=by unfold bN;rw [Te,Uh]
theorem pF {ins:List (T6×Int)} {n:Nat} {kid:Int} {t:Th} (h0:0<=kid) (h1:kid<(n:Int)):(bN ins n kid t)[kid.toNat]?=some t:=by
 unfold bN;rw [Tw,Uv (by omega),XH,if_pos (by omega)]
theorem j4 {ins:List (T6×Int)} {n:Nat} {kid:Int} {t u:Th} (h:u∈bN ins n kid t):u=t∨u=aQ ins:=by
 unfold bN at h;obtain ⟨i,_,rfl⟩:=Uw.mp h;by_cases hk:(i:Int)=kid
 · rw [if_pos hk];exact .inl rfl
 · rw [if_neg hk];exact .inr rfl
theorem iq (ins:List (T6×Int)):(aQ ins).size=1:=by unfold aQ;rw [Th.size,aq]
theorem oR {ins:List (T6×Int)} {n:Nat} (hn:n<=3) {kid:Int} {t:Th}:aq (bN ins n kid t)<=t.size+2:=by
 have h1:=iq ins;have h2:=t.size_pos
 have hp:∀ i:Nat,(if (i:Int)=kid then t else aQ ins).size<=t.size/\((i:Int)≠kid->(if (i:Int)=kid then t else aQ ins).size=1):=fun i=>by
  by_cases hk:(i:Int)=kid
  · rw [if_pos hk];exact ⟨To _,fun z=>absurd hk z⟩
  · rw [if_neg hk];exact ⟨by omega,fun _=>h1⟩
 obtain ⟨a0,b0⟩:=hp 0;obtain ⟨a1,b1⟩:=hp 1;obtain ⟨a2,b2⟩:=hp 2;have e0:aq (bN ins 0 kid t)=0:=by show aq []=0;rw [aq]
 have e1:aq (bN ins 1 kid t)=(if ((0:Nat):Int)=kid then t else aQ ins).size:=by show aq [if ((0:Nat):Int)=kid then t else aQ ins]=_;rw [aq,aq];omega
 have e2:aq (bN ins 2 kid t)=(if ((0:Nat):Int)=kid then t else aQ ins).size+(if ((1:Nat):Int)=kid then t else aQ ins).size:=by show aq [if ((0:Nat):Int)=kid then t else aQ ins,if ((1:Nat):Int)=kid then t else aQ ins]=_;rw [aq,aq,aq];omega
 have e3:aq (bN ins 3 kid t)=(if ((0:Nat):Int)=kid then t else aQ ins).size+(if ((1:Nat):Int)=kid then t else aQ ins).size+(if ((2:Nat):Int)=kid then t else aQ ins).size:=by show aq [if ((0:Nat):Int)=kid then t else aQ ins,if ((1:Nat):Int)=kid then t else aQ ins,if ((2:Nat):Int)=kid then t else aQ ins]=_;rw [aq,aq,aq,aq];omega
 generalize NT:(if ((0:Nat):Int)=kid then t else aQ ins).size=x0 at *;generalize C0:(if ((1:Nat):Int)=kid then t else aQ ins).size=x1 at *;generalize AK:(if ((2:Nat):Int)=kid then t else aQ ins).size=x2 at *
 have hc:x0+x1+x2<=t.size+2:=by
  by_cases k0:((0:Nat):Int)=kid
  · have:=b1 (by omega);have:=b2 (by omega);omega
  · have:=b0 k0;by_cases k1:((1:Nat):Int)=kid
    · have:=b2 (by omega);omega
    · have:=b1 k1;omega
 match n,hn with
 | 0,_=>rw [e0];omega
 | 1,_=>rw [e1];omega
 | 2,_=>rw [e2];omega
 | 3,_=>rw [e3];omega
theorem iA (ins:List (T6×Int)):(aQ ins).tall=1:=by unfold aQ;rw [Th.tall,bf]
theorem jn {ins:List (T6×Int)} (g:cf ins):(aQ ins).FitS ins 0 0:=by
 obtain ⟨k0,yW,CH⟩:=jW g;have hI:=eY yW;rw [eX yW,Th.FitS,FitSs];refine ⟨?_,trivial⟩;have:(k0.1,(([]:List Th).length:Int))=k0:=by rw [show (([]:List Th).length:Int)=k0.2 by rw [CH];rfl]
 rw [this];exact Tj hI
theorem oU {ins:List (T6×Int)} (g:cf ins) {kd:T6×Int} (hk:kd∈ins) {us:List Th} (hl:us.length=kd.2.toNat) (h:∀ u∈us,u.FitS ins 0 0):(Th.knot kd.1 us).FitS ins 0 0:=by
 rw [Th.FitS];refine ⟨?_,FitSs.of h⟩;have hn:=g.num kd hk;have:(kd.1,(us.length:Int))=kd:=by rw [show (us.length:Int)=kd.2 by omega]
 rw [this];exact hk
theorem o0 {ins outs:List (T6×Int)} {rows:List (List Th)} (F:FrK ins outs rows) {l:Int} (h0:0<=l) (h1:l<(rows.length:Nat)) {pl:List Int} {m:T6} {ks:List Th} (h:In (mkF ins rows l) pl (.knot m ks)):qa ins rows l (aQ ins) pl m:=by
 obtain ⟨k0,yW,CH⟩:=jW F.gi;have hI:=eY yW;obtain ⟨row,p,hr,hp,e,_⟩:=F.mkd h0 h1;rw [e] at h;obtain ⟨n,hn⟩:=NmAt.of (ins:=ins) (rows:=rows) h (aQ ins) rfl;exact ⟨k0.1,[],row,cK ins,k0,p,n,h0,eX yW,hr,hI,rfl,hp,hn⟩
def frS (ins:List (T6×Int)) (rows:List (List Th)) (s:Nat):Th:=frF (mkF ins rows) (mkF ins rows (s:Nat)) ((rows[s]?).getD [])
inductive Met (ins:List (T6×Int)) (rows:List (List Th)):Nat->List Int->Prop
 | hol {s i:Nat} {row:List Th} {x:List Int×Th} (hr:rows[s]?=some row) (hi:i<=row.length) (hx:x∈(frF (mkF ins rows) (mkF ins rows (s:Nat)) (row.take i)).pl []) (hh:x.2.isHole=true):Met ins rows s x.1
 | lnk {s:Nat} {row:List Th} {p u:Th} {c:List Int×Int×Int} {x:List Int×Th} (hr:rows[s]?=some row) (hp:p∈row) (hc:c∈callsOf (p.pl [])) (hu:(c.1,u)∈(frS ins rows s).pl []) (hx:x∈u.pl []) (m:Met ins rows c.2.1.toNat x.1):Met ins rows s (c.1++x.1)
def Lk0 (ins:List (T6×Int)) (rows:List (List Th)):LkT:=fun k s pl kd kid=>∃ (sn:Nat) (row:List Th) (i:Nat) (p:Th) (q x:List Int) (l:Int),s=(sn:Nat)/\rows[sn]?=some row/\row[i]?=some p/\ins[i]?=some kd/\In p q (.call l kid)/\k=nk l x/\pl=q++x/\(∃ u y,(q,u)∈(frS ins rows sn).pl []/\(x,y)∈u.pl [])
structure Way (ks:List az) (S D:Nat) (L:List (Nat×List Int)):Prop where
 nd:L.Nodup
 inn:∀ x∈L,nk (x.1:Nat) x.2∈ks/\x.1<S/\x.2.length<D
 suf:∀ (i j:Nat) (x y:Nat×List Int),i<=j->L[i]?=some x->L[j]?=some y->∃ q,x.2=q++y.2
theorem Way.mono {ks KC:List az} {S D:Nat} {L:List (Nat×List Int)} (h:Way ks S D L) (hs:∀ k∈ks,k∈KC):Way KC S D L:=⟨h.nd,fun x hx=>⟨hs _ (h.inn x hx).1,(h.inn x hx).2⟩,h.suf⟩
theorem Way.one {s S D:Nat} {pl:List Int} (h1:s<S) (h2:pl.length<D):Way [nk (s:Nat) pl] S D [(s,pl)]:=by
 refine ⟨by simp,fun x hx=>?_,fun i j x y _ hi hj=>?_⟩
 · rw [TY.mp hx];exact ⟨T2 ..,h1,h2⟩
 · have yq:=TY.mp (Tj hi);have yb:=TY.mp (Tj hj);rw [yq,yb];exact ⟨[],rfl⟩
theorem Way.cons {ks:List az} {S D:Nat} {L:List (Nat×List Int)} (h:Way ks S D L) {s:Nat} {q pl:List Int} {s0:Nat} (h0:L[0]?=some (s0,pl)) (h1:s<S) (h2:(q++pl).length<D) (hn:nk (s:Nat) (q++pl)∉ks):Way (ks++[nk (s:Nat) (q++pl)]) S D ((s,q++pl)::L):=by
 refine ⟨Xd.mpr ⟨fun z=>hn (h.inn _ z).1,h.nd⟩,fun x hx=>?_,fun i j x y CI hi hj=>?_⟩
 · rcases TR.mp hx with rfl | hx
   · exact ⟨Uj _ (T2 ..),h1,h2⟩
   · exact ⟨Ux _ (h.inn x hx).1,(h.inn x hx).2⟩
 · cases i with
   | zero =>
     cases hi;cases j with
     | zero=>cases hj;exact ⟨[],rfl⟩
     | succ j =>
       obtain ⟨q',e⟩:=h.suf 0 j _ _ (T4 _) h0 (by simpa using hj);exact ⟨q++q',by show q++pl=_;rw [show pl=q'++y.2 from e,Uy]⟩
   | succ i =>
     cases j with
     | zero=>omega
     | succ j=>exact h.suf i j _ _ (by omega) (by simpa using hi) (by simpa using hj)
theorem Way.len {ks:List az} {S D:Nat} {L:List (Nat×List Int)} (h:Way ks S D L):L.length<=S * D:=by
 have KR:(L.map fun x=>x.1 * D+x.2.length).Nodup:=by
  refine List.pairwise_iff_getElem.mpr ?_;intro i j hi hj CI;rw [Te] at hi hj;rw [List.getElem_map,List.getElem_map];intro z;have z':L[i].1 * D+L[i].2.length=L[j].1 * D+L[j].2.length:=z;obtain ⟨_,a1,a2⟩:=h.inn _ (Xx (l:=L) (n:=i) (by omega));obtain ⟨_,b1,b2⟩:=h.inn _ (Xx (l:=L) (n:=j) hj);obtain ⟨q,e⟩:=h.suf i j _ _ (by omega) (Ti (by omega)) (Ti hj);have hD:0<D:=by omega
  have e1:L[i].1=L[j].1:=by
   have h1:(L[i].1 * D+L[i].2.length) / D=L[i].1:=by rw [Nat.mul_comm,Nat.mul_add_div hD,Nat.div_eq_of_lt a2];rfl
   have h2:(L[j].1 * D+L[j].2.length) / D=L[j].1:=by rw [Nat.mul_comm,Nat.mul_add_div hD,Nat.div_eq_of_lt b2];rfl
   rw [<- h1,<- h2,z']
  have e2:L[i].2.length=L[j].2.length:=by rw [e1] at z';omega
  have hq:q=[]:=by
   have:=congrArg Wo e;rw [TZ] at this;exact UO.mp (by omega)
  have e3:L[i]=L[j]:=Prod.ext e1 (by rw [e,hq];rfl);exact (List.pairwise_iff_getElem.mp h.nd) i j hi hj CI e3
 have:=jt (m:=Ue (S * D)) KR fun k hk=>by
  obtain ⟨x,hx,rfl⟩:=Uw.mp hk;obtain ⟨_,a1,a2⟩:=h.inn x hx;refine V7.mpr ?_;have:(x.1+1) * D<=S * D:=XE _ a1;rw [Nat.succ_mul] at this;omega
 rwa [Te,Uh] at this
def Vt (ins:List (T6×Int)) (rows:List (List Th)) (c:Nat) (s:Nat) (pl:List Int) (t:Th) (m:T6):Prop:=t.FitS ins 0 0/\t.size<=1+3 * c/\t.tall<=1+c/\qa ins rows (s:Nat) t pl m
def Vl0 (ins:List (T6×Int)) (rows:List (List Th)) (D:Nat):VlT:=fun ks k t1 t2=>∃ (s:Nat) (pl:List Int) (m1 m2:T6) (L:List (Nat×List Int)),k=nk (s:Nat) pl/\Met ins rows s pl/\m1≠m2/\Way (ks++[k]) rows.length D L/\L[0]?=some (s,pl)/\Vt ins rows L.length s pl t1 m1/\Vt ins rows L.length s pl t2 m2
theorem In.len {t v:Th} {pl:List Int} (h:In t pl v):pl.length<t.tall:=by
 induction h with
 | here=>rename_i t;have:=t.tall_eq;show 0<_;omega
 | kid hj i ih =>
   rw [Tx,Th.tall];have:=bv (Tj hj);omega
theorem t5 {ins:List (T6×Int)} {rows:List (List Th)} {D:Nat} (hD:∀ s:Nat,s<rows.length->(mkF ins rows (s:Nat)).tall<=D) {s:Nat} (hs:s<rows.length) {row:List Th} {pl:List Int} {v:Th} (h:(pl,v)∈(frF (mkF ins rows) (mkF ins rows (s:Nat)) row).pl []):pl.length<D:=by
 obtain ⟨u,hu⟩:=pq _ _ _ _ h;have h1:pl.length<_:=(In.of _ (To _) hu).len;have:=hD s hs;omega
theorem uk {ins outs:List (T6×Int)} {rows:List (List Th)} (F:FrK ins outs rows) (go:cf outs) {D:Nat} (hD:∀ s:Nat,s<rows.length->(mkF ins rows (s:Nat)).tall<=D) {s:Nat} {row:List Th} (xO:rows[s]?=some row) (i:Nat) (p:Th) (kd:T6×Int) (pl:List Int) (u:Th) (ks:List az) (hp:row[i]?=some p) (hk:ins[i]?=some kd) (hu:(pl,u)∈(frF (mkF ins rows) (mkF ins rows (s:Nat)) (row.take (i+1))).pl []) (hh:u.isHole=true) (hv:∀ v,(pl,v)∈(frF (mkF ins rows) (mkF ins rows (s:Nat)) (row.take i)).pl []->v.isHole=false) :
 Vl0 ins rows D ks (nk (s:Nat) pl) (aQ ins) (.knot kd.1 (U0 kd.2.toNat (aQ ins))):=by
 have hs:=(Tq.mp xO).1;have g:=F.gi;have NU:=Tj hk;have C4:=g.num kd NU;have zM:row.take (i+1)=row.take i++[p]:=by rw [UZ,hp];rfl
 have KS:=t5 hD hs hu;have EU:Met ins rows s pl:=.hol (x:=(pl,u)) (i:=i+1) xO (by have:=(Tq.mp hp).1;omega) hu hh;rw [zM,j7,In.iff] at hu;obtain ⟨Qr,p0,KU,D0,CJ,_,_,f0⟩:=F.mkd (l:=(s:Nat)) (by omega) (by omega);have Kc:(mkF ins rows (s:Nat)).noCall:=by rw [CJ];exact f7 _ _ (To _) f0
 have hl:=(kD (mk:=mkF ins rows) (frF (mkF ins rows) (mkF ins rows (s:Nat)) (row.take i)) (row.take i) (mkF ins rows (s:Nat)) (gI _ _ (To _) (io Kc _))).1;have Cp:=(F.fit.row row (Tj xO)).2 i p kd hp hk
 have GX:(p.fill fun l _=>mkF ins rows l).FitS outs (rows.length:Nat) 0:=mJ (fun l k h0 h1=>by
  obtain ⟨_,p1,_,_,e,_,_,f1⟩:=F.mkd h0 h1;rw [e];exact f1) _ p (To _) Cp
 obtain ⟨m1,m2,k1,k2,yd,i1,i2⟩:=qm go _ _ _ (mkF ins rows (s:Nat)) u pl (To _) hu hh (fun v h=>hv v (In.iff.mpr h)) hl (io Kc _) (by rw [CJ];exact f0) GX;refine ⟨s,pl,m1,m2,[(s,pl)],rfl,EU,yd,(Way.one hs KS).mono (fun k hk=>Uj _ hk),rfl,⟨jn g,by rw [iq];omega,by rw [iA];omega,o0 F (by omega) (by omega) i1⟩,⟨oU g NU (Wa ..) (fun u hu=>by rw [Yb hu];exact jn g),?_,?_,?_⟩⟩
 · rw [Th.size]
   have:∀ n:Nat,aq (U0 n (aQ ins))=n:=fun n=>by
    induction n with
    | zero=>rw [List.replicate_zero,aq]
    | succ n ih=>rw [List.replicate_succ,aq,ih,iq];omega
   rw [this];have:[(s,pl)].length=1:=rfl;omega
 · rw [Th.tall];have:bf (U0 kd.2.toNat (aQ ins))<=1:=fb fun t ht=>by rw [Yb ht,iA];exact To _
   have:[(s,pl)].length=1:=rfl;omega
 · obtain ⟨n,hn⟩:=NmAt.fill (ins:=ins) (rows:=rows) (tm:=kd.1) (us:=U0 kd.2.toNat (aQ ins)) (fun l k h0 h1 h2 h3=>⟨aQ ins,by rw [List.getElem?_replicate,if_pos (by omega)],fun pl m ks hi=>o0 F h0 h1 hi⟩) _ p pl m2 k2 (To _) Cp i2;exact ⟨kd.1,_,row,i,kd,p,n,by omega,rfl,xO,hk,rfl,hp,hn⟩
theorem In.fit {ks:List (T6×Int)} {S C:Int} {p v:Th} {q:List Int} (h:In p q v):p.FitS ks S C->v.FitS ks S C:=by
 induction h with
 | here=>exact fun h=>h
 | kid h i ih=>exact fun hf=>ih (gv hf h)
theorem vO {ins outs:List (T6×Int)} {rows:List (List Th)} (F:FrK ins outs rows) {D:Nat} (hD:∀ s:Nat,s<rows.length->(mkF ins rows (s:Nat)).tall<=D) (ks:List az) (i:Nat) (k:az) (t1 t2:Th) (s:Int) (pl:List Int) (kd:T6×Int) (kid:Int) (Qs:ks[i]?=some k) (hv:Vl0 ins rows D (ks.take i) k t1 t2) (hk:kd∈ins) (hL:Lk0 ins rows k s pl kd kid) (EN:nk s pl∉ks) :
 Vl0 ins rows D ks (nk s pl) (.knot kd.1 (bN ins kd.2.toNat kid t1)) (.knot kd.1 (bN ins kd.2.toNat kid t2)):=by
 obtain ⟨s',zg,m1,m2,L,e,EU,yd,hW,Qt,v1,v2⟩:=hv;obtain ⟨sn,row,i',p,q,x,l,rfl,hr,hp,hi,A',e2,rfl,u0,y0,Jq,NV⟩:=hL;have e3:=e.symm.trans e2;obtain ⟨rfl,rfl⟩:=pG e3;have g:=F.gi;have C4:=g.num kd hk;have NW:=(Tq.mp hr).1;have Cp:=(F.fit.row row (Tj hr)).2 i' p kd hp hi;have hc:=A'.fit Cp;rw [Th.FitS] at hc
 have KS:(q++zg).length<D:=by
  have h1:=nC _ (To _) Jq NV;rw [frS] at h1;exact t5 hD NW h1
 have Qu:Way ks rows.length D L:=hW.mono fun z hz=>by
  rcases UA.mp hz with hz | hz
  · exact YD hz
  · rw [TY.mp hz];exact Tj Qs
 have one:∀ (t:Th) (m:T6),Vt ins rows L.length s' zg t m->Vt ins rows (L.length+1) sn (q++zg) (.knot kd.1 (bN ins kd.2.toNat kid t)) m:=fun t m ⟨a1,a2,a4,a3⟩=>by
  refine ⟨oU g hk (im ..) fun u hu=>?_,?_,?_,?_⟩
  · rcases j4 hu with rfl | rfl
    · exact a1
    · exact jn g
  · rw [Th.size];have:=oR (ins:=ins) (n:=kd.2.toNat) (by omega) (kid:=kid) (t:=t);omega
  · rw [Th.tall]
    have:bf (bN ins kd.2.toNat kid t)<=1+L.length:=fb fun u hu=>by
     rcases j4 hu with rfl | rfl
     · exact a4
     · rw [iA];omega
    omega
  · obtain ⟨n,hn⟩:=NmAt.goes (ins:=ins) (rows:=rows) (tm:=kd.1) A' rfl hc.2.2.1 (pF (ins:=ins) (n:=kd.2.toNat) (t:=t) hc.2.2.1 (by omega)) a3;exact ⟨kd.1,_,row,i',kd,p,n,by omega,rfl,hr,hi,rfl,hp,hn⟩
 exact ⟨sn,q++zg,m1,m2,(sn,q++zg)::L,rfl,.lnk (c:=(q,((s':Nat):Int),kid)) (x:=(zg,y0)) hr (Tj hp) (cC.mpr (In.to A')) Jq NV (by rw [Vh];exact EU),yd,Qu.cons Qt NW KS EN,rfl,one t1 m1 v1,one t2 m2 v2⟩
theorem qw {f':List (az×V)} (hn:(f'.map (·.1)).Nodup) {j:Nat} {p:az×V} (h:f'[j]?=some p) {v:V} (hv:aW f' p.1=some v):v=p.2:=by
 obtain ⟨i,hi⟩:=TU.mp (eR hv);have h1:(f'.map (·.1))[i]?=some p.1:=by rw [Tw,hi];rfl
 have h2:(f'.map (·.1))[j]?=some p.1:=by rw [Tw,h];rfl
 have CI:i=j:=(X1 (by have:=(Tq.mp h1).1;exact this) hn).mp (h1.trans h2.symm);subst CI;rw [h] at hi;have e:=T5 hi;rw [e]
theorem tZ {ins:List (T6×Int)} {rows:List (List Th)} {s:Nat} {row:List Th} (h:rows[s]?=some row):frS ins rows s=frF (mkF ins rows) (mkF ins rows (s:Nat)) row:=by
 unfold frS;rw [h];rfl
structure FrD (ins:List (T6×Int)) (rows:List (List Th)) (ks:List az):Prop where
 hl:∀ (s i:Nat) (row:List Th),rows[s]?=some row->i<=row.length->∀ x∈(frF (mkF ins rows) (mkF ins rows (s:Nat)) (row.take i)).pl [],x.2.isHole=true->nk (s:Nat) x.1∈ks
 cl:∀ (s:Nat) (row:List Th),rows[s]?=some row->∀ p∈row,∀ c∈callsOf (p.pl []),∀ u,(c.1,u)∈(frS ins rows s).pl []->∀ x∈u.pl [],nk c.2.1 x.1∈ks->nk (s:Nat) (c.1++x.1)∈ks
theorem FrD.hol {ins:List (T6×Int)} {rows:List (List Th)} {ks:List az} (h:FrD ins rows ks) (s:Nat) (hs:s<rows.length):∀ x∈(frS ins rows s).pl [],x.2.isHole=true->nk (s:Nat) x.1∈ks:=fun x hx hh=>by
 obtain ⟨row,hr⟩:∃ row,rows[s]?=some row:=⟨_,Ti hs⟩;rw [tZ hr] at hx;exact h.hl s row.length row hr (To _) x (by rw [V1];exact hx) hh
theorem FrD.met {ins outs:List (T6×Int)} {rows:List (List Th)} (F:FrK ins outs rows) {ks:List az} (h:FrD ins rows ks) {s:Nat} {pl:List Int} (m:Met ins rows s pl):nk (s:Nat) pl∈ks:=by
 induction m with
 | hol hr hi hx hh=>exact h.hl _ _ _ hr hi _ hx hh
 | lnk hr hp hc hu hx m ih =>
   rename_i s row p u c x
   refine h.cl _ _ hr _ hp _ hc _ hu _ hx ?_;obtain ⟨j,hj⟩:=TU.mp hp;have D1:=(F.fit.row row (Tj hr)).1;obtain ⟨k0,yW⟩:∃ k0,ins[j]?=some k0:=⟨_,Ti (by have:=(Tq.mp hj).1;omega)⟩;have:=gG p [] ((F.fit.row row (Tj hr)).2 j p k0 hj yW) c hc;rw [Wu this.1] at ih;exact ih
def KeyM (ins:List (T6×Int)) (rows:List (List Th)) (f':List (az×V)):Prop:=∀ (s:Nat) (pl:List Int),Dk f' (s:Nat) pl=true↔Met ins rows s pl
theorem uo {ins outs:List (T6×Int)} {rows:List (List Th)} (F:FrK ins outs rows) {f':List (az×V)} (h:FrD ins rows (f'.map (·.1))) {D:Nat} (hv:∀ p∈f',∃ ks t1 t2,Vl0 ins rows D ks p.1 t1 t2):KeyM ins rows f':=fun s pl=>by
 constructor
 · intro hd;obtain ⟨p,hp,e⟩:=Uw.mp (jo.mp hd);obtain ⟨j,t1,t2,s',zg,m1,m2,L,e2,hm,_⟩:=hv p hp;have e3:=e2.symm.trans e;obtain ⟨e4,rfl⟩:=pG e3;have:s'=s:=by omega
   subst this;exact hm
 · exact fun m=>jo.mpr (h.met F m)
theorem KeyM.eq {ins:List (T6×Int)} {rows:List (List Th)} {k1 k2:List (az×V)} (h1:KeyM ins rows k1) (h2:KeyM ins rows k2) (s:Nat):Dk k1 (s:Nat)=Dk k2 (s:Nat):=funext fun pl=>by
 rw [Xg,h1,h2]
end BB
namespace L2
open PySem PySem.Spec PyProof.Rows
def tz (K:Tg) (a:Tn):It:=⟨fun i H=>∃ xs x,SqL K H a xs/\xs[i]?=some x,fun i H x H'=>∃ p y,H p=none/\x=.ref p/\H'=upd H p (.tup [.int (i:Nat),y])/\∀ xs,SqL K H a xs->xs[i]?=some y,fun i H=>∃ xs,SqL K H a xs/\xs.length=i⟩
theorem pU {P:TF} {w:T3} {K:Tg} {elts:List UP} {k1} {pos:Xv} (a e it:Tn):Turn P w K (.Tuple elts k1 pos) (tz K a) [e,it] e (fun i h=>(∃ old,IsEnum h e it ((i:Nat):Int) old)/\h.IsListIter it a i) where
 mem:=by simp
 obj:=fun i h st b hb=>by
  obtain ⟨⟨old,he⟩,o,e1,e2,e3⟩:=st;rcases TR.mp hb with rfl | hb
  · exact ⟨_,he,fun v z=>by cases z⟩
  · have:b=it:=by simpa using hb
    subst this;exact ⟨o,e1,fun v z=>by rw [e3] at z;cases z⟩
 keep:=fun i h h' st k=>by
  obtain ⟨⟨old,he⟩,o,e1,e2⟩:=st;exact ⟨⟨old,k e (by simp) _ he⟩,o,k it (by simp) _ e1,e2⟩
 item:=by
  intro X hP hw hK hc i pins s σ H E I hf st hg;subst hP hw hK;obtain ⟨xs,x,hq,hx⟩:=hg;obtain ⟨its,rv,p,hz⟩:=I.list hq;obtain ⟨u,hu,ru⟩:=rv.get hx;obtain ⟨⟨old,he⟩,hi⟩:=st
  have EC:e≠it:=by
   rintro rfl;obtain ⟨o,e1,e2,_⟩:=hi;rw [he] at e1;cases e1;exact absurd (Vn e2) (by decide)
  have ED:a≠it:=by
   rintro rfl;obtain ⟨o,e1,e2,_⟩:=hi;obtain ⟨o',zE,zD,_⟩:=p.isList;rw [zE] at e1;cases e1;rw [zD] at e2;exact absurd (Vn e2) (by decide)
  have Km:a≠e:=by
   rintro rfl;obtain ⟨o',zE,zD,_⟩:=p.isList;rw [he] at zE;cases zE;exact absurd (Vn zD) (by decide)
  have xV:i<its.toArray.size:=by
   have:=(Tq.mp hu).1;simpa using this
  have Kn:e<s.heap.objs.size:=TJ he;have zW:it<s.heap.objs.size:=by obtain ⟨o,e1,_⟩:=hi;exact TJ e1
  refine wpAny_pyNext_enum_itemD (Draws.list (A:=X.A.in1) (show X.A.in1.handled=none from I.ok.hd hc) it a ED its.toArray) he ⟨hi,p.isList⟩ xV EC (by simp [EC,Km.symm]) fun y h1 tk hy ho FJ hT hsz hk=>?_
  have Ko:y=u:=by
   have:its[i]?=some y:=by simpa using hy
   rw [hu] at this;exact (T5 this).symm
  subst Ko;refine ⟨_,rfl,wpAny_letOwnedTupleGo_enum ho fun h2 Kp B6=>?_⟩;replace B6:Vq e h1 h2:=B6
  have yd:∀ b∈[e,it],b<s.heap.objs.size:=fun b hb=>by
   rcases TR.mp hb with rfl | hb
   · exact Kn
   · have:b=it:=by simpa using hb
     subst this;exact zW
  have GA:H s.heap.objs.size=none:=I.hok.fresh (To _)
  have IA:Inv X pins σ (upd H s.heap.objs.size (.tup [.int (i:Nat),x])) { s with heap:=s.heap.push { cls:=.type "tuple",data:=.seq #[.int (i:Nat) tk,y] },toks:=tk } :=
   I.laid (o:=.tup [.int (i:Nat),x]) (fun b ob q=>Tr _ q) (To _) ⟨by show 2<=TN;decide,[.int (i:Nat) tk,y],0,.cons ⟨tk,rfl⟩ (.cons ru .nil),TC _ rfl⟩
  refine ⟨.ref s.heap.objs.size,upd H s.heap.objs.size (.tup [.int (i:Nat),x]),?_,rfl,⟨_,x,GA,rfl,rfl,fun ys Gy=>by rw [I.list_inj Gy hq];exact hx⟩,⟨⟨y,by simpa using Kp⟩,?_⟩,fun b hb=>?_⟩
  · have IB:Inv X pins σ (upd H s.heap.objs.size (.tup [.int (i:Nat),x])) { s with heap:=h2,toks:=tk+1 }:=by
     refine Inv.turnedL (s:={ s with heap:=s.heap.push { cls:=.type "tuple",data:=.seq #[.int (i:Nat) tk,y] },toks:=tk }) (h':=h2) (fp:=[e,it]) (t':=tk+1) IA (fun b o hb q=>?_) fun b hb=>?_
     · have Bg:b≠e:=fun z=>hb (by simp [z]);have Kq:b≠it:=fun z=>hb (by simp [z]);rw [B6.2 b Bg];by_cases yf:b=s.heap.objs.size
       · subst yf;rw [hT];have q':(s.heap.push { cls:=.type "tuple",data:=.seq #[.int (i:Nat) tk,y] }).get? s.heap.objs.size=some o:=q;rw [TC _ rfl] at q';exact q'
       · have zN:b<(s.heap.push { cls:=.type "tuple",data:=.seq #[.int (i:Nat) tk,y] }).objs.size:=TJ q;rw [UR] at zN;refine hk b o Bg Kq ?_;have q':(s.heap.push { cls:=.type "tuple",data:=.seq #[.int (i:Nat) tk,y] }).get? b=some o:=q;rw [Heap.get?_push_ne _ _ _ yf] at q';exact q'
     · obtain ⟨f0,f1⟩:=hf b hb;exact ⟨by rw [ak (Ui (yd b hb))];exact f0,f1⟩
    exact IB
  · obtain ⟨o,e1,r⟩:=FJ.1;exact ⟨o,(B6.2 it (Vp EC)).trans e1,r⟩
  · rw [ak (Ui (yd b hb))];exact (hf b hb).1
 done:=by
  intro X hP hw hK hc i pins s σ H E I hf st hg;subst hP hw hK;obtain ⟨xs,hq,hx⟩:=hg;obtain ⟨its,rv,p,hz⟩:=I.list hq;obtain ⟨⟨old,he⟩,hi⟩:=st
  have ED:a≠it:=by
   rintro rfl;obtain ⟨o,e1,e2,_⟩:=hi;obtain ⟨o',zE,zD,_⟩:=p.isList;rw [zE] at e1;cases e1;rw [zD] at e2;exact absurd (Vn e2) (by decide)
  have hn:its.toArray.size=i:=by
   have:=rv.length;rw [Tz];omega
  refine wpAny_pyNext_enum_endD (Draws.list (A:=X.A.in1) (show X.A.in1.handled=none from I.ok.hd hc) it a ED its.toArray) he (by rw [hn];exact ⟨hi,p.isList⟩) fun h' eb=>⟨rfl,?_⟩;exact I.turnedL (fp:=[e,it]) (t':=s.toks) (fun b o hb q=>eb b o (fun z=>hb (by simp [z])) q) hf
 self:=fun _ _ _ _ _ st h=>by
  obtain ⟨⟨old,he⟩,_⟩:=st;exact Yo he h
section
variable {X:Cx} {e:UP} {te:TE} {p2 yh:Xv}
def vQ (K:Tg) (tl:TE):TI:=fun σ H R=>tl σ H fun x H1=>∃ a,x=.ref a/\(∃ xs,SqL K H1 a xs)/\R (tz K a) H1
theorem jX {elts:List UP} {k1} {pos:Xv} (g2:Gl X "enumerate") (m2:X.mg "enumerate"=none) (he:PE X e te) (h2:UD [e] X.env=[(false,VY e X.env)]:=by rfl):PI X (.Tuple elts k1 pos) (.Call (.Name "enumerate" p2) [e] [] yh) (vQ X.K te):=by
 intro pins s σ H R I h;refine Ve (cU I g2 m2 boot_enumerate (UB ?_ h2 rfl));rw [h2];show TM _ _ (spliced ((false,VY e X.env)::[])) _ _ s;refine Vg (thn (he pins s σ H _ I h) fun u s1 ⟨x,H1,I1,r1,a,ex,⟨xs,hq⟩,q⟩=>VJ ?_);subst ex;cases r1;obtain ⟨its,rv,p,hz⟩:=I1.list hq;refine call_enumerate_list (show s1.heap.IsList a its.toArray from p.isList) fun h' g1 g2 g3 g4=>?_;refine Yo (s:={ s1 with heap:=h' }) g1 ?_;refine ⟨s1.heap.objs.size+1,[s1.heap.objs.size+1,s1.heap.objs.size],_,_,H1,rfl,I1.kept (t':=s1.toks) g4,pU a _ _,⟨⟨_,g1⟩,g2⟩,fun b hb=>?_,q⟩
 have zw:s1.heap.objs.size<=b:=by
  rcases TR.mp hb with rfl | hb
  · omega
  · have:b=s1.heap.objs.size:=by simpa using hb
    exact Y6 this.symm
 exact I1.fpOk zw (I1.hok.fresh zw)
end
theorem mI {K:Tg} {a:Tn} {xs:List V} {g:TG} {tb:TS} {D:Ends} {σ:St} {H:Hp} (Pv:Nat->St->Hp->Prop) (h0:Pv 0 σ H) (hl:∀ i σ H,i<=xs.length->Pv i σ H->SqL K H a xs)
 (hs:∀ i x p σ H,xs[i]?=some x->H p=none->Pv i σ H->g (.ref p) σ (upd H p (.tup [.int (i:Nat),x])) fun yc H2=>tb { D with nx:=Pv (i+1),ct:=Pv (i+1),bk:=D.nx } yc H2) (hd:∀ σ H,Pv xs.length σ H->D.nx σ H) :
 ∃ W:Nat->Nat->St->Hp->Prop,(∃ m,W 0 m σ H)/\∀ i m σ H,W i m σ H →
   ((tz K a).stop i H/\D.nx σ H)∨((tz K a).go i H/\∃ N:St->Hp->Prop,(∀ xM H',N xM H'->∃ m',m'<m/\W (i+1) m' xM H')/\∀ x H',(tz K a).yld i H x H'->g x σ H' fun yc H2=>tb { D with nx:=N,ct:=N,bk:=D.nx } yc H2):=by
 refine ⟨fun i m σ H=>m=xs.length - i/\i<=xs.length/\Pv i σ H,⟨xs.length,by simp,T4 _,h0⟩,?_⟩;rintro i m σ H ⟨rfl,hi,p⟩;have q:=hl i σ H hi p;by_cases xV:i<xs.length
 · refine .inr ⟨⟨xs,xs[i],q,by simp [xV]⟩,Pv (i+1),fun xM H' p'=>⟨xs.length - (i+1),by omega,rfl,xV,p'⟩,fun x H' y=>?_⟩;obtain ⟨pa,y,hp,rfl,rfl,hy⟩:=y;exact hs i y pa σ H (hy xs q) hp p
 · have e:i=xs.length:=by omega
   subst e;exact .inl ⟨⟨xs,q,rfl⟩,hd σ H p⟩
end L2
namespace L2
open PySem PySem.Spec PySem.SeqAt PyProof.Rows BB
end L2
namespace LAW
open PySem L2 BB
def top (i:Nat):VD:=PySem.Challenge.pw_boughbook_k60_whole_long_chains.main.body.getD i (.Pass ⟨0,0,0,0⟩)
theorem scm {N P:List T6} {sc:Xu} (a:sc.kind=.function:=by rfl) (b:sc.isCoroutine=false:=by rfl) (c:sc.isGenerator=false:=by rfl) (d:N.Nodup:=by decide +kernel) (e:N.take P.length=P:=by rfl) (f:∀ x∈P,sc.names.lookup x=some .local∨sc.names.lookup x=some .cell:=by decide +kernel) (g:∀ y∈sc.names,y.2≠.free:=by decide +kernel):aD N P sc:=⟨a,b,c,d,e,f,g⟩
abbrev jq:VD:=top 3
theorem qg:aD ["thing"] ["thing"] (am jq):=scm
abbrev ki:VD:=top 4
theorem gB:aD ["thing","met","ahead","part"] ["thing"] (am ki):=scm
abbrev j8:VD:=top 5
theorem dB:aD ["thing","met","ahead","place","part","kids"] ["thing"] (am j8):=scm
abbrev nG:VD:=top 6
theorem iN:aD ["tops","done","top","many"] ["tops"] (am nG):=scm
abbrev kj:VD:=top 7
theorem rZ:aD ["tree"] ["tree"] (am kj):=scm
abbrev i7:VD:=top 10
theorem p8:aD ["thing"] ["thing"] (am i7):=scm
abbrev jk:VD:=top 11
theorem pO:aD ["thing"] ["thing"] (am jk):=scm
abbrev jc:VD:=top 12
theorem pQ:aD ["thing"] ["thing"] (am jc):=scm
abbrev gx:VD:=top 13
theorem mL:aD ["call"] ["call"] (am gx):=scm
abbrev ik:VD:=top 14
theorem n8:aD ["pattern"] ["pattern"] (am ik):=scm
abbrev ip:VD:=top 15
theorem n5:aD ["front"] ["front"] (am ip):=scm
abbrev jY:VD:=top 16
theorem mf:aD ["part","many"] ["part"] (am jY):=scm
abbrev kW:VD:=top 17
theorem jj:aD ["pattern","table","tops","part"] ["pattern","table"] (am kW):=scm
abbrev iz:VD:=top 18
theorem oO:aD ["one","two"] ["one","two"] (am iz):=scm
abbrev dD:VD:=top 19
theorem b9:aD ["one","two","met","ahead","left","right"] ["one","two"] (am dD):=scm
abbrev kP:VD:=top 20
theorem gA:aD ["one","two","tops","left","right"] ["one","two"] (am kP):=scm
abbrev kM:VD:=top 22
theorem si:aD ["book"] ["book"] (am kM):=scm
abbrev iC:VD:=top 23
theorem oB:aD ["book"] ["book"] (am iC):=scm
abbrev gd:VD:=top 24
theorem mR:aD ["book"] ["book"] (am gd):=scm
abbrev fE:VD:=top 26
theorem lH:aD ["ins"] ["ins"] (am fE):=scm
abbrev fw:VD:=top 27
theorem eM:aD ["ins","kind","kids","name","many"] ["ins","kind","kids"] (am fw):=scm
abbrev dh:VD:=top 28
theorem bj:aD ["book","names","at","made","state","patterns","kid"] ["book"] (am dh):=scm
abbrev eF:VD:=top 29
theorem bB:aD ["book","state","made","partings","ins","front","kind","pattern","place"] ["book","state","made","partings"] (am eF):=scm
abbrev gp:VD:=top 30
theorem bI:aD ["book","state","front","links","parts","kind","pattern","place","lower","kid","inner"] ["book","state","front","links"] (am gp):=scm
abbrev kL:VD:=top 31
theorem ce:aD ["ins","links","partings","holes","at","one","two","state","place","kind","kid"] ["ins","links","partings"] (am kL):=scm
abbrev gf:VD:=top 32
theorem cu:aD ["front","state","partings","tops","ahead","place","part","kids"] ["front","state","partings"] (am gf):=scm
abbrev dP:VD:=top 33
theorem bu:aD ["book","made","partings","firsts","links","state","front"] ["book"] (am dP):=scm
abbrev fW:VD:=top 34
theorem fk:aD ["book","fronts","partings"] ["book"] (am fW):=scm
abbrev eK:VD:=top 35
theorem bU:aD ["book","fronts","partings","told","state","front"] ["book"] (am eK):=scm
abbrev gu:VD:=top 37
theorem nq:aD ["script","k"] ["script","k"] (am gu):=scm
abbrev eB:VD:=top 38
theorem dR:aD ["cells","many","found","k"] ["cells","many"] (am eB):=scm
abbrev fq:VD:=top 39
theorem bd:aD ["cell","every","step","at","word","k","names","turn"] ["cell"] (am fq):=scm
abbrev dO:VD:=top 40
theorem bg:aD ["book","state","tree","place","names","thing","at"] ["book","state","tree","place"] (am dO):=scm
abbrev dJ:VD:=top 41
theorem bC:aD ["ins","tree","most","waiting","many","knot","deep"] ["ins","tree","most"] (am dJ):=scm
abbrev dg:VD:=top 42
theorem jh:aD ["outs","front"] ["outs","front"] (am dg):=scm
abbrev fA:VD:=top 43
theorem de:aD ["front","found","k"] ["front"] (am fA):=scm
abbrev gw:VD:=top 44
theorem m7:aD ["front","thing","fronts"] ["front","thing","fronts"] (am gw):=scm
abbrev cn:VD:=top 45
theorem fO:aD ["book","fronts"] ["book","fronts"] (am cn):=scm
abbrev cx:VD:=top 46
theorem ck:aD ["book","fronts","pairs","state","pair"] ["book","fronts","pairs"] (am cx):=scm
abbrev cI:VD:=top 47
theorem bi:aD ["book","fronts","pairs","state","spots","k","one","two"] ["book","fronts","pairs"] (am cI):=scm
abbrev eC:VD:=top 48
theorem dE:aD ["book","fronts","state","pattern"] ["book","fronts"] (am eC):=scm
abbrev fx:VD:=top 49
theorem bM:aD ["number","outs","many","end","made","k"] ["number","outs","many","end"] (am fx):=scm
abbrev fS:VD:=top 50
theorem dk:aD ["cell","spine","states","state","kids","kid","call","k"] ["cell","spine","states","state","kids"] (am fS):=scm
abbrev ft:VD:=top 51
theorem aN:aD ["script","outs","names","kids","ins","states","many","number","spine","cells","rules","state","row"] ["script"] (am ft):=scm
abbrev iJ:VD:=top 52
theorem nF:aD ["script","book","fronts","pairs"] ["script"] (am iJ):=scm
structure FX (K:Tg) (mg:T6->Option Tp) (n:T6) (s:VD) (ps:List T6) where
 f:Tn
 d:WO
 F:Fun K n n s f d
 b:Binds K d ps []
 m:mg n=some (.ref f)
section
open PySem.W
variable {K:Frag} {mg:T6->Option Tp} {h:US} {n:T6} {st:VD} {f:Tn} {oc kV dc pm cd ct:Tp} {od an:Option Tn} {sl:Array (Option Tp)} (X:K.In h) (G:h.Ns Uo mg)
noncomputable def fx1 {p0:T6} (a:nsIn K Uo n=some (some (.ref f)):=by k_is) (l:K.lookup f=some ⟨oc,od,.func (fnOf n n (bO st) (bL st) (am st) .none kV dc pm an cd ct),sl⟩:=by k_is) (c:codeIn K cd n=true:=by k_is) (k:keepIn K (.ref f)=true:=by k_is) (hb:∀ (kV dc pm:Tp) (an:Option Tn) (cd ct u0:Tp),Y1 (fnOf n n (bO st) (bL st) (am st) .none kV dc pm an cd ct) ⟨[u0],[]⟩=pure [(p0,u0)]:=by intros;rfl):FX K mg n st [p0] :=
 ⟨f,_,dH l c k,(dH l c k).binds fun a b c d e f us hl=>by obtain ⟨u0,rfl⟩:=us1 hl;exact hb a b c d e f u0,mg_of X G a⟩
noncomputable def fx2 {p0 p1:T6} (a:nsIn K Uo n=some (some (.ref f)):=by k_is) (l:K.lookup f=some ⟨oc,od,.func (fnOf n n (bO st) (bL st) (am st) .none kV dc pm an cd ct),sl⟩:=by k_is) (c:codeIn K cd n=true:=by k_is) (k:keepIn K (.ref f)=true:=by k_is) (hb:∀ (kV dc pm:Tp) (an:Option Tn) (cd ct u0 u1:Tp),Y1 (fnOf n n (bO st) (bL st) (am st) .none kV dc pm an cd ct) ⟨[u0,u1],[]⟩=pure [(p0,u0),(p1,u1)]:=by intros;rfl):FX K mg n st [p0,p1] :=
 ⟨f,_,dH l c k,(dH l c k).binds fun a b c d e f us hl=>by obtain ⟨u0,u1,rfl⟩:=us2 hl;exact hb a b c d e f u0 u1,mg_of X G a⟩
noncomputable def fx3 {p0 p1 p2:T6} (a:nsIn K Uo n=some (some (.ref f)):=by k_is) (l:K.lookup f=some ⟨oc,od,.func (fnOf n n (bO st) (bL st) (am st) .none kV dc pm an cd ct),sl⟩:=by k_is) (c:codeIn K cd n=true:=by k_is) (k:keepIn K (.ref f)=true:=by k_is) (hb:∀ (kV dc pm:Tp) (an:Option Tn) (cd ct u0 u1 u2:Tp),Y1 (fnOf n n (bO st) (bL st) (am st) .none kV dc pm an cd ct) ⟨[u0,u1,u2],[]⟩=pure [(p0,u0),(p1,u1),(p2,u2)]:=by intros;rfl):FX K mg n st [p0,p1,p2] :=
 ⟨f,_,dH l c k,(dH l c k).binds fun a b c d e f us hl=>by obtain ⟨u0,u1,u2,rfl⟩:=us3 hl;exact hb a b c d e f u0 u1 u2,mg_of X G a⟩
noncomputable def fx4 {p0 p1 p2 p3:T6} (a:nsIn K Uo n=some (some (.ref f)):=by k_is) (l:K.lookup f=some ⟨oc,od,.func (fnOf n n (bO st) (bL st) (am st) .none kV dc pm an cd ct),sl⟩:=by k_is) (c:codeIn K cd n=true:=by k_is) (k:keepIn K (.ref f)=true:=by k_is) (hb:∀ (kV dc pm:Tp) (an:Option Tn) (cd ct u0 u1 u2 u3:Tp),Y1 (fnOf n n (bO st) (bL st) (am st) .none kV dc pm an cd ct) ⟨[u0,u1,u2,u3],[]⟩=pure [(p0,u0),(p1,u1),(p2,u2),(p3,u3)]:=by intros;rfl):FX K mg n st [p0,p1,p2,p3] :=
 ⟨f,_,dH l c k,(dH l c k).binds fun a b c d e f us hl=>by obtain ⟨u0,u1,u2,u3,rfl⟩:=us4 hl;exact hb a b c d e f u0 u1 u2 u3,mg_of X G a⟩
noncomputable def fx5 {p0 p1 p2 p3 p4:T6} (a:nsIn K Uo n=some (some (.ref f)):=by k_is) (l:K.lookup f=some ⟨oc,od,.func (fnOf n n (bO st) (bL st) (am st) .none kV dc pm an cd ct),sl⟩:=by k_is) (c:codeIn K cd n=true:=by k_is) (k:keepIn K (.ref f)=true:=by k_is) (hb:∀ (kV dc pm:Tp) (an:Option Tn) (cd ct u0 u1 u2 u3 u4:Tp),Y1 (fnOf n n (bO st) (bL st) (am st) .none kV dc pm an cd ct) ⟨[u0,u1,u2,u3,u4],[]⟩=pure [(p0,u0),(p1,u1),(p2,u2),(p3,u3),(p4,u4)]:=by intros;rfl):FX K mg n st [p0,p1,p2,p3,p4] :=
 ⟨f,_,dH l c k,(dH l c k).binds fun a b c d e f us hl=>by obtain ⟨u0,u1,u2,u3,u4,rfl⟩:=us5 hl;exact hb a b c d e f u0 u1 u2 u3 u4,mg_of X G a⟩
end
theorem pcF {X:Cx} {kk k:Nat} {sp:Sp} {n:T6} {st:VD} {ps:List T6} {e:UP} {es:List UP} {t:TA} {p pos:Xv} (g:FX X.K X.mg n st ps) (F:bn X.prog X.w X.K X.mg X.base CX0 k g.f g.d ps sp) (hr:Room kk X.A) (ha:PA X (e::es) t) (hle:k<=kk:=by first | decide | omega) (hg:Gl X n:=by rfl) (Ey:(n == ("__debug__":T6))=false:=by decide) (he:UD (e::es) X.env=(false,VY e X.env)::UD es X.env:=by rfl) (ze:(XD pos (UD es X.env)).any (·.1)=false:=by rfl):PE X (.Call (.Name n p) (e::es) [] pos) (fU sp [] E0 t) :=
 iH F (hr.mono hle) hg g.m g.F.kp g.b .nil nW ha Ey he ze
structure TX (K:Tg) (mg:T6->Option Tp) where
 c_CALL_SIGN:∃ tk,mg "CALL_SIGN"=some (.str (Tu "?") tk)
 c_MOST_KIDS:∃ tk,mg "MOST_KIDS"=some (.int (3) tk)
 a_HOLE:Tn
 c_HOLE:mg "HOLE"=some (.ref a_HOLE)
 q_HOLE:∀ H:Hp,SqT K H a_HOLE [.str (Tu "*")]
 g_kids_of:FX K mg "kids_of" jq ["thing"]
 g_walked:FX K mg "walked" ki ["thing"]
 g_placed:FX K mg "placed" j8 ["thing"]
 g_built:FX K mg "built" nG ["tops"]
 g_places:FX K mg "places" kj ["tree"]
 g_is_call:FX K mg "is_call" i7 ["thing"]
 g_is_hole:FX K mg "is_hole" jk ["thing"]
 g_is_knot:FX K mg "is_knot" jc ["thing"]
 g_called_by:FX K mg "called_by" gx ["call"]
 g_calls_in:FX K mg "calls_in" ik ["pattern"]
 g_holes_in:FX K mg "holes_in" ip ["front"]
 g_top_of:FX K mg "top_of" jY ["part"]
 g_filled:FX K mg "filled" kW ["pattern","table"]
 g_same_top:FX K mg "same_top" iz ["one","two"]
 g_side_by_side:FX K mg "side_by_side" dD ["one","two"]
 g_common:FX K mg "common" kP ["one","two"]
 g_ins_of:FX K mg "ins_of" kM ["book"]
 g_rules_of:FX K mg "rules_of" iC ["book"]
 g_states_of:FX K mg "states_of" gd ["book"]
 g_small_tree:FX K mg "small_tree" fE ["ins"]
 g_knot_above:FX K mg "knot_above" fw ["ins","kind","kids"]
 g_first_makings:FX K mg "first_makings" dh ["book"]
 g_first_front:FX K mg "first_front" eF ["book","state","made","partings"]
 g_put_links:FX K mg "put_links" gp ["book","state","front","links"]
 g_spread:FX K mg "spread" kL ["ins","links","partings"]
 g_cut_front:FX K mg "cut_front" gf ["front","state","partings"]
 g_found_fronts:FX K mg "found_fronts" dP ["book"]
 g_fronts_of:FX K mg "fronts_of" fW ["book"]
 g_partings_of:FX K mg "partings_of" eK ["book"]
 g__law_cell:FX K mg "_law_cell" gu ["script","k"]
 g__law_folded:FX K mg "_law_folded" eB ["cells","many"]
 g__law_names:FX K mg "_law_names" fq ["cell"]
 g__law_name_at:FX K mg "_law_name_at" dO ["book","state","tree","place"]
 g__law_is_tree:FX K mg "_law_is_tree" dJ ["ins","tree","most"]
 g__law_is_front:FX K mg "_law_is_front" dg ["outs","front"]
 g__law_holes:FX K mg "_law_holes" fA ["front"]
 g__law_lies:FX K mg "_law_lies" gw ["front","thing","fronts"]
 g__law_fronts_formed:FX K mg "_law_fronts_formed" cn ["book","fronts"]
 g__law_pairs_formed:FX K mg "_law_pairs_formed" cx ["book","fronts","pairs"]
 g__law_pairs_part:FX K mg "_law_pairs_part" cI ["book","fronts","pairs"]
 g__law_closed:FX K mg "_law_closed" eC ["book","fronts"]
 g__law_spine:FX K mg "_law_spine" fx ["number","outs","many","end"]
 g__law_step:FX K mg "_law_step" fS ["cell","spine","states","state","kids"]
 g__law_chain:FX K mg "_law_chain" ft ["script"]
 g_law:FX K mg "law" iJ ["script"]
 n_all:mg "all"=none
 n_dict:mg "dict"=none
 n_enumerate:mg "enumerate"=none
 n_isinstance:mg "isinstance"=none
 n_len:mg "len"=none
 n_list:mg "list"=none
 n_range:mg "range"=none
 n_reversed:mg "reversed"=none
 n_str:mg "str"=none
 n_tuple:mg "tuple"=none
 n_zip:mg "zip"=none
theorem uv:([Tu "number",Tu "kid",Tu "place"]:List T6).Nodup:=by decide +kernel
theorem xm:([Tu "number",Tu "done"]:List T6).Nodup:=by decide +kernel
theorem wL:([Tu "place",Tu "knot"]:List T6).Nodup:=by decide +kernel
theorem uP:([Tu "place",Tu "part"]:List T6).Nodup:=by decide +kernel
theorem ut:([Tu "name",Tu "many"]:List T6).Nodup:=by decide +kernel
theorem xE:([Tu "kid",Tu "kids",Tu "ins"]:List T6).Nodup:=by decide +kernel
theorem xq:([Tu "state",Tu "book",Tu "made",Tu "partings"]:List T6).Nodup:=by decide +kernel
theorem wq:([Tu "state",Tu "front",Tu "partings"]:List T6).Nodup:=by decide +kernel
theorem xH:([Tu "k",Tu "cells"]:List T6).Nodup:=by decide +kernel
theorem xl:([Tu "place",Tu "partings",Tu "state"]:List T6).Nodup:=by decide +kernel
theorem wG:([Tu "part",Tu "outs"]:List T6).Nodup:=by decide +kernel
theorem wR:([Tu "k",Tu "fronts",Tu "front",Tu "thing"]:List T6).Nodup:=by decide +kernel
theorem wK:([Tu "place",Tu "k"]:List T6).Nodup:=by decide +kernel
theorem wF:([Tu "front",Tu "book"]:List T6).Nodup:=by decide +kernel
theorem wA:([Tu "kind"]:List T6).Nodup:=by decide +kernel
theorem wy:([Tu "kid",Tu "deep"]:List T6).Nodup:=by decide +kernel
section
variable {P:TF} {w:T3} {K:Tg} {mg:T6->Option Tp} {base:US} (T:TX K mg)
inductive jA (K:Tg) (vs:List V) (H:Hp) (Q:VK) (_E:XK):Prop
 | mk (a:Tn) (t:Th) (x9:vs=[.ref a]) (ya:AtK K H t a) (ye:∀ (r:Tn) (as:List Tn) (H':Hp),L2.Same H H'->H' r=some (.tup (as.map V.ref))->AtsK K H' t.kids as->Q (.ref r) H'):jA K vs H Q _E
def p9 (K:Tg):Sp:=jA K
theorem iF:bn P w K mg base CX0 1 T.g_kids_of.f T.g_kids_of.d ["thing"] (p9 K):=by
 refine T.g_kids_of.F.ok qg (fun vs H Q E h=>?_) (fun xW A outer s H vs Q E hr h=>?_)
 · obtain ⟨a,t,rfl,_⟩:=h;rfl
 obtain ⟨a,t,rfl,hA,k⟩:=h
 refine ⟨_,(ae (bm (aJ cj (av aA (pv 0) af (fun _ _=>rfl)) (gz (v:=.str (Tu "?")) rfl T.c_CALL_SIGN.choose_spec ⟨_,rfl⟩) (aO _)) (ag (aC (aB ac))) ba)
  (ag (aC (bA fz (pv 0) (bJ af) cg)))),?_⟩
 try dsimp only [ym,xR]
 cases t with
 | knot n ks =>
   rw [AtK] at hA;refine hid fun ZZ kZ=>?_;obtain ⟨hn,as,h1,h2⟩:=hA;refine kZ ?_;refine ⟨_,rfl,a,_,0,.str n,rfl,rfl,h1.sq,at0,rfl,_,rfl,?_⟩;refine cy (fun c=>absurd (of_decide_eq_true c) (fun z=>hn (V.str.inj z))) (fun _=>?_);refine ⟨_,rfl,1,rfl,a,_,rfl,h1.sq,?_,fun r hr=>?_⟩
   · intro z;have:=z.1;simp [HT.sIx] at this
   · rw [eQ];exact k r as _ (ad hr _) ab (h2.mono (dG hr))
 | call sn kn =>
   rw [AtK] at hA;refine ⟨_,rfl,a,_,0,.str q,rfl,rfl,hA.sq,at0,rfl,_,rfl,?_⟩;refine cy (fun _=>?_) (fun c=>absurd (decide_eq_true rfl) c);refine ⟨by show 0<=TN;decide,fun r hr=>?_⟩;exact k r [] _ (ad hr _) ab .nil
inductive lc (K:Tg) (vs:List V) (H:Hp) (Q:VK) (_E:XK):Prop
 | mk (a:Tn) (t:Th) (x9:vs=[.ref a]) (ya:AtK K H t a) (ye:t.size<=100000) (yj:∀ (r:Tn) (as:List Tn) (H':Hp),L2.Same H H'->H r=none->H' r=some (.lst (as.map V.ref))->AtsK K H' t.walk as->Q (.ref r) H'):lc K vs H Q _E
def rQ (K:Tg):Sp:=lc K
theorem sd:bn P w K mg base CX0 2 T.g_walked.f T.g_walked.d ["thing"] (rQ K):=by
 refine T.g_walked.F.ok gB (fun vs H Q E h=>?_) (fun xW A outer s H vs Q E hr h=>?_)
 · obtain ⟨a,t,rfl,_⟩:=h;rfl
 obtain ⟨a,t,rfl,hA,hsz,k⟩:=h
 refine ⟨_,(ae (ay (i:=1) gB.nd rfl (TQ rfl) (bV ac))
  (ae (ay (i:=2) gB.nd rfl (TQ rfl) (bV (aa (pv 0) ac)))
  (ae (dL T9 (aS (pv 2) (fun _=>rfl)) (ae (ay (i:=3) gB.nd rfl (TQ rfl) (i9 TL V9 V8 jb (pv 2)))
  (ae (aU (bW TL Ub Ua aR (pv 1) (aa (pv 3) ac)))
  (ag (aU (bW TL Wr Wq pR (pv 2) (aa (qC vP (pcF T.g_kids_of (iF T) hr (aa (pv 3) ac))) ac)))))))
  (ag (aC (pv 1)))))),?_⟩
 try dsimp only [ym,xR]
 refine ⟨by show 0<=TN;decide,fun mt zY=>?_⟩;refine ⟨_,rfl,by show 1<=TN;decide,fun ah zS=>?_⟩;have zG:H ah=none:=(ad zY _).free zS;have yd:ah≠mt:=fun z=>by rw [z,ab] at zS;cases zS
 refine ⟨fun m σ H2=>Ex5 fun (ms as:List Tn) (Ms As:List Th) (p:Option V)=>An8 (σ=[some (.ref a),some (.ref mt),some (.ref ah),p]) (L2.Same H H2) (H2 mt=some (.lst (ms.map V.ref))) (H2 ah=some (.lst (as.map V.ref))) (AtsK K H2 Ms ms) (AtsK K H2 As as) (Ms++walks As.reverse=t.walk) (m=aq As),⟨_,[],[a],[],[t],none,rfl,?_,?_,?_,.nil,.cons (hA.mono ?_) .nil,?_,rfl⟩,?_⟩
 · exact aw (ad zY _) zG
 · rw [ak yd.symm,ab];rfl
 · rw [ab];rfl
 · exact Same.kt (aw (ad zY _) zG)
 · simp [walks]
 rintro m σ H2 ⟨ms,as,Ms,As,p,rfl,sm,e1,e2,a1,a2,hw,rfl⟩
 have hlen:ms.length+aq As<=100000:=by
  have h1:=congrArg Wo hw;rw [TZ,jd,Th.walk_len,<- a1.length] at h1;have h2:=l7 As;omega
 refine ⟨_,rfl,_,.inl ⟨_,SqL.of e2,rfl⟩,?_⟩;refine cy (fun c=>?_) (fun c=>?_)
 · -- a part is taken off
   refine ⟨fun xM H'=>∃ m',m'<aq As/\Ex5 fun (ms as:List Tn) (Ms As:List Th) (p:Option V)=>An8 (xM=[some (.ref a),some (.ref mt),some (.ref ah),p]) (L2.Same H H') (H' mt=some (.lst (ms.map V.ref))) (H' ah=some (.lst (as.map V.ref))) (AtsK K H' Ms ms) (AtsK K H' As as) (Ms++walks As.reverse=t.walk) (m'=aq As),fun xM H' h=>h,?_⟩;have yS:as≠[]:=by intro z;subst z;simp at c
   obtain ⟨xY,b,rfl⟩:∃ xY b,as=xY++[b]:=⟨as.dropLast,as.getLast yS,(Vw yS).symm⟩;obtain ⟨Us,x,rfl,a3,a4⟩:=a2.snoc_inv;have hs:aq (Us++[x])=aq Us+x.size:=by rw [b8,aq,aq];omega
   have GY:=x.size_eq;rw [hs] at hlen;refine ⟨_,rfl,.inl ⟨rfl,_,SqL.of e2⟩,ah,_,.ref b,rfl,rfl,e2,by simp,?_⟩;have d1:((xY++[b]).map V.ref).dropLast=xY.map V.ref:=by simp
   rw [d1];refine ⟨_,rfl,.inl ⟨rfl,_,SqL.of (by rw [ak yd.symm];exact e1)⟩,_,rfl,mt,_,.ref b,rfl,rfl,by rw [ak yd.symm];exact e1,aK (by rw [Te];omega),?_⟩;have k1:KT H2 (upd (upd H2 ah (.lst (xY.map V.ref))) mt (.lst (ms.map V.ref++[.ref b]))):=(aT e2).trans (aT (xs:=ms.map V.ref) (by rw [ak yd.symm];exact e1));refine ⟨_,rfl,.inl ⟨rfl,_,SqL.of (by rw [ak yd,ab])⟩,_,rfl,b,x,rfl,a4.mono k1,fun r ks H3 s3 e3 a5=>?_⟩;refine ⟨r,_,rfl,SqT.of e3,fun l hl=>?_⟩;have l1:l≠ah:=fun z=>by rw [z,s3 ah _ (by rw [ak yd,ab])] at hl;cases hl
   have l2:l≠mt:=fun z=>by rw [z,s3 mt _ ab] at hl;cases hl
   refine ⟨ah,l,_,_,rfl,rfl,by rw [ak l1.symm];exact s3 ah _ (by rw [ak yd,ab]),SqT.of ab,WW (aK ?_),?_⟩
   · have q1:=a3.length;have q2:=a5.length;have q3:=bS Us;have q4:=bS x.kids;rw [Te,UT,Te];omega
   · have k2:KT H2 (upd (upd H3 l (.tup (ks.map V.ref).reverse)) ah (.lst (xY.map V.ref++(ks.map V.ref).reverse))) :=
      k1.trans ((Same.kt s3).trans ((dG hl).trans (aT (xs:=xY.map V.ref) (by rw [ak l1.symm];exact s3 ah _ (by rw [ak yd,ab])))))
     have k3:KT H3 (upd (upd H3 l (.tup (ks.map V.ref).reverse)) ah (.lst (xY.map V.ref++(ks.map V.ref).reverse))) :=
      (dG hl).trans (aT (xs:=xY.map V.ref) (by rw [ak l1.symm];exact s3 ah _ (by rw [ak yd,ab])))
     refine ⟨aq (Us++x.kids.reverse),?_,ms++[b],xY++ks.reverse,Ms++[x],Us++x.kids.reverse,some (.ref b),rfl,?_,?_,?_,?_,?_,?_,rfl⟩
     · rw [b8,l7,hs];omega
     · have s4:L2.Same H (upd (upd H2 ah (.lst (xY.map V.ref))) mt (.lst (ms.map V.ref++[.ref b]))):=aw (aw sm zG) zY;have nl:H l=none:=s4.free (s3.free hl);exact aw (aw (s4.trans s3) nl) zG
     · rw [ak yd.symm,ak l2.symm,s3 mt _ ab,TH];rfl
     · rw [ab,TH,Yk]
     · exact (a1.mono k2).append (.cons (a4.mono k2) .nil)
     · exact (a3.mono k2).append (a5.mono k3).reverse
     · rw [<- hw,Uy,U5,U5,Vy,iZ];show Ms++([x]++(walks x.kids++walks Us.reverse))=Ms++walks (x::Us.reverse);rw [walks,x.walk_eq];rfl
 · have hz:as=[]:=by
    cases as with
    | nil=>rfl
    | cons y ys=>simp at c
   subst hz;have CK:As=[]:=UO.mp a2.length.symm;subst CK;refine ⟨_,rfl,k mt ms H2 sm zY e1 ?_⟩;have EV:Ms=t.walk:=by simpa [walks] using hw
   rw [<- EV];exact a1
inductive kr (K:Tg) (vs:List V) (H:Hp) (Q:VK) (_E:XK):Prop
 | mk (a:Tn) (t:Th) (x9:vs=[.ref a]) (ya:AtK K H t a) (ye:t.size<=100000) (yj:t.tall<=100000) (yz:∀ (r:Tn) (as:List Tn) (H':Hp),L2.Same H H'->H r=none->H' r=some (.lst (as.map V.ref))->PsAtK K H' (t.pl []) as->Q (.ref r) H'):kr K vs H Q _E
def rM (K:Tg):Sp:=kr K
theorem gH:bn P w K mg base CX0 2 T.g_placed.f T.g_placed.d ["thing"] (rM K):=by
 refine T.g_placed.F.ok dB (fun vs H Q E h=>?_) (fun xW A outer s H vs Q E hr h=>?_)
 · obtain ⟨a,t,rfl,_⟩:=h;rfl
 obtain ⟨a,t,rfl,hA,hsz,yy,k⟩:=h
 refine ⟨_,(ae (ay (i:=1) dB.nd rfl (TQ rfl) (bV ac))
  (ae (ay (i:=2) dB.nd rfl (TQ rfl) (bV (aa (aB (aa (aB ac) (aa (pv 0) ac))) ac)))
  (ae (dL T9 (aS (pv 2) (fun _=>rfl)) (ae (eJ (i9 TL V9 V8 jb (pv 2)) (bo rfl (au (aj (i:=3) dB.nd rfl (X8 rfl)) (au (aj (i:=4) dB.nd rfl (TQ rfl)) aY))))
  (ae (aU (bW TL Ub Ua aR (pv 1) (aa (aB (aa (pv 3) (aa (pv 4) ac))) ac)))
  (ae (gF (i:=5) (N:=[Tu "number",Tu "kid",Tu "place"]) (js:=[none,none,some 3]) (g:=(lS K 2 (cP (aH 0) (cP (aH 1) lT)))) (tt:=bG) (te:=(km (bq (tOp (lW K) (bw 2) (km (bq (bw 0) dW))) (bq (bw 1) dW)))) dB.nd rfl (TQ rfl) rfl (cJ rfl (by decide +kernel) (by decide +kernel) rfl rfl rfl) (nJ rfl T.n_enumerate (pcF T.g_kids_of (iF T) hr (aa (pv 4) ac))) (fun _ _ _ _ _ _=>(bo rfl (au (aj (i:=0) uv rfl (TQ rfl)) (au (aj (i:=1) uv rfl (TQ rfl)) aY)))) (f6 (bP aX (aV rfl) (bP aX (aV rfl) fY))) (fun _ _ _ _ _ _=>bR) (fun _ _ _ _ _ _=>(aB (aa (aE d4 (pv 2) (aB (aa (pv 0) ac))) (aa (pv 1) ac)))))
  (ag (aU (bW TL Wr Wq gC (pv 2) (aa (qC uF (pv 5)) ac))))))))
  (ag (aC (pv 1)))))),?_⟩
 try dsimp only [ym,xR]
 refine ⟨ai (by show 0<=1000000;decide),fun mt zY=>?_⟩;have s1:L2.Same H (upd H mt (.lst [])):=ad zY _;have EW:(upd H mt (.lst [])) mt=some (.lst []):=ab;generalize upd H mt (.lst [])=H1 at s1 EW ⊢;refine ⟨ai (by show 0<=1000000;decide),fun p0 D0=>?_⟩;refine ⟨_,rfl,ai (by show 2<=1000000;decide),fun p1 Bp=>?_⟩;refine ⟨ai (by show 1<=1000000;decide),fun ah zS=>?_⟩;have s2:L2.Same H1 (upd (upd H1 p0 (.tup [])) p1 (.tup [.ref p0,.ref a])):=(ad D0 _).trans (ad Bp _);have e1:(upd (upd H1 p0 (.tup [])) p1 (.tup [.ref p0,.ref a])) p1=some (.tup [.ref p0,.ref a]):=ab;have e0:(upd (upd H1 p0 (.tup [])) p1 (.tup [.ref p0,.ref a])) p0=some (.tup []):=ad Bp _ _ _ ab;generalize (upd (upd H1 p0 (.tup [])) p1 (.tup [.ref p0,.ref a]))=H2 at s2 e1 e0 zS ⊢;have AM:H1 ah=none:=s2.free zS;have zG:H ah=none:=s1.free AM;have yd:ah≠mt:=fun z=>by rw [z,EW] at AM;cases AM
 refine ⟨fun m σ H3=>Ex7 fun (ms as:List Tn) (Ms As:List (List Int×Th)) (c3 c4 c5:Option V)=>An9 (σ=[some (.ref a),some (.ref mt),some (.ref ah),c3,c4,c5]) (L2.Same H H3) (H3 mt=some (.lst (ms.map V.ref))) (H3 ah=some (.lst (as.map V.ref))) (PsAtK K H3 Ms ms) (PsAtK K H3 As as) (Ms++plP As.reverse=t.pl []) ((∀ p∈As,p.1.length+p.2.tall<=100000)) (m=szP As),⟨_,[],[p1],[],[([],t)],none,none,none,rfl,?_,?_,?_,.nil,.cons ⟨p0,a,?_,?_,?_⟩ .nil,?_,?_,rfl⟩,?_⟩
 · exact aw (s1.trans s2) zG
 · rw [ak yd.symm];exact s2 _ _ EW
 · rw [ab];rfl
 · exact ad zS _ _ _ e1
 · exact ad zS _ _ _ e0
 · exact hA.mono (Same.kt (aw (s1.trans s2) zG))
 · simp [plP]
 · intro p hp;rw [TY] at hp;subst hp;simpa using yy
 rintro m σ H3 ⟨ms,as,Ms,As,c3,c4,c5,rfl,sm,em,ea,a1,a2,hw,hb,rfl⟩
 have hlen:ms.length+szP As<=100000:=by
  have h1:=congrArg Wo hw;rw [TZ,qS,Th.pl_len,jV] at h1;have h2:=TB a1;omega
 refine ⟨_,rfl,_,.inl ⟨_,SqL.of ea,rfl⟩,?_⟩;refine cy (fun c=>?_) (fun c=>?_)
 · refine ⟨fun xM H'=>∃ m',m'<szP As/\Ex7 fun (ms as:List Tn) (Ms As:List (List Int×Th)) (c3 c4 c5:Option V)=>An9 (xM=[some (.ref a),some (.ref mt),some (.ref ah),c3,c4,c5]) (L2.Same H H') (H' mt=some (.lst (ms.map V.ref))) (H' ah=some (.lst (as.map V.ref))) (PsAtK K H' Ms ms) (PsAtK K H' As as) (Ms++plP As.reverse=t.pl []) ((∀ p∈As,p.1.length+p.2.tall<=100000)) (m'=szP As),fun xM H' h=>h,?_⟩;have yS:as≠[]:=by intro z;subst z;simp at c
   refine hid fun ZZ kZ=>?_;obtain ⟨xY,b,rfl⟩:∃ xY b,as=xY++[b]:=⟨as.dropLast,as.getLast yS,(Vw yS).symm⟩;obtain ⟨Us,⟨pre,x⟩,rfl,a3,pa,ta,eb,AJ,zH⟩:=P2.snoc_inv a2;refine kZ ?_;have C5:szP (Us++[(pre,x)])=szP Us+x.size:=by rw [cA,szP,szP];rfl
   have GY:=x.size_eq;rw [C5] at hlen;have Jr:=hb (pre,x) (by simp);simp only at Jr AJ zH;refine ⟨_,rfl,.inl ⟨rfl,_,SqL.of ea⟩,ah,_,.ref b,rfl,rfl,ea,by simp,?_⟩;have d1:((xY++[b]).map V.ref).dropLast=xY.map V.ref:=by simp
   rw [d1];have k1:KT H3 (upd H3 ah (.lst (xY.map V.ref))):=aT ea;have BN:L2.Same H (upd H3 ah (.lst (xY.map V.ref))):=aw sm zG;have Bb:(upd H3 ah (.lst (xY.map V.ref))) mt=some (.lst (ms.map V.ref)):=by rw [ak yd.symm];exact em
   have EX:(upd H3 ah (.lst (xY.map V.ref))) ah=some (.lst (xY.map V.ref)):=ab;generalize (upd H3 ah (.lst (xY.map V.ref)))=H4 at k1 BN Bb EX ⊢;refine ⟨b,_,rfl,SqT.of (k1 _ _ eb),rfl,_,_,rfl,_,_,rfl,rfl,?_⟩
   -- met.append((place,part))
   refine ⟨_,rfl,.inl ⟨rfl,_,SqL.of Bb⟩,_,rfl,_,rfl,ai (by show 2<=1000000;decide),fun pr zh=>?_⟩;have KW:mt≠pr:=aL Bb zh;refine ⟨mt,_,_,rfl,rfl,ad zh _ _ _ Bb,aK (by rw [Te];omega),?_⟩;have KY:(upd H4 pr (.tup [.ref pa,.ref ta])) mt=some (.lst (ms.map V.ref)):=ad zh _ _ _ Bb;have k2:KT H4 (upd (upd H4 pr (.tup [.ref pa,.ref ta])) mt (.lst (ms.map V.ref++[.ref pr]))):=(dG zh).trans (aT KY);have KZ:L2.Same H (upd (upd H4 pr (.tup [.ref pa,.ref ta])) mt (.lst (ms.map V.ref++[.ref pr]))):=aw (aw BN (BN.free zh)) zY;have NX:(upd (upd H4 pr (.tup [.ref pa,.ref ta])) mt (.lst (ms.map V.ref++[.ref pr]))) mt=some (.lst ((ms++[pr]).map V.ref)):=by rw [ab,TH];rfl
   have Js:(upd (upd H4 pr (.tup [.ref pa,.ref ta])) mt (.lst (ms.map V.ref++[.ref pr]))) ah=some (.lst (xY.map V.ref)):=by rw [ak yd,ak (aL EX zh)];exact EX
   have BO:(upd (upd H4 pr (.tup [.ref pa,.ref ta])) mt (.lst (ms.map V.ref++[.ref pr]))) pr=some (.tup [.ref pa,.ref ta]):=by rw [ak KW.symm,ab]
   generalize (upd (upd H4 pr (.tup [.ref pa,.ref ta])) mt (.lst (ms.map V.ref++[.ref pr])))=H5 at k2 KZ NX Js BO ⊢;have FO:KT H3 H5:=k1.trans k2;have K0:=FO _ _ AJ
   -- kids
   refine ⟨_,rfl,ta,x,rfl,zH.mono FO,fun r ks H6 s6 er D2=>⟨r,rfl,⟨_,SqT.of er⟩,?_⟩⟩;have zo:ks.length=x.kids.length:=D2.length;have Jt:=bS x.kids;intro D hD;have K1:=s6 _ _ K0;refine ⟨ks.length,fun j H7=>An3 (j<=ks.length) (L2.Same H6 H7) (Ex1 fun (bs:List Tn)=>An2 (H7 D=some (.lst (bs.map V.ref))) (PsAtK K H7 ((cN pre 0 x.kids).take j) bs)),⟨T4 _,ad hD _,[],ab,.nil⟩,?_⟩;rintro j H7 ⟨hj,s7,bs,eD,yn⟩;by_cases AN:j=ks.length
   · left;refine ⟨⟨_,SqT.of (s7 _ _ er),by rw [Te];exact AN.symm⟩,?_⟩;have xT:(cN pre 0 x.kids).take j=cN pre 0 x.kids:=by rw [AN,zo,<- fX pre 0 x.kids,V1]
     rw [xT] at yn;have K2:=s7 _ _ (s6 _ _ Js);have GZ:=s7 _ _ (s6 _ _ NX)
     have zN:bs.length=x.kids.length:=by
      have:=TB yn;rw [fX] at this;exact this.symm
     refine ⟨_,rfl,.inl ⟨rfl,_,SqL.of K2⟩,_,rfl,D,_,rfl,SqL.of eD,fun l hl=>?_⟩;have zX:ah≠l:=aL K2 hl;have K3:mt≠l:=aL GZ hl;have G0:(upd H7 l (.lst (bs.map V.ref).reverse)) ah=some (.lst (xY.map V.ref)):=by rw [ak zX];exact K2
     have q3:xY.length=Us.length:=(TB a3).symm;have q4:=nH Us;refine ⟨ah,l,_,_,rfl,rfl,G0,ab,ai ?_,?_⟩
     · rw [Te,UT,Te];omega
     have k8:KT H7 (upd (upd H7 l (.lst (bs.map V.ref).reverse)) ah (.lst (xY.map V.ref++(bs.map V.ref).reverse))):=(dG hl).trans (aT G0);have D3:KT H3 (upd (upd H7 l (.lst (bs.map V.ref).reverse)) ah (.lst (xY.map V.ref++(bs.map V.ref).reverse))):=FO.trans ((Same.kt (s6.trans s7)).trans k8);refine ⟨szP (Us++(cN pre 0 x.kids).reverse),?_,ms++[pr],xY++bs.reverse,Ms++[(pre,x)],Us++(cN pre 0 x.kids).reverse,_,_,_,rfl,?_,?_,?_,?_,?_,?_,?_,rfl⟩
     · rw [cA,jV,iQ,C5];omega
     · exact aw (aw ((KZ.trans s6).trans s7) ((KZ.trans s6).trans s7 |>.free hl)) zG
     · rw [ak yd.symm,ak K3];exact GZ
     · rw [ab,TH,Yk]
     · exact P2.append (a1.mono D3) (.cons ⟨pa,ta,k8 _ _ (s7 _ _ (s6 _ _ BO)),D3 _ _ AJ,zH.mono D3⟩ .nil)
     · exact P2.append (PsAtK.mono D3 a3) (P2.reverse (PsAtK.mono k8 yn))
     · rw [<- hw,Uy,U5,U5,Vy,lw,oY];show Ms++([(pre,x)]++(pls pre 0 x.kids++plP Us.reverse))=Ms++plP ((pre,x)::Us.reverse);rw [plP,x.pl_eq pre];rfl
     · intro p hp;rcases UA.mp hp with hp | hp
       · exact hb p (Ux _ hp)
       · obtain ⟨g1,g2⟩:=j6 pre 0 x.kids p (List.mem_reverse.mp hp);have:=nA g2;omega
   · right;have yb:j<ks.length:=by omega
     refine ⟨yb,⟨_,.ref ks[j],SqT.of (s7 _ _ er),by rw [Tw,Ti yb];rfl⟩,?_⟩;rintro y H8 ⟨p,v,hp,rfl,rfl,hv⟩;have yN:=hv _ (SqT.of (s7 _ _ er));obtain ⟨kd,rfl,Bs⟩:=aZ yN;obtain ⟨tk,zM,K4⟩:=D2.get Bs;have s8:L2.Same H7 (upd H7 p (.tup [.int (j:Nat),.ref kd])):=ad hp _;refine ⟨p,_,rfl,SqT.of ab,rfl,_,_,rfl,_,_,rfl,rfl,?_⟩;generalize (upd H7 p (.tup [.int (j:Nat),.ref kd]))=H8 at s8 ⊢;refine ⟨_,rfl,_,rfl,ai (by show 1<=1000000;decide),fun n1 Ju=>?_⟩;have s9:L2.Same H8 (upd H8 n1 (.tup [.int (j:Nat)])):=ad Ju _;have e9:(upd H8 n1 (.tup [.int (j:Nat)])) n1=some (.tup [.int (j:Nat)]):=ab;generalize (upd H8 n1 (.tup [.int (j:Nat)]))=H9 at s9 e9 ⊢;refine oK (s9 _ _ (s8 _ _ (s7 _ _ K1))) e9 (by rw [Te];show pre.length+1<=1000000;omega) fun n2 yC yg CL=>?_;refine ⟨_,rfl,ai (by show 2<=1000000;decide),fun n3 D4=>?_⟩;have yU:L2.Same H7 (upd yC n3 (.tup [.ref n2,.ref kd])):=(s8.trans (s9.trans yg)).trans (ad D4 _);have G1:=yU _ _ eD;refine ⟨_,G1,aK ?_,yb,?_,bs++[n3],?_,?_⟩
     · have:=TB yn;rw [Ul] at this;rw [Te];omega
     · exact aw (s7.trans yU) hD
     · rw [ab,TH];rfl
     · have Jv:KT (upd yC n3 (.tup [.ref n2,.ref kd])) (upd (upd yC n3 (.tup [.ref n2,.ref kd])) D (.lst (bs.map V.ref++[.ref n3]))):=aT G1;rw [UZ,ku pre 0 x.kids j tk zM];refine P2.append (PsAtK.mono ((Same.kt yU).trans Jv) yn) (.cons ⟨n2,kd,Jv _ _ ab,Jv _ _ (ad D4 _ _ _ ?_),?_⟩ .nil)
       · rw [CL,TH,U6];rfl
       · exact K4.mono ((Same.kt (s7.trans yU)).trans Jv)
 · have hz:as=[]:=by
    cases as with
    | nil=>rfl
    | cons y ys=>simp at c
   subst hz;have CK:As=[]:=UO.mp (TB a2);subst CK;refine ⟨_,rfl,k mt ms H3 sm zY em ?_⟩;have EV:Ms=t.pl []:=by simpa [plP] using hw
   rw [<- EV];exact a1
inductive lX (K:Tg) (vs:List V) (H:Hp) (Q:VK) (_E:XK):Prop
 | mk (l:Tn) (as:List Tn) (tops:List Top) (u:Th) (x9:vs=[.ref l]) (ya:H l=some (.lst (as.map V.ref))) (ye:Ud (TopAtK K H) tops as) (yj:tops.length<=100000) (yz:TopsOk tops) (y9:(∀ t,Top.th t∈tops->t.size<=100000)) (Bm:bl tops=[u]) (BM:∀ (r:Tn) (H':Hp),L2.Same H H'->AtK K H' u r->Q (.ref r) H'):lX K vs H Q _E
def tP (K:Tg):Sp:=lX K
theorem lh:bn P w K mg base CX0 1 T.g_built.f T.g_built.d ["tops"] (tP K):=by
 refine T.g_built.F.ok iN (fun vs H Q E h=>?_) (fun xW A outer s H vs Q E hr h=>?_)
 · obtain ⟨l,as,tops,u,rfl,_⟩:=h;rfl
 obtain ⟨l,as,tops,u,rfl,el,hT,hlen,hok,K5,hu,k⟩:=h
 refine ⟨_,(ae (ay (i:=1) iN.nd rfl (X8 rfl) (bV ac))
  (ae (bt T9 rfl (v9 rfl T.n_reversed (pv 0)) (bo rfl (au (aj (i:=2) iN.nd rfl (TQ rfl)) (au (aj (i:=3) iN.nd rfl (TQ rfl)) aY))) (ag (bm (aJ nT (pv 3) af (aO _)) (ag (aU (bW TL Ub Ua aR (pv 1) (aa (aE d4 (pv 2) (dC cZ rfl T.n_tuple Vx (aa (cv (N:=[Tu "number",Tu "done"]) (js:=[none,some 1]) (g:=(aH 0)) (tt:=bG) (te:=(wu K "list" (wZ) (bw 1))) rfl (cJ rfl (by decide +kernel) (by decide +kernel) rfl rfl rfl) (bx rfl T.n_range (aa (pv 3) ac)) (fun _ _ _ _ _ _=>(aj (i:=0) xm rfl (TQ rfl))) (aV rfl) (fun _ _ _ _ _ _=>bR) (fun _ _ _ _ _ _=>(i9 TL V9 V8 jb (pv 1)))) ac))) ac)))) (ag (aU (bW TL Ub Ua aR (pv 1) (aa (pv 2) ac)))))))
  (ag (aC (av aP (pv 1) af (fun _ _=>rfl)))))),?_⟩
 try dsimp only [ym,xR]
 have zF:tops.length=as.length:=TB hT;refine ⟨ai (by show 0<=1000000;decide),fun dn Jw=>?_⟩;refine ⟨_,rfl,l,_,rfl,SqL.of (ad Jw _ _ _ el),?_⟩
 refine uM (K:=K) (a:=l) (xs:=as.map V.ref) (fun i σ H2=>Ex3 fun c2 c3 ds=>An4 (σ=[some (.ref l),some (.ref dn),c2,c3]) (L2.Same H H2) (H2 dn=some (.lst (ds.map V.ref))) (AtsK K H2 (bl (tops.drop (tops.length - i))).reverse ds))
  ⟨none,none,[],rfl,ad Jw _,ab,by rw [Y5,List.drop_length];exact .nil⟩ (fun i σ H2 _ ⟨_,_,_,_,s2,_,_⟩=>SqL.of (s2 _ _ el)) ?_ ?_
 · rintro i y σ H2 hi hy ⟨c2,c3,ds,rfl,s2,C6,zV⟩;rw [Te,<- zF] at hi hy;obtain ⟨pr,rfl,zh⟩:=aZ hy;obtain ⟨x,hx,K6⟩:=P2.get' hT zh;have NY:=K6.mono (Same.kt s2);have hn:tops.length - 1 - i<tops.length:=by omega
   have D5:tops.drop (tops.length - 1 - i)=x::tops.drop (tops.length - i):=by
    rw [WY hn,show tops.length - 1 - i+1=tops.length - i by omega];congr 1;rw [Ti hn] at hx;exact T5 hx
   have C7:=hok.drop (tops.length - 1 - i);rw [D5] at C7;have D6:tops.length - (i+1)=tops.length - 1 - i:=by omega
   have GJ:(bl (tops.drop (tops.length - i))).length<=100000:=by
    have:=pI (tops.drop (tops.length - i));rw [Vf] at this;omega
   generalize tops.drop (tops.length - i)=S at D5 zV C7 GJ;refine hid fun ZZ kZ=>?_
   obtain ⟨ta,m,xs,BO,eta,hm,Sh,zb⟩:∃ (ta:Tn) (m:Nat) (xs:List V),H2 pr=some (.tup [.ref ta,.int (m:Nat)])/\TK K H2 ta xs/\m<=(bl S).length/\xs.length<=200000/\∀ (H':Hp) (p:Tn) (ks:List Tn),KT H2 H'->AtsK K H' ((bl S).take m) ks->TK K H' p (xs++ks.map V.ref)->∃ u',bl (x::S)=u'::(bl S).drop m/\AtK K H' u' p:=by
    cases x with
    | nm n m =>
      rw [TopsOk] at C7;obtain ⟨ta,h1,h2,h3⟩:=NY;refine ⟨ta,m,_,h1,h3,C7.1,(by show 1<=200000;decide),fun H' p ks kt hk hp=>⟨_,by rw [bl],?_⟩⟩;rw [AtK];exact ⟨h2,ks,hp,hk⟩
    | th t =>
      obtain ⟨ta,h1,h2⟩:=NY;obtain ⟨xs,h3,hw,h4⟩:=h2.whole;have zw:=K5 t (Tj hx);refine ⟨ta,0,_,h1,h3,T4 _,by omega,fun H' p ks kt hk hp=>⟨t,by rw [bl,VR],?_⟩⟩;rw [WN,AtsK] at hk;subst hk;rw [VO,Up] at hp;exact h4 _ _ kt hp
   refine kZ ?_;refine ⟨pr,_,rfl,SqT.of BO,rfl,_,_,rfl,_,_,rfl,rfl,?_⟩;have K7:=zV.length;rw [UT] at K7;refine df (fun b H'=>An2 (H'=H2) (b=decide ((0:Int)<(m:Int)))) (fun kk BP=>?_) (fun H' hb=>?_) (fun H' hb=>?_)
   · exact ⟨_,rfl,_,_,rfl,rfl,_,rfl,BP _ _ ⟨rfl,rfl⟩⟩
   rotate_left
   · obtain ⟨rfl,hb⟩:=hb
     have Qv:m=0:=by
      have:=of_decide_eq_false hb.symm;omega
     subst Qv;obtain ⟨u',zf,zx⟩:=zb H' ta [] (Same.kt (.refl _)) (by rw [WN];exact .nil) (by rw [VO,Up];exact eta);refine ⟨_,rfl,.inl ⟨rfl,_,SqL.of C6⟩,_,rfl,dn,_,_,rfl,rfl,C6,aK (by rw [Te];omega),?_⟩;have k6:KT H' (upd H' dn (.lst (ds.map V.ref++[.ref ta]))):=aT C6;refine ⟨_,_,ds++[ta],rfl,?_,by rw [ab,TH];rfl,?_⟩
     · intro b o e;rw [ak (aL e Jw)];exact s2 b o e
     · rw [D6,D5,zf,UJ];rw [VR];exact (zV.mono k6).append (.cons (zx.mono k6) .nil)
   obtain ⟨rfl,hb⟩:=hb;refine ⟨_,rfl,.inl ⟨rfl,_,SqL.of C6⟩,_,rfl,?_⟩;refine ⟨_,rfl,(m:Int),rfl,by omega,by omega,fun D hD=>?_⟩;have K8:D≠dn:=fun z=>by rw [z,C6] at hD;cases hD
   have zY:((m:Nat):Int).toNat=m:=Vh m
   refine ⟨m,fun j H3=>An3 (j<=m) ((∀ b o,H' b=some o->b≠dn->H3 b=some o)) (Ex2 fun (C8 ks:List Tn)=>An4 (H3 dn=some (.lst (C8.map V.ref))) (H3 D=some (.lst (ks.map V.ref))) (AtsK K H3 ((bl S).drop j).reverse C8) (AtsK K H3 ((bl S).take j) ks)),
    ⟨T4 _,fun b o e hb=>?_,ds,[],?_,?_,?_,?_⟩,?_⟩
   · rw [ak (aL e hD)];exact e
   · rw [ak K8.symm];exact C6
   · rw [ab];rfl
   · rw [VR];exact zV.mono (dG hD)
   · rw [WN];exact .nil
   rintro j H3 ⟨hj,kp,C8,ks,ed,eD,G2,hd2⟩;by_cases NZ:j=m
   · left;refine ⟨(by show ((m:Nat):Int).toNat<=j;rw [zY,NZ];exact To _),?_⟩;subst NZ;have G4:KT H' H3:=fun b Si e=>kp b _ e (gR e C6 (by intro z;cases z));refine ⟨D,_,rfl,.inl ⟨SqL.of eD,fun tp EY=>?_⟩⟩;have s4:L2.Same H3 (upd H3 tp (.tup (ks.map V.ref))):=ad EY _;have e4:(upd H3 tp (.tup (ks.map V.ref))) tp=some (.tup (ks.map V.ref)):=ab;generalize (upd H3 tp (.tup (ks.map V.ref)))=H4 at s4 e4 ⊢;have zo:=hd2.length;refine w9 ((eta.mono G4).mono (Same.kt s4)) (.of e4) (by rw [Te,zo,Ul];omega) fun p H5 s5 e5=>?_;have D7:=s4.trans s5;have N0:=D7 _ _ ed;have C9:=G4.trans (Same.kt D7);obtain ⟨u',zf,zx⟩:=zb H5 p ks C9 (hd2.mono (Same.kt D7)) e5;have CY:=G2.length;rw [UT,Vf] at CY;refine ⟨dn,_,_,rfl,rfl,N0,aK (by rw [Te];omega),?_⟩;have k6:KT H5 (upd H5 dn (.lst (C8.map V.ref++[.ref p]))):=aT N0;refine ⟨_,_,C8++[p],rfl,?_,by rw [ab,TH];rfl,?_⟩
     · intro b o e;have hb:b≠dn:=aL e Jw;rw [ak hb];exact D7 _ _ (kp b o (s2 b o e) hb)
     · rw [D6,D5,zf,UJ];exact (G2.mono ((Same.kt D7).trans k6)).append (.cons (zx.mono k6) .nil)
   · right;have yb:j<m:=by omega
     refine ⟨yb,(by show j<((m:Nat):Int).toNat;rw [zY];exact yb),?_⟩;rintro x' H4 ⟨e1,e2⟩;have zD:H4=H3:=e1;subst zD;have N1:j<(bl S).length:=by omega
     have Qw:(bl S).drop j=(bl S)[j]::(bl S).drop (j+1):=WY N1;rw [Qw,UJ] at G2
     have yd:C8≠[]:=by
      intro z;subst z;have:=G2.length;rw [TZ] at this;simp at this
     refine hid fun ZZ kZ=>?_;obtain ⟨EZ,b,rfl⟩:∃ EZ b,C8=EZ++[b]:=⟨C8.dropLast,C8.getLast yd,(Vw yd).symm⟩;obtain ⟨Us,x2,e3,hU,yf⟩:=G2.snoc_inv;have e4:=List.append_inj' e3 rfl;obtain ⟨e5,e6⟩:=e4;refine kZ ?_;cases e6;subst e5;refine ⟨_,rfl,.inl ⟨rfl,_,SqL.of ed⟩,dn,_,.ref b,rfl,rfl,ed,by simp,?_⟩;have d1:((EZ++[b]).map V.ref).dropLast=EZ.map V.ref:=by simp
     rw [d1];have N2:(upd H4 dn (.lst (EZ.map V.ref))) D=some (.lst (ks.map V.ref)):=by rw [ak K8];exact eD
     have k5:KT H4 (upd (upd H4 dn (.lst (EZ.map V.ref))) D (.lst (ks.map V.ref++[.ref b]))):=(aT ed).trans (aT N2);refine ⟨_,N2,aK (by rw [Te,hd2.length,Ul];omega),yb,fun b' o e zw=>?_,EZ,ks++[b],?_,?_,hU.mono k5,?_⟩
     · rw [ak (aL e hD),ak zw];exact kp b' o e zw
     · rw [ak K8.symm,ab]
     · rw [ab,TH];rfl
     · rw [UZ,Ti N1];exact (hd2.mono k5).append (.cons (yf.mono k5) .nil)
 · rintro σ H2 ⟨c2,c3,ds,rfl,s2,C6,zV⟩;rw [Te,<- zF,Nat.sub_self,VR,hu] at zV;have G5:AtsK K H2 [u] ds:=zV;rw [AtsK] at G5;obtain ⟨b,r,rfl,hb,ET⟩:=G5;exact ⟨_,rfl,dn,_,0,.ref b,rfl,rfl,SqL.of C6,at0,k b H2 s2 hb⟩
inductive kA (K:Tg) (vs:List V) (H:Hp) (Q:VK) (_E:XK):Prop
 | mk (a:Tn) (t:Th) (x9:vs=[.ref a]) (ya:AtK K H t a) (ye:t.size<=100000) (yj:t.tall<=100000) (yz:∀ (r:Tn) (ps:List Tn) (H':Hp),L2.Same H H'->H r=none->H' r=some (.lst (ps.map V.ref))->Ud (fun (p:List Int×Th) b=>H' b=some (.tup (p.1.map V.int))) (t.pl []) ps->Q (.ref r) H'):kA K vs H Q _E
def rq (K:Tg):Sp:=kA K
theorem rE:bn P w K mg base CX0 3 T.g_places.f T.g_places.d ["tree"] (rq K):=by
 refine T.g_places.F.ok rZ (fun vs H Q E h=>?_) (fun xW A outer s H vs Q E hr h=>?_)
 · obtain ⟨a,t,rfl,_⟩:=h;rfl
 obtain ⟨a,t,rfl,hA,hsz,yy,k⟩:=h;refine ⟨_,(ag (aC (cv (N:=[Tu "place",Tu "knot"]) (js:=[none,none]) (g:=(lS K 2 (cP (aH 0) (cP (aH 1) lT)))) (tt:=bG) (te:=(bw 0)) rfl (cJ rfl (by decide +kernel) (by decide +kernel) rfl rfl rfl) (cw (pcF T.g_placed (gH T) hr (aa (pv 0) ac))) (fun _ _ _ _ _ _=>(bo rfl (au (aj (i:=0) wL rfl (TQ rfl)) (au (aj (i:=1) wL rfl (TQ rfl)) aY)))) (f6 (bP aX (aV rfl) (bP aX (aV rfl) fY))) (fun _ _ _ _ _ _=>bR) (fun _ _ _ _ _ _=>(pv 0))))),?_⟩
 try dsimp only [ym,xR]
 refine ⟨_,rfl,a,t,rfl,hA,hsz,yy,fun r as H1 s1 nr er yB=>⟨r,rfl,⟨_,SqL.of er⟩,?_⟩⟩;have zF:(t.pl []).length=as.length:=TB yB;rw [Th.pl_len] at zF;refine hid fun ZZ kZ=>?_;obtain ⟨bs,Dc,yf,FP⟩:=lV yB;refine kZ ?_;refine hX bs (fun _=>true) V.ref (SqL.of er) (by rw [Te];exact yf) (by rw [Te];omega) (fun i x z H2 R R0 hx hz sm g1 g2=>?_) (fun D hD=>?_)
 · obtain ⟨a',ta,rfl,ea⟩:=FP i x z hx hz;refine ⟨a',_,rfl,SqT.of (sm _ _ ea),rfl,_,_,rfl,_,_,rfl,rfl,?_⟩;refine r6 (B:=R0 H2) ?_;exact ⟨_,rfl,g1 rfl⟩
 · rw [filter_tt];exact k D bs _ (s1.trans (ad hD _)) (s1.free hD) ab (P2.mp (fun _ _ e=>ad hD _ _ _ e) Dc)
inductive jJ (K:Tg) (vs:List V) (H:Hp) (Q:VK) (_E:XK):Prop
 | mk (a:Tn) (t:Th) (x9:vs=[.ref a]) (ya:AtK K H t a) (ye:Q (.bl t.isCall) H):jJ K vs H Q _E
def j5 (K:Tg):Sp:=jJ K
theorem iw:bn P w K mg base CX0 1 T.g_is_call.f T.g_is_call.d ["thing"] (j5 K):=by
 refine T.g_is_call.F.ok p8 (fun vs H Q E h=>?_) (fun xW A outer s H vs Q E hr h=>?_)
 · obtain ⟨a,t,rfl,_⟩:=h;rfl
 obtain ⟨a,t,rfl,hA,k⟩:=h;refine ⟨_,(ag (aC (iW cj (av aA (pv 0) af (fun _ _=>rfl)) (gz (v:=.str (Tu "?")) rfl T.c_CALL_SIGN.choose_spec ⟨_,rfl⟩) (aO _)))),?_⟩
 try dsimp only [ym,xR]
 cases t with
 | knot n ks =>
   rw [AtK] at hA;refine hid fun ZZ kZ=>?_;obtain ⟨hn,as,h1,h2⟩:=hA;refine kZ ?_;refine ⟨_,rfl,a,_,0,.str n,rfl,rfl,h1.sq,at0,rfl,?_⟩;have e:decide (V.str n=V.str (Tu "?"))=false:=decide_eq_false (fun z=>hn (V.str.inj z));rw [e];exact k
 | call sn kn =>
   rw [AtK] at hA;refine ⟨_,rfl,a,_,0,.str q,rfl,rfl,hA.sq,at0,rfl,?_⟩;have e:decide (V.str q=V.str (Tu "?"))=true:=decide_eq_true rfl;rw [e];exact k
inductive jE (K:Tg) (vs:List V) (H:Hp) (Q:VK) (_E:XK):Prop
 | mk (a:Tn) (t:Th) (x9:vs=[.ref a]) (ya:AtK K H t a) (ye:t.tall<=150) (yj:Q (.bl t.isHole) H):jE K vs H Q _E
def k9 (K:Tg):Sp:=jE K
theorem iu:bn P w K mg base CX0 1 T.g_is_hole.f T.g_is_hole.d ["thing"] (k9 K):=by
 refine T.g_is_hole.F.ok pO (fun vs H Q E h=>?_) (fun xW A outer s H vs Q E hr h=>?_)
 · obtain ⟨a,t,rfl,_⟩:=h;rfl
 obtain ⟨a,t,rfl,hA,yy,k⟩:=h;refine ⟨_,(ag (aC (iW (uL (B:=150) (o6 hr)) (pv 0) (gz (v:=.ref T.a_HOLE) rfl T.c_HOLE rfl) (aO _)))),?_⟩
 try dsimp only [ym,xR]
 refine ⟨_,rfl,?_⟩;exact uz hA (TK.const T.q_HOLE) yy k
inductive jy (K:Tg) (vs:List V) (H:Hp) (Q:VK) (_E:XK):Prop
 | mk (a:Tn) (t:Th) (x9:vs=[.ref a]) (ya:AtK K H t a) (ye:t.tall<=150) (yj:Q (.bl t.isKnot) H):jy K vs H Q _E
def pY (K:Tg):Sp:=jy K
theorem qe:bn P w K mg base CX0 2 T.g_is_knot.f T.g_is_knot.d ["thing"] (pY K):=by
 refine T.g_is_knot.F.ok pQ (fun vs H Q E h=>?_) (fun xW A outer s H vs Q E hr h=>?_)
 · obtain ⟨a,t,rfl,_⟩:=h;rfl
 obtain ⟨a,t,rfl,hA,yy,k⟩:=h;refine ⟨_,(ag (aC (nN (tL (pcF T.g_is_call (iw T) hr (aa (pv 0) ac))) (pN (tL (pcF T.g_is_hole (iu T) hr (aa (pv 0) ac))))))),?_⟩
 try dsimp only [ym,xR]
 refine ⟨_,rfl,a,t,rfl,hA,_,rfl,_,rfl,?_⟩;refine cy (fun c=>?_) (fun c=>?_)
 · refine ⟨_,rfl,a,t,rfl,hA,yy,_,rfl,?_⟩;have e:t.isKnot=!t.isHole:=by unfold Th.isKnot;rw [c];rfl
   rw [e] at k;exact k
 · have e:t.isKnot=false:=by unfold Th.isKnot;rw [U9.mpr c];rfl
   rw [e] at k;exact k
inductive gX (K:Tg) (vs:List V) (H:Hp) (Q:VK) (_E:XK):Prop
 | mk (a:Tn) (sn kn:Int) (x9:vs=[.ref a]) (ya:AtK K H (.call sn kn) a) (ye:∀ p,H p=none->Q (.ref p) (upd H p (.tup [.int sn,.int kn]))):gX K vs H Q _E
def iR (K:Tg):Sp:=gX K
theorem iI:bn P w K mg base CX0 1 T.g_called_by.f T.g_called_by.d ["call"] (iR K):=by
 refine T.g_called_by.F.ok mL (fun vs H Q E h=>?_) (fun xW A outer s H vs Q E hr h=>?_)
 · obtain ⟨a,sn,kn,rfl,_⟩:=h;rfl
 obtain ⟨a,sn,kn,rfl,hA,k⟩:=h;refine ⟨_,(ag (aC (aB (aa (av aA (pv 0) af (fun _ _=>rfl)) (aa (av aA (pv 0) af (fun _ _=>rfl)) ac))))),?_⟩
 try dsimp only [ym,xR]
 rw [AtK] at hA;exact ⟨_,rfl,a,_,1,_,rfl,rfl,hA.sq,at1,_,rfl,a,_,2,_,rfl,rfl,hA.sq,at2,ai (by show 2<=1000000;decide),fun p hp=>k p hp⟩
inductive iP (K:Tg) (vs:List V) (H:Hp) (Q:VK) (_E:XK):Prop
 | mk (a:Tn) (t:Th) (x9:vs=[.ref a]) (ya:AtK K H t a) (ye:t.size<=100000) (yj:t.tall<=100000) (yz:∀ (r:Tn) (as:List Tn) (H':Hp),L2.Same H H'->H r=none->H' r=some (.lst (as.map V.ref))->CsAt H' (callsOf (t.pl [])) as->Q (.ref r) H'):iP K vs H Q _E
def oC (K:Tg):Sp:=iP K
theorem o5:bn P w K mg base CX0 3 T.g_calls_in.f T.g_calls_in.d ["pattern"] (oC K):=by
 refine T.g_calls_in.F.ok n8 (fun vs H Q E h=>?_) (fun xW A outer s H vs Q E hr h=>?_)
 · obtain ⟨a,t,rfl,_⟩:=h;rfl
 obtain ⟨a,t,rfl,hA,hsz,yy,k⟩:=h;refine ⟨_,(ag (aC (cv (N:=[Tu "place",Tu "part"]) (js:=[none,none]) (g:=(lS K 2 (cP (aH 0) (cP (aH 1) lT)))) (tt:=(fun σ H Q=>(fU (j5 K) [] E0 (bq (bw 1) dW)) σ H fun x H1=>∃ k,uw K x H1 k/\Q k H1)) (te:=(km (bq (bw 0) (bq (fU (iR K) [] E0 (bq (bw 1) dW)) dW)))) rfl (cJ rfl (by decide +kernel) (by decide +kernel) rfl rfl rfl) (cw (pcF T.g_placed (gH T) hr (aa (pv 0) ac))) (fun _ _ _ _ _ _=>(bo rfl (au (aj (i:=0) uP rfl (TQ rfl)) (au (aj (i:=1) uP rfl (TQ rfl)) aY)))) (f6 (bP aX (aV rfl) (bP aX (aV rfl) fY))) (fun _ _ _ _ _ _=>m4 (aS (pcF T.g_is_call (iw T) hr (aa (pv 1) ac)) (fun _=>rfl))) (fun _ _ _ _ _ _=>(aB (aa (pv 0) (aa (pcF T.g_called_by (iI T) hr (aa (pv 1) ac)) ac))))))),?_⟩
 try dsimp only [ym,xR]
 refine ⟨_,rfl,a,t,rfl,hA,hsz,yy,fun r as H1 s1 nr er yB=>⟨r,rfl,⟨_,SqL.of er⟩,?_⟩⟩;have zF:(t.pl []).length=as.length:=TB yB;have ze:=Th.pl_len [] t;intro D hD;refine ⟨as.length,fun j H2=>An3 (j<=as.length) (L2.Same H1 H2) (Ex1 fun (bs:List Tn)=>An2 (H2 D=some (.lst (bs.map V.ref))) (CsAt H2 (callsOf ((t.pl []).take j)) bs)),⟨T4 _,ad hD _,[],ab,.nil⟩,?_⟩;rintro j H2 ⟨hj,s2,bs,eD,yn⟩;by_cases AN:j=as.length
 · left;refine ⟨⟨_,SqL.of (s2 _ _ er),by rw [Te,AN];exact To _⟩,?_⟩;have xT:(t.pl []).take j=t.pl []:=by rw [AN,<- zF,V1]
   rw [xT] at yn;exact k D bs H2 (s1.trans s2) (s1.free hD) eD yn
 · right;have yb:j<as.length:=by omega
   refine ⟨yb,⟨_,.ref as[j],SqL.of (s2 _ _ er),by rw [Tw,Ti yb];rfl⟩,?_⟩;rintro y H3 ⟨rfl,hv⟩;have yN:=hv _ (SqL.of (s2 _ _ er));refine hid fun ZZ kZ=>?_;obtain ⟨pr,rfl,zh⟩:=aZ yN;obtain ⟨⟨p,u⟩,Qx,pa,ta,e1,e2,e3⟩:=P2.get' (yB.mono (Same.kt s2)) zh;refine kZ ?_;simp only at e2 e3;have zM:(t.pl []).take (j+1)=(t.pl []).take j++[(p,u)]:=by rw [UZ,Qx];rfl
   have zN:bs.length<=j:=by
    have g1:=TB yn;have g2:=jv ((t.pl []).take j);rw [Ul] at g2;omega
   refine ⟨pr,_,rfl,SqT.of e1,rfl,_,_,rfl,_,_,rfl,rfl,?_⟩;refine ⟨_,rfl,ta,u,rfl,e3,_,rfl,?_⟩;cases u with
   | knot n ks =>
     refine cM ⟨yb,s2,bs,eD,?_⟩;rw [zM,dF];show CsAt H3 (callsOf ((t.pl []).take j)++[]) bs;rw [Up];exact yn
   | call sn kn =>
     refine r6 ?_;refine ⟨_,rfl,_,rfl,ta,sn,kn,rfl,e3,fun ca G7=>⟨ai (by show 2<=1000000;decide),fun n3 D4=>?_⟩⟩;have s4:L2.Same H3 (upd (upd H3 ca (.tup [.int sn,.int kn])) n3 (.tup [.ref pa,.ref ca])):=(ad G7 _).trans (ad D4 _);have G9:=s4 _ _ eD;refine ⟨_,G9,aK (by rw [Te];omega),yb,aw (s2.trans s4) hD,bs++[n3],?_,?_⟩
     · rw [ab,TH];rfl
     · have k5:KT (upd (upd H3 ca (.tup [.int sn,.int kn])) n3 (.tup [.ref pa,.ref ca])) (upd (upd (upd H3 ca (.tup [.int sn,.int kn])) n3 (.tup [.ref pa,.ref ca])) D (.lst (bs.map V.ref++[.ref n3]))):=aT G9;rw [zM,dF];exact P2.append (CsAt.mono ((Same.kt s4).trans k5) yn) (.cons ⟨pa,ca,k5 _ _ ab,k5 _ _ (s4 _ _ e2),k5 _ _ (ad D4 _ _ _ ab)⟩ .nil)
inductive iU (K:Tg) (vs:List V) (H:Hp) (Q:VK) (_E:XK):Prop
 | mk (a:Tn) (t:Th) (x9:vs=[.ref a]) (ya:AtK K H t a) (ye:t.size<=100000) (yj:t.tall<=150) (yz:∀ (r:Tn) (ps:List Tn) (H':Hp),L2.Same H H'->H' r=some (.lst (ps.map V.ref))->Ud (fun (p:List Int) b=>H' b=some (.tup (p.map V.int))) (((t.pl []).filter fun p=>p.2.isHole).map (·.1)) ps->Q (.ref r) H'):iU K vs H Q _E
def ox (K:Tg):Sp:=iU K
theorem jz:bn P w K mg base CX0 3 T.g_holes_in.f T.g_holes_in.d ["front"] (ox K):=by
 refine T.g_holes_in.F.ok n5 (fun vs H Q E h=>?_) (fun xW A outer s H vs Q E hr h=>?_)
 · obtain ⟨a,t,rfl,_⟩:=h;rfl
 obtain ⟨a,t,rfl,hA,hsz,yy,k⟩:=h;refine ⟨_,(ag (aC (cv (N:=[Tu "place",Tu "part"]) (js:=[none,none]) (g:=(lS K 2 (cP (aH 0) (cP (aH 1) lT)))) (tt:=(fun σ H Q=>(fU (k9 K) [] E0 (bq (bw 1) dW)) σ H fun x H1=>∃ k,uw K x H1 k/\Q k H1)) (te:=(bw 0)) rfl (cJ rfl (by decide +kernel) (by decide +kernel) rfl rfl rfl) (cw (pcF T.g_placed (gH T) hr (aa (pv 0) ac))) (fun _ _ _ _ _ _=>(bo rfl (au (aj (i:=0) uP rfl (TQ rfl)) (au (aj (i:=1) uP rfl (TQ rfl)) aY)))) (f6 (bP aX (aV rfl) (bP aX (aV rfl) fY))) (fun _ _ _ _ _ _=>m4 (aS (pcF T.g_is_hole (iu T) hr (aa (pv 1) ac)) (fun _=>rfl))) (fun _ _ _ _ _ _=>(pv 0))))),?_⟩
 try dsimp only [ym,xR]
 refine ⟨_,rfl,a,t,rfl,hA,hsz,by omega,fun r as H1 s1 nr er yB=>⟨r,rfl,⟨_,SqL.of er⟩,?_⟩⟩;have zF:(t.pl []).length=as.length:=TB yB;have ze:=Th.pl_len [] t;obtain ⟨bs,Dc,yf⟩:=pick (G:=fun (p:List Int×Th) a b=>∃ ta,H1 a=some (.tup [.ref b,.ref ta])/\H1 b=some (.tup (p.1.map V.int))/\AtK K H1 p.2 ta) (fun p a ⟨pa,ta,h1,h2,h3⟩=>⟨pa,ta,h1,h2,h3⟩) yB;refine hX ((t.pl []).zip bs) (fun z=>z.1.2.isHole) (fun z=>V.ref z.2) (SqL.of er) (by rw [Te,Xe];omega) (by rw [Te];omega) (fun i x z H2 R R0 hx hz sm g1 g2=>?_) (fun D hD=>?_)
 · rw [Wg] at hz;refine hid fun ZZ kZ=>?_;obtain ⟨a',rfl,Bj⟩:=aZ hx;obtain ⟨ta,f1,f2,f3⟩:=yf i _ _ _ hz.1 Bj hz.2;obtain ⟨_,_,_,Sj,_⟩:=tE t [] z.1.1 z.1.2 (Tj hz.1);refine kZ ?_;refine ⟨a',_,rfl,SqT.of (sm _ _ f1),rfl,_,_,rfl,_,_,rfl,rfl,?_⟩;refine ⟨_,rfl,ta,z.1.2,rfl,f3.mono (Same.kt sm),by omega,_,rfl,?_⟩;refine cy (fun c=>?_) (fun c=>?_)
   · exact ⟨_,rfl,g1 c⟩
   · exact g2 (U9.mpr c)
 · refine k D ((((t.pl []).zip bs).filter fun z=>z.1.2.isHole).map (·.2)) _ (s1.trans (ad hD _)) (by rw [ab,VE];rfl) ?_;refine P2.mapl (·.1) (qz (xs:=t.pl []) (cs:=bs) (fun p:List Int×Th=>p.2.isHole) (by omega) fun i x c e1 e2=>?_);refine hid fun ZZ kZ=>?_;obtain ⟨a',Bj⟩:∃ a',as[i]?=some a':=⟨_,Ti (by have:=(Tq.mp e2).1;omega)⟩;obtain ⟨ta,f1,f2,f3⟩:=yf i _ _ _ e1 Bj e2;refine kZ ?_;exact ad hD _ _ _ f2
inductive kg (K:Tg) (vs:List V) (H:Hp) (Q:VK) (_E:XK):Prop
 | mk (a:Tn) (n:T6) (ks:List Th) (x9:vs=[.ref a]) (ya:AtK K H (.knot n ks) a) (ye:∀ (r:Tn) (H':Hp),L2.Same H H'->TopAtK K H' (.nm n ks.length) r->Q (.ref r) H'):kg K vs H Q _E
def rB (K:Tg):Sp:=kg K
theorem lU:bn P w K mg base CX0 2 T.g_top_of.f T.g_top_of.d ["part"] (rB K):=by
 refine T.g_top_of.F.ok mf (fun vs H Q E h=>?_) (fun xW A outer s H vs Q E hr h=>?_)
 · obtain ⟨a,n,ks,rfl,_⟩:=h;rfl
 obtain ⟨a,n,ks,rfl,hA,k⟩:=h
 refine ⟨_,(ae (ay (i:=1) mf.nd rfl (TQ rfl) (ax ao rfl T.n_len T7 (aa (pcF T.g_kids_of (iF T) hr (aa (pv 0) ac)) ac)))
  (ag (aC (aB (aa (bA qW (pv 0) cg (bJ (aE gb (ax ao rfl T.n_len T7 (aa (pv 0) ac)) (pv 1)))) (aa (pv 1) ac)))))),?_⟩
 try dsimp only [ym,xR]
 refine ⟨_,rfl,a,.knot n ks,rfl,hA,fun r as H1 s1 er D2=>⟨r,_,rfl,.inr (SqT.of er),?_⟩⟩;rw [AtK] at hA;refine hid fun ZZ kZ=>?_;obtain ⟨hn,ka,ea,zp⟩:=hA;refine kZ ?_;have zo:ka.length=ks.length:=zp.length;have zF:as.length=ks.length:=D2.length;refine ⟨_,rfl,_,rfl,a,_,rfl,.inr ((ea.mono (Same.kt s1)).sq),_,rfl,_,_,rfl,rfl,_,rfl,a,_,rfl,ea.mono (Same.kt s1),fun p H2 s2 e2=>?_⟩
 have e1:((V.str n::ka.map V.ref).length:Int) - ((as.map V.ref).length:Int)=1:=by
  rw [Tx,Te,Te,zo,zF];omega
 have e3:TK K H2 p [.str n]:=by
  have zD:TK K H2 p (du (V.str n::ka.map V.ref) none (some (((V.str n::ka.map V.ref).length:Int) - ((as.map V.ref).length:Int)))):=e2;rw [e1,qp] at zD;exact zD
 refine ⟨_,rfl,ai (by show 2<=1000000;decide),fun l hl=>?_⟩;refine k l _ (s1.trans (s2.trans (ad hl _))) ⟨p,?_,hn,e3.mono (dG hl)⟩;rw [ab,Te,zF]
inductive lB (K:Tg) (vs:List V) (H:Hp) (Q:VK) (_E:XK):Prop
 | mk (a ta:Tn) (t:Th) (f:Int->Int->Th) (f':List (List Key×V)) (x9:vs=[.ref a,.ref ta]) (ya:AtK K H t a) (ye:t.size<=100000) (yj:Rd H ta (.dT f')) (yz:(∀ s k,Th.call s k∈t.walk->∃ v,aW f' [Um s,Um k]=some (.ref v)/\AtK K H (f s k) v/\(f s k).size<=100000)) (y9:∀ (r:Tn) (H':Hp),L2.Same H H'->AtK K H' (t.fill f) r->Q (.ref r) H'):lB K vs H Q _E
def rp (K:Tg):Sp:=lB K
theorem sv:bn P w K mg base CX0 3 T.g_filled.f T.g_filled.d ["pattern","table"] (rp K):=by
 refine T.g_filled.F.ok jj (fun vs H Q E h=>?_) (fun xW A outer s H vs Q E hr h=>?_)
 · obtain ⟨a,ta,t,f,f',rfl,_⟩:=h;rfl
 obtain ⟨a,ta,t,f,f',rfl,hA,hsz,Nw,Ha,k⟩:=h
 refine ⟨_,(ae (ay (i:=2) jj.nd rfl (TQ rfl) (bV ac))
  (ae (bt T9 rfl (cw (pcF T.g_walked (sd T) hr (aa (pv 0) ac))) (aj (i:=3) jj.nd rfl (TQ rfl)) (ag (bm (aS (pcF T.g_is_call (iw T) hr (aa (pv 3) ac)) (fun _=>rfl)) (ag (aU (bW TL Ub Ua aR (pv 2) (aa (aB (aa (mT (mC hr) (pv 1) (pcF T.g_called_by (iI T) hr (aa (pv 3) ac)) (fun _ _=>rfl)) (aa af ac))) ac)))) (ag (aU (bW TL Ub Ua aR (pv 2) (aa (pcF T.g_top_of (lU T) hr (aa (pv 3) ac)) ac)))))))
  (ag (aC (pcF T.g_built (lh T) hr (aa (pv 2) ac)))))),?_⟩
 try dsimp only [ym,xR]
 refine ⟨ai (by show 0<=1000000;decide),fun tl yy=>?_⟩;refine ⟨_,rfl,a,t,rfl,hA.mono (dG yy),hsz,fun wl as H1 s1 Hf N3 hw=>?_⟩;have A7:as.length=t.walk.length:=hw.length;have Sk:=Th.walk_len t;have K9:L2.Same H H1:=(ad yy _).trans s1;have Qy:wl≠tl:=fun z=>by rw [z,ab] at Hf;cases Hf
 refine ⟨wl,rfl,⟨_,SqL.of N3⟩,?_⟩
 refine dI (K:=K) (a:=wl) (xs:=as.map V.ref) (fun i σ H2=>Ex2 fun c bs=>An6 (σ=[some (.ref a),some (.ref ta),some (.ref tl),c]) (L2.Same H H2) (H2 wl=some (.lst (as.map V.ref))) (AtsK K H2 t.walk as) (H2 tl=some (.lst (bs.map V.ref))) (Ud (TopAtK K H2) ((t.walk.take i).map (dZ f)) bs))
  ⟨none,[],rfl,K9,N3,hw,s1 _ _ ab,.nil⟩ (fun i σ H2 _ ⟨_,_,_,_,e,_,_,_⟩=>SqL.of e) ?_ ?_
 · rintro i x σ H2 hx ⟨c,bs,rfl,s2,Hi,K',AO,yn⟩;obtain ⟨xa,rfl,Jx⟩:=aZ hx;obtain ⟨tx,N4,La⟩:=K'.get Jx;have Qz:tx∈t.walk:=Tj N4;have zM:t.walk.take (i+1)=t.walk.take i++[tx]:=by rw [UZ,N4];rfl
   have zN:bs.length<=100000:=by
    have:=TB yn;rw [Te,Ul] at this;omega
   refine ⟨_,rfl,xa,tx,rfl,La,_,rfl,?_⟩
   have push:∀ (H3:Hp) (p:Tn),L2.Same H2 H3->TopAtK K H3 (dZ f tx) p->Ex2 fun c Hj=>An6 (([some (.ref a),some (.ref ta),some (.ref tl),some (.ref xa)]:St)=[some (.ref a),some (.ref ta),some (.ref tl),c]) (L2.Same H (upd H3 tl (.lst (bs.map V.ref++[.ref p])))) ((upd H3 tl (.lst (bs.map V.ref++[.ref p]))) wl=some (.lst (as.map V.ref))) (AtsK K (upd H3 tl (.lst (bs.map V.ref++[.ref p]))) t.walk as) ((upd H3 tl (.lst (bs.map V.ref++[.ref p]))) tl=some (.lst (Hj.map V.ref))) (Ud (TopAtK K (upd H3 tl (.lst (bs.map V.ref++[.ref p])))) ((t.walk.take (i+1)).map (dZ f)) Hj):=by
    intro H3 p s3 hp;have k3:KT H3 (upd H3 tl (.lst (bs.map V.ref++[.ref p]))):=aT (s3 _ _ AO);refine ⟨_,bs++[p],rfl,aw (s2.trans s3) yy,by rw [ak Qy];exact s3 _ _ Hi,K'.mono ((Same.kt s3).trans k3),by rw [ab,TH];rfl,?_⟩;rw [zM,TH];exact P2.append (dQ ((Same.kt s3).trans k3) yn) (.cons (hp.mono k3) .nil)
   cases tx with
   | call sn kn =>
     refine r6 ?_;refine hid fun ZZ kZ=>?_;obtain ⟨v,hv,QA,_⟩:=Ha sn kn Qz;refine kZ ?_;refine ⟨_,rfl,.inl ⟨rfl,_,SqL.of AO⟩,_,rfl,_,rfl,xa,sn,kn,rfl,La,fun cb QB=>?_⟩;have s3:L2.Same H2 (upd H2 cb (.tup [.int sn,.int kn])):=ad QB _
     have Lb:Rd (upd H2 cb (.tup [.int sn,.int kn])) ta (.dT f'):=by
      rcases Nw with h | ⟨o,h⟩
      · exact .inl (s3 _ _ (s2 _ _ h))
      · exact .inr ⟨o,s3 _ _ (s2 _ _ h)⟩
     refine ⟨ta,.ref v,rfl,.inr ⟨f',[Um sn,Um kn],cb,Lb,rfl,ab,hv.symm⟩,ai (by show 2<=1000000;decide),fun p hp=>?_⟩;have s4:=s3.trans (ad hp (.tup [.ref v,.int 0]));refine ⟨tl,_,_,rfl,rfl,s4 _ _ AO,aK (by rw [Te];omega),?_⟩;exact push _ p s4 ⟨v,ab,QA.mono (Same.kt (s2.trans s4))⟩
   | knot nm us =>
     refine cM ?_;refine ⟨_,rfl,.inl ⟨rfl,_,SqL.of AO⟩,_,rfl,xa,nm,us,rfl,La,fun p H3 s3 hp=>?_⟩;refine ⟨tl,_,_,rfl,rfl,s3 _ _ AO,aK (by rw [Te];omega),?_⟩;exact push _ p s3 hp
 · rintro σ H2 ⟨c,bs,rfl,s2,Hi,K',AO,yn⟩;rw [Te,A7,V1] at yn;obtain ⟨b1,b2⟩:=qB f t;refine ⟨_,rfl,tl,bs,_,t.fill f,rfl,AO,yn,by rw [Te];omega,b2,?_,b1,fun r H3 s3 Hk=>k r H3 (s2.trans s3) Hk⟩;intro u hu;obtain ⟨x,hx,e⟩:=Uw.mp hu;cases x with
   | knot nm us=>cases e
   | call sn kn =>
     cases e;refine hid fun ZZ kZ=>?_;obtain ⟨v,_,_,hz⟩:=Ha sn kn hx;refine kZ ?_;exact hz
inductive iX (K:Tg) (vs:List V) (H:Hp) (Q:VK) (_E:XK):Prop
 | mk (x y:Tn) (l r:Th) (x9:vs=[.ref x,.ref y]) (ya:AtK K H l x) (ye:AtK K H r y) (yj:l.tall<=150) (yz:Q (.bl (aI l r)) H):iX K vs H Q _E
def ph (K:Tg):Sp:=iX K
theorem jx:bn P w K mg base CX0 3 T.g_same_top.f T.g_same_top.d ["one","two"] (ph K):=by
 refine T.g_same_top.F.ok oO (fun vs H Q E h=>?_) (fun xW A outer s H vs Q E hr h=>?_)
 · obtain ⟨x,y,l,r,rfl,_⟩:=h;rfl
 obtain ⟨x,y,l,r,rfl,hx,hy,yy,k⟩:=h;refine ⟨_,(ag (aC (nN (pcF T.g_is_knot (qe T) hr (aa (pv 0) ac)) (nN (iW cj (av aA (pv 0) af (fun _ _=>rfl)) (av aA (pv 1) af (fun _ _=>rfl)) (aO _)) (pN (iW cj (ax ao rfl T.n_len T7 (aa (pv 0) ac)) (ax ao rfl T.n_len T7 (aa (pv 1) ac)) (aO _))))))),?_⟩
 try dsimp only [ym,xR]
 rw [pc hx r] at k;refine hid fun ZZ kZ=>?_;obtain ⟨xr,ex,lx⟩:=hx.row;obtain ⟨yr,ey,ly⟩:=hy.row;refine kZ ?_;refine ⟨_,rfl,x,l,rfl,hx,yy,_,rfl,?_⟩;refine cy (fun c=>?_) (fun c=>?_)
 · rw [c] at k;refine ⟨_,rfl,x,_,0,.str l.name,rfl,rfl,ex.sq,at0,_,rfl,y,_,0,.str r.name,rfl,rfl,ey.sq,at0,rfl,_,rfl,?_⟩;refine cy (fun c2=>?_) (fun c2=>?_)
   · have e2:l.name=r.name:=V.str.inj (of_decide_eq_true c2);refine ⟨_,rfl,x,_,rfl,.inr (ex.sq),_,rfl,y,_,rfl,.inr (ey.sq),rfl,?_⟩
     have e3:decide (V.int ((V.str l.name::xr).length:Nat)=V.int ((V.str r.name::yr).length:Nat))=decide (l.wid=r.wid):=by
      rw [Tx,Tx,lx,ly];by_cases e:l.wid=r.wid
      · rw [e];simp
      · rw [decide_eq_false e,decide_eq_false];intro z;exact e (by have:=V.int.inj z;omega)
     rw [e3];rw [decide_eq_true e2] at k;exact k
   · have e2:l.name≠r.name:=fun e=>c2 (decide_eq_true (by rw [e]));rw [decide_eq_false e2] at k;exact k
 · rw [U9.mpr c] at k;exact k
inductive eS (K:Tg) (vs:List V) (H:Hp) (Q:VK) (_E:XK):Prop
 | mk (x y:Tn) (l r:Th) (x9:vs=[.ref x,.ref y]) (ya:AtK K H l x) (ye:AtK K H r y) (yj:l.tall<=150) (yz:l.size<=100000) (y9:∀ (m:Tn) (as:List Tn) (H':Hp),L2.Same H H'->H m=none->H' m=some (.lst (as.map V.ref))->Ud (PPK K H') (l.sbs r) as->Q (.ref m) H'):eS K vs H Q _E
def jP (K:Tg):Sp:=eS K
theorem jO:bn P w K mg base CX0 4 T.g_side_by_side.f T.g_side_by_side.d ["one","two"] (jP K):=by
 refine T.g_side_by_side.F.ok b9 (fun vs H Q E h=>?_) (fun xW A outer s H vs Q E hr h=>?_)
 · obtain ⟨x,y,l,r,rfl,_⟩:=h;rfl
 obtain ⟨x,y,l,r,rfl,hx,hy,yy,hsz,k⟩:=h
 refine ⟨_,(ae (ay (i:=2) b9.nd rfl (TQ rfl) (bV ac))
  (ae (ay (i:=3) b9.nd rfl (TQ rfl) (bV (aa (aB (aa (pv 0) (aa (pv 1) ac))) ac)))
  (ae (dL T9 (aS (pv 3) (fun _=>rfl)) (ae (eJ (i9 TL V9 V8 jb (pv 3)) (bo rfl (au (aj (i:=4) b9.nd rfl (TQ rfl)) (au (aj (i:=5) b9.nd rfl (TQ rfl)) aY))))
  (ae (aU (bW TL Ub Ua aR (pv 2) (aa (aB (aa (pv 4) (aa (pv 5) ac))) ac)))
  (ag (bm (aS (pcF T.g_same_top (jx T) hr (aa (pv 4) (aa (pv 5) ac))) (fun _=>rfl)) (ag (aU (bW TL Wr Wq gC (pv 3) (aa (lA rfl rfl T.n_list rfl T.n_reversed (qh rfl rfl T.n_list rfl T.n_zip (aa (bA fz (pv 4) (bJ af) cg) (aa (bA fz (pv 5) (bJ af) cg) ac)))) ac)))) ba)))))
  (ag (aC (pv 2)))))),?_⟩
 try dsimp only [ym,xR]
 refine ⟨by show 0<=TN;decide,fun mt zY=>?_⟩;refine ⟨_,rfl,_,rfl,by show 2<=TN;decide,fun t0 N5=>⟨by show 1<=TN;decide,fun ah zS=>?_⟩⟩;have s0:L2.Same H (upd (upd H mt (.lst [])) t0 (.tup [.ref x,.ref y])):=(ad zY _).trans (ad N5 _);have e0:(upd (upd H mt (.lst [])) t0 (.tup [.ref x,.ref y])) mt=some (.lst []):=ad N5 _ _ _ ab;have e1:(upd (upd H mt (.lst [])) t0 (.tup [.ref x,.ref y])) t0=some (.tup [.ref x,.ref y]):=ab;generalize (upd (upd H mt (.lst [])) t0 (.tup [.ref x,.ref y]))=H1 at s0 e0 e1 zS ⊢;have zG:H ah=none:=s0.free zS;have yd:ah≠mt:=fun z=>by rw [z,e0] at zS;cases zS
 refine ⟨fun m σ H2=>Ex6 fun (ms as:List Tn) (Ms As:List (Th×Th)) (p p':Option V)=>vZ (σ=[some (.ref x),some (.ref y),some (.ref mt),some (.ref ah),p,p']) (L2.Same H H2) (H2 mt=some (.lst (ms.map V.ref))) (H2 ah=some (.lst (as.map V.ref))) (Ud (PPK K H2) Ms ms) (Ud (PPK K H2) As as) (Ms++wks As.reverse=l.sbs r) ((∀ p∈As,p.1.tall<=150)) (Ms.length+szL As<=100000) (m=szL As),⟨_,[],[t0],[],[(l,r)],none,none,rfl,?_,?_,?_,.nil,.cons ⟨x,y,?_,hx.mono ?_,hy.mono ?_⟩ .nil,?_,?_,?_,rfl⟩,?_⟩
 · exact aw s0 zG
 · rw [ak yd.symm];exact e0
 · rw [ab];rfl
 · rw [ak (aL e1 zS)];exact e1
 · exact Same.kt (aw s0 zG)
 · exact Same.kt (aw s0 zG)
 · show wks [(l,r)]=_;rw [wks,wks,Up]
 · intro p hp;rw [TY] at hp;subst hp;exact yy
 · show 0+(l.size+0)<=100000;omega
 rintro m σ H2 ⟨ms,as,Ms,As,p,p',rfl,sm,e1,e2,a1,a2,hw,zH,hlen,rfl⟩;have Sl:Ms.length=ms.length:=TB a1;refine ⟨_,rfl,_,.inl ⟨_,SqL.of e2,rfl⟩,?_⟩;refine cy (fun c=>?_) (fun c=>?_)
 · refine ⟨fun xM H'=>∃ m',m'<szL As/\Ex6 fun (ms as:List Tn) (Ms As:List (Th×Th)) (p p':Option V)=>vZ (xM=[some (.ref x),some (.ref y),some (.ref mt),some (.ref ah),p,p']) (L2.Same H H') (H' mt=some (.lst (ms.map V.ref))) (H' ah=some (.lst (as.map V.ref))) (Ud (PPK K H') Ms ms) (Ud (PPK K H') As as) (Ms++wks As.reverse=l.sbs r) ((∀ p∈As,p.1.tall<=150)) (Ms.length+szL As<=100000) (m'=szL As),fun xM H' h=>h,?_⟩;have yS:as≠[]:=by intro z;subst z;simp at c
   refine hid fun ZZ kZ=>?_;obtain ⟨xY,b,rfl⟩:∃ xY b,as=xY++[b]:=⟨as.dropLast,as.getLast yS,(Vw yS).symm⟩;obtain ⟨Us,u,rfl,a3,u1,u2,a4,a5,a6⟩:=P2.snoc_inv a2;obtain ⟨ul,ur⟩:=u;refine kZ ?_;simp only at a5 a6;have hs:szL (Us++[(ul,ur)])=szL Us+ul.size:=by rw [dN,szL,szL];rfl
   have GY:=ul.size_eq;rw [hs] at hlen;have Lc:ul.tall<=150:=zH (ul,ur) (by simp);have N6:∀ p∈Us,p.1.tall<=150:=fun p hp=>zH p (by simp [hp]);refine ⟨_,rfl,.inl ⟨rfl,_,SqL.of e2⟩,ah,_,.ref b,rfl,rfl,e2,by simp,?_⟩;have d1:((xY++[b]).map V.ref).dropLast=xY.map V.ref:=by simp
   rw [d1];have k0:KT H2 (upd H2 ah (.lst (xY.map V.ref))):=aT e2;have f1:(upd H2 ah (.lst (xY.map V.ref))) mt=some (.lst (ms.map V.ref)):=by rw [ak yd.symm];exact e1
   have f2:(upd H2 ah (.lst (xY.map V.ref))) ah=some (.lst (xY.map V.ref)):=ab;have s3:L2.Same H (upd H2 ah (.lst (xY.map V.ref))):=aw sm zG;generalize (upd H2 ah (.lst (xY.map V.ref)))=H3 at k0 f1 f2 s3 ⊢;refine ⟨b,_,rfl,SqT.of (k0 _ _ a4),rfl,_,_,rfl,_,_,rfl,rfl,?_⟩;refine ⟨_,rfl,.inl ⟨rfl,_,SqL.of f1⟩,_,rfl,_,rfl,by show 2<=TN;decide,fun t1 QC=>?_⟩;have s4:L2.Same H3 (upd H3 t1 (.tup [.ref u1,.ref u2])):=ad QC _;have e4:(upd H3 t1 (.tup [.ref u1,.ref u2])) t1=some (.tup [.ref u1,.ref u2]):=ab;generalize (upd H3 t1 (.tup [.ref u1,.ref u2]))=H4 at s4 e4 ⊢;refine ⟨mt,_,_,rfl,rfl,s4 _ _ f1,aK (by rw [Te];omega),?_⟩;have k5:KT H4 (upd H4 mt (.lst (ms.map V.ref++[.ref t1]))):=aT (s4 _ _ f1);have g1:(upd H4 mt (.lst (ms.map V.ref++[.ref t1]))) mt=some (.lst ((ms++[t1]).map V.ref)):=by rw [ab,TH];rfl
   have g2:(upd H4 mt (.lst (ms.map V.ref++[.ref t1]))) ah=some (.lst (xY.map V.ref)):=by rw [ak yd];exact s4 _ _ f2
   have s5:L2.Same H (upd H4 mt (.lst (ms.map V.ref++[.ref t1]))):=aw (s3.trans s4) zY;generalize (upd H4 mt (.lst (ms.map V.ref++[.ref t1])))=H5 at k5 g1 g2 s5 ⊢;have Dd:KT H2 H5:=(k0.trans (Same.kt s4)).trans k5;have aM:Ud (PPK K H5) (Ms++[(ul,ur)]) (ms++[t1]):=P2.append (dA Dd a1) (.cons ⟨u1,u2,k5 _ _ e4,a5.mono Dd,a6.mono Dd⟩ .nil);refine ⟨_,rfl,_,rfl,u1,u2,ul,ur,rfl,a5.mono Dd,a6.mono Dd,Lc,_,rfl,?_⟩
   have D8:Ms++((ul,ur)::((if aI ul ur=true then wks (ul.kids.zip ur.kids) else [])++wks Us.reverse))=l.sbs r:=by
    rw [<- hw,U5];show _=Ms++wks ((ul,ur)::Us.reverse);rw [tQ]
   refine cy (fun ct=>?_) (fun ct=>?_)
   · refine hid fun ZZ kZ=>?_;obtain ⟨n,ks,us,rfl,rfl,Sm,Co⟩:=bD ct;have N7:=a5.mono Dd;have N8:=a6.mono Dd;rw [AtK] at N7 N8;obtain ⟨Ju,ka,ek,zp⟩:=N7;obtain ⟨Nz,ua,eu,D9⟩:=N8;refine kZ ?_;rw [if_pos ct] at D8;have hz:=i4 ks us;refine ⟨_,rfl,.inl ⟨rfl,_,SqL.of g2⟩,_,rfl,1,rfl,u1,_,rfl,ek.sq,?_,fun c1 Jy=>?_⟩
     · intro z;have:=z.1;simp [HT.sIx] at this
     rw [eQ];have s6:L2.Same H5 (upd H5 c1 (.tup (ka.map V.ref))):=ad Jy _;have e6:(upd H5 c1 (.tup (ka.map V.ref))) c1=some (.tup (ka.map V.ref)):=ab;generalize (upd H5 c1 (.tup (ka.map V.ref)))=H6 at s6 e6 ⊢;refine ⟨_,rfl,1,rfl,u2,_,rfl,(eu.mono (Same.kt s6)).sq,?_,fun c2 BH=>?_⟩
     · intro z;have:=z.1;simp [HT.sIx] at this
     rw [eQ];have s7:L2.Same H6 (upd H6 c2 (.tup (ua.map V.ref))):=ad BH _;have e7:(upd H6 c2 (.tup (ua.map V.ref))) c2=some (.tup (ua.map V.ref)):=ab;generalize (upd H6 c2 (.tup (ua.map V.ref)))=H7 at s7 e7 ⊢;refine ⟨c1,c2,_,_,rfl,SqT.of (s7 _ _ e6),SqT.of e7,fun zl zs H8 s8 Sn QD GQ=>?_⟩;have De:L2.Same H5 H8:=s6.trans (s7.trans s8);have N9:Ud (PPK K H8) (ks.zip us) zs:=pk (zp.mono (Same.kt De)) (D9.mono (Same.kt De)) GQ;have So:(ks.zip us).length=zs.length:=TB N9;have Sq:(ks.zip us).length<=szL (ks.zip us):=np _;refine ⟨true,zl,_,rfl,SqB.l (SqL.of QD),fun rl D1=>?_⟩;have s9:L2.Same H8 (upd H8 rl (.lst (zs.map V.ref).reverse)):=ad D1 _;have e9:(upd H8 rl (.lst (zs.map V.ref).reverse)) rl=some (.lst (zs.map V.ref).reverse):=ab;have Sr:H5 rl=none:=De.free D1;generalize (upd H8 rl (.lst (zs.map V.ref).reverse))=H9 at s9 e9 ⊢;have Hm:=De.trans s9;have N':Us.length=xY.length:=TB a3;have Ss:=np Us;refine ⟨ah,rl,_,_,rfl,rfl,Hm _ _ g2,e9,WW (aK ?_),?_⟩
     · rw [Te,UT,Te];simp only [Th.kids] at GY;omega
     have Oa:KT H9 (upd H9 ah (.lst (xY.map V.ref++(zs.map V.ref).reverse))):=aT (Hm _ _ g2);have Ob:KT H5 (upd H9 ah (.lst (xY.map V.ref++(zs.map V.ref).reverse))):=(Same.kt Hm).trans Oa;simp only [Th.kids] at GY D8;refine ⟨szL (Us++(ks.zip us).reverse),?_,ms++[t1],xY++zs.reverse,Ms++[(.knot n ks,.knot n us)],Us++(ks.zip us).reverse,_,_,rfl,?_,?_,?_,dA Ob aM,?_,?_,?_,?_,rfl⟩
     · rw [dN,qP,hs];omega
     · exact aw (s5.trans Hm) zG
     · rw [ak yd.symm];exact Hm _ _ g1
     · rw [ab,TH,Yk]
     · exact P2.append (dA (Dd.trans Ob) a3) (P2.reverse (dA ((Same.kt s9).trans Oa) N9))
     · rw [U5,Vy,kO,<- D8,Uy];rfl
     · intro p hp;rcases UA.mp hp with hp | hp
       · exact N6 p hp
       · have yQ:=(WD (List.mem_reverse.mp hp)).1;have:=bv yQ;rw [Th.tall] at Lc;omega
     · rw [dN,qP,TZ];show Ms.length+1+_<=_;omega
   · rw [if_neg ct] at D8;refine ⟨szL Us,?_,ms++[t1],xY,Ms++[(ul,ur)],Us,_,_,rfl,s5,g1,g2,aM,dA Dd a3,?_,N6,?_,rfl⟩
     · rw [hs];omega
     · rw [<- D8,Uy];rfl
     · rw [TZ];show Ms.length+1+_<=_;omega
 · have hz:as=[]:=by
    cases as with
    | nil=>rfl
    | cons y ys=>simp at c
   subst hz;have CK:As=[]:=UO.mp (TB a2);subst CK;refine ⟨_,rfl,k mt ms H2 sm zY e1 ?_⟩
   have EV:Ms=l.sbs r:=by
    rw [<- hw,List.reverse_nil,wks,Up]
   rw [<- EV];exact a1
inductive kw (K:Tg) (vs:List V) (H:Hp) (Q:VK) (_E:XK):Prop
 | mk (x y:Tn) (l r:Th) (x9:vs=[.ref x,.ref y]) (ya:AtK K H l x) (ye:AtK K H r y) (yj:l.tall<=150) (yz:l.size<=100000) (y9:∀ (m:Tn) (H':Hp),L2.Same H H'->AtK K H' (l.com r) m->Q (.ref m) H'):kw K vs H Q _E
def rG (K:Tg):Sp:=kw K
theorem rO:bn P w K mg base CX0 5 T.g_common.f T.g_common.d ["one","two"] (rG K):=by
 refine T.g_common.F.ok gA (fun vs H Q E h=>?_) (fun xW A outer s H vs Q E hr h=>?_)
 · obtain ⟨x,y,l,r,rfl,_⟩:=h;rfl
 obtain ⟨x,y,l,r,rfl,hx,hy,yy,hsz,k⟩:=h
 refine ⟨_,(ae (ay (i:=2) gA.nd rfl (TQ rfl) (bV ac))
  (ae (bt T9 rfl (cw (pcF T.g_side_by_side (jO T) hr (aa (pv 0) (aa (pv 1) ac)))) (bo rfl (au (aj (i:=3) gA.nd rfl (TQ rfl)) (au (aj (i:=4) gA.nd rfl (TQ rfl)) aY))) (ag (bm (aS (pcF T.g_same_top (jx T) hr (aa (pv 3) (aa (pv 4) ac))) (fun _=>rfl)) (ag (aU (bW TL Ub Ua aR (pv 2) (aa (pcF T.g_top_of (lU T) hr (aa (pv 3) ac)) ac)))) (ag (aU (bW TL Ub Ua aR (pv 2) (aa (aB (aa (gz (v:=.ref T.a_HOLE) rfl T.c_HOLE rfl) (aa af ac))) ac)))))))
  (ag (aC (pcF T.g_built (lh T) hr (aa (pv 2) ac)))))),?_⟩
 try dsimp only [ym,xR]
 refine ⟨ai (by show 0<=1000000;decide),fun tl Df=>?_⟩;refine ⟨_,rfl,_,rfl,x,y,l,r,rfl,hx.mono (dG Df),hy.mono (dG Df),yy,hsz,fun m as H1 s1 nm em hp=>⟨m,rfl,⟨_,SqL.of em⟩,?_⟩⟩;have ze:(l.sbs r).length=as.length:=TB hp;have Oc:=ui l r;have K9:L2.Same H H1:=(ad Df _).trans s1;have zY:m≠tl:=fun z=>by rw [z,ab] at nm;cases nm
 refine dI (K:=K) (a:=m) (xs:=as.map V.ref) (fun i σ H2=>Ex3 fun c c' bs=>An6 (σ=[some (.ref x),some (.ref y),some (.ref tl),c,c']) (L2.Same H H2) (H2 m=some (.lst (as.map V.ref))) (Ud (PPK K H2) (l.sbs r) as) (H2 tl=some (.lst (bs.map V.ref))) (Ud (TopAtK K H2) (((l.sbs r).take i).map topC) bs)) ⟨none,none,[],rfl,K9,em,hp,s1 _ _ ab,.nil⟩ (fun i σ H2 _ ⟨_,_,_,_,_,e,_,_,_⟩=>SqL.of e) ?_ ?_
 · rintro i v σ H2 hv ⟨c,c',bs,rfl,s2,Bb,AE,AO,yn⟩;refine hid fun ZZ kZ=>?_;obtain ⟨b,rfl,hb⟩:=aZ hv;obtain ⟨⟨ul,ur⟩,hu,u1,u2,e1,e2,e3⟩:=P2.get' AE hb;refine kZ ?_;simp only at e2 e3;have hm:=uU (Tj hu);simp only at hm;have zM:((l.sbs r).take (i+1)).map topC=((l.sbs r).take i).map topC++[topC (ul,ur)]:=by rw [UZ,hu,TH];rfl
   have zN:bs.length<=100000:=by
    have:=TB yn;rw [Te,Ul] at this;omega
   refine ⟨b,_,rfl,SqT.of e1,rfl,_,_,rfl,_,_,rfl,rfl,?_⟩
   have push:∀ (H3:Hp) (p:Tn),L2.Same H2 H3->TopAtK K H3 (topC (ul,ur)) p->Ex3 fun c c' Hj=>An6 (([some (.ref x),some (.ref y),some (.ref tl),some (.ref u1),some (.ref u2)]:St)=[some (.ref x),some (.ref y),some (.ref tl),c,c']) (L2.Same H (upd H3 tl (.lst (bs.map V.ref++[.ref p])))) ((upd H3 tl (.lst (bs.map V.ref++[.ref p]))) m=some (.lst (as.map V.ref))) (Ud (PPK K (upd H3 tl (.lst (bs.map V.ref++[.ref p])))) (l.sbs r) as) ((upd H3 tl (.lst (bs.map V.ref++[.ref p]))) tl=some (.lst (Hj.map V.ref))) (Ud (TopAtK K (upd H3 tl (.lst (bs.map V.ref++[.ref p])))) (((l.sbs r).take (i+1)).map topC) Hj):=by
    intro H3 p s3 Ld;have k3:KT H3 (upd H3 tl (.lst (bs.map V.ref++[.ref p]))):=aT (s3 _ _ AO);refine ⟨_,_,bs++[p],rfl,aw (s2.trans s3) Df,by rw [ak zY];exact s3 _ _ Bb,dA ((Same.kt s3).trans k3) AE,by rw [ab,TH];rfl,?_⟩;rw [zM];exact P2.append (dQ ((Same.kt s3).trans k3) yn) (.cons (Ld.mono k3) .nil)
   refine ⟨_,rfl,_,rfl,u1,u2,ul,ur,rfl,e2,e3,by omega,_,rfl,?_⟩;refine cy (fun ct=>?_) (fun ct=>?_)
   · have ht:topC (ul,ur)=.nm ul.name ul.kids.length:=by unfold topC;rw [if_pos ct]
     obtain ⟨n,ks,us,rfl,rfl,_,_⟩:=bD ct;refine ⟨_,rfl,.inl ⟨rfl,_,SqL.of AO⟩,_,rfl,u1,n,ks,rfl,e2,fun p H3 s3 Ld=>?_⟩;refine ⟨tl,_,_,rfl,rfl,s3 _ _ AO,aK (by rw [Te];omega),?_⟩;exact push _ p s3 (by rw [ht];exact Ld)
   · have ht:topC (ul,ur)=.th hole:=by unfold topC;rw [if_neg ct]
     refine ⟨_,rfl,.inl ⟨rfl,_,SqL.of AO⟩,ai (by show 2<=1000000;decide),fun p QE=>?_⟩;have s3:L2.Same H2 (upd H2 p (.tup [.ref T.a_HOLE,.int 0])):=ad QE _;refine ⟨tl,_,_,rfl,rfl,s3 _ _ AO,aK (by rw [Te];omega),?_⟩;exact push _ p s3 (by rw [ht];exact ⟨T.a_HOLE,ab,t8 (TK.const T.q_HOLE)⟩)
 · rintro σ H2 ⟨c,c',bs,rfl,s2,Bb,AE,AO,yn⟩;rw [Te,<- ze,V1] at yn;obtain ⟨b1,b2⟩:=vW l r;refine ⟨_,rfl,tl,bs,_,l.com r,rfl,AO,yn,by rw [Te];omega,b2,?_,b1,fun rr H3 s3 Hk=>k rr H3 (s2.trans s3) Hk⟩;intro u hu;obtain ⟨p,yQ,e⟩:=Uw.mp hu;unfold topC at e;split at e
   · cases e
   · cases e;rw [eV];omega
inductive lz (vs:List V) (H:Hp) (Q:VK) (_E:XK):Prop
 | mk (b:Tn) (v1 v2 v3 v4:V) (x9:vs=[.ref b]) (ya:H b=some (.tup [v1,v2,v3,v4])) (ye:Q v1 H):lz  vs H Q _E
def rK:Sp:=lz
inductive iG (vs:List V) (H:Hp) (Q:VK) (_E:XK):Prop
 | mk (b:Tn) (v1 v2 v3 v4:V) (x9:vs=[.ref b]) (ya:H b=some (.tup [v1,v2,v3,v4])) (ye:Q v4 H):iG  vs H Q _E
def oP:Sp:=iG
theorem eU:bn P w K mg base CX0 1 T.g_ins_of.f T.g_ins_of.d ["book"] rK:=by
 refine T.g_ins_of.F.ok si (fun vs H Q E h=>?_) (fun xW A outer s H vs Q E hr h=>?_)
 · obtain ⟨b,v1,v2,v3,v4,rfl,_⟩:=h;rfl
 obtain ⟨b,v1,v2,v3,v4,rfl,e,q⟩:=h;refine ⟨_,(ag (aC (av aA (pv 0) af (fun _ _=>rfl)))),?_⟩
 try dsimp only [ym,xR]
 exact ⟨_,rfl,b,_,0,v1,rfl,rfl,SqT.of e,at0,q⟩
theorem dX:bn P w K mg base CX0 1 T.g_rules_of.f T.g_rules_of.d ["book"] oP:=by
 refine T.g_rules_of.F.ok oB (fun vs H Q E h=>?_) (fun xW A outer s H vs Q E hr h=>?_)
 · obtain ⟨b,v1,v2,v3,v4,rfl,_⟩:=h;rfl
 obtain ⟨b,v1,v2,v3,v4,rfl,e,q⟩:=h;refine ⟨_,(ag (aC (av aA (pv 0) af (fun _ _=>rfl)))),?_⟩
 try dsimp only [ym,xR]
 exact ⟨_,rfl,b,_,3,v4,rfl,rfl,SqT.of e,bK (j:=3) rfl,q⟩
inductive g8 (vs:List V) (H:Hp) (Q:VK) (_E:XK):Prop
 | mk (b:Tn) (v1 v2 v3:V) (ra:Tn) (xs:List V) (x9:vs=[.ref b]) (ya:H b=some (.tup [v1,v2,v3,.ref ra])) (ye:H ra=some (.tup xs)) (yj:Q (.int xs.length) H):g8  vs H Q _E
def mN:Sp:=g8
theorem no:bn P w K mg base CX0 2 T.g_states_of.f T.g_states_of.d ["book"] mN:=by
 refine T.g_states_of.F.ok mR (fun vs H Q E h=>?_) (fun xW A outer s H vs Q E hr h=>?_)
 · obtain ⟨b,v1,v2,v3,ra,xs,rfl,_⟩:=h;rfl
 obtain ⟨b,v1,v2,v3,ra,xs,rfl,e,e2,q⟩:=h;refine ⟨_,(ag (aC (ax ao rfl T.n_len T7 (aa (pcF T.g_rules_of (dX T) hr (aa (pv 0) ac)) ac)))),?_⟩
 try dsimp only [ym,xR]
 exact ⟨_,rfl,b,_,_,_,_,rfl,e,ra,_,rfl,.inr (SqT.of e2),q⟩
inductive gh (vs:List V) (H:Hp) (Q:VK) (_E:XK):Prop
 | mk (ia:Tn) (xU:List Tn) (ins:List (T6×Int)) (x9:vs=[.ref ia]) (ya:H ia=some (.tup (xU.map V.ref))) (ye:KsAt H ins xU) (yj:cf ins) (yz:∀ (r:Tn) (H':Hp),L2.Same H H'->At H' (aQ ins) r->Q (.ref r) H'):gh  vs H Q _E
def g7:Sp:=gh
theorem eG:bn P w K mg base CX0 1 T.g_small_tree.f T.g_small_tree.d ["ins"] g7:=by
 refine T.g_small_tree.F.ok lH (fun vs H Q E h=>?_) (fun xW A outer s H vs Q E hr h=>?_)
 · obtain ⟨ia,xU,ins,rfl,_⟩:=h;rfl
 obtain ⟨ia,xU,ins,rfl,ei,Aj,g,q⟩:=h;refine ⟨_,(ag (aC (av aP (cv (N:=[Tu "name",Tu "many"]) (js:=[none,none]) (g:=(lS K 2 (cP (aH 0) (cP (aH 1) lT)))) (tt:=(ud (tOp (rEq) (bw 1) (tC (.int 0))))) (te:=(km (bq (bw 0) dW))) rfl (cJ rfl (by decide +kernel) (by decide +kernel) rfl rfl rfl) (ja (pv 0)) (fun _ _ _ _ _ _=>(bo rfl (au (aj (i:=0) ut rfl (TQ rfl)) (au (aj (i:=1) ut rfl (TQ rfl)) aY)))) (f6 (bP aX (aV rfl) (bP aX (aV rfl) fY))) (fun _ _ _ _ _ _=>m4 (aJ cj (pv 1) af (aO _))) (fun _ _ _ _ _ _=>(aB (aa (pv 0) ac)))) af (fun _ _=>rfl)))),?_⟩
 try dsimp only [ym,xR]
 have zW:ins.length=xU.length:=TB Aj;have Dg:=g.le;refine ⟨_,rfl,ia,rfl,⟨_,SqT.of ei⟩,tD (F:=fun H (k:T6×Int) a=>At H (.knot k.1 []) a) (xs:=xU.map V.ref) ins (fun k=>decide (k.2=0)) (fun H1 H2 z p kt h=>h.mono kt) (by rw [Te];exact zW) (by rw [Te];omega) (fun i Hx sx hi=>⟨_,_,SqT.of (sx _ _ ei),Ti hi⟩) (fun Hx sx=>⟨_,SqT.of (sx _ _ ei),To _⟩) (fun i Hx x Hy sx hi hy=>⟨hy.1,hy.2 _ (SqT.of (sx _ _ ei))⟩) (fun i x z Hx R W' hx Bc sx hR hW=>?_) (fun D H1 as hD s1 eD BQ=>?_)⟩
 · obtain ⟨ka,rfl,zp⟩:=aZ hx;obtain ⟨z',zz,ez⟩:=P2.get' Aj zp;rw [Bc] at zz;cases zz;have Le:Hx ka=some (.tup [.str z.1,.int z.2]):=sx _ _ ez;refine ⟨ka,_,rfl,SqT.of Le,rfl,_,_,rfl,_,_,rfl,rfl,_,rfl,rfl,_,rfl,?_⟩;have hm:=Tj Bc;by_cases hc:z.2=0
   · rw [if_pos (decide_eq_true (by rw [hc]))];refine ⟨_,rfl,ai (by show 1<=1000000;decide),fun p hp=>hR (decide_eq_true hc) _ p (ad hp _) ?_⟩;rw [At];exact ⟨jC (g.low z hm).1,[],ab,.nil⟩
   · rw [if_neg (fun z2=>hc (V.int.inj (of_decide_eq_true z2)))];exact hW (decide_eq_false hc) _ (.refl _)
 · refine hid fun ZZ kZ=>?_;obtain ⟨k0,yW,CH⟩:=jW g;obtain ⟨r,Lf,hA⟩:=P2.get BQ (i:=0) yW;refine kZ ?_;exact ⟨D,_,0,.ref r,rfl,rfl,SqL.of eD,at_nonneg (Int.le_refl _) (by rw [Tw];show Option.map V.ref as[0]?=_;rw [Lf];rfl),q r H1 s1 (by rw [eX yW];exact hA)⟩
def vp (H:Hp) (ins:List (T6×Int)) (f':List (Key×V)) (us:List Th):Prop:=∀ (i:Nat) (u:Th),us[i]?=some u->(∃ a,aW f' (Um (i:Int))=some (.ref a)/\At H u a)∨(aW f' (Um (i:Int))=none/\u=aQ ins)
inductive f9 (vs:List V) (H:Hp) (Q:VK) (_E:XK):Prop
 | mk (ia ka da:Tn) (xU:List Tn) (ins:List (T6×Int)) (kd:T6×Int) (f':List (Key×V)) (us:List Th) (x9:vs=[.ref ia,.ref ka,.ref da]) (ya:H ia=some (.tup (xU.map V.ref))) (ye:KsAt H ins xU) (yj:cf ins) (yz:KAt H kd ka) (y9:kd∈ins) (Bm:H da=some (.dK f')) (BM:us.length=kd.2.toNat) (D':vp H ins f' us) (Hn:∀ (r:Tn) (H':Hp),L2.Same H H'->At H' (.knot kd.1 us) r->Q (.ref r) H'):f9  vs H Q _E
def lO:Sp:=f9
set_option maxHeartbeats 1000000 in
theorem eN:bn P w K mg base CX0 2 T.g_knot_above.f T.g_knot_above.d ["ins","kind","kids"] lO:=by
 refine T.g_knot_above.F.ok eM (fun vs H Q E h=>?_) (fun xW A outer s H vs Q E hr h=>?_)
 · obtain ⟨ia,ka,da,xU,ins,kd,f',us,rfl,_⟩:=h;rfl
 obtain ⟨ia,ka,da,xU,ins,kd,f',us,rfl,ei,Aj,g,ek,hm,ed,Lg,Gn,q⟩:=h
 refine ⟨_,(ae (eJ (pv 1) (bo rfl (au (aj (i:=3) eM.nd rfl (TQ rfl)) (au (aj (i:=4) eM.nd rfl (TQ rfl)) aY))))
  (ag (aC (aE d4 (aB (aa (pv 3) ac)) (dC cZ rfl T.n_tuple Vx (aa (cv (N:=[Tu "kid",Tu "kids",Tu "ins"]) (js:=[none,some 2,some 0]) (g:=(aH 0)) (tt:=bG) (te:=(sB (bw 1) (bw 0) (fU g7 [] E0 (bq (bw 2) dW)))) rfl (cJ rfl (by decide +kernel) (by decide +kernel) rfl rfl rfl) (bx rfl T.n_range (aa (pv 4) ac)) (fun _ _ _ _ _ _=>(aj (i:=0) xE rfl (TQ rfl))) (aV rfl) (fun _ _ _ _ _ _=>bR) (fun _ _ _ _ _ _=>(tI (mC hr) (pv 1) (pv 0) (pcF T.g_small_tree (eG T) hr (aa (pv 2) ac)) ⟨rfl,rfl,rfl,rfl⟩))) ac)))))),?_⟩
 try dsimp only [ym,xR]
 have C4:=g.num kd hm;have QF:H ka=some (.tup [.str kd.1,.int kd.2]):=ek;refine ⟨_,rfl,ka,_,rfl,SqT.of QF,rfl,_,_,rfl,_,_,rfl,rfl,?_⟩;refine ⟨_,rfl,ai (by show 1<=1000000;decide),fun p1 Bp=>?_⟩;dsimp only;have s1:L2.Same H (upd H p1 (.tup [.str kd.1])):=ad Bp _;have e1:(upd H p1 (.tup [.str kd.1])) p1=some (.tup [.str kd.1]):=ab;generalize (upd H p1 (.tup [.str kd.1]))=H1 at s1 e1 ⊢;have hlen:us.length=((Ue kd.2.toNat).map fun i=>V.int (i:Nat)).length:=by rw [Lg,Te,Uh]
 refine ⟨_,rfl,kd.2,rfl,by omega,by omega,jS (F:=At) (xs:=(Ue kd.2.toNat).map fun i=>V.int (i:Nat)) us (fun H1 H2 z p kt h=>h.mono kt) hlen (by rw [Te,Uh];omega) (fun i Hx sx hi=>by rw [Te,Uh] at hi;exact hi) (fun Hx sx=>by rw [Te,Uh];exact To _) (fun i Hx x Hy sx hi hy=>⟨hy.1,?_⟩) (fun i y z Hx R W' hy Bc sx hR=>?_) (fun D H2 as hD s2 eD BQ=>?_)⟩
 · rw [Te,Uh] at hi;rw [Tw,Uv hi,hy.2];show some (V.int ((i:Nat):Int))=some (V.int (0+((i:Nat):Int)));rw [U6]
 · have hi:i<kd.2.toNat:=by have:=(Tq.mp Bc).1;rwa [Lg] at this
   rw [Tw,Uv hi] at hy;cases hy;have Jz:=s1.trans sx;have Od:Hx da=some (.dK f'):=Jz _ _ ed;refine ⟨_,rfl,da,rfl,.inl ⟨f',.inl Od⟩,_,rfl,_,rfl,ia,xU,ins,rfl,Jz _ _ ei,Aj.mono (Same.kt Jz),g,fun r H3 s3 Hk=>?_⟩;refine ⟨_,DGet.k (k:=Um ((i:Nat):Int)) (s3 _ _ Od),?_⟩;rcases Gn i z Bc with ⟨a,hv,ha⟩ | ⟨hv,rfl⟩
   · rw [hv];exact hR H3 a s3 (ha.mono (Same.kt (Jz.trans s3)))
   · rw [hv];exact hR H3 r s3 Hk
 have zF:=TB BQ;refine ⟨D,_,rfl,.inl ⟨SqL.of eD,fun tp EY=>?_⟩⟩;have s3:L2.Same H2 (upd H2 tp (.tup (as.map V.ref))):=ad EY _;have e3:(upd H2 tp (.tup (as.map V.ref))) tp=some (.tup (as.map V.ref)):=ab;generalize (upd H2 tp (.tup (as.map V.ref)))=H3 at s3 e3 ⊢;refine oK ((s2.trans s3) _ _ e1) e3 (by rw [Te];show 1+as.length<=1000000;omega) fun p H4 s4 e4=>?_;refine q p H4 (s1.trans (s2.trans (s3.trans s4))) ?_;rw [At];exact ⟨jC (g.low kd hm).1,as,e4,(j3 BQ).mono (Same.kt (s3.trans s4))⟩
theorem sV {k:Nat} {A:Ut} (hr:L2.Room k A):A.units+148+4<Vk:=by
 have:=o6 hr;omega
inductive dY (vs:List V) (H:Hp) (Q:VK) (_E:XK):Prop
 | mk (b:Tn) (ins outs:List (T6×Int)) (head:Th) (rows:List (List Th)) (x9:vs=[.ref b]) (ya:Bk H ins outs head rows b) (ye:cf ins) (yj:rows.length<=100) (yz:(∀ row∈rows,row.length=ins.length)) (y9:∀ (r:Tn) (f':List (List Key×V)) (H':Hp),L2.Same H H'->H r=none->H' r=some (.dT f')->MkAt H' ins rows f'->Q (.ref r) H'):dY  vs H Q _E
def je:Sp:=dY
def wJ (H:Hp) (ins:List (T6×Int)) (rows:List (List Th)) (f':List (List Key×V)) (i j:Nat):Prop :=
 ∀ (s k:Nat) (row:List Th) (p:Th),k<3->(s<i∨(s=i/\k<j))->rows[s]?=some row->row[cK ins]?=some p->∃ a,aW f' [Um (s:Int),Um (k:Int)]=some (.ref a)/\At H p a
set_option maxHeartbeats 2000000 in
theorem jf:bn P w K mg base CX0 2 T.g_first_makings.f T.g_first_makings.d ["book"] je:=by
 refine T.g_first_makings.F.ok bj (fun vs H Q E h=>?_) (fun xW A outer s H vs Q E hr h=>?_)
 · obtain ⟨b,ins,outs,head,rows,rfl,_⟩:=h;rfl
 obtain ⟨b,ins,outs,head,rows,rfl,hB,g,D1,zI,q⟩:=h;refine hid fun ZZ kZ=>?_;obtain ⟨ia,oa,ha,ra,xU,yE,yx,hB⟩:=hB;refine kZ ?_
 refine ⟨_,(ae (gF (i:=1) (N:=[Tu "name",Tu "many"]) (js:=[none,none]) (g:=(lS K 2 (cP (aH 0) (cP (aH 1) lT)))) (tt:=bG) (te:=(km (bq (bw 0) dW))) bj.nd rfl (TQ rfl) rfl (cJ rfl (by decide +kernel) (by decide +kernel) rfl rfl rfl) (ja (pcF T.g_ins_of (eU T) hr (aa (pv 0) ac))) (fun _ _ _ _ _ _=>(bo rfl (au (aj (i:=0) ut rfl (TQ rfl)) (au (aj (i:=1) ut rfl (TQ rfl)) aY)))) (f6 (bP aX (aV rfl) (bP aX (aV rfl) fY))) (fun _ _ _ _ _ _=>bR) (fun _ _ _ _ _ _=>(aB (aa (pv 0) ac))))
  (ae (ay (i:=2) bj.nd rfl (TQ rfl) (bW TL Wv Yg (rJ (B:=148) (sV hr)) (pv 1) (aa (pcF T.g_small_tree (eG T) hr (aa (pcF T.g_ins_of (eU T) hr (aa (pv 0) ac)) ac)) ac)))
  (ae (ay (i:=3) bj.nd rfl (TQ rfl) tR)
  (ae (bt T9 rfl (nJ rfl T.n_enumerate (pcF T.g_rules_of (dX T) hr (aa (pv 0) ac))) (bo rfl (au (aj (i:=4) bj.nd rfl (TQ rfl)) (au (aj (i:=5) bj.nd rfl (TQ rfl)) aY))) (ag (bt T9 rfl (bx rfl T.n_range (aa (gz (v:=.int (3)) rfl T.c_MOST_KIDS.choose_spec ⟨_,rfl⟩) ac)) (aj (i:=6) bj.nd rfl (TQ rfl)) (ag (uV (mC hr) (pv 3) (aB (aa (pv 4) (aa (pv 6) ac))) (av aA (pv 5) (pv 2) (fun _ _=>rfl)) rfl)))))
  (ag (aC (pv 3))))))),?_⟩
 try dsimp only [ym,xR]
 have zW:ins.length=xU.length:=TB hB.inK;have Cq:rows.length=yx.length:=TB hB.rw;have Dg:=g.le;refine ⟨_,rfl,b,_,_,_,_,rfl,hB.bk,ia,rfl,⟨_,SqT.of hB.inE⟩,jS (F:=fun H (k:T6×Int) a=>At H (.knot k.1 []) a) (xs:=xU.map V.ref) ins (fun H1 H2 z p kt h=>h.mono kt) (by rw [Te];exact zW) (by rw [Te];omega) (fun i Hx sx hi=>⟨_,_,SqT.of (sx _ _ hB.inE),Ti hi⟩) (fun Hx sx=>⟨_,SqT.of (sx _ _ hB.inE),To _⟩) (fun i Hx x Hy sx hi hy=>⟨hy.1,hy.2 _ (SqT.of (sx _ _ hB.inE))⟩) (fun i x z Hx R W' hx Bc sx hR=>?_) (fun D H1 as hD s1 eD BQ=>?_)⟩
 · obtain ⟨ka,rfl,zp⟩:=aZ hx;obtain ⟨z',zz,ez⟩:=P2.get' hB.inK zp;rw [Bc] at zz;cases zz;have Le:Hx ka=some (.tup [.str z.1,.int z.2]):=sx _ _ ez;refine ⟨ka,_,rfl,SqT.of Le,rfl,_,_,rfl,_,_,rfl,rfl,?_⟩;refine ⟨_,rfl,ai (by show 1<=1000000;decide),fun p hp=>hR _ p (ad hp _) ?_⟩;rw [At];exact ⟨jC (g.low z (Tj Bc)).1,[],ab,.nil⟩
 -- at
 obtain ⟨k0,yW,CH⟩:=jW g;have hI:=eY yW;refine ⟨_,rfl,.inl ⟨rfl,_,SqL.of eD⟩,_,rfl,b,_,_,_,_,rfl,s1 _ _ hB.bk,ia,xU,ins,rfl,s1 _ _ hB.inE,hB.inK.mono (Same.kt s1),g,fun st H2 s2 yG=>?_⟩;have Ar:=s1.trans s2;have Lh:Ats H2 (ins.map fun k=>Th.knot k.1 []) as:=(pi BQ).mono (Same.kt s2);refine ⟨D,.ref st,_,(aQ ins).dv,dvs (ins.map fun k=>Th.knot k.1 []),cK ins,rfl,rfl,SqL.of (s2 _ _ eD),yG.dv,Lh.dvs,?_,?_,fun i hi hz=>?_,?_,?_⟩
 · have h1:=iK (ins.map fun k=>Th.knot k.1 [])
   have h2:bf (ins.map fun k=>Th.knot k.1 [])<=1:=fb fun u hu=>by
    obtain ⟨k,_,rfl⟩:=Uw.mp hu;rw [Th.tall,bf];exact To _
   omega
 · rw [pX,Tw,hI,eX yW];rfl
 · rw [pX,Tw] at hz;cases E1:ins[i]? with
   | none=>rw [E1] at hz;cases hz
   | some k =>
     rw [E1,eX yW] at hz;have JA:(Th.knot k.1 []).dv=(Th.knot k0.1 []).dv:=T5 hz;rw [Th.dv,Th.dv] at JA;have QG:=Dv.tup.inj JA;injection QG with QH _;injection QH with QI;have:=g.nd i (cK ins) k k0 E1 hI QI;omega
 · rw [qJ,Te];omega
 -- made
 intro td Oe;dsimp only [aH];have s3:L2.Same H2 (upd H2 td (.dT [])):=ad Oe _;have e3:(upd H2 td (.dT [])) td=some (.dT []):=ab;have Ho:H td=none:=Ar.free Oe;generalize (upd H2 td (.dT []))=H3 at s3 e3 ⊢;have E2:=Ar.trans s3;refine ⟨_,rfl,b,_,_,_,_,rfl,E2 _ _ hB.bk,ra,rfl,⟨_,SqT.of (E2 _ _ hB.rl)⟩,?_⟩
 refine tu (K:=K) (a:=ra) (xs:=yx.map V.ref) (fun i σ H4=>Ex4 fun (c4 c5 c6:Option V) (tk:List (List Key×V))=>An5 (σ=[some (.ref b),some (.ref D),some (.int (cK ins:Nat)),some (.ref td),c4,c5,c6]) (L2.Same H H4) (H4 td=some (.dT tk)) (tk.length<=3 * i) (wJ H4 ins rows tk i 0))
  ⟨none,none,none,[],rfl,E2,e3,T4 _,fun s k row p _ h=>by rcases h with h | ⟨_,h⟩ <;> cases h⟩ (fun i σ H4 _ ⟨_,_,_,_,_,s4,_,_,_⟩=>SqT.of (s4 _ _ hB.rl)) ?_ ?_
 · rintro i x pr σ H4 hx zh ⟨c4,c5,c6,tk,rfl,s4,Li,hlen,xT⟩;refine hid fun ZZ kZ=>?_;obtain ⟨rwa,rfl,Lj⟩:=aZ hx;obtain ⟨row,xO,E3,CM,Ea⟩:=P2.get' hB.rw Lj;refine kZ ?_;have QJ:i<100:=by have:=(Tq.mp xO).1;omega
   have E4:=zI row (Tj xO);have Dh:=Ea.length;have Qq:=(Tq.mp hI).1;have s5:L2.Same H4 (upd H4 pr (.tup [.int ((i:Nat):Int),.ref rwa])):=ad zh _;have e5:(upd H4 pr (.tup [.int ((i:Nat):Int),.ref rwa])) pr=some (.tup [.int ((i:Nat):Int),.ref rwa]):=ab;generalize (upd H4 pr (.tup [.int ((i:Nat):Int),.ref rwa]))=H5 at s5 e5 ⊢;have Cr:=s4.trans s5;refine ⟨pr,_,rfl,SqT.of e5,rfl,_,_,rfl,_,_,rfl,rfl,?_⟩;dsimp only [aH];refine ⟨3,rfl,by decide,by decide,?_⟩
   refine bT (n:=3) (fun j σ H6=>Ex2 fun (c6:Option V) (tk:List (List Key×V))=>An5 (σ=[some (.ref b),some (.ref D),some (.int (cK ins:Nat)),some (.ref td),some (.int ((i:Nat):Int)),some (.ref rwa),c6]) (L2.Same H H6) (H6 td=some (.dT tk)) (tk.length<=3 * i+j) (wJ H6 ins rows tk i j))
    ⟨_,tk,rfl,Cr,s5 _ _ Li,hlen,fun s k row p hk h h1 h2=>by
     obtain ⟨a,a1,a2⟩:=xT s k row p hk h h1 h2;exact ⟨a,a1,a2.mono (Same.kt s5)⟩⟩ ?_ ?_
   · rintro j σ H6 hj ⟨c6,tk,rfl,s6,Ll,hlen,xT⟩;refine hid fun ZZ kZ=>?_;obtain ⟨pa,AI⟩:∃ a,E3[cK ins]?=some a:=⟨_,Ti (by omega)⟩;obtain ⟨p0,D0,Cs⟩:=Ea.get AI;refine kZ ?_;refine ⟨_,rfl,_,rfl,rwa,_,_,.ref pa,rfl,rfl,SqT.of (s6 _ _ CM),bK (by rw [Tw,AI];rfl),_,rfl,_,rfl,_,rfl,ai (by show 2<=1000000;decide),fun kp Bt=>?_⟩;have s7:L2.Same H6 (upd H6 kp (.tup [.int ((i:Nat):Int),.int (0+((j:Nat):Int))])):=ad Bt _;have e7:(upd H6 kp (.tup [.int ((i:Nat):Int),.int (0+((j:Nat):Int))])) kp=some (.tup ([Um ((i:Nat):Int),Um (0+((j:Nat):Int))].map kV)):=ab;generalize (upd H6 kp (.tup [.int ((i:Nat):Int),.int (0+((j:Nat):Int))]))=H7 at s7 e7 ⊢;have Of:=s7 _ _ Ll;refine ⟨td,_,rfl,DPut.t Of e7 (aK (by omega)),?_⟩
     have CN:KT H7 (upd H7 td (.dT (putK tk [Um ((i:Nat):Int),Um (0+((j:Nat):Int))] (.ref pa)))):=fun c ys ec=>by
      rw [ak (gR ec Of (fun z=>nomatch z))];exact ec
     refine ⟨_,_,rfl,aw (s6.trans s7) Ho,ab,?_,fun s k zq p' hk h h1 h2=>?_⟩
     · have:=bX tk [Um ((i:Nat):Int),Um (0+((j:Nat):Int))] (V.ref pa);omega
     · rw [iV];by_cases BP:([Um ((s:Nat):Int),Um ((k:Nat):Int)]:List Key)=[Um ((i:Nat):Int),Um (0+((j:Nat):Int))]
       · rw [if_pos BP];injection BP with e1 e2;have zE:((s:Nat):Int)=(i:Nat):=WA e1;have:s=i:=by omega
         subst this;rw [xO] at h1;cases h1;rw [D0] at h2;cases h2;exact ⟨pa,rfl,Cs.mono ((Same.kt (s6.trans s7)).trans CN)⟩
       · rw [if_neg BP]
         have QK:s<i∨(s=i/\k<j):=by
          rcases h with h | ⟨rfl,h⟩
          · exact .inl h
          · refine .inr ⟨rfl,?_⟩;by_cases QL:k=j
            · exact absurd (by rw [QL,U6]) BP
            · omega
         obtain ⟨a,a1,a2⟩:=xT s k zq p' hk QK h1 h2;exact ⟨a,a1,a2.mono ((Same.kt s7).trans CN)⟩
   · rintro σ H6 ⟨c6,tk,rfl,s6,Ll,hlen,xT⟩;exact ⟨_,_,_,tk,rfl,s6,Ll,by omega,fun s k row p hk h h1 h2=>xT s k row p hk (by rcases h with h | ⟨_,h⟩;(· by_cases hs:s=i;exact .inr ⟨hs,hk⟩;exact .inl (by omega));exact absurd h (Xc _)) h1 h2⟩
 · rintro σ H4 ⟨c4,c5,c6,tk,rfl,s4,Li,hlen,xT⟩;refine ⟨_,rfl,q td tk H4 s4 Ho Li fun s k row p hk h1 h2=>xT s k row p hk (.inl ?_) h1 h2⟩;rw [Te,<- Cq];exact (Tq.mp h1).1
inductive fM (P:TF) (w:T3) (K:Tg) (vs:List V) (H:Hp) (Q:VK) (_E:XK):Prop
 | mk (b md pt:Tn) (s:Nat) (ins outs:List (T6×Int)) (head:Th) (rows:List (List Th)) (row:List Th) (zT:List (List Key×V)) (f':List (az×V)) (Al:List az) (Vl:VlT) (x9:vs=[.ref b,.int (s:Nat),.ref md,.ref pt]) (ya:Bk H ins outs head rows b) (ye:FrK ins outs rows) (yj:rows[s]?=some row) (yz:H md=some (.dT zT)) (y9:MkAt H ins rows zT) (Bm:Pt P w Vl H pt f' Al) (BM:Al.length<=1000000) (D':(∀ x∈(mkF ins rows (s:Nat)).pl [],nk (s:Nat) x.1∈Al)) (Hn:(∀ x∈(mkF ins rows (s:Nat)).pl [],x.2.isHole=false)) (Lm:(∀ (i:Nat) (p:Th) (kd:T6×Int) (pl:List Int) (u:Th) (ks:List az),row[i]?=some p->ins[i]?=some kd->(pl,u)∈(frF (mkF ins rows) (mkF ins rows (s:Nat)) (row.take (i+1))).pl []->u.isHole=true->(∀ v,(pl,v)∈(frF (mkF ins rows) (mkF ins rows (s:Nat)) (row.take i)).pl []->v.isHole=false)->Vl ks (nk (s:Nat) pl) (aQ ins) (.knot kd.1 (U0 kd.2.toNat (aQ ins))))) (Ln:∀ (r:Tn) (yK:List (az×V)) (H':Hp),But pt H H'->AtK K H' (frF (mkF ins rows) (mkF ins rows (s:Nat)) row) r->Pt P w Vl H' pt yK Al->(∀ k∈f'.map (·.1),k∈yK.map (·.1))->(∀ i,i<=row.length->∀ x∈(frF (mkF ins rows) (mkF ins rows (s:Nat)) (row.take i)).pl [],x.2.isHole=true->nk (s:Nat) x.1∈yK.map (·.1))->Q (.ref r) H'):fM P w K vs H Q _E
def gy (P:TF) (w:T3) (K:Tg):Sp:=fM P w K
set_option maxHeartbeats 4000000 in
theorem kU:bn P w K mg base CX0 6 T.g_first_front.f T.g_first_front.d ["book","state","made","partings"] (gy P w K):=by
 refine T.g_first_front.F.ok bB (fun vs H Q E h=>?_) (fun xW A outer s0 H vs Q E hr h=>?_)
 · obtain ⟨b,md,pt,s,ins,outs,head,rows,row,zT,f',Al,Vl,rfl,_⟩:=h;rfl
 obtain ⟨b,md,pt,s,ins,outs,head,rows,row,zT,f',Al,Vl,rfl,hB,F,xO,FQ,CO,BR,JB,A',Ax,hV,q⟩:=h;refine hid fun ZZ kZ=>?_;obtain ⟨ia,oa,ha,ra,xU,yE,yx,hB⟩:=hB;refine kZ ?_
 refine ⟨_,(ae (ay (i:=4) bB.nd rfl (TQ rfl) (pcF T.g_ins_of (eU T) hr (aa (pv 0) ac)))
  (ae (ay (i:=5) bB.nd rfl (TQ rfl) (mT (mC hr) (pv 2) (aB (aa (pv 1) (aa af ac))) (fun _ _=>rfl)))
  (ae (bt T9 rfl (sU rfl T.n_zip (aa (pv 4) (aa (av aA (pcF T.g_rules_of (dX T) hr (aa (pv 0) ac)) (pv 1) (fun _ _=>rfl)) ac))) (bo rfl (au (aj (i:=6) bB.nd rfl (TQ rfl)) (au (aj (i:=7) bB.nd rfl (TQ rfl)) aY))) (ae (ay (i:=5) bB.nd rfl (TQ rfl) (pcF T.g_common (rO T) hr (aa (pv 5) (aa (pcF T.g_filled (sv T) hr (aa (pv 7) (aa (pv 2) ac))) ac))))
  (ag (bt T9 rfl (cw (pcF T.g_holes_in (jz T) hr (aa (pv 5) ac))) (aj (i:=8) bB.nd rfl (TQ rfl)) (ag (aU (sA XG PySem.F.type_dict_setdefault (gr (fV hr)) (pv 3) (aa (aB (aa (pv 1) (aa (pv 8) ac))) (aa (aB (aa (pcF T.g_small_tree (eG T) hr (aa (pv 4) ac)) (aa (pcF T.g_knot_above (eN T) hr (aa (pv 4) (aa (pv 6) (aa tM ac)))) ac))) ac)))))))))
  (ag (aC (pv 5)))))),?_⟩
 try dsimp only [ym,xR]
 have g:=F.gi;have zW:ins.length=xU.length:=TB hB.inK;have Cq:rows.length=yx.length:=TB hB.rw;have Dg:=g.le;have Oc:=(Tq.mp xO).1;obtain ⟨φ,Di⟩:=cp BR.dm;have Hq:md≠pt:=fun z=>by rw [z,Di] at FQ;cases FQ
 -- ins,front
 refine ⟨_,rfl,b,_,_,_,_,rfl,hB.bk,?_⟩;refine hid fun ZZ kZ=>?_;obtain ⟨zq,p0,KU,D0,CJ,z1,z2,f0⟩:=F.mkd (l:=(s:Nat)) (by omega) (by omega);rw [Vh,xO] at KU;cases KU;obtain ⟨fa,QM,CK⟩:=CO s 0 row p0 (by decide) xO D0;refine kZ ?_;refine ⟨_,rfl,_,rfl,ai (by show 2<=1000000;decide),fun kp Bt=>?_⟩;have s1:L2.Same H (upd H kp (.tup [.int ((s:Nat):Int),.int 0])):=ad Bt _;have e1:(upd H kp (.tup [.int ((s:Nat):Int),.int 0])) kp=some (.tup (([Um ((s:Nat):Int),Um 0]:List Key).map kV)):=ab;generalize (upd H kp (.tup [.int ((s:Nat):Int),.int 0]))=H1 at s1 e1 ⊢;refine ⟨md,.ref fa,rfl,.inr ⟨zT,_,kp,.inl (s1 _ _ FQ),rfl,e1,QM.symm⟩,?_⟩
 -- Ap loop
 refine hid fun ZZ kZ=>?_;obtain ⟨yT,zr,E3,CM,Ak⟩:=P2.get hB.rw xO;refine kZ ?_;have ze:=Ak.length;have Lo:=(F.fit.row row (Tj xO)).1;refine ⟨_,rfl,_,rfl,b,_,_,_,_,rfl,s1 _ _ hB.bk,_,rfl,ra,_,_,.ref yT,rfl,rfl,SqT.of (s1 _ _ hB.rl),bK (by rw [Tw,zr];rfl),ia,yT,rfl,⟨_,SqT.of (s1 _ _ hB.inE)⟩,⟨_,SqT.of (s1 _ _ CM)⟩,?_⟩
 have Hr:∀ (i:Nat) (p:Th),row[i]?=some p->∀ l k,Th.call l k∈p.walk->∃ v,aW zT [Um l,Um k]=some (.ref v)/\At H (mkF ins rows l) v/\(mkF ins rows l).size<=200:=fun i p hp l k hc=>by
  have xV:=(Tq.mp hp).1;obtain ⟨kd,Bs⟩:∃ kd,ins[i]?=some kd:=⟨_,Ti (by omega)⟩;have hf:=(F.fit.row row (Tj xO)).2 i p kd hp Bs;have C4:=g.num kd (Tj Bs);obtain ⟨a1,a2,a3,a4⟩:=sr hf hc;obtain ⟨AQ,p1,b1,b2,b3,b4,_⟩:=F.mkd a1 a2;obtain ⟨v,v1,v2⟩:=CO l.toNat k.toNat AQ p1 (by omega) b1 b2;rw [Wu a1,Wu a3] at v1;exact ⟨v,v1,by rw [b3];exact v2,by rw [b3];exact b4⟩
 have QN:∀ i',i'<=0->∀ x∈(frF (mkF ins rows) (mkF ins rows (s:Nat)) (row.take i')).pl [],x.2.isHole=true->nk (s:Nat) x.1∈f'.map (·.1):=fun i' yq x hx hh=>by
  rw [Nat.le_zero.mp yq,WN] at hx;have:=Ax x hx;rw [hh] at this;cases this
 refine qV (K:=K) (a:=ia) (b:=yT) (xs:=xU.map V.ref) (ys:=E3.map V.ref) (by rw [Te,Te];omega) (fun i σ H2=>Ex5 fun (fa:Tn) (c6 c7 c8:Option V) (yX:List (az×V))=>An6 (σ=[some (.ref b),some (.int ((s:Nat):Int)),some (.ref md),some (.ref pt),some (.ref ia),some (.ref fa),c6,c7,c8]) (But pt H H2) (AtK K H2 (frF (mkF ins rows) (mkF ins rows (s:Nat)) (row.take i)) fa) (Pt P w Vl H2 pt yX Al) ((∀ k∈f'.map (·.1),k∈yX.map (·.1))) ((∀ i',i'<=i->∀ x∈(frF (mkF ins rows) (mkF ins rows (s:Nat)) (row.take i')).pl [],x.2.isHole=true->nk (s:Nat) x.1∈yX.map (·.1))))
  ⟨fa,none,none,none,f',rfl,Same.but s1,by rw [WN,CJ];exact (CK.mono (Same.kt s1)).k,BR.same s1,fun _ h=>h,QN⟩ (fun i σ H2 _ ⟨_,_,_,_,_,_,b2,_,_,_,_⟩=>?_) ?_ ?_
 · have kt:=b2.kt Di;exact ⟨SqT.of (kt _ _ hB.inE),SqT.of (kt _ _ CM)⟩
 · rintro i x y p2 σ H2 hx hy AE ⟨fa,c6,c7,c8,yX,rfl,b2,yt,zt,Bn,Og⟩;refine hid fun ZZ kZ=>?_;obtain ⟨ka,rfl,zp⟩:=aZ hx;obtain ⟨pa,rfl,AI⟩:=aZ hy;obtain ⟨kd,hk,ek⟩:=P2.get' hB.inK zp;obtain ⟨p,hp,Cs⟩:=Ak.get AI;refine kZ ?_;have Lp:=b2.kt Di;have s3:L2.Same H2 (upd H2 p2 (.tup [.ref ka,.ref pa])):=ad AE _;have e3:(upd H2 p2 (.tup [.ref ka,.ref pa])) p2=some (.tup [.ref ka,.ref pa]):=ab;generalize (upd H2 p2 (.tup [.ref ka,.ref pa]))=H3 at s3 e3 ⊢;have Oh:=Lp.trans (Same.kt s3);have b3:=b2.trans (Same.but s3);refine ⟨p2,_,rfl,SqT.of e3,rfl,_,_,rfl,_,_,rfl,rfl,?_⟩;dsimp only [aH]
   -- filled,common
   have FN:=F.sz row (Tj xO) p (Tj hp);refine ⟨_,rfl,_,rfl,_,rfl,pa,md,p,(fun l _=>mkF ins rows l),zT,rfl,(Cs.mono Oh).k,by omega,.inl (b3 _ _ Hq FQ),fun l k hc=>?_,fun fl H4 s4 zZ=>?_⟩
   · refine hid fun ZZ kZ=>?_;obtain ⟨v,v1,v2,v3⟩:=Hr i p hp l k hc;refine kZ ?_;exact ⟨v,v1,(v2.mono Oh).k,by omega⟩
   have hsz:=iM (mkF ins rows) (mkF ins rows (s:Nat)) (row.take i);rw [CJ] at hsz;have Ht:=yt.mono (Same.kt (s3.trans s4));rw [CJ] at Ht;refine ⟨fa,fl,_,_,rfl,Ht,zZ,by omega,by omega,fun cm H5 s5 Lq=>?_⟩;have zM:row.take (i+1)=row.take i++[p]:=by rw [UZ,hp];rfl
   have Hu:AtK K H5 (frF (mkF ins rows) (mkF ins rows (s:Nat)) (row.take (i+1))) cm:=by
    rw [zM,j7,CJ];exact Lq
   have b5:=b3.trans (Same.but (s4.trans s5));have Lr:=zt.same (s3.trans (s4.trans s5));have Su:=b5.kt Di;have Lu:=iM (mkF ins rows) (mkF ins rows (s:Nat)) (row.take (i+1));rw [CJ] at Lu;have Hv:=Hu;rw [CJ] at Hv
   -- holes
   refine ⟨_,rfl,cm,_,rfl,Hv,by omega,by omega,fun hl bs H6 s6 E5 yn=>?_⟩;rw [<- CJ] at yn;have b6:=b5.trans (Same.but s6);have Hw:=Lr.same s6;have E6:=b6.kt Di;obtain ⟨QO,Bu⟩:=cp Hw.dm;have Lw:=Hu.mono (Same.kt s6);have Eb:hl≠pt:=fun z=>by rw [z,Bu] at E5;cases E5
   have zo:=TB yn;have QP:=Xw (fun p:List Int×Th=>p.2.isHole) ((frF (mkF ins rows) (mkF ins rows (s:Nat)) (row.take (i+1))).pl []);rw [Th.pl_len] at QP;have C4:=g.num kd (Tj hk);refine ⟨hl,rfl,⟨_,SqL.of E5⟩,?_⟩
   refine dI (K:=K) (a:=hl) (xs:=bs.map V.ref) (fun j σ H7=>Ex2 fun (c8:Option V) (Dj:List (az×V))=>An5 (σ=[some (.ref b),some (.int ((s:Nat):Int)),some (.ref md),some (.ref pt),some (.ref ia),some (.ref cm),some (.ref ka),some (.ref pa),c8]) (But pt H6 H7) (Pt P w Vl H7 pt Dj Al) ((∀ k∈yX.map (·.1),k∈Dj.map (·.1))) (∀ (j':Nat) (pl:List Int),j'<j->((((frF (mkF ins rows) (mkF ins rows (s:Nat)) (row.take (i+1))).pl []).filter fun p=>p.2.isHole).map (·.1))[j']?=some pl->nk (s:Nat) pl∈Dj.map (·.1)))
    ⟨_,yX,rfl,But.refl _ _,Hw,fun _ h=>h,fun _ _ h=>absurd h (Xc _)⟩ (fun j σ H7 _ ⟨_,_,_,b7,_,_,_⟩=>SqL.of (b7 _ _ Eb E5)) ?_ ?_
   · rintro j x σ H7 hx ⟨c8,Dj,rfl,b7,Ct,y6,xT⟩;refine hid fun ZZ kZ=>?_;obtain ⟨pb,rfl,Dn⟩:=aZ hx;obtain ⟨pl,Dq,Lx⟩:=P2.get' yn Dn;have CN:=b7.kt Bu;have Ly:=E6.trans CN;have FR:=CN _ _ Lx
     obtain ⟨Jq,NT,QQ⟩:∃ u,(pl,u)∈(frF (mkF ins rows) (mkF ins rows (s:Nat)) (row.take (i+1))).pl []/\u.isHole=true:=by
      obtain ⟨x,C0,rfl⟩:=Uw.mp (Tj Dq);exact ⟨x.2,(VG.mp C0).1,(VG.mp C0).2⟩
     refine kZ ?_
     have Lz:nk (s:Nat) pl∈Al:=by
      obtain ⟨x,C0,rfl⟩:=Uw.mp (Tj Dq);obtain ⟨u,hu⟩:=pq (mkF ins rows) (mkF ins rows (s:Nat)) (row.take (i+1)) x (VG.mp C0).1;exact A' (x.1,u) hu
     have Sv:=Ct.len;refine ⟨_,rfl,⟨pt,Dj,rfl,Ct.dm⟩,_,rfl,_,rfl,ai (by show 2<=1000000;decide),fun EJ LA=>?_⟩;have s8:L2.Same H7 (upd H7 EJ (.tup [.int ((s:Nat):Int),.ref pb])):=ad LA _;have e8:(upd H7 EJ (.tup [.int ((s:Nat):Int),.ref pb])) EJ=some (.tup [.int ((s:Nat):Int),.ref pb]):=ab;generalize (upd H7 EJ (.tup [.int ((s:Nat):Int),.ref pb]))=H8 at s8 e8 ⊢;have Bv:=Ly.trans (Same.kt s8);refine ⟨_,rfl,ia,xU,ins,rfl,Bv _ _ hB.inE,hB.inK.mono Bv,g,fun st H9 s9 yG=>?_⟩;have LB:=Bv.trans (Same.kt s9);refine ⟨_,rfl,_,rfl,fun dd JC=>?_⟩;have yg:L2.Same H9 (upd H9 dd (.dK [])):=ad JC _;have CL:(upd H9 dd (.dK [])) dd=some (.dK []):=ab;generalize (upd H9 dd (.dK []))=yC at yg CL ⊢;have E7:=LB.trans (Same.kt yg);refine ⟨ia,ka,dd,xU,ins,kd,[],U0 kd.2.toNat (aQ ins),rfl,E7 _ _ hB.inE,hB.inK.mono E7,g,E7 _ _ ek,Tj hk,CL,by rw [Wa],fun i' u hu=>.inr ⟨rfl,Yb (Tj hu)⟩,fun r2 yR yU ET=>?_⟩;refine ⟨ai (by show 2<=1000000;decide),fun pr zh=>?_⟩;have yO:L2.Same yR (upd yR pr (.tup [.ref st,.ref r2])):=ad zh _;have Au:(upd yR pr (.tup [.ref st,.ref r2])) pr=some (.tup [.ref st,.ref r2]):=ab;generalize (upd yR pr (.tup [.ref st,.ref r2]))=BS at yO Au ⊢;have E8:=yg.trans (yU.trans yO);have Dr:=s8.trans (s9.trans E8);have Cu:=Ct.same Dr;refine ⟨pt,EJ,.ref pr,nk (s:Nat) pl,Dj,rfl,rfl,Cu.dm,lF ((s9.trans E8) _ _ e8) (Dr _ _ FR),aK (by omega),fun u hu=>?_,fun hn AR Oi LC=>?_⟩
     · refine ⟨_,Dj,rfl,b7.trans (Same.but Dr),Cu,y6,fun j' zg yb yQ=>?_⟩;by_cases Cv:j'=j
       · subst Cv;rw [Dq] at yQ;cases yQ;exact Uw.mpr ⟨_,eR hu,rfl⟩
       · exact xT j' zg (by omega) yQ
     · have QR:∀ v,(pl,v)∈(frF (mkF ins rows) (mkF ins rows (s:Nat)) (row.take i)).pl []->v.isHole=false:=fun v hv=>by
        cases QS:v.isHole with
        | false=>rfl
        | true =>
          exfalso;exact cB hn (y6 _ (Og i (To _) (pl,v) hv QS))
       obtain ⟨FT,Hz⟩:=Cu.put hn Oi LC ⟨pr,st,r2,_,_,rfl,Au,yG.mono (Same.kt E8),ET.mono (Same.kt yO),hV i p kd pl Jq _ hp hk NT QQ QR⟩ Lz;refine ⟨_,_,rfl,(b7.trans (Same.but Dr)).trans Oi,FT,fun k BP=>by rw [Hz];exact Ux _ (y6 k BP),fun j' zg yb yQ=>?_⟩;rw [Hz];by_cases Cv:j'=j
       · subst Cv;rw [Dq] at yQ;cases yQ;exact Uj _ (T2 ..)
       · exact Ux _ (xT j' zg (by omega) yQ)
   · rintro σ H7 ⟨c8,Dj,rfl,b7,Ct,y6,xT⟩;refine ⟨cm,_,_,_,Dj,rfl,b6.trans b7,Lw.mono (b7.kt Bu),Ct,fun k BP=>y6 k (Bn k BP),fun i' yq x hx hh=>?_⟩;by_cases QT:i'<=i
     · exact y6 _ (Og i' QT x hx hh)
     obtain rfl:i'=i+1:=by omega
     have hm:x.1∈(((frF (mkF ins rows) (mkF ins rows (s:Nat)) (row.take (i+1))).pl []).filter fun p=>p.2.isHole).map (·.1):=Uw.mpr ⟨x,VG.mpr ⟨hx,hh⟩,rfl⟩;obtain ⟨j',yb⟩:=TU.mp hm;exact xT j' x.1 (by have:=(Tq.mp yb).1;rw [Te];omega) yb
 · rintro σ H2 ⟨fa,c6,c7,c8,yX,rfl,b2,yt,zt,Bn,hh⟩;rw [Te] at yt hh;rw [UY (by omega)] at yt;exact ⟨_,rfl,q fa yX H2 b2 yt zt Bn fun i hi=>hh i (by omega)⟩
def LDone (H:Hp) (G:LG) (s:Nat) (ps:List Th) (f0:Th):Prop:=∀ p∈ps,∀ c∈callsOf (p.pl []),∀ u,(c.1,u)∈f0.pl []->∀ x∈u.pl [],gL H G (nk c.2.1 x.1) (s:Nat) (c.1++x.1)
theorem LDone.sub {H H':Hp} {G G':LG} {s:Nat} {ps:List Th} {f0:Th} (h:LDone H G s ps f0) (k:LSub H H' G G'):LDone H' G' s ps f0:=fun p hp c hc u hu x hx=>k _ _ _ (h p hp c hc u hu x hx)
inductive gP (P:TF) (w:T3) (K:Tg) (vs:List V) (H:Hp) (Q:VK) (_E:XK):Prop
 | mk (b fa la:Tn) (s:Nat) (ins outs:List (T6×Int)) (head:Th) (rows:List (List Th)) (row:List Th) (f0:Th) (H0:Hp) (G:LG) (N:Nat) (Al:List az) (Lk:LkT) (x9:vs=[.ref b,.int (s:Nat),.ref fa,.ref la]) (ya:Bk H ins outs head rows b) (ye:FrK ins outs rows) (yj:rows[s]?=some row) (yz:AtK K H f0 fa) (y9:f0.size<=200) (Bm:f0.tall<=100) (BM:LkI P w ins Al Lk H0 H la G N) (D':N<=15000000) (Hn:(∀ x∈f0.pl [],nk (s:Nat) x.1∈Al)) (Lm:(∀ (i:Nat) (p:Th) (kd:T6×Int) (c:List Int×Int×Int) (u:Th) (x:List Int×Th),row[i]?=some p->ins[i]?=some kd->c∈callsOf (p.pl [])->(c.1,u)∈f0.pl []->x∈u.pl []->Lk (nk c.2.1 x.1) (s:Nat) (c.1++x.1) kd c.2.2)) (Ln:∀ (G':LG) (H':Hp),KT H H'->LkI P w ins Al Lk H0 H' la G' (N+640000)->LSub H H' G G'->LDone H' G' s row f0->Q .non H'):gP P w K vs H Q _E
def mM (P:TF) (w:T3) (K:Tg):Sp:=gP P w K
set_option maxHeartbeats 4000000 in
theorem nz:bn P w K mg base CX0 6 T.g_put_links.f T.g_put_links.d ["book","state","front","links"] (mM P w K):=by
 refine T.g_put_links.F.ok bI (fun vs H Q E h=>?_) (fun xW A outer s0 H vs Q E hr h=>?_)
 · obtain ⟨b,fa,la,s,ins,outs,head,rows,row,f0,H0,G,N,Al,Lk,rfl,_⟩:=h;rfl
 obtain ⟨b,fa,la,s,ins,outs,head,rows,row,f0,H0,G,N,Al,Lk,rfl,hB,F,xO,yt,Sw,Ec,L,hN,A',hL,q⟩:=h;refine hid fun ZZ kZ=>?_;obtain ⟨ia,oa,ha,ra,xU,yE,yx,hB⟩:=hB;refine kZ ?_
 refine ⟨_,(ae (ay (i:=4) bI.nd rfl (TQ rfl) (dC (ky (uE hr) rfl) rfl T.n_dict PyProof.Rows.boot_dict (aa (pcF T.g_placed (gH T) hr (aa (pv 2) ac)) ac)))
  (ag (bt T9 rfl (sU rfl T.n_zip (aa (pcF T.g_ins_of (eU T) hr (aa (pv 0) ac)) (aa (av aA (pcF T.g_rules_of (dX T) hr (aa (pv 0) ac)) (pv 1) (fun _ _=>rfl)) ac))) (bo rfl (au (aj (i:=5) bI.nd rfl (TQ rfl)) (au (aj (i:=6) bI.nd rfl (TQ rfl)) aY))) (ag (bt T9 rfl (cw (pcF T.g_calls_in (o5 T) hr (aa (pv 6) ac))) (bo rfl (au (aj (i:=7) bI.nd rfl (TQ rfl)) (au (bo rfl (au (aj (i:=8) bI.nd rfl (TQ rfl)) (au (aj (i:=9) bI.nd rfl (TQ rfl)) aY))) aY))) (ag (bm (pA (vH (mC hr) (pv 7) (pv 4))) (ag (bt T9 rfl (cw (pcF T.g_places (rE T) hr (aa (mT (mC hr) (pv 4) (pv 7) (fun _ _=>rfl)) ac))) (aj (i:=10) bI.nd rfl (TQ rfl)) (ag (aU (bW TL Ub Ua aR (sA XG PySem.F.type_dict_setdefault (gr (fV hr)) (pv 3) (aa (aB (aa (pv 8) (aa (pv 10) ac))) (aa (bV ac) ac))) (aa (aB (aa (pv 1) (aa (aE d4 (pv 7) (pv 10)) (aa (pv 5) (aa (pv 9) ac))))) ac)))))) ba))))))),?_⟩
 try dsimp only [ym,xR]
 have g:=F.gi;have zW:ins.length=xU.length:=TB hB.inK;have Dg:=g.le;have Oc:=(Tq.mp xO).1
 -- parts
 refine ⟨_,rfl,fa,f0,rfl,yt,by omega,by omega,fun QU JD H1 s1 Sx BU yB=>?_⟩;have LD:(f0.pl []).length=JD.length:=TB yB;rw [Th.pl_len] at LD;refine hid fun ZZ kZ=>?_;obtain ⟨prs,Am,LF,LH⟩:∃ prs:List (List Key×V),Ud (PrA H1) prs JD/\(∀ p∈prs,∃ x∈f0.pl [],p.1=x.1.map Um/\∃ a,p.2=.ref a/\AtK K H1 x.2 a)/\∀ x∈f0.pl [],∃ p∈prs,p.1=x.1.map Um:=tH yB;refine kZ ?_;have Oj:prs.length=JD.length:=TB Am;refine ⟨QU,JD,prs,rfl,BU,Am,by omega,fun pd QV=>?_⟩;have s2:L2.Same H1 (upd H1 pd (.dT (ci [] prs))):=ad QV _;have e2:(upd H1 pd (.dT (ci [] prs))) pd=some (.dT (ci [] prs)):=ab;generalize (upd H1 pd (.dT (ci [] prs)))=H2 at s2 e2 ⊢;refine hid fun ZZ kZ=>?_;obtain ⟨f1,f2⟩:=jB (R:=fun k v=>∃ x∈f0.pl [],k=x.1.map Um/\∃ a,v=.ref a/\AtK K H1 x.2 a) prs [] (fun k v hv=>by cases hv) LF;have Ar:=s1.trans s2;have E9:=L.same Ar;obtain ⟨yT,zr,E3,CM,Ak⟩:=P2.get hB.rw xO;refine kZ ?_;have ze:=Ak.length;have Lo:=(F.fit.row row (Tj xO)).1
 have LI:∀ (q:List Int) (u:Th),(q,u)∈f0.pl []->∃ a,aW (ci [] prs) (q.map Um)=some (.ref a)/\AtK K H1 u a:=fun q u hu=>by
  obtain ⟨p,hp,e⟩:=LH (q,u) hu;obtain ⟨v,hv⟩:=f2 (q.map Um) (.inr ⟨p,hp,e⟩);obtain ⟨x,hx,ex,a,rfl,ha⟩:=f1 _ v hv;have hq:q=x.1:=(XS (fun _ _ e=>WA e)).mp ex;have:u=x.2:=pE _ (To _) hu (by rw [hq];exact hx);rw [this];exact ⟨a,hv,ha⟩
 have LJ:∀ (q:List Int) (v:V),aW (ci [] prs) (q.map Um)=some v->∃ u a,(q,u)∈f0.pl []/\v=.ref a/\AtK K H1 u a:=fun q v hv=>by
  obtain ⟨x,hx,ex,a,rfl,ha⟩:=f1 _ v hv;have hq:q=x.1:=(XS (fun _ _ e=>WA e)).mp ex;exact ⟨x.2,a,by rw [hq];exact hx,rfl,ha⟩
 have Ed:pd≠la:=fun z=>by
  obtain ⟨φ,e⟩:=cp E9.dm;rw [z,e] at e2;cases e2
 have LK:∀ g∈G,g.2.1≠pd:=fun g hg z=>by
  have:=(E9.ls g hg).2.1;rw [z,e2] at this;cases this
 refine ⟨_,rfl,b,_,_,_,_,rfl,Ar _ _ hB.bk,_,rfl,b,_,_,_,_,rfl,Ar _ _ hB.bk,_,rfl,ra,_,_,.ref yT,rfl,rfl,SqT.of (Ar _ _ hB.rl),bK (by rw [Tw,zr];rfl),ia,yT,rfl,⟨_,SqT.of (Ar _ _ hB.inE)⟩,⟨_,SqT.of (Ar _ _ CM)⟩,?_⟩
 refine qV (K:=K) (a:=ia) (b:=yT) (xs:=xU.map V.ref) (ys:=E3.map V.ref) (by rw [Te,Te];omega) (fun i σ H3=>Ex7 fun (c5 c6 c7 c8 c9 Bd:Option V) (G3:LG)=>An3 (σ=[some (.ref b),some (.int ((s:Nat):Int)),some (.ref fa),some (.ref la),some (.ref pd),c5,c6,c7,c8,c9,Bd]) (LQ P w ins Al Lk H0 la H2 G H3 G3 (N+i * 80000)) (LDone H3 G3 s (row.take i) f0))
  ⟨none,none,none,none,none,none,G,rfl,(LQ.refl E9).up (by omega),fun p hp=>by rw [WN] at hp;cases hp⟩ (fun i σ H3 _ ⟨_,_,_,_,_,_,_,_,q3,_⟩=>?_) ?_ ?_
 · have kt:=(Same.kt Ar).trans (q3.kt E9);exact ⟨SqT.of (kt _ _ hB.inE),SqT.of (kt _ _ CM)⟩
 · rintro i x y p2 σ H3 hx hy AE ⟨c5,c6,c7,c8,c9,Bd,G3,rfl,q3,d3⟩;refine hid fun ZZ kZ=>?_;obtain ⟨ka,rfl,zp⟩:=aZ hx;obtain ⟨pa,rfl,AI⟩:=aZ hy;obtain ⟨kd,hk,ek⟩:=P2.get' hB.inK zp;obtain ⟨p,hp,Cs⟩:=Ak.get AI;refine kZ ?_;have QW:i<8:=by have:=(Tq.mp hk).1;omega
   have s4:L2.Same H3 (upd H3 p2 (.tup [.ref ka,.ref pa])):=ad AE _;have e4:(upd H3 p2 (.tup [.ref ka,.ref pa])) p2=some (.tup [.ref ka,.ref pa]):=ab;generalize (upd H3 p2 (.tup [.ref ka,.ref pa]))=H4 at s4 e4 ⊢;have q4:=q3.same s4;have JE:=(Same.kt Ar).trans (q4.kt E9);refine ⟨p2,_,rfl,SqT.of e4,rfl,_,_,rfl,_,_,rfl,rfl,?_⟩;dsimp only [aH];have FN:=F.sz row (Tj xO) p (Tj hp);refine ⟨_,rfl,pa,p,rfl,(Cs.mono JE).k,by omega,by omega,fun cl cs H5 s5 QX JF BI=>?_⟩;have q5:=q4.same s5;have d5:=d3.sub (LSub.kt (Same.kt (s4.trans s5)) G3);have L5:=q5.lk;have LL:(callsOf (p.pl [])).length=cs.length:=TB BI;have LM:=jv (p.pl []);rw [Th.pl_len] at LM
   have LN:∀ g∈G3,g.2.1≠cl:=fun g hg z=>by
    have:=(q4.lk.ls g hg).2.1;rw [z,QX] at this;cases this
   have HA:cl≠la:=fun z=>by
    obtain ⟨φ,e⟩:=cp L5.dm;rw [z,e] at JF;cases JF
   refine ⟨cl,rfl,⟨_,SqL.of JF⟩,?_⟩
   refine dI (K:=K) (a:=cl) (xs:=cs.map V.ref) (fun j σ H6=>Ex5 fun (c7 c8 c9 Bd:Option V) (G6:LG)=>An3 (σ=[some (.ref b),some (.int ((s:Nat):Int)),some (.ref fa),some (.ref la),some (.ref pd),some (.ref ka),some (.ref pa),c7,c8,c9,Bd]) (LQ P w ins Al Lk H0 la H5 G3 H6 G6 (N+i * 80000+j * 400)) (∀ (j':Nat) (c:List Int×Int×Int),j'<j->(callsOf (p.pl []))[j']?=some c->∀ u,(c.1,u)∈f0.pl []->∀ x∈u.pl [],gL H6 G6 (nk c.2.1 x.1) (s:Nat) (c.1++x.1)))
    ⟨_,_,_,_,G3,rfl,(LQ.refl L5).up (by omega),fun _ _ h=>absurd h (Xc _)⟩ (fun j σ H6 _ ⟨_,_,_,_,_,_,q6,_⟩=>SqL.of (q6.fr _ _ JF HA LN)) ?_ ?_
   · rintro j x σ H6 hx ⟨c7,c8,c9,Bd,G6,rfl,q6,d6⟩;refine hid fun ZZ kZ=>?_;obtain ⟨ca,rfl,G7⟩:=aZ hx;obtain ⟨c,hc,Ol,QY,QZ,Om,LO⟩:=P2.get' BI G7;refine kZ ?_;have E6:=q6.kt L5;have FK:j<200:=by have:=(Tq.mp hc).1;omega
     have HB:H5 pd=some (.dT (ci [] prs)):=q5.fr _ _ e2 Ed LK
     have HC:∀ g∈G3,g.2.1≠pd:=fun g hg z=>by
      have:=(L5.ls g hg).2.1;rw [z,HB] at this;cases this
     have HE:=q6.fr _ _ HB Ed HC
     have Oo:H6 Ol=some (.tup ((c.1.map Um).map kV)):=by
      rw [E6 _ _ Om,VE];rfl
     have Ds:=(Same.kt s2).trans ((q5.kt E9).trans E6);refine ⟨ca,_,rfl,SqT.of (E6 _ _ QZ),rfl,_,_,rfl,_,_,rfl,QY,_,rfl,SqT.of (E6 _ _ LO),rfl,_,_,rfl,_,_,rfl,rfl,rfl,?_⟩;refine df (fun bb H'=>An2 (H6=H') (bb=(aW (ci [] prs) (c.1.map Um)).isSome)) (fun k2 zi=>?_) (fun H' yf=>?_) (fun H' yf=>?_)
     · exact ⟨_,rfl,_,rfl,pd,_,rfl,DGet.t HE Oo,_,rfl,zi _ _ ⟨rfl,rfl⟩⟩
     · refine hid fun ZZ kZ=>?_;obtain ⟨rfl,yf⟩:=yf;obtain ⟨v,hv⟩:=W7.mp yf.symm;obtain ⟨u,ua,hu,rfl,D9⟩:=LJ c.1 v hv;obtain ⟨Gn,Q0⟩:=u5 _ f0 [] (To _) _ hu;refine kZ ?_;dsimp only at Gn Q0;refine ⟨_,rfl,_,rfl,pd,.ref ua,rfl,by rw [<- hv];exact DGet.t HE Oo,ua,u,rfl,D9.mono Ds,by omega,by omega,fun il Oq H7 s7 nil JG HF=>⟨il,rfl,⟨_,SqL.of JG⟩,?_⟩⟩;have q7:=q6.same s7;have L7:=q7.lk;have d7:∀ (j':Nat) (c:List Int×Int×Int),j'<j->(callsOf (p.pl []))[j']?=some c->∀ u,(c.1,u)∈f0.pl []->∀ x∈u.pl [],gL H7 G6 (nk c.2.1 x.1) (s:Nat) (c.1++x.1):=fun j' c h1 h2 u h3 x h4=>LSub.kt (Same.kt s7) G6 _ _ _ (d6 j' c h1 h2 u h3 x h4);have LP:(u.pl []).length=Oq.length:=TB HF;rw [Th.pl_len] at LP
       have LR:∀ g∈G6,g.2.1≠il:=fun g hg z=>by
        have:=(q6.lk.ls g hg).2.1;rw [z,nil] at this;cases this
       have HG:il≠la:=fun z=>by
        obtain ⟨φ,e⟩:=cp L7.dm;rw [z,e] at JG;cases JG
       have CN:=E6.trans (Same.kt s7);have LS:=(JE.trans (Same.kt s5)).trans CN
       refine dI (K:=K) (a:=il) (xs:=Oq.map V.ref) (fun m σ H8=>Ex2 fun (Bd:Option V) (G8:LG)=>An3 (σ=[some (.ref b),some (.int ((s:Nat):Int)),some (.ref fa),some (.ref la),some (.ref pd),some (.ref ka),some (.ref pa),some (.ref Ol),some (.int c.2.1),some (.int c.2.2),Bd]) (LQ P w ins Al Lk H0 la H7 G6 H8 G8 (N+i * 80000+j * 400+2 * m)) (∀ (m':Nat) (x:List Int×Th),m'<m->(u.pl [])[m']?=some x->gL H8 G8 (nk c.2.1 x.1) (s:Nat) (c.1++x.1)))
        ⟨_,G6,rfl,LQ.refl L7,fun _ _ h=>absurd h (Xc _)⟩ (fun m σ H8 _ ⟨_,_,_,q8,_⟩=>SqL.of (q8.fr _ _ JG HG LR)) ?_ ?_
       · rintro m x σ H8 hx ⟨Bd,G8,rfl,q8,d8⟩;refine hid fun ZZ kZ=>?_;obtain ⟨ib,rfl,Q1⟩:=aZ hx;obtain ⟨y,hy,LU⟩:=P2.get' HF Q1;have Sy:m<200:=by have:=(Tq.mp hy).1;rw [Th.pl_len] at this;omega
         have LV:=q8.kt L7;have L8:=q8.lk;have Dt:=L8.le;have LW:=LV _ _ LU;have Ot:=LV _ _ (CN _ _ Om);have Ou:KAt H8 kd ka:=LV _ _ (LS _ _ ek);obtain ⟨Sz,Q2⟩:=cp L8.dm;refine kZ ?_;have Jy:c.1.length<=100:=by have:=ol _ f0 [] (To _) _ hu;rw [Wi] at this;dsimp only at this;omega
         have SD:y.1.length<=100:=by have:=ol _ u [] (To _) y (Tj hy);rw [Wi] at this;omega
         have Ov:nk (s:Nat) (c.1++y.1)∈Al:=A' (c.1++y.1,y.2) (nC _ (To _) hu (Tj hy));have Ow:Lk (nk c.2.1 y.1) (s:Nat) (c.1++y.1) kd c.2.2:=hL i p kd c u y hp hk (Tj hc) hu (Tj hy);refine ⟨_,rfl,⟨la,_,rfl,L8.dm⟩,_,rfl,_,rfl,ai (by show 2<=1000000;decide),fun kp Bt=>?_⟩;have s9:L2.Same H8 (upd H8 kp (.tup [.int c.2.1,.ref ib])):=ad Bt _;have e9:(upd H8 kp (.tup [.int c.2.1,.ref ib])) kp=some (.tup [.int c.2.1,.ref ib]):=ab;dsimp only;generalize (upd H8 kp (.tup [.int c.2.1,.ref ib]))=H9 at s9 e9 ⊢;refine ⟨ai (by show 0<=1000000;decide),fun l0 CG=>?_⟩;have yg:L2.Same H9 (upd H9 l0 (.lst [])):=ad CG _;have q9:LQ P w ins Al Lk H0 la H8 G8 H9 G8 (N+i * 80000+j * 400+2 * m):=(LQ.refl L8).same s9;have JH:=Same.kt (s9.trans yg);refine ⟨la,kp,.ref l0,nk c.2.1 y.1,lkv G8,rfl,rfl,L8.dm.mono (s9.trans yg),lF (yg _ _ e9) ((s9.trans yg) _ _ LW),ff (by unfold lkv;rw [Te];omega),fun u hu=>?_,fun hn yC Q3 LX=>?_⟩
         · obtain ⟨g,hg,HH,rfl⟩:=qG hu;have qs:LQ P w ins Al Lk H0 la H8 G8 (upd H9 l0 (.lst [])) G8 (N+i * 80000+j * 400+2 * m+1):=(q9.same yg).up (by omega);generalize (upd H9 l0 (.lst []))=Hs at qs JH ⊢;have Ls:=qs.lk;refine hid fun ZZ kZ=>?_;obtain ⟨_,gl,gn,_⟩:=Ls.ls g hg;refine kZ ?_;refine ⟨.inl ⟨rfl,_,SqL.of gl⟩,_,rfl,_,rfl,_,rfl,?_⟩;refine oK (JH _ _ Ot) (JH _ _ LW) (by rw [Te,Te];omega) fun pj yR yU CP=>?_;rw [<- TH] at CP;refine ⟨_,rfl,_,rfl,ai (by show 4<=1000000;decide),fun en LY=>?_⟩;have yO:L2.Same yR (upd yR en (.tup [.int ((s:Nat):Int),.ref pj,.ref ka,.int c.2.2])):=ad LY _;have Au:(upd yR en (.tup [.int ((s:Nat):Int),.ref pj,.ref ka,.int c.2.2])) en=some (.tup [.int ((s:Nat):Int),.ref pj,.ref ka,.int c.2.2]):=ab;generalize (upd yR en (.tup [.int ((s:Nat):Int),.ref pj,.ref ka,.int c.2.2]))=BS at yO Au ⊢;have AS:=yU.trans yO;refine ⟨g.2.1,_,_,rfl,rfl,AS _ _ gl,ff (by rw [Te];omega),?_⟩;obtain ⟨HI,has⟩:=(qs.same AS).appG hg (en:=en) ⟨_,_,c.1++y.1,pj,ka,kd,Au,yO _ _ CP,(Same.kt AS) _ _ (JH _ _ Ou),Tj hk,Ov,by rw [HH];exact Ow⟩;refine ⟨_,_,rfl,(q8.trans HI).up (by omega),fun m' x2 DX AK=>?_⟩;by_cases LZ:m'=m
           · rw [LZ,hy] at AK;cases AK;have hh:=has _ _ _ _ _ Au (yO _ _ CP);rw [HH] at hh;exact hh
           · exact HI.sub _ _ _ (d8 m' x2 (by omega) AK)
         · have qs:=q9.newG CG hn Q3 LX;have L3:=qs.kt L8;refine hid fun ZZ kZ=>?_;obtain ⟨g,hg,HH,Q4⟩:∃ g∈G8++[(nk c.2.1 y.1,l0,[])],g.1=nk c.2.1 y.1/\g.2.1=l0:=⟨_,Uj _ (T2 ..),rfl,rfl⟩;refine kZ ?_;rw [<- Q4] at qs hg ⊢;have Ls:=qs.lk;refine hid fun ZZ kZ=>?_;obtain ⟨_,gl,gn,_⟩:=Ls.ls g hg;refine kZ ?_;refine ⟨.inl ⟨rfl,_,SqL.of gl⟩,_,rfl,_,rfl,_,rfl,?_⟩;refine oK (L3 _ _ Ot) (L3 _ _ LW) (by rw [Te,Te];omega) fun pj yR yU CP=>?_;rw [<- TH] at CP;refine ⟨_,rfl,_,rfl,ai (by show 4<=1000000;decide),fun en LY=>?_⟩;have yO:L2.Same yR (upd yR en (.tup [.int ((s:Nat):Int),.ref pj,.ref ka,.int c.2.2])):=ad LY _;have Au:(upd yR en (.tup [.int ((s:Nat):Int),.ref pj,.ref ka,.int c.2.2])) en=some (.tup [.int ((s:Nat):Int),.ref pj,.ref ka,.int c.2.2]):=ab;generalize (upd yR en (.tup [.int ((s:Nat):Int),.ref pj,.ref ka,.int c.2.2]))=BS at yO Au ⊢;have AS:=yU.trans yO;refine ⟨g.2.1,_,_,rfl,rfl,AS _ _ gl,ff (by rw [Te];omega),?_⟩;obtain ⟨HI,has⟩:=(qs.same AS).appG hg (en:=en) ⟨_,_,c.1++y.1,pj,ka,kd,Au,yO _ _ CP,(Same.kt AS) _ _ (L3 _ _ Ou),Tj hk,Ov,by rw [HH];exact Ow⟩;refine ⟨_,_,rfl,(q8.trans HI).up (by omega),fun m' x2 DX AK=>?_⟩;by_cases LZ:m'=m
           · rw [LZ,hy] at AK;cases AK;have hh:=has _ _ _ _ _ Au (yO _ _ CP);rw [HH] at hh;exact hh
           · exact HI.sub _ _ _ (d8 m' x2 (by omega) AK)
       · rintro σ H8 ⟨Bd,G8,rfl,q8,d8⟩;refine ⟨_,_,_,_,G8,rfl,(q7.trans q8).up (by rw [Te];omega),fun j' c' yb y8 u' zf x2 AK=>?_⟩;by_cases Cv:j'=j
         · subst Cv;rw [hc] at y8;cases y8;have:u'=u:=pE _ (To _) zf hu;subst this;obtain ⟨m',DX⟩:=TU.mp AK;exact d8 m' x2 (by have:=(Tq.mp DX).1;rw [Th.pl_len] at this;rw [Te];omega) DX
         · exact q8.sub _ _ _ (d7 j' c' (by omega) y8 u' zf x2 AK)
     · obtain ⟨rfl,yf⟩:=yf;refine ⟨_,_,_,_,G6,rfl,q6.up (by omega),fun j' c' yb y8 u' zf x2 AK=>?_⟩;by_cases Cv:j'=j
       · subst Cv;rw [hc] at y8;cases y8;obtain ⟨a,ha,_⟩:=LI c.1 u' zf;rw [ha] at yf;cases yf
       · exact d6 j' c' (by omega) y8 u' zf x2 AK
   · rintro σ H6 ⟨c7,c8,c9,Bd,G6,rfl,q6,d6⟩;refine ⟨_,_,_,_,_,_,G6,rfl,(q5.trans q6).up ?_,?_⟩
     · rw [Te];have:cs.length * 400<=200 * 400:=XE _ (by omega);omega
     · intro p' yQ;rw [UZ,hp] at yQ;rcases UA.mp yQ with yQ | yQ
       · exact (d5.sub q6.sub) p' yQ
       · cases TY.mp yQ;intro c Lq;obtain ⟨j',yb⟩:=TU.mp Lq;exact d6 j' c (by have:=(Tq.mp yb).1;rw [Te];omega) yb
 · rintro σ H3 ⟨c5,c6,c7,c8,c9,Bd,G3,rfl,q3,d3⟩;rw [Te] at q3 d3;rw [UY (by omega)] at d3;have hmul:xU.length * 80000<=8 * 80000:=XE _ (by omega);exact q G3 H3 ((Same.kt Ar).trans (q3.kt E9)) (q3.lk.up (by omega)) ((LSub.kt (Same.kt Ar) G).trans q3.sub) d3
theorem l4 (k:Key) (v:V):jm [] [(k,v)]=[(k,v)]:=rfl
theorem om {H:Hp} {ins:List (T6×Int)} {n:Nat} {kid:Int} {t:Th} {a:Tn} (h:At H t a):vp H ins [(Um kid,.ref a)] (bN ins n kid t):=fun i u hu=>by
 unfold bN at hu;rw [Tw,T8] at hu;obtain ⟨j,hj,rfl⟩:=hu;have SE:j<n:=by have:=V7.mp (Tj hj);exact this
 have CI:i=j:=by
  have hi:i<n:=by have:=(Tq.mp hj).1;rwa [Uh] at this
  rw [Uv hi] at hj;exact T5 hj
 subst CI;by_cases hk:(i:Int)=kid
 · rw [if_pos hk];exact .inl ⟨a,by rw [bF (by rw [hk])],h⟩
 · rw [if_neg hk];exact .inr ⟨by rw [bE (fun z=>hk (WA z).symm)];rfl,rfl⟩
def SpI (P:TF) (w:T3) (Vl:VlT) (H:Hp) (ia la pt hl:Tn) (G:LG) (f':List (az×V)) (Al:List az) (m:Nat) (σ:St) (H2:Hp):Prop:=∃ (i:Nat) (yX:List (az×V)) (BV:List Tn) (c5 c6 c7 c8 c9 Bd:Option V),σ=[some (.ref ia),some (.ref la),some (.ref pt),some (.ref hl),some (.int (i:Nat)),c5,c6,c7,c8,c9,Bd]/\But pt H H2/\H2 hl=some (.lst (BV.map V.ref))/\Pt P w Vl H2 pt yX Al/\Ud (fun k b=>MKAt H2 k b) (yX.map (·.1)) BV/\(∀ k∈f'.map (·.1),k∈yX.map (·.1))/\i<=yX.length/\(∀ (j:Nat) (k:az),j<i->(yX.map (·.1))[j]?=some k->∀ s pl,gL H2 G k s pl->nk s pl∈yX.map (·.1))/\m=Al.length+1 - i
inductive kH (P:TF) (w:T3) (vs:List V) (H:Hp) (Q:VK) (_E:XK):Prop
 | mk (ia la pt:Tn) (xU:List Tn) (ins:List (T6×Int)) (G:LG) (f':List (az×V)) (Al:List az) (Vl:VlT) (Lk:LkT) (x9:vs=[.ref ia,.ref la,.ref pt]) (ya:H ia=some (.tup (xU.map V.ref))) (ye:KsAt H ins xU) (yj:cf ins) (yz:LkR P w ins Al Lk H la G) (y9:Pt P w Vl H pt f' Al) (Bm:Al.length<=1000000) (BM:pt≠la) (D':(∀ (ks:List az) (i:Nat) (k:az) (t1 t2:Th) (s:Int) (pl:List Int) (kd:T6×Int) (kid:Int),ks[i]?=some k->Vl (ks.take i) k t1 t2->kd∈ins->Lk k s pl kd kid->nk s pl∉ks->Vl ks (nk s pl) (.knot kd.1 (bN ins kd.2.toNat kid t1)) (.knot kd.1 (bN ins kd.2.toNat kid t2)))) (Hn:∀ (yK:List (az×V)) (H':Hp),But pt H H'->Pt P w Vl H' pt yK Al->(∀ k∈f'.map (·.1),k∈yK.map (·.1))->(∀ k∈yK.map (·.1),∀ s pl,gL H' G k s pl->nk s pl∈yK.map (·.1))->Q .non H'):kH P w vs H Q _E
def rT (P:TF) (w:T3):Sp:=kH P w
set_option maxHeartbeats 4000000 in
theorem rh:bn P w K mg base CX0 3 T.g_spread.f T.g_spread.d ["ins","links","partings"] (rT P w):=by
 refine T.g_spread.F.ok ce (fun vs H Q E h=>?_) (fun xW A outer s0 H vs Q E hr h=>?_)
 · obtain ⟨ia,la,pt,xU,ins,G,f',Al,Vl,Lk,rfl,_⟩:=h;rfl
 obtain ⟨ia,la,pt,xU,ins,G,f',Al,Vl,Lk,rfl,ei,Aj,g,R,BR,JB,yd,hS,q⟩:=h
 refine ⟨_,(ae (ay (i:=3) ce.nd rfl (TQ rfl) (dC (qc rfl) rfl T.n_list Xm (aa (pv 2) ac)))
  (ae (ay (i:=4) ce.nd rfl (TQ rfl) af)
  (ag (dL T9 (aJ nX (pv 4) (ax ao rfl T.n_len T7 (aa (pv 3) ac)) (aO _)) (ae (eJ (o7 (fV hr) (pv 2) (av aP (pv 3) (pv 4) (fun _ _=>rfl)) (fun _ _=>rfl)) (bo rfl (au (aj (i:=5) ce.nd rfl (TQ rfl)) (au (aj (i:=6) ce.nd rfl (TQ rfl)) aY))))
  (ae (bt T9 rfl (cw (r9 (fV hr) (pv 1) (av aP (pv 3) (pv 4) (fun _ _=>rfl)) (bV ac) ⟨rfl,rfl,rfl,rfl⟩)) (bo rfl (au (aj (i:=7) ce.nd rfl (TQ rfl)) (au (aj (i:=8) ce.nd rfl (TQ rfl)) (au (aj (i:=9) ce.nd rfl (TQ rfl)) (au (aj (i:=10) ce.nd rfl (TQ rfl)) aY))))) (ag (bm (pA (qb (fV hr) (aB (aa (pv 7) (aa (pv 8) ac))) (pv 2))) (ae (uc (fV hr) (pv 2) (aB (aa (pv 7) (aa (pv 8) ac))) (aB (aa (pcF T.g_knot_above (eN T) hr (aa (pv 0) (aa (pv 9) (aa (qD (oz (pv 10) (pv 5) qu) rfl rfl (by decide) (by decide)) ac)))) (aa (pcF T.g_knot_above (eN T) hr (aa (pv 0) (aa (pv 9) (aa (qD (oz (pv 10) (pv 6) qu) rfl rfl (by decide) (by decide)) ac)))) ac))) rfl)
  (ag (aU (bW TL Ub Ua aR (pv 3) (aa (aB (aa (pv 7) (aa (pv 8) ac))) ac))))) ba)))
  (ag (wb (i:=4) ce.nd rfl (TQ rfl) af vR)))))))),?_⟩
 try dsimp only [ym,xR]
 obtain ⟨φ,Di⟩:=cp BR.dm;have zW:ins.length=xU.length:=TB Aj;refine ⟨_,rfl,pt,f',rfl,BR.dm,fun hl bs Eb yn=>?_⟩;have s1:L2.Same H (upd H hl (.lst (bs.map V.ref))):=ad Eb _;have e1:(upd H hl (.lst (bs.map V.ref))) hl=some (.lst (bs.map V.ref)):=ab;generalize (upd H hl (.lst (bs.map V.ref)))=H1 at s1 e1 ⊢;have Ox:hl≠pt:=fun z=>by rw [z,Di] at Eb;cases Eb
 have L4:Ud (fun k b=>MKAt H1 k b) (f'.map (·.1)) bs:=P2.mapl _ (P2.mp (fun _ _ e=>e.mono (Same.kt s1)) yn);refine ⟨SpI P w Vl H ia la pt hl G f' Al,⟨_,0,f',bs,none,none,none,none,none,none,rfl,Same.but s1,e1,BR.same s1,L4,fun _ h=>h,T4 _,fun _ _ h=>absurd h (Xc _),rfl⟩,?_⟩;rintro m σ H2 ⟨i,yX,BV,c5,c6,c7,c8,c9,Bd,rfl,b2,AU,zt,Fb,Ee,E1,AA,rfl⟩;have L6:(yX.map (·.1)).length=BV.length:=TB Fb;rw [Te] at L6;have SF:=zt.len;have Lp:=b2.kt Di;obtain ⟨JI,Bw⟩:=cp zt.dm;refine ⟨_,rfl,_,rfl,hl,_,rfl,.inl (SqL.of AU),_,_,rfl,rfl,?_⟩;refine ⟨_,rfl,?_⟩;refine cy (fun cc=>?_) (fun cc=>?_)
 · have xV:i<BV.length:=by
    have:=of_decide_eq_true cc;rw [Te] at this;omega
   refine hid fun ZZ kZ=>?_;obtain ⟨bk,JJ⟩:∃ bk,BV[i]?=some bk:=⟨_,Ti xV⟩;obtain ⟨k,hk,CO⟩:=P2.get' Fb JJ
   obtain ⟨v,hv⟩:∃ v,aW yX k=some v:=by
    cases Du:aW yX k with
    | none=>exact absurd (Tj hk) (cB Du)
    | some v=>exact ⟨v,rfl⟩
   obtain ⟨kv,FU,HJ⟩:∃ kv,yX[i]?=some kv/\kv.1=k:=by
    rw [Tw,T8] at hk;exact hk
   obtain ⟨pr,ta,tb,t1,t2,ev,BO,zH,HK,Oy⟩:=zt.vl i kv FU;refine kZ ?_;rw [<- HJ] at hv;rw [<- qw zt.nd FU hv] at ev;subst ev;rw [HJ] at hv Oy;have BW:atI (BV.map V.ref) ((i:Nat):Int)=some (.ref bk):=bK (by rw [Tw,JJ];rfl);refine ⟨fun xM H'=>∃ m',m'<Al.length+1 - i/\SpI P w Vl H ia la pt hl G f' Al m' xM H',fun xM H' h=>h,?_⟩;refine ⟨_,rfl,_,rfl,_,rfl,hl,_,_,.ref bk,rfl,rfl,SqL.of AU,BW,?_⟩;refine ⟨pt,bk,k,yX,.ref pr,rfl,rfl,zt.dm,CO,hv,?_⟩;refine ⟨pr,_,rfl,SqT.of BO,rfl,_,_,rfl,_,_,rfl,rfl,?_⟩;dsimp only [aH];have R2:=R.but b2 Di yd
   -- Ap links of this one
   refine fh (fun xM H'=>Ex6 fun (zc:List (az×V)) (An:List Tn) (d7 d8 d9 FV:Option V)=>An8 (xM=[some (.ref ia),some (.ref la),some (.ref pt),some (.ref hl),some (.int (i:Nat)),some (.ref ta),some (.ref tb),d7,d8,d9,FV]) (But pt H H') (KT H2 H') (H' hl=some (.lst (An.map V.ref))) (Pt P w Vl H' pt zc Al) (Ud (fun k b=>MKAt H' k b) (zc.map (·.1)) An) ((∃ more,zc.map (·.1)=yX.map (·.1)++more)) (∀ s pl,gL H' G k s pl->nk s pl∈zc.map (·.1))) (fun kk BP=>?_) ?_
   · refine ⟨_,rfl,la,_,rfl,R2.dm,_,rfl,_,rfl,hl,_,_,.ref bk,rfl,rfl,SqL.of AU,BW,ai (by show 0<=1000000;decide),fun l0 CG=>?_⟩;have s3:L2.Same H2 (upd H2 l0 (.lst [])):=ad CG _;have e3:(upd H2 l0 (.lst [])) l0=some (.lst (([]:List Tn).map V.ref)):=ab;generalize (upd H2 l0 (.lst []))=H3 at s3 e3 ⊢;have R3:=R2.but (Same.but s3 (p:=pt)) Bw yd;have L9:l0≠hl:=fun z=>by rw [z,AU] at CG;cases CG
     refine ⟨la,bk,k,lkv G,rfl,rfl,R3.dm,CO.mono (Same.kt s3),?_⟩;refine hid fun ZZ kZ=>?_
     obtain ⟨l,as,el,Oz,Q5,Q6,hle,Q7⟩:∃ (l:Tn) (as:List Tn),(aW (lkv G) k).getD (.ref l0)=.ref l/\H3 l=some (.lst (as.map V.ref))/\l≠hl/\l≠pt/\(∀ a∈as,LE H3 ins Al Lk k a)/\∀ s pl,gL H3 G k s pl->∃ a∈as,∃ (pa ka:Tn) (kid:Int),H3 a=some (.tup [.int s,.ref pa,.ref ka,.int kid])/\H3 pa=some (.tup (pl.map V.int)):=by
      have Bx:H3 pt=some (.ext JI):=s3 _ _ Bw;cases OA:aW (lkv G) k with
      | none=>exact ⟨l0,[],rfl,e3,L9,(fun z=>by rw [z,Bx] at e3;cases e3),(fun a ha=>by cases ha),fun s pl hh=>absurd hh (sC OA)⟩
      | some u =>
        obtain ⟨g,hg,rfl,rfl⟩:=qG OA;obtain ⟨h1,h2⟩:=R3.ls g hg;refine ⟨g.2.1,g.2.2,rfl,h1,(fun z=>?_),(fun z=>by rw [z,Bx] at h1;cases h1),h2,fun s pl hh=>R3.at hg hh⟩;have:=(R.ls g hg).1;rw [z,Eb] at this;cases this
     refine kZ ?_;rw [el];refine ⟨l,rfl,⟨_,SqL.of Oz⟩,?_⟩;have b3:=b2.trans (Same.but s3 (p:=pt))
     refine dI (K:=K) (a:=l) (xs:=as.map V.ref) (fun j σ H4=>Ex6 fun (zc:List (az×V)) (An:List Tn) (d7 d8 d9 FV:Option V)=>An8 (σ=[some (.ref ia),some (.ref la),some (.ref pt),some (.ref hl),some (.int (i:Nat)),some (.ref ta),some (.ref tb),d7,d8,d9,FV]) (But pt H H4) ((∀ c o,c≠pt->c≠hl->H3 c=some o->H4 c=some o)) (H4 hl=some (.lst (An.map V.ref))) (Pt P w Vl H4 pt zc Al) (Ud (fun k b=>MKAt H4 k b) (zc.map (·.1)) An) ((∃ more,zc.map (·.1)=yX.map (·.1)++more)) (∀ (j':Nat) (a:Tn),j'<j->as[j']?=some a->∀ (s:Int) (pl:List Int) (pa ka:Tn) (kid:Int),H3 a=some (.tup [.int s,.ref pa,.ref ka,.int kid])->H3 pa=some (.tup (pl.map V.int))->nk s pl∈zc.map (·.1)))
      ⟨yX,BV,_,_,_,_,rfl,b3,fun _ _ _ _ e=>e,s3 _ _ AU,zt.same s3,P2.mp (fun _ _ e=>e.mono (Same.kt s3)) Fb,⟨[],by rw [Up]⟩,fun _ _ h=>absurd h (Xc _)⟩ (fun j σ H4 _ ⟨_,_,_,_,_,_,_,_,f4,_,_,_,_,_⟩=>SqL.of (f4 _ _ Q6 Q5 Oz)) ?_ ?_
     · rintro j x σ H4 hx ⟨zc,An,d7,d8,d9,FV,rfl,b4,f4,By,zd,AV,yp,xT⟩;have Bx:H3 pt=some (.ext JI):=s3 _ _ Bw;have AW:KT H3 H4:=fun c ys ec=>f4 c _ (fun z=>by rw [z,Bx] at ec;cases ec) (fun z=>by rw [z,s3 _ _ AU] at ec;cases ec) ec;have Dw:=(Same.kt s3).trans AW;have Ma:=Lp.trans Dw;refine hid fun ZZ kZ=>?_;obtain ⟨SG,Mb⟩:=cp zd.dm;have Q8:=zd.len;have Mc:(zc.map (·.1)).length=An.length:=TB AV;rw [Te] at Mc;obtain ⟨a,rfl,ha⟩:=aZ hx;obtain ⟨s',kid,pl,pa,ka,kd,g1,g2,g3,g4,g5,g6⟩:=hle a (Tj ha);refine kZ ?_;have ea:=AW _ _ g1;have AJ:=AW _ _ g2;have OB:KAt H4 kd ka:=AW _ _ g3
       have HL:∀ (s:Int) (zg:List Int) (AL Ci:Tn) (zR:Int),H3 a=some (.tup [.int s,.ref AL,.ref Ci,.int zR])->H3 AL=some (.tup (zg.map V.int))->nk s zg=nk s' pl:=fun s zg AL Ci zR h1 h2=>by
        rw [g1] at h1;cases h1;rw [g2] at h2;have:pl=zg:=oH (by injection h2 with h3;injection h3);rw [this]
       refine ⟨a,_,rfl,SqT.of ea,rfl,_,_,rfl,_,_,rfl,_,_,rfl,_,_,rfl,rfl,?_⟩;dsimp only [aH];refine df (fun bb H'=>An2 (L2.Same H4 H') (bb=!(aW zc (nk s' pl)).isSome)) (fun k2 zi=>?_) (fun H5 yf=>?_) (fun H5 yf=>?_)
       · refine ⟨_,rfl,_,rfl,ai (by show 2<=1000000;decide),fun kp Bt=>?_⟩;have s5:=ad Bt (.tup [.int s',.ref pa]);exact ⟨_,rfl,pt,kp,nk s' pl,zc,rfl,rfl,zd.dm.mono s5,lF ab (s5 _ _ AJ),_,rfl,zi _ _ ⟨s5,rfl⟩⟩
       · obtain ⟨s5,yf⟩:=yf
         have hn:aW zc (nk s' pl)=none:=by
          cases Du:aW zc (nk s' pl) with
          | none=>rfl
          | some u=>rw [Du] at yf;cases yf
         have HM:=Ma.trans (Same.kt s5);have C9:=Dw.trans (Same.kt s5)
         -- Ap first tree
         refine ⟨_,rfl,_,rfl,fun dd JC=>?_⟩;refine ⟨_,rfl,_,rfl,ab,[(Um kid,.ref ta)],rfl,(by show 1<=15;decide),?_⟩;rw [l4];have s6:L2.Same H5 (upd (upd H5 dd (.dK [])) dd (.dK [(Um kid,.ref ta)])):=aw (ad JC _) JC;have e6:(upd (upd H5 dd (.dK [])) dd (.dK [(Um kid,.ref ta)])) dd=some (.dK [(Um kid,.ref ta)]):=ab;generalize (upd (upd H5 dd (.dK [])) dd (.dK [(Um kid,.ref ta)]))=H6 at s6 e6 ⊢;have Ds:=HM.trans (Same.kt s6);refine ⟨ia,ka,dd,xU,ins,kd,_,bN ins kd.2.toNat kid t1,rfl,Ds _ _ ei,Aj.mono Ds,g,(s5.trans s6) _ _ OB,g4,e6,im ..,om (zH.mono (C9.trans (Same.kt s6))),fun r1 H7 s7 Lf=>?_⟩
         -- Ap second
         refine ⟨_,rfl,_,rfl,fun d2 hd2=>?_⟩;refine ⟨_,rfl,_,rfl,ab,[(Um kid,.ref tb)],rfl,(by show 1<=15;decide),?_⟩;rw [l4];have s8:L2.Same H7 (upd (upd H7 d2 (.dK [])) d2 (.dK [(Um kid,.ref tb)])):=aw (ad hd2 _) hd2;have e8:(upd (upd H7 d2 (.dK [])) d2 (.dK [(Um kid,.ref tb)])) d2=some (.dK [(Um kid,.ref tb)]):=ab;generalize (upd (upd H7 d2 (.dK [])) d2 (.dK [(Um kid,.ref tb)]))=H8 at s8 e8 ⊢;have De:=s6.trans (s7.trans s8);have Bv:=HM.trans (Same.kt De);refine ⟨ia,ka,d2,xU,ins,kd,_,bN ins kd.2.toNat kid t2,rfl,Bv _ _ ei,Aj.mono Bv,g,(s5.trans De) _ _ OB,g4,e8,im ..,om (HK.mono (C9.trans (Same.kt De))),fun r2 H9 s9 ET=>?_⟩;refine ⟨ai (by show 2<=1000000;decide),fun p2 AE=>?_⟩;have yg:L2.Same H9 (upd H9 p2 (.tup [.ref r1,.ref r2])):=ad AE _;have CL:(upd H9 p2 (.tup [.ref r1,.ref r2])) p2=some (.tup [.ref r1,.ref r2]):=ab;generalize (upd H9 p2 (.tup [.ref r1,.ref r2]))=yC at yg CL ⊢;refine ⟨_,rfl,_,rfl,_,rfl,ai (by show 2<=1000000;decide),fun kp Bt=>?_⟩;have yU:L2.Same yC (upd yC kp (.tup [.int s',.ref pa])):=ad Bt _;have CP:(upd yC kp (.tup [.int s',.ref pa])) kp=some (.tup [.int s',.ref pa]):=ab;generalize (upd yC kp (.tup [.int s',.ref pa]))=yR at yU CP ⊢;have Bz:=s5.trans (De.trans (s9.trans (yg.trans yU)));have Ef:=zd.same Bz;refine ⟨pt,kp,nk s' pl,zc,rfl,rfl,Ef.dm,lF CP (Bz _ _ AJ),ff (by omega),fun BS Md Me=>?_⟩;have JK:But pt yR BS:=Md
         have Mf:(zc.map (·.1))[i]?=some k:=by
          obtain ⟨more,hm⟩:=id yp;rw [hm,Wh (by rw [Te];omega)];exact hk
         have Mg:Vl ((zc.map (·.1)).take i) k t1 t2:=by
          obtain ⟨more,hm⟩:=id yp;rw [hm,XF (by rw [Te];omega)];exact Oy
         obtain ⟨Q9,Fc⟩:=Ef.put hn JK Me ⟨p2,r1,r2,_,_,rfl,yU _ _ CL,Lf.mono (Same.kt (s8.trans (s9.trans (yg.trans yU)))),ET.mono (Same.kt (yg.trans yU)),hS _ i k t1 t2 s' pl kd kid Mf Mg g4 g6 (cB hn)⟩ g5;have Cw:BS hl=some (.lst (An.map V.ref)):=JK _ _ Ox (Bz _ _ By);have Eg:KT H4 BS:=(Same.kt Bz).trans (JK.kt (Bz _ _ Mb));dsimp only [aH];refine ⟨_,rfl,.inl ⟨rfl,_,SqL.of Cw⟩,_,rfl,_,rfl,ai (by show 2<=1000000;decide),fun Eh Mh=>?_⟩;have BA:L2.Same BS (upd BS Eh (.tup [.int s',.ref pa])):=ad Mh _;have JL:(upd BS Eh (.tup [.int s',.ref pa])) Eh=some (.tup [.int s',.ref pa]):=ab;generalize (upd BS Eh (.tup [.int s',.ref pa]))=AR at BA JL ⊢;refine ⟨hl,_,_,rfl,rfl,BA _ _ Cw,ff (by rw [Te];omega),?_⟩;have Dx:KT AR (upd AR hl (.lst (An.map V.ref++[.ref Eh]))):=aT (BA _ _ Cw);have HN:=(Eg.trans (Same.kt BA)).trans Dx;have FT:=Q9.same BA;have Ra:Pt P w Vl (upd AR hl (.lst (An.map V.ref++[.ref Eh]))) pt _ Al:=⟨qM FT.dm Dx fun o eo=>by rw [ak Ox.symm];exact eo,FT.nd,FT.al,fun j p hp=>(FT.vl j p hp).mono Dx⟩;obtain ⟨more,yp⟩:=yp
         have go:∀ c o,c≠pt->c≠hl->H4 c=some o->(upd AR hl (.lst (An.map V.ref++[.ref Eh]))) c=some o:=fun c o h1 h2 e=>by
          rw [ak h2];exact BA _ _ (JK _ _ h1 (Bz _ _ e))
         refine ⟨_,An++[Eh],_,_,_,_,rfl,fun c o hc e=>go c o hc (fun z=>by rw [z,Eb] at e;cases e) (b4 _ _ hc e),fun c o h1 h2 e=>go c o h1 h2 (f4 c o h1 h2 e),by rw [ab,TH];rfl,Ra,?_,⟨more++[nk s' pl],by rw [Fc,yp,Uy]⟩,fun j' a' yb Bj s zg AL Ci zR h1 h2=>?_⟩
         · rw [Fc];exact P2.append (P2.mp (fun _ _ e=>e.mono HN) AV) (.cons ((lF JL (BA _ _ (Eg _ _ AJ))).mono Dx) .nil)
         · rw [Fc];by_cases Cv:j'=j
           · rw [Cv,ha] at Bj;cases Bj;rw [HL s zg AL Ci zR h1 h2];exact Uj _ (T2 ..)
           · exact Ux _ (xT j' a' (by omega) Bj s zg AL Ci zR h1 h2)
       · obtain ⟨s5,yf⟩:=yf
         obtain ⟨u,hu⟩:∃ u,aW zc (nk s' pl)=some u:=by
          cases Du:aW zc (nk s' pl) with
          | none=>rw [Du] at yf;cases yf
          | some u=>exact ⟨u,rfl⟩
         refine ⟨zc,An,_,_,_,_,rfl,b4.trans (Same.but s5),fun c o h1 h2 e=>s5 _ _ (f4 c o h1 h2 e),s5 _ _ By,zd.same s5,P2.mp (fun _ _ e=>e.mono (Same.kt s5)) AV,yp,fun j' a' yb Bj s zg AL Ci zR h1 h2=>?_⟩;by_cases Cv:j'=j
         · rw [Cv,ha] at Bj;cases Bj;rw [HL s zg AL Ci zR h1 h2];exact Uw.mpr ⟨_,eR hu,rfl⟩
         · exact xT j' a' (by omega) Bj s zg AL Ci zR h1 h2
     · rintro σ H4 ⟨zc,An,d7,d8,d9,FV,rfl,b4,f4,By,zd,AV,yp,xT⟩;have Bx:H3 pt=some (.ext JI):=s3 _ _ Bw;have AW:KT H3 H4:=fun c ys ec=>f4 c _ (fun z=>by rw [z,Bx] at ec;cases ec) (fun z=>by rw [z,s3 _ _ AU] at ec;cases ec) ec;refine BP _ _ ⟨zc,An,_,_,_,_,rfl,b4,(Same.kt s3).trans AW,By,zd,AV,yp,fun s pl hh=>?_⟩;refine hid fun ZZ kZ=>?_;obtain ⟨a,ha,pa,ka,kid,h1,h2⟩:=Q7 s pl (R3.back AW hh);obtain ⟨j',yb⟩:=TU.mp ha;refine kZ ?_;exact xT j' a (by have:=(Tq.mp yb).1;rw [Te];exact this) yb s pl pa ka kid h1 h2
   · rintro xM H4 ⟨zc,An,d7,d8,d9,FV,rfl,b4,Dw,By,zd,AV,⟨more,yp⟩,Mi⟩;have Q8:=zd.len;have hlen:=congrArg Wo yp;rw [Te,TZ,Te] at hlen;refine ⟨_,rfl,_,_,rfl,rfl,Al.length+1 - (i+1),by omega,i+1,zc,An,_,_,_,_,_,_,rfl,b4,By,zd,AV,fun k' za=>by rw [yp];exact Ux _ (Ee k' za),by omega,fun j k' hj za s pl hh=>?_,rfl⟩;have Ai:j<(yX.map (·.1)).length:=by rw [Te];omega
     have zi:(yX.map (·.1))[j]?=some k':=by rw [yp,Wh Ai] at za;exact za
     by_cases Mj:j=i
     · rw [Mj,hk] at zi;cases zi;exact Mi s pl hh
     · rw [yp];exact Ux _ (AA j k' (by omega) zi s pl (R2.back Dw hh))
 · have SH:¬ i<BV.length:=fun z=>cc (decide_eq_true (by rw [Te];omega));refine q yX H2 b2 zt Ee fun k hk s pl hh=>?_;obtain ⟨j,hj⟩:=TU.mp hk;exact AA j k (by have:=(Tq.mp hj).1;rw [Te] at this;omega) hj s pl hh
inductive gQ (P:TF) (w:T3) (K:Tg) (vs:List V) (H:Hp) (Q:VK) (_E:XK):Prop
 | mk (fa pt:Tn) (s:Nat) (t:Th) (f':List (az×V)) (Al:List az) (Vl:VlT) (x9:vs=[.ref fa,.int (s:Nat),.ref pt]) (ya:AtK K H t fa) (ye:t.size<=200) (yj:t.tall<=100) (yz:t.noCall) (y9:Pt P w Vl H pt f' Al) (Bm:∀ (r:Tn) (H':Hp),L2.Same H H'->AtK K H' (t.cut (Dk f' (s:Nat)) []) r->Q (.ref r) H'):gQ P w K vs H Q _E
def i3 (P:TF) (w:T3) (K:Tg):Sp:=gQ P w K
def ww (K:Tg) (D:List Int->Bool) (fa pt tl ah:Tn) (s:Nat) (t:Th) (H:Hp) (m:Nat) (σ:St) (H3:Hp):Prop:=∃ (ts as:List Tn) (Ts:List Th) (As:List (List Int×Th)) (c5 c6 c7:Option V),σ=[some (.ref fa),some (.int (s:Nat)),some (.ref pt),some (.ref tl),some (.ref ah),c5,c6,c7]/\L2.Same H H3/\H3 tl=some (.lst (ts.map V.ref))/\H3 ah=some (.lst (as.map V.ref))/\Ud (TopAtK K H3) (Ts.map (dZ Th.call)) ts/\PsAtK K H3 As as/\Ts++iD D As.reverse=(t.cut D []).walk/\(∀ p∈As,p.1.length+p.2.tall<=100/\p.2.noCall)/\Ts.length+szP As<=200/\m=szP As
set_option maxHeartbeats 4000000 in
theorem mV:bn P w K mg base CX0 3 T.g_cut_front.f T.g_cut_front.d ["front","state","partings"] (i3 P w K):=by
 refine T.g_cut_front.F.ok cu (fun vs H Q E h=>?_) (fun xW A outer s0 H vs Q E hr h=>?_)
 · obtain ⟨fa,pt,s,t,f',Al,Vl,rfl,_⟩:=h;rfl
 obtain ⟨fa,pt,s,t,f',Al,Vl,rfl,hA,hsz,yy,Fd,BR,k⟩:=h
 refine ⟨_,(ae (ay (i:=3) cu.nd rfl (TQ rfl) (bV ac))
  (ae (ay (i:=4) cu.nd rfl (TQ rfl) (bV (aa (aB (aa (aB ac) (aa (pv 0) ac))) ac)))
  (ae (dL T9 (aS (pv 4) (fun _=>rfl)) (ae (eJ (i9 TL V9 V8 jb (pv 4)) (bo rfl (au (aj (i:=5) cu.nd rfl (X8 rfl)) (au (aj (i:=6) cu.nd rfl (TQ rfl)) aY))))
  (ag (bm (PW.pt (cR (aS (pcF T.g_is_hole (iu T) hr (aa (pv 6) ac)) (fun _=>rfl)) (cL (pA (uQ (fV hr) (aB (aa (pv 1) (aa (pv 5) ac))) (pv 2)))))) (ag (aU (bW TL Ub Ua aR (pv 3) (aa (aB (aa (gz (v:=.ref T.a_HOLE) rfl T.c_HOLE rfl) (aa af ac))) ac)))) (ae (aU (bW TL Ub Ua aR (pv 3) (aa (aB (aa (bA qW (pv 6) cg (bJ af)) (aa (aE gb (ax ao rfl T.n_len T7 (aa (pv 6) ac)) af) ac))) ac)))
  (ae (gF (i:=7) (N:=[Tu "number",Tu "kid",Tu "place"]) (js:=[none,none,some 5]) (g:=(lS K 2 (cP (aH 0) (cP (aH 1) lT)))) (tt:=bG) (te:=(km (bq (tOp (lW K) (bw 2) (km (bq (bw 0) dW))) (bq (bw 1) dW)))) cu.nd rfl (TQ rfl) rfl (cJ rfl (by decide +kernel) (by decide +kernel) rfl rfl rfl) (nJ rfl T.n_enumerate (bA fz (pv 6) (bJ af) cg)) (fun _ _ _ _ _ _=>(bo rfl (au (aj (i:=0) uv rfl (TQ rfl)) (au (aj (i:=1) uv rfl (TQ rfl)) aY)))) (f6 (bP aX (aV rfl) (bP aX (aV rfl) fY))) (fun _ _ _ _ _ _=>bR) (fun _ _ _ _ _ _=>(aB (aa (aE d4 (pv 2) (aB (aa (pv 0) ac))) (aa (pv 1) ac)))))
  (ag (aU (bW TL Wr Wq gC (pv 4) (aa (lA rfl rfl T.n_list rfl T.n_reversed (pv 7)) ac))))))))))
  (ag (aC (pcF T.g_built (lh T) hr (aa (pv 3) ac))))))),?_⟩
 try dsimp only [ym,xR]
 generalize Rb:Dk f' (s:Nat)=D at k;refine ⟨ai (by show 0<=1000000;decide),fun tl Fe=>?_⟩;have s1:L2.Same H (upd H tl (.lst [])):=ad Fe _;have EW:(upd H tl (.lst [])) tl=some (.lst []):=ab;generalize upd H tl (.lst [])=H1 at s1 EW ⊢;refine ⟨ai (by show 0<=1000000;decide),fun p0 D0=>?_⟩;refine ⟨_,rfl,ai (by show 2<=1000000;decide),fun p1 Bp=>?_⟩;refine ⟨ai (by show 1<=1000000;decide),fun ah zS=>?_⟩;have s2:L2.Same H1 (upd (upd H1 p0 (.tup [])) p1 (.tup [.ref p0,.ref fa])):=(ad D0 _).trans (ad Bp _);have e1:(upd (upd H1 p0 (.tup [])) p1 (.tup [.ref p0,.ref fa])) p1=some (.tup [.ref p0,.ref fa]):=ab;have e0:(upd (upd H1 p0 (.tup [])) p1 (.tup [.ref p0,.ref fa])) p0=some (.tup []):=ad Bp _ _ _ ab;generalize (upd (upd H1 p0 (.tup [])) p1 (.tup [.ref p0,.ref fa]))=H2 at s2 e1 e0 zS ⊢;have AM:H1 ah=none:=s2.free zS;have zG:H ah=none:=s1.free AM;have yd:ah≠tl:=fun z=>by rw [z,EW] at AM;cases AM
 have Rc:szP [(([]:List Int),t)]=t.size:=by rw [szP,szP];rfl
 refine ⟨ww K D fa pt tl ah s t H,⟨_,[],[p1],[],[([],t)],none,none,none,rfl,aw (s1.trans s2) zG,by rw [ak yd.symm];exact s2 _ _ EW,by rw [ab];rfl,.nil,.cons ⟨p0,fa,ad zS _ _ _ e1,ad zS _ _ _ e0,hA.mono (Same.kt (aw (s1.trans s2) zG))⟩ .nil,by show []++((t.cut D []).walk++[])=_;rw [Vv,Up],fun p hp=>by rw [TY.mp hp];exact ⟨by simpa using yy,Fd⟩,by rw [Rc];simpa using hsz,rfl⟩,?_⟩;rintro m σ H3 ⟨ts,as,Ts,As,c5,c6,c7,rfl,sm,em,ea,a1,a2,hw,hb,hlen,rfl⟩;have SI:Ts.length=ts.length:=by have:=TB a1;rwa [Te] at this
 refine ⟨_,rfl,_,.inl ⟨_,SqL.of ea,rfl⟩,?_⟩;refine cy (fun c=>?_) (fun c=>?_)
 · refine ⟨fun xM H'=>∃ m',m'<szP As/\ww K D fa pt tl ah s t H m' xM H',fun xM H' h=>h,?_⟩;have yS:as≠[]:=by intro z;subst z;simp at c
   refine hid fun ZZ kZ=>?_;obtain ⟨xY,b,rfl⟩:∃ xY b,as=xY++[b]:=⟨as.dropLast,as.getLast yS,(Vw yS).symm⟩;obtain ⟨Us,⟨pre,x⟩,rfl,a3,pa,ta,eb,AJ,zH⟩:=P2.snoc_inv a2;have C5:szP (Us++[(pre,x)])=szP Us+x.size:=by rw [cA,szP,szP];rfl
   have GY:=x.size_eq;rw [C5] at hlen;obtain ⟨Jr,HP⟩:=hb (pre,x) (by simp);refine kZ ?_;simp only at Jr HP AJ zH;have N':Us.length=xY.length:=TB a3;have q4:=nH Us;refine ⟨_,rfl,.inl ⟨rfl,_,SqL.of ea⟩,ah,_,.ref b,rfl,rfl,ea,by simp,?_⟩;have d1:((xY++[b]).map V.ref).dropLast=xY.map V.ref:=by simp
   rw [d1];have k1:KT H3 (upd H3 ah (.lst (xY.map V.ref))):=aT ea;have BN:L2.Same H (upd H3 ah (.lst (xY.map V.ref))):=aw sm zG;have Bb:(upd H3 ah (.lst (xY.map V.ref))) tl=some (.lst (ts.map V.ref)):=by rw [ak yd.symm];exact em
   have EX:(upd H3 ah (.lst (xY.map V.ref))) ah=some (.lst (xY.map V.ref)):=ab;generalize (upd H3 ah (.lst (xY.map V.ref)))=H4 at k1 BN Bb EX ⊢;refine ⟨b,_,rfl,SqT.of (k1 _ _ eb),rfl,_,_,rfl,_,_,rfl,rfl,?_⟩
   try dsimp only [aH]
   have zd:=BR.same BN;refine df (fun bb H'=>An2 (L2.Same H4 H') (bb=(x.isHole || D pre))) (fun k2 zi=>?_) (fun H5 yf=>?_) (fun H5 yf=>?_)
   · refine ⟨_,rfl,ta,x,rfl,zH.mono k1,by omega,_,rfl,?_⟩;refine cy (fun ch=>zi _ _ ⟨.refl _,by rw [ch];rfl⟩) (fun ch=>?_);have Rf:x.isHole=false:=U9.mpr ch;refine ⟨_,rfl,_,rfl,ai (by show 2<=1000000;decide),fun kp Bt=>?_⟩;have s5:=ad Bt (.tup [.int ((s:Nat):Int),.ref pa]);refine ⟨_,rfl,pt,kp,nk (s:Nat) pre,f',rfl,rfl,zd.dm.mono s5,lF ab (s5 _ _ (k1 _ _ AJ)),_,rfl,zi _ _ ⟨s5,?_⟩⟩;rw [Rf,Xb,<- Rb];rfl
   · obtain ⟨s5,yf⟩:=yf
     have Ff:x.cut D pre=hole:=by
      cases x with
      | call u v=>rw [Th.cut]
      | knot n ks =>
        rw [Th.cut,if_pos];rcases Bool.or_eq_true_iff.mp yf.symm with h | h
        · exact .inl h
        · exact .inr h
     refine ⟨_,rfl,.inl ⟨rfl,_,SqL.of (s5 _ _ Bb)⟩,ai (by show 2<=1000000;decide),fun p hp=>?_⟩;have s6:L2.Same H5 (upd H5 p (.tup [.ref T.a_HOLE,.int 0])):=ad hp _;have e6:(upd H5 p (.tup [.ref T.a_HOLE,.int 0])) p=some (.tup [.ref T.a_HOLE,.int 0]):=ab;generalize (upd H5 p (.tup [.ref T.a_HOLE,.int 0]))=H6 at s6 e6 ⊢;have OC:=(s5.trans s6) _ _ Bb;refine ⟨tl,_,_,rfl,rfl,OC,aK (by rw [Te];omega),?_⟩;have k7:KT H6 (upd H6 tl (.lst (ts.map V.ref++[.ref p]))):=aT OC;have OD:=(k1.trans (Same.kt (s5.trans s6))).trans k7;refine ⟨szP Us,by omega,ts++[p],xY,Ts++[hole],Us,_,_,_,rfl,aw (BN.trans (s5.trans s6)) Fe,by rw [ab,TH];rfl,by rw [ak yd];exact (s5.trans s6) _ _ EX,?_,PsAtK.mono OD a3,?_,fun p' yQ=>hb p' (Ux _ yQ),?_,rfl⟩
     · rw [TH];exact P2.append (dQ OD a1) (.cons ⟨T.a_HOLE,k7 _ _ e6,v7,(TK.const T.q_HOLE)⟩ .nil)
     · rw [<- hw,U5,Uy];show Ts++([hole]++iD D Us.reverse)=Ts++iD D ((pre,x)::Us.reverse);unfold iD;rw [Y7,Ff];rfl
     · rw [TZ];show Ts.length+1+szP Us<=200;omega
   · obtain ⟨s5,yf⟩:=yf;obtain ⟨hh,HQ⟩:=Bool.or_eq_false_iff.mp yf.symm;cases x with
     | call u v=>rw [Th.noCall] at HP;exact HP.elim
     | knot n ks =>
     have Ff:(Th.knot n ks).cut D pre=.knot n (cz D pre 0 ks):=by
      rw [Th.cut,if_neg];rintro (h | h)
      · rw [hh] at h;cases h
      · rw [HQ] at h;cases h
     have FO:=k1.trans (Same.kt s5);have HR:=zH.mono FO;rw [AtK] at HR;refine hid fun ZZ kZ=>?_;obtain ⟨FW,yk,Mk,yL⟩:=HR;refine kZ ?_;have zo:yk.length=ks.length:=yL.length;rw [Th.size] at hlen;have Jt:=bS ks;rw [Th.noCall] at HP;rw [Th.tall] at Jr;refine ⟨_,rfl,.inl ⟨rfl,_,SqL.of (s5 _ _ Bb)⟩,_,rfl,_,rfl,ta,_,rfl,Mk,fun p2 H6 s6 e6=>?_⟩
     have Rg:TK K H6 p2 [.str n]:=by
      have e7:TK K H6 p2 (du (V.str n::yk.map V.ref) none (some 1)):=e6;rw [qp] at e7;exact e7
     refine ⟨_,rfl,ta,_,rfl,.inr ((Mk.mono (Same.kt s6)).sq),_,_,rfl,rfl,ai (by show 2<=1000000;decide),fun tp EY=>?_⟩
     have HS:((V.str n::yk.map V.ref).length:Int) - 1=((ks.length:Nat):Int):=by
      rw [Tx,Te];omega
     dsimp only [dW,qK];rw [HS];have s7:L2.Same H6 (upd H6 tp (.tup [.ref p2,.int (ks.length:Nat)])):=ad EY _;have e7:(upd H6 tp (.tup [.ref p2,.int (ks.length:Nat)])) tp=some (.tup [.ref p2,.int (ks.length:Nat)]):=ab;generalize (upd H6 tp (.tup [.ref p2,.int (ks.length:Nat)]))=H7 at s7 e7 ⊢;have Ml:=s5.trans (s6.trans s7);have GZ:=Ml _ _ Bb;refine ⟨tl,_,_,rfl,rfl,GZ,aK (by rw [Te];omega),?_⟩;have k8:KT H7 (upd H7 tl (.lst (ts.map V.ref++[.ref tp]))):=aT GZ;have Mm:L2.Same H (upd H7 tl (.lst (ts.map V.ref++[.ref tp]))):=aw (BN.trans Ml) Fe;have OE:(upd H7 tl (.lst (ts.map V.ref++[.ref tp]))) tl=some (.lst ((ts++[tp]).map V.ref)):=by rw [ab,TH];rfl
     have G0:(upd H7 tl (.lst (ts.map V.ref++[.ref tp]))) ah=some (.lst (xY.map V.ref)):=by rw [ak yd];exact Ml _ _ EX
     generalize (upd H7 tl (.lst (ts.map V.ref++[.ref tp])))=H8 at k8 Mm OE G0 ⊢;have Mn:=(Same.kt (s6.trans s7)).trans k8;have D3:=FO.trans Mn
     have Mo:Ud (TopAtK K H8) ((Ts++[Th.knot n (cz D pre 0 ks)]).map (dZ Th.call)) (ts++[tp]):=by
      rw [TH];refine P2.append (dQ D3 a1) (.cons ⟨p2,?_,FW,Rg.mono ((Same.kt s7).trans k8)⟩ .nil);show H8 tp=some (.tup [.ref p2,.int ((cz D pre 0 ks).length:Nat)]);rw [cH];exact k8 _ _ e7
     try dsimp only [aH]
     -- kids
     refine ⟨_,rfl,1,rfl,ta,_,rfl,(Mk.mono Mn).sq,?_,fun p3 HU=>?_⟩
     · rintro ⟨z,_⟩;rw [Tx,show (1:Int)=((1:Nat):Int) by rfl,HT.sIx_nat] at z;omega
     dsimp only;rw [eQ];have s9:L2.Same H8 (upd H8 p3 (.tup (yk.map V.ref))):=ad HU _;have e9:(upd H8 p3 (.tup (yk.map V.ref))) p3=some (.tup (yk.map V.ref)):=ab;generalize (upd H8 p3 (.tup (yk.map V.ref)))=H9 at s9 e9 ⊢;have Mp:=s9 _ _ (D3 _ _ AJ);have Mq:=yL.mono (Mn.trans (Same.kt s9));refine ⟨p3,rfl,⟨_,SqT.of e9⟩,?_⟩;intro Dl FY;refine ⟨yk.length,fun j yC=>An3 (j<=yk.length) (L2.Same H9 yC) (Ex1 fun (bs:List Tn)=>An2 (yC Dl=some (.lst (bs.map V.ref))) (PsAtK K yC ((cN pre 0 ks).take j) bs)),⟨T4 _,ad FY _,[],ab,.nil⟩,?_⟩;rintro j yC ⟨hj,yg,bs,eD,yn⟩;by_cases AN:j=yk.length
     · left;refine ⟨⟨_,SqT.of (yg _ _ e9),by rw [Te];exact AN.symm⟩,?_⟩;have xT:(cN pre 0 ks).take j=cN pre 0 ks:=by rw [AN,zo,<- fX pre 0 ks,V1]
       rw [xT] at yn;have Fg:=yg _ _ (s9 _ _ G0);have HV:=yg _ _ (s9 _ _ OE)
       have zN:bs.length=ks.length:=by
        have:=TB yn;rw [fX] at this;exact this.symm
       try dsimp only [aH]
       refine ⟨_,rfl,.inl ⟨rfl,_,SqL.of Fg⟩,_,rfl,true,Dl,_,rfl,SqB.l (SqL.of eD),fun l hl=>?_⟩;have zX:ah≠l:=aL Fg hl;have K3:tl≠l:=aL HV hl;have HW:(upd yC l (.lst (bs.map V.ref).reverse)) ah=some (.lst (xY.map V.ref)):=by rw [ak zX];exact Fg
       refine ⟨ah,l,_,_,rfl,rfl,HW,ab,ai ?_,?_⟩
       · rw [Te,UT,Te];omega
       have HX:KT yC (upd (upd yC l (.lst (bs.map V.ref).reverse)) ah (.lst (xY.map V.ref++(bs.map V.ref).reverse))):=(dG hl).trans (aT HW);have HY:=(Same.kt (s9.trans yg)).trans HX;have Mr:=D3.trans HY;refine ⟨szP (Us++(cN pre 0 ks).reverse),?_,ts++[tp],xY++bs.reverse,Ts++[.knot n (cz D pre 0 ks)],Us++(cN pre 0 ks).reverse,_,_,_,rfl,?_,?_,?_,dQ HY Mo,P2.append (PsAtK.mono Mr a3) (P2.reverse (PsAtK.mono HX yn)),?_,?_,?_,rfl⟩
       · rw [cA,jV,iQ,C5,Th.size];omega
       · exact aw (aw ((Mm.trans s9).trans yg) ((Mm.trans s9).trans yg |>.free hl)) zG
       · rw [ak yd.symm,ak K3];exact HV
       · rw [ab,TH,Yk]
       · rw [<- hw,Uy,U5,U5,Vy,o9,mr];show Ts++([Th.knot n (cz D pre 0 ks)]++(walks (cz D pre 0 ks)++iD D Us.reverse))=Ts++iD D ((pre,Th.knot n ks)::Us.reverse);have:iD D ((pre,Th.knot n ks)::Us.reverse)=((Th.knot n ks).cut D pre).walk++iD D Us.reverse:=by unfold iD;rw [Y7]
         rw [this,Ff,Th.walk];rfl
       · intro p hp;rcases UA.mp hp with hp | hp
         · exact hb p (Ux _ hp)
         · obtain ⟨g1,g2⟩:=j6 pre 0 ks p (List.mem_reverse.mp hp);have:=bv g2;exact ⟨by omega,bp HP g2⟩
       · rw [TZ,cA,jV,iQ];show Ts.length+1+(szP Us+aq ks)<=200;omega
     · right;have yb:j<yk.length:=by omega
       refine ⟨yb,⟨_,.ref yk[j],SqT.of (yg _ _ e9),by rw [Tw,Ti yb];rfl⟩,?_⟩;rintro y yR ⟨p,v,hp,rfl,rfl,hv⟩;have yN:=hv _ (SqT.of (yg _ _ e9));obtain ⟨kd,rfl,Bs⟩:=aZ yN;obtain ⟨tk,zM,K4⟩:=Mq.get Bs;have yU:L2.Same yC (upd yC p (.tup [.int (j:Nat),.ref kd])):=ad hp _;refine ⟨p,_,rfl,SqT.of ab,rfl,_,_,rfl,_,_,rfl,rfl,?_⟩;generalize (upd yC p (.tup [.int (j:Nat),.ref kd]))=yR at yU ⊢;refine ⟨_,rfl,_,rfl,ai (by show 1<=1000000;decide),fun n1 Ju=>?_⟩;have yO:L2.Same yR (upd yR n1 (.tup [.int (j:Nat)])):=ad Ju _;have Au:(upd yR n1 (.tup [.int (j:Nat)])) n1=some (.tup [.int (j:Nat)]):=ab;generalize (upd yR n1 (.tup [.int (j:Nat)]))=BS at yO Au ⊢;refine oK (yO _ _ (yU _ _ (yg _ _ Mp))) Au (by rw [Te];show pre.length+1<=1000000;omega) fun n2 AR BA JL=>?_;refine ⟨_,rfl,ai (by show 2<=1000000;decide),fun n3 D4=>?_⟩;have BX:L2.Same yC (upd AR n3 (.tup [.ref n2,.ref kd])):=(yU.trans (yO.trans BA)).trans (ad D4 _);have HZ:=BX _ _ eD;refine ⟨_,HZ,aK ?_,yb,?_,bs++[n3],?_,?_⟩
       · have:=TB yn;rw [Ul] at this;rw [Te];omega
       · exact aw (yg.trans BX) FY
       · rw [ab,TH];rfl
       · have JM:KT (upd AR n3 (.tup [.ref n2,.ref kd])) (upd (upd AR n3 (.tup [.ref n2,.ref kd])) Dl (.lst (bs.map V.ref++[.ref n3]))):=aT HZ;rw [UZ,ku pre 0 ks j tk zM];refine P2.append (PsAtK.mono ((Same.kt BX).trans JM) yn) (.cons ⟨n2,kd,JM _ _ ab,JM _ _ (ad D4 _ _ _ ?_),?_⟩ .nil)
         · rw [JL,TH,U6];rfl
         · exact K4.mono ((Same.kt (yg.trans BX)).trans JM)
 · have hz:as=[]:=by
    cases as with
    | nil=>rfl
    | cons y ys=>simp at c
   subst hz;have CK:As=[]:=UO.mp (TB a2);subst CK;have EV:Ts=(t.cut D []).walk:=by simpa [iD] using hw
   subst EV;obtain ⟨b1,b2⟩:=qB Th.call (t.cut D []);rw [qY] at b1;refine ⟨_,rfl,tl,ts,_,t.cut D [],rfl,em,a1,by rw [Te];omega,b2,?_,b1,fun r H4 s4 Rh=>k r H4 (sm.trans s4) Rh⟩;intro u hu;obtain ⟨y,hy,e⟩:=Uw.mp hu;cases y with
   | knot n us=>cases e
   | call sn kn =>
     cases e;rw [Th.size];decide
def j9 (ins:List (T6×Int)) (rows:List (List Th)):List az:=(Ue rows.length).flatMap fun s=>((mkF ins rows (s:Nat)).pl []).map fun x=>nk (s:Nat) x.1
theorem pp {α β:Type} {f:α->List β} {B:Nat}:∀ {l:List α},(∀ x∈l,(f x).length<=B)->(l.flatMap f).length<=l.length * B
 | [],_=>T4 _
 | x::l,h=>by
   rw [Y7,TZ,Tx,Nat.succ_mul];have h1:=h x (T2 ..);have h2:=pp (l:=l) fun y hy=>h y (T1 _ hy);omega
theorem sX {ins outs:List (T6×Int)} {rows:List (List Th)} (F:FrK ins outs rows):(j9 ins rows).length<=1000000:=by
 have h:=pp (l:=Ue rows.length) (f:=fun s=>((mkF ins rows (s:Nat)).pl []).map fun x=>nk (s:Nat) x.1) (B:=200) fun s hs=>by
  rw [Te,Th.pl_len];have yA:=V7.mp hs;obtain ⟨row,p,_,_,e,z,_⟩:=F.mkd (l:=(s:Nat)) (by omega) (by omega);rw [e];exact z
 rw [Uh] at h;have:=F.le;show ((Ue rows.length).flatMap _).length<=_;omega
theorem n9 {ins:List (T6×Int)} {rows:List (List Th)} {s:Nat} (hs:s<rows.length) {x:List Int×Th} (hx:x∈(mkF ins rows (s:Nat)).pl []):nk (s:Nat) x.1∈j9 ins rows:=List.mem_flatMap.mpr ⟨s,V7.mpr hs,Uw.mpr ⟨x,hx,rfl⟩⟩
theorem uj {ins:List (T6×Int)} {rows:List (List Th)} {s:Nat} (hs:s<rows.length) {x:List Int×Th} (hx:x∈(frS ins rows s).pl []):nk (s:Nat) x.1∈j9 ins rows:=by
 obtain ⟨u,hu⟩:=pq _ _ _ x hx;exact n9 (x:=(x.1,u)) hs hu
theorem wO {P:TF} {w:T3} {Vl:VlT} {H H':Hp} {pt:Tn} {f':List (az×V)} {Al:List az} (h:Pt P w Vl H pt f' Al) (k:KT H H') (e:∀ o,H pt=some o->H' pt=some o):Pt P w Vl H' pt f' Al:=⟨qM h.dm k e,h.nd,h.al,fun j p hp=>(h.vl j p hp).mono k⟩
theorem nV {p:Tn} {H0 H H':Hp} (hb:But p H H') (s:L2.Same H0 H) (h0:H0 p=none):L2.Same H0 H':=fun c o e=>hb c o (fun z=>by rw [z,h0] at e;cases e) (s c o e)
theorem i8 {ins outs:List (T6×Int)} {rows:List (List Th)} (F:FrK ins outs rows) {s:Nat} (hs:s<rows.length):(frS ins rows s).size<=200/\(frS ins rows s).tall<=100/\(frS ins rows s).noCall:=by
 refine hid fun ZZ kZ=>?_;obtain ⟨row,p,hr,hp,e,z1,z2,hf⟩:=F.mkd (l:=(s:Nat)) (by omega) (by omega);refine kZ ?_;have h:=iM (mkF ins rows) (mkF ins rows (s:Nat)) ((rows[s]?).getD []);have hn:(mkF ins rows (s:Nat)).noCall:=by rw [e];exact f7 _ _ (To _) hf
 unfold frS;rw [e] at h hn;rw [e];exact ⟨by omega,by omega,io hn _⟩
theorem pK {outs:List (T6×Int)} (go:cf outs) {S C:Int} {t v:Th} {pl:List Int} (h:t.FitS outs S C) (hi:In t pl v):v.isHole=false:=by
 have:=hi.fit h;cases v with
 | call a b=>rw [Th.isHole]
 | knot m ks =>
   rw [Th.FitS] at this;rw [Th.isHole,decide_eq_false_iff_not];rintro ⟨rfl,_⟩;exact oJ (go.low _ this.1).1 rfl
theorem rn {ins outs:List (T6×Int)} {rows:List (List Th)} (F:FrK ins outs rows) (go:cf outs) {s:Nat} (hs:s<rows.length):∀ x∈(mkF ins rows (s:Nat)).pl [],x.2.isHole=false:=fun x hx=>by
 refine hid fun ZZ kZ=>?_;obtain ⟨_,p,_,_,e,_,_,f⟩:=F.mkd (l:=(s:Nat)) (by omega) (by omega);refine kZ ?_;rw [e] at hx;exact pK go f (In.of _ (To _) (pl:=x.1) (v:=x.2) hx)
inductive eO (P:TF) (w:T3) (K:Tg) (vs:List V) (H:Hp) (Q:VK) (_E:XK):Prop
 | mk (b:Tn) (ins outs:List (T6×Int)) (head:Th) (rows:List (List Th)) (Dm:Nat) (x9:vs=[.ref b]) (ya:Bk H ins outs head rows b) (ye:FrK ins outs rows) (yj:cf outs) (yz:(∀ s:Nat,s<rows.length->(mkF ins rows (s:Nat)).tall<=Dm)) (y9:∀ (r fl pt:Tn) (fs:List Tn) (f':List (az×V)) (H':Hp),L2.Same H H'->H' r=some (.tup [.ref fl,.ref pt])->H' fl=some (.lst (fs.map V.ref))->Ud (fun s a=>AtK K H' ((frS ins rows s).cut (Dk f' (s:Nat)) []) a) (Ue rows.length) fs->Pt P w (Vl0 ins rows Dm) H' pt f' (j9 ins rows)->FrD ins rows (f'.map (·.1))->KeyM ins rows f'->Q (.ref r) H'):eO P w K vs H Q _E
def jQ (P:TF) (w:T3) (K:Tg):Sp:=eO P w K
set_option maxHeartbeats 4000000 in
theorem fJ:bn P w K mg base CX0 7 T.g_found_fronts.f T.g_found_fronts.d ["book"] (jQ P w K):=by
 refine T.g_found_fronts.F.ok bu (fun vs H Q E h=>?_) (fun xW A outer s0 H vs Q E hr h=>?_)
 · obtain ⟨b,ins,outs,head,rows,Dm,rfl,_⟩:=h;rfl
 obtain ⟨b,ins,outs,head,rows,Dm,rfl,hB,F,go,Dy,k⟩:=h
 refine ⟨_,(ae (ay (i:=1) bu.nd rfl (X8 rfl) (pcF T.g_first_makings (jf T) hr (aa (pv 0) ac)))
  (ae (ay (i:=2) bu.nd rfl (X8 rfl) oy)
  (ae (gF (i:=3) (N:=[Tu "state",Tu "book",Tu "made",Tu "partings"]) (js:=[none,some 0,some 1,some 2]) (g:=(aH 0)) (tt:=bG) (te:=(fU (gy P w K) [] E0 (bq (bw 1) (bq (bw 0) (bq (bw 2) (bq (bw 3) dW)))))) bu.nd rfl (TQ rfl) rfl (cJ rfl (by decide +kernel) (by decide +kernel) rfl rfl rfl) (bx rfl T.n_range (aa (pcF T.g_states_of (no T) hr (aa (pv 0) ac)) ac)) (fun _ _ _ _ _ _=>(aj (i:=0) xq rfl (TQ rfl))) (aV rfl) (fun _ _ _ _ _ _=>bR) (fun _ _ _ _ _ _=>(pcF T.g_first_front (kU T) hr (aa (pv 1) (aa (pv 0) (aa (pv 2) (aa (pv 3) ac)))))))
  (ae (ay (i:=4) bu.nd rfl (TQ rfl) oy)
  (ae (bt T9 rfl (jX rfl T.n_enumerate (pv 3)) (bo rfl (au (aj (i:=5) bu.nd rfl (TQ rfl)) (au (aj (i:=6) bu.nd rfl (TQ rfl)) aY))) (ag (aU (pcF T.g_put_links (nz T) hr (aa (pv 0) (aa (pv 5) (aa (pv 6) (aa (pv 4) ac))))))))
  (ae (aU (pcF T.g_spread (rh T) hr (aa (pcF T.g_ins_of (eU T) hr (aa (pv 0) ac)) (aa (pv 4) (aa (pv 2) ac)))))
  (ag (aC (aB (aa (cv (N:=[Tu "state",Tu "front",Tu "partings"]) (js:=[none,none,some 2]) (g:=(lS K 2 (cP (aH 0) (cP (aH 1) lT)))) (tt:=bG) (te:=(fU (i3 P w K) [] E0 (bq (bw 1) (bq (bw 0) (bq (bw 2) dW))))) rfl (cJ rfl (by decide +kernel) (by decide +kernel) rfl rfl rfl) (jX rfl T.n_enumerate (pv 3)) (fun _ _ _ _ _ _=>(bo rfl (au (aj (i:=0) wq rfl (TQ rfl)) (au (aj (i:=1) wq rfl (TQ rfl)) aY)))) (f6 (bP aX (aV rfl) (bP aX (aV rfl) fY))) (fun _ _ _ _ _ _=>bR) (fun _ _ _ _ _ _=>(pcF T.g_cut_front (mV T) hr (aa (pv 1) (aa (pv 0) (aa (pv 2) ac)))))) (aa (pv 2) ac))))))))))),?_⟩
 try dsimp only [ym,xR]
 have hle:=F.le;refine ⟨_,rfl,b,ins,outs,head,rows,rfl,hB,F.gi,by omega,fun row xO=>(F.fit.row row xO).1,fun md zT H1 s1 Ri FQ CO=>?_⟩;intro pt H2 Ia s2 OF;have Mt:=hB.mono (Same.kt s1);refine hid fun ZZ kZ=>?_;obtain ⟨ia,oa,ha,ra,xU,yE,yx,Dc⟩:=id Mt;have Cq:rows.length=yx.length:=TB Dc.rw;have JB:=sX F;obtain ⟨JI,Bw⟩:=cp OF;refine kZ ?_;refine ⟨_,rfl,b,_,_,_,ra,_,rfl,s2 _ _ Dc.bk,s2 _ _ Dc.rl,_,rfl,by omega,by rw [Te];omega,fun D hD=>?_⟩;have HQ:D≠pt:=fun z=>by rw [z,Bw] at hD;cases hD
 have Rj:H1 D=none:=s2.free hD;refine ⟨rows.length,fun j H'=>An3 (j<=rows.length) (L2.Same H1 H') (Ex2 fun (as:List Tn) (f':List (az×V))=>An4 (H' D=some (.lst (as.map V.ref))) (Ud (fun s a=>AtK K H' (frS ins rows s) a) (Ue j) as) (Pt P w (Vl0 ins rows Dm) H' pt f' (j9 ins rows)) (∀ (s i:Nat) (row:List Th),s<j->rows[s]?=some row->i<=row.length->∀ x∈(frF (mkF ins rows) (mkF ins rows (s:Nat)) (row.take i)).pl [],x.2.isHole=true->nk (s:Nat) x.1∈f'.map (·.1))),⟨T4 _,s2.trans (ad hD _),[],[],ab,.nil,⟨OF.mono (ad hD _),XR,fun p hp=>(V2 hp).elim,fun j p hp=>by simp at hp⟩,fun s i row hs=>by omega⟩,?_⟩;rintro j H' ⟨hj,sj,as,f',eD,has,FZ,Ib⟩;obtain ⟨SJ,Dz⟩:=cp FZ.dm;by_cases AN:j=rows.length
 · left;subst AN;refine ⟨by show _<=_;rw [Te];omega,?_⟩;intro la H5 zX s5 Rk;have L0:LkI P w ins (j9 ins rows) (Lk0 ins rows) H' H5 la [] 0:=⟨s5,zX,Rk,XR,XR,fun g hg=>(V2 hg).elim,To _⟩;have Dh:(Ue rows.length).length=as.length:=TB has;rw [Uh] at Dh;refine ⟨_,rfl,D,rfl,⟨_,SqL.of (s5 _ _ eD)⟩,?_⟩
   refine mI (K:=K) (a:=D) (xs:=as.map V.ref) (fun i σ H6=>Ex3 fun (c5 c6:Option V) (G:LG)=>An3 (σ=[some (.ref b),some (.ref md),some (.ref pt),some (.ref D),some (.ref la),c5,c6]) (LkI P w ins (j9 ins rows) (Lk0 ins rows) H' H6 la G (i * 640000)) (∀ s<i,∀ row,rows[s]?=some row->LDone H6 G s row (frS ins rows s)))
    ⟨none,none,[],rfl,by rw [Nat.zero_mul];exact L0,fun s hs=>by omega⟩ (fun i σ H6 _ ⟨_,_,_,_,L,_⟩=>SqL.of (L.sm _ _ eD)) ?_ ?_
   · rintro i x pr σ H6 hx zh ⟨c5,c6,G,rfl,L,Be⟩;obtain ⟨fa,rfl,yt⟩:=aZ hx;have zW:=(Tq.mp yt).1;have Ei:i<rows.length:=by omega
     obtain ⟨s',yA,zx⟩:=P2.get' has yt;rw [Uv Ei] at yA;cases yA;obtain ⟨row,xO⟩:∃ row,rows[i]?=some row:=⟨_,Ti Ei⟩;have s7:L2.Same H6 (upd H6 pr (.tup [.int ((i:Nat):Int),.ref fa])):=ad zh _;have e7:(upd H6 pr (.tup [.int ((i:Nat):Int),.ref fa])) pr=some (.tup [.int ((i:Nat):Int),.ref fa]):=ab;generalize (upd H6 pr (.tup [.int ((i:Nat):Int),.ref fa]))=H7 at s7 e7 ⊢;refine ⟨pr,_,rfl,SqT.of e7,rfl,_,_,rfl,_,_,rfl,rfl,?_⟩;dsimp only [aH];have L7:=L.same s7;obtain ⟨z1,z2,z3⟩:=i8 F Ei;refine ⟨_,rfl,_,rfl,_,rfl,_,rfl,b,fa,la,i,ins,outs,head,rows,row,frS ins rows i,H',G,i * 640000,j9 ins rows,Lk0 ins rows,rfl,Mt.mono (Same.kt (sj.trans L7.sm)),F,xO,zx.mono (Same.kt L7.sm),z1,z2,L7,by omega,fun x hx=>uj Ei hx,fun i2 p kd c u x hp hk hc hu hx=>⟨i,row,i2,p,c.1,x.1,c.2.1,rfl,xO,hp,hk,In.iff.mp (cC.mp hc),rfl,rfl,u,x.2,hu,hx⟩,fun G' H8 k8 L8 Mu Ic=>?_⟩;refine ⟨_,_,G',rfl,by rw [Nat.succ_mul];exact L8,fun s hs zq Cy=>?_⟩;by_cases Rl:s=i
     · subst Rl;rw [xO] at Cy;cases Cy;exact Ic
     · exact ((Be s (by omega) zq Cy).sub (LSub.kt (Same.kt s7) _)).sub Mu
   · rintro σ H6 ⟨c5,c6,G,rfl,L,Be⟩;rw [Te,<- Dh] at Be;have Ie:=FZ.same L.sm;obtain ⟨QO,Bu⟩:=cp Ie.dm;have BY:=sj.trans L.sm
     have ze:pt≠la:=fun z=>by
      rw [z] at Dz;rw [L.la0] at Dz;cases Dz
     refine ⟨_,rfl,b,_,_,_,_,rfl,BY _ _ Dc.bk,_,rfl,_,rfl,ia,la,pt,xU,ins,G,f',j9 ins rows,Vl0 ins rows Dm,Lk0 ins rows,rfl,BY _ _ Dc.inE,Dc.inK.mono (Same.kt BY),F.gi,L.r,Ie,JB,ze,vO F Dy,fun yK H7 JN Fh y6 Mv=>?_⟩;have AX:L2.Same H1 H7:=nV JN BY Ia;have CN:=(Same.kt L.sm).trans (JN.kt Bu);have JO:H7 D=some (.lst (as.map V.ref)):=JN _ _ HQ (L.sm _ _ eD);refine ⟨_,rfl,D,rfl,⟨_,SqL.of JO⟩,fun Dl FY=>?_⟩;have Rm:H1 Dl=none:=AX.free FY;refine ⟨rows.length,fun j H8=>An3 (j<=rows.length) (L2.Same H7 H8) (Ex1 fun (bs:List Tn)=>An2 (H8 Dl=some (.lst (bs.map V.ref))) (Ud (fun s a=>AtK K H8 ((frS ins rows s).cut (Dk yK (s:Nat)) []) a) (Ue j) bs)),⟨T4 _,ad FY _,[],ab,.nil⟩,?_⟩;rintro j H8 ⟨SK,s8,bs,OG,yn⟩;by_cases Rn:j=rows.length
     · left;subst Rn;refine ⟨⟨_,SqL.of (s8 _ _ JO),by rw [Te];exact Dh.symm⟩,?_⟩;refine ⟨_,rfl,ai (by show 2<=1000000;decide),fun r Ro=>?_⟩;have s9:L2.Same H8 (upd H8 r (.tup [.ref Dl,.ref pt])):=ad Ro _
       have OH:FrD ins rows (yK.map (·.1)):=⟨fun s i row hr hi x hx hh=>y6 _ (Ib s i row (Tq.mp hr).1 hr hi x hx hh),fun s row xO p hp c hc u hu x hx hk=>by
        have hs:=(Tq.mp xO).1;exact Mv _ hk _ _ (LSub.kt (JN.kt Bu) G _ _ _ (Be s hs row xO p hp c hc u hu x hx))⟩
       refine k r Dl pt bs yK _ (s1.trans (AX.trans (s8.trans s9))) ab (s9 _ _ OG) (P2.mp (fun _ _ h=>h.mono (Same.kt s9)) yn) (Fh.same (s8.trans s9)) OH (uo F OH fun p hp=>by
        refine hid fun ZZ kZ=>?_;obtain ⟨j,hj⟩:=TU.mp hp;obtain ⟨_,_,_,t1,t2,_,_,_,_,hv⟩:=Fh.vl j p hj;refine kZ ?_;exact ⟨_,t1,t2,hv⟩)
     · right;have yb:j<rows.length:=by omega
       obtain ⟨fa,yt⟩:∃ fa,as[j]?=some fa:=⟨_,Ti (by omega)⟩;refine ⟨yb,⟨_,.ref fa,SqL.of (s8 _ _ JO),by rw [Tw,yt];rfl⟩,?_⟩;rintro y H9 ⟨p,v,hp,rfl,rfl,hv⟩;have yN:=hv _ (SqL.of (s8 _ _ JO));rw [Tw,yt] at yN;cases yN;obtain ⟨s',yA,zx⟩:=P2.get' has yt;rw [Uv yb] at yA;cases yA;have s9:L2.Same H8 (upd H8 p (.tup [.int (j:Nat),.ref fa])):=ad hp _;refine ⟨p,_,rfl,SqT.of ab,rfl,_,_,rfl,_,_,rfl,rfl,?_⟩;generalize (upd H8 p (.tup [.int (j:Nat),.ref fa]))=H9 at s9 ⊢;obtain ⟨z1,z2,z3⟩:=i8 F yb;refine ⟨_,rfl,_,rfl,_,rfl,fa,pt,j,frS ins rows j,yK,j9 ins rows,Vl0 ins rows Dm,rfl,zx.mono (CN.trans (Same.kt (s8.trans s9))),z1,z2,z3,Fh.same (s8.trans s9),fun q yC yg hq=>?_⟩;have Ig:=(s9.trans yg) _ _ OG;have zN:(Ue j).length=bs.length:=TB yn;rw [Uh] at zN;have HX:KT yC (upd yC Dl (.lst (bs.map V.ref++[.ref q]))):=aT Ig;refine ⟨_,Ig,aK (by rw [Te];omega),yb,aw (s8.trans (s9.trans yg)) FY,bs++[q],by rw [ab,TH];rfl,?_⟩;rw [Yt];exact P2.append (P2.mp (fun _ _ h=>h.mono ((Same.kt (s9.trans yg)).trans HX)) yn) (.cons (hq.mono HX) .nil)
 · right;have yb:j<rows.length:=by omega
   obtain ⟨row,xO⟩:∃ row,rows[j]?=some row:=⟨_,Ti yb⟩;refine ⟨yb,by show _<_;rw [Te];omega,?_⟩;rintro y H9 ⟨rfl,rfl⟩;rw [U6];refine ⟨_,rfl,_,rfl,_,rfl,_,rfl,b,md,pt,j,ins,outs,head,rows,row,zT,f',j9 ins rows,Vl0 ins rows Dm,rfl,Mt.mono (Same.kt sj),F,xO,sj _ _ FQ,CO.mono (Same.kt sj),FZ,JB,fun x hx=>n9 yb hx,rn F go yb,uk F go Dy xO,fun r yK H4 F0 zx Mw Bn Ih=>?_⟩;have JE:=F0.kt Dz;have G9:=F0 _ _ HQ eD;have zF:(Ue j).length=as.length:=TB has;rw [Uh] at zF;have k5:KT H4 (upd H4 D (.lst (as.map V.ref++[.ref r]))):=aT G9;rw [<- tZ xO] at zx;refine ⟨_,G9,aK (by rw [Te];omega),yb,aw (nV F0 sj Ia) Rj,as++[r],yK,by rw [ab,TH];rfl,?_,wO Mw k5 (fun o e=>by rw [ak HQ.symm];exact e),fun s i zq hs zQ hi x hx hh=>?_⟩
   · rw [Yt];exact P2.append (P2.mp (fun _ _ h=>h.mono (JE.trans k5)) has) (.cons (zx.mono k5) .nil)
   · by_cases Rq:s=j
     · subst Rq;rw [xO] at zQ;cases zQ;exact Ih i hi x hx hh
     · exact Bn _ (Ib s i zq (by omega) zQ hi x hx hh)
theorem rX (ns:List Int) (lo hi:Option Int):∃ cs:List Int,du (ns.map V.int) lo hi=cs.map V.int/\cs.length<=ns.length:=by
 unfold du;rw [<- List.map_drop,<- List.map_take];exact ⟨_,rfl,by rw [Ul,Vf];omega⟩
inductive fI (vs:List V) (H:Hp) (Q:VK) (_E:XK):Prop
 | mk (a:Tn) (cs:List Int) (many:Int) (x9:vs=[.ref a,.int many]) (ya:H a=some (.lst (cs.map V.int))) (ye:cs.length<=1000) (yj:1<=many) (yz:many<=1000) (y9:∀ (r:Tn) (ds:List Int) (H':Hp),L2.Same H H'->H' r=some (.lst (ds.map V.int))->ds.length=many.toNat->Q (.ref r) H'):fI  vs H Q _E
def kQ:Sp:=fI
set_option maxHeartbeats 1000000 in
theorem ld:bn P w K mg base CX0 1 T.g__law_folded.f T.g__law_folded.d ["cells","many"] kQ:=by
 refine T.g__law_folded.F.ok dR (fun vs H Q E h=>?_) (fun xW A outer s H vs Q E hr h=>?_)
 · obtain ⟨a,cs,many,rfl,_⟩:=h;rfl
 obtain ⟨a,cs,many,rfl,ea,A9,m1,m2,q⟩:=h
 refine ⟨_,(ae (gF (i:=2) (N:=[Tu "k",Tu "cells"]) (js:=[none,some 0]) (g:=(aH 0)) (tt:=bG) (te:=(tIf (ud (tOp (rI0 fun i j=>.bl (decide (i<j))) (bw 0) (tCB (sE K) (bq (bw 1) dW)))) (tOp (wf K) (bw 1) (bw 0)) (tC (.int 0)))) dR.nd rfl (TQ rfl) rfl (cJ rfl (by decide +kernel) (by decide +kernel) rfl rfl rfl) (bx rfl T.n_range (aa (pv 1) ac)) (fun _ _ _ _ _ _=>(aj (i:=0) xH rfl (TQ rfl))) (aV rfl) (fun _ _ _ _ _ _=>bR) (fun _ _ _ _ _ _=>(uf (aJ nX (pv 0) (ax ao rfl T.n_len T7 (aa (pv 1) ac)) (aO _)) (av aP (pv 1) (pv 0) (fun _ _=>rfl)) af)))
  (ae (bt T9 rfl (i6 rfl T.n_range (aa (pv 1) (aa (ax ao rfl T.n_len T7 (aa (pv 0) ac)) ac))) (aj (i:=3) dR.nd rfl (TQ rfl)) (ag (eJ (aE cr (aE bz (aE nK (av aP (pv 2) (aE bz (pv 3) (pv 1)) (fun _ _=>rfl)) af) (aE pH af af)) (aE bz (av aP (pv 0) (pv 3) (fun _ _=>rfl)) (aE pH af af))) (t4 (pv 2) (aE bz (pv 3) (pv 1)) set_list))))
  (ag (aC (pv 2))))),?_⟩
 try dsimp only [ym,xR]
 refine ⟨_,rfl,many,rfl,by omega,by omega,mP (xs:=(Ue many.toNat).map fun (i:Nat)=>V.int (0+(i:Int))) ((Ue many.toNat).map fun (i:Nat)=>cs.getD i 0) V.int (by rw [Te,Te]) (by rw [Te,Uh];omega) (fun i Hx sx hi=>by rw [Te,Uh] at hi;exact hi) (fun Hx sx=>by rw [Te,Uh];exact To _) (fun i Hx x Hy sx hi hy=>⟨hy.1,?_⟩) (fun i x z Hx R W' hx hz sx hR=>?_) (fun kl H2 zo s2 e2=>?_)⟩
 · rw [Te,Uh] at hi;rw [hy.2,Tw,Uv hi];rfl
 · have hi:i<many.toNat:=by
    have:=(Tq.mp hz).1;rw [Te,Uh] at this;exact this
   rw [Tw,Uv hi] at hx hz;cases hx;cases hz;refine ⟨_,rfl,_,rfl,a,_,rfl,.inl (SqL.of (sx _ _ ea)),_,_,rfl,rfl,_,rfl,?_⟩;refine cy (fun c=>?_) (fun c=>?_)
   · have c':(0+(i:Int))<(((cs.map V.int).length:Nat):Int):=of_decide_eq_true c;rw [Te] at c';refine ⟨_,rfl,_,rfl,a,_,_,.int (cs.getD i 0),rfl,rfl,SqL.of (sx _ _ ea),at_nonneg (by omega) ?_,hR _ (.refl _)⟩;rw [show (0+(i:Int)).toNat=i by omega,Tw,List.getD,Ti (by omega)];rfl
   · have c':¬ (0+(i:Int))<(((cs.map V.int).length:Nat):Int):=fun z=>c (decide_eq_true z);rw [Te] at c';have:cs.getD i 0=0:=by rw [List.getD,Vr (by omega)];rfl
     dsimp only at hR;rw [this] at hR;exact hR _ (.refl _)
 have Rr:H kl=none:=zo;refine ⟨_,rfl,_,rfl,a,_,rfl,.inl (SqL.of (s2 _ _ ea)),many,_,rfl,⟨by omega,by omega,by omega,by rw [Te];omega⟩,?_⟩
 refine bT (n:=((((cs.map V.int).length:Nat):Int) - many).toNat) (fun i σ H3=>Ex2 fun (kv:Option V) (ds:List Int)=>An4 (σ=[some (.ref a),some (.int many),some (.ref kl),kv]) (L2.Same H H3) (H3 kl=some (.lst (ds.map V.int))) (ds.length=many.toNat))
  ⟨none,_,rfl,s2,e2,by rw [Te,Uh]⟩ ?_ ?_
 · rintro i σ H3 hi ⟨kv,ds,rfl,s3,e3,CY⟩
   have yq:(i:Int)<((cs.length:Nat):Int) - many:=by
    have h1:i<((((cs.map V.int).length:Nat):Int) - many).toNat:=hi;rw [Te] at h1;omega
   have y0:=U7 (many+(i:Int)) (show many≠0 by omega);have y1:=U1 (many+(i:Int)) (show 0<many by omega);refine hid fun ZZ kZ=>?_;obtain ⟨ix,BW⟩:∃ ix:Nat,(many+(i:Int))%many=(ix:Int):=⟨_,(Wu y0).symm⟩;obtain ⟨c,hc⟩:∃ c,ds[ix]?=some c:=⟨_,Ti (by omega)⟩;obtain ⟨x,hx⟩:∃ x,cs[(many+(i:Int)).toNat]?=some x:=⟨_,Ti (by omega)⟩;refine kZ ?_;refine ⟨_,rfl,_,rfl,_,rfl,_,_,rfl,rfl,(by show 0<many;omega),kl,_,_,.int c,rfl,rfl,SqL.of e3,at_nonneg y0 (by rw [BW,Vh,Tw,hc];rfl),_,_,rfl,rfl,.inr ⟨by decide,by decide⟩,?_⟩;refine ⟨_,_,rfl,rfl,⟨by decide,by decide,by decide⟩,_,_,rfl,rfl,(by show (0:Int)<10 ^ 40;decide),?_⟩;refine ⟨_,rfl,_,rfl,a,_,_,.int x,rfl,rfl,SqL.of (s3 _ _ ea),at_nonneg (by omega) (by rw [Tw,hx];rfl),_,_,rfl,rfl,⟨by decide,by decide,by decide⟩,_,_,rfl,rfl,(by show (0:Int)<10 ^ 40;decide),_,_,rfl,rfl,?_⟩;refine ⟨_,rfl,_,rfl,_,rfl,_,_,rfl,rfl,(by show 0<many;omega),kl,_,_,ix,rfl,rfl,e3,?_,?_⟩
   · rw [BW];unfold ixN;rw [if_pos (by omega),if_pos (by rw [Te];omega)];simp
   · refine ⟨_,ds.set ix (c * 31%10 ^ 40+x%10 ^ 40),rfl,aw s3 Rr,?_,by rw [Yu];exact CY⟩;rw [ab,List.map_set];rfl
 · rintro σ H3 ⟨kv,ds,rfl,s3,e3,CY⟩;exact ⟨_,rfl,q kl ds H3 s3 e3 CY⟩
def lP:Sp:=fun vs H Q _=>∃ c:Int,vs=[.int c]/\∀ (r:Tn) (ws:List T6) (H':Hp),L2.Same H H'->H' r=some (.lst (ws.map V.str))->ni ws->Q (.ref r) H'
set_option maxHeartbeats 1000000 in
theorem gZ:bn P w K mg base CX0 1 T.g__law_names.f T.g__law_names.d ["cell"] lP:=by
 refine T.g__law_names.F.ok bd (fun vs H Q E h=>?_) (fun xW A outer s H vs Q E hr h=>?_)
 · obtain ⟨c,rfl,_⟩:=h;rfl
 obtain ⟨c,rfl,q⟩:=h
 refine ⟨_,(ae (ay (i:=1) bd.nd rfl (TQ rfl) eA)
  (ae (ay (i:=2) bd.nd rfl (TQ rfl) (aE cr af (aE bz (aE cY (pv 0) af) af)))
  (ae (ay (i:=3) bd.nd rfl (TQ rfl) (aE cY (pv 0) af))
  (ae (ay (i:=4) bd.nd rfl (TQ rfl) eA)
  (ae (bt T9 rfl (bx rfl T.n_range (aa af ac)) (aj (i:=5) bd.nd rfl (TQ rfl)) (ag (ay (i:=4) bd.nd rfl (TQ rfl) (aE ii (pv 4) (av sK (pv 1) (aE bz (aE cY (pv 3) (aE cr (pv 5) af)) af) (fun _ _=>rfl))))))
  (ae (ay (i:=6) bd.nd rfl (TQ rfl) (bV ac))
  (ae (bt T9 rfl (bx rfl T.n_range (aa af ac)) (aj (i:=5) bd.nd rfl (TQ rfl)) (ae (ay (i:=7) bd.nd rfl (TQ rfl) (av sK (pv 1) (aE bz (aE cr (pv 3) (aE nK (aE nK af (pv 2)) (pv 5))) af) (fun _ _=>rfl)))
  (ag (bm (aJ cj (aE bz (pv 0) af) af (aO _)) (ag (aU (bW TL Ub Ua aR (pv 6) (aa (pv 7) ac)))) (ag (bm (aJ cj (aE bz (pv 0) af) af (aO _)) (ag (aU (bW TL Ub Ua aR (pv 6) (aa (aE ii (pv 7) (bA pL (pv 4) (bJ af) (bJ af))) ac)))) (ag (bm (aJ cj (aE bz (pv 0) af) af (aO _)) (ag (aU (bW TL Ub Ua aR (pv 6) (aa (aE ii (bA pL (pv 4) cg (bJ af)) (pv 7)) ac)))) (ag (aU (bW TL Ub Ua aR (pv 6) (aa (bA pL (pv 4) cg (bJ (aE cr (aE nK af (pv 5)) af))) ac))))))))))))
  (ag (aC (pv 6)))))))))),?_⟩
 try dsimp only [ym,xR]
 have z0:=U7 (c / 4) (show (4:Int)≠0 by decide);have z1:=U1 (c / 4) (show (0:Int)<4 by decide);refine ⟨_,rfl,_,_,rfl,rfl,⟨by decide,by decide⟩,_,_,rfl,rfl,(by show (0:Int)<4;decide),_,_,rfl,rfl,?_⟩;refine ⟨_,rfl,_,_,rfl,rfl,⟨by decide,by decide⟩,?_⟩
 try dsimp only [aH]
 have FJ:1<=1+c / 4%4:=by omega
 have OI:1+c / 4%4<=4:=by omega
 generalize 1+c / 4%4=st at FJ OI ⊢;generalize c / 16=a;refine ⟨8,rfl,by decide,by decide,?_⟩
 refine bT (n:=8) (fun i σ H2=>Ex2 fun (word:T6) (kv:Option V)=>An4 (σ=[some (.int c),some (.str dq),some (.int st),some (.int a),some (.str word),kv,none,none]) (H2=H) (Low word) (word.length=i))
  ⟨Tu "",none,rfl,rfl,(fun x hx=>by have:x∈([]:List Nat):=hx;cases this),rfl⟩ ?_ ?_
 · rintro i σ H2 hi ⟨word,kv,rfl,rfl,Fi,hlen⟩;have Dg:i<8:=hi;have y0:=U7 (a / (0+(i:Int)+1)) (show (26:Int)≠0 by decide);have y1:=U1 (a / (0+(i:Int)+1)) (show (0:Int)<26 by decide);refine ⟨_,rfl,_,rfl,_,rfl,_,rfl,_,_,rfl,rfl,_,_,rfl,rfl,⟨by show (0:Int)<0+(i:Int)+1;omega,by show 0+(i:Int)+1<1073741824;omega⟩,_,_,rfl,rfl,(by show (0:Int)<26;decide),dq,_,_,rfl,rfl,ai (by rw [jI];decide),mo y0 y1,?_⟩;refine ⟨_,_,rfl,rfl,ai (by show word.length+1<=1000000;omega),_,_,rfl,rfl,m5 Fi (jU (by omega) (by omega)),?_⟩;rw [strLen_append];show word.length+1=i+1;omega
 rintro σ H2 ⟨word,kv,rfl,rfl,Fi,hlen⟩;have Cz:word.length=8:=hlen;refine ⟨ai (by show 0<=1000000;decide),fun nl Dt=>?_⟩;refine ⟨4,rfl,by decide,by decide,?_⟩
 refine bT (n:=4) (fun i σ H3=>Ex3 fun (kv tv:Option V) (ws:List T6)=>An5 (σ=[some (.int c),some (.str dq),some (.int st),some (.int a),some (.str word),kv,some (.ref nl),tv]) (L2.Same H2 H3) (H3 nl=some (.lst (ws.map V.str))) (ws.length=i) (∀ (j:Nat) (x:T6),ws[j]?=some x->x=jp (c%4) a st word j))
  ⟨kv,none,[],rfl,ad Dt _,ab,rfl,fun j x hj=>by simp at hj⟩ ?_ ?_
 · rintro i σ H3 hi ⟨kv,tv,ws,rfl,s3,e3,A7,yJ⟩;have SM:i<4:=hi;have y0:=U7 (a+5 * st * (0+(i:Int))) (show (26:Int)≠0 by decide);have y1:=U1 (a+5 * st * (0+(i:Int))) (show (0:Int)<26 by decide);refine ⟨_,rfl,_,rfl,_,rfl,_,_,rfl,rfl,.inl ⟨by decide,by decide⟩,_,rfl,_,_,rfl,rfl,.inl ⟨by omega,by omega⟩,_,_,rfl,rfl,_,_,rfl,rfl,(by show (0:Int)<26;decide),dq,_,_,rfl,rfl,ai (by rw [jI];decide),mo y0 y1,?_⟩;have Rt:97+((a+5 * st * (0+(i:Int)))%26).toNat=gM a st i:=by unfold gM;rw [U6]
   try dsimp only
   rw [Rt]
   have fin:∀ x,x=jp (c%4) a st word i->∀ xM,xM=[some (.int c),some (.str dq),some (.int st),some (.int a),some (.str word),some (.int (0+(i:Int))),some (.ref nl),some (.str ⟨#[gM a st i]⟩)]->Ex3 fun (kv tv:Option V) (Bf:List T6)=>An5 (xM=[some (.int c),some (.str dq),some (.int st),some (.int a),some (.str word),kv,some (.ref nl),tv]) (L2.Same H2 (upd H3 nl (.lst (ws.map V.str++[.str x])))) ((upd H3 nl (.lst (ws.map V.str++[.str x]))) nl=some (.lst (Bf.map V.str))) (Bf.length=i+1) (∀ (j:Nat) (x:T6),Bf[j]?=some x->x=jp (c%4) a st word j):=fun x hx xM Ru=>by
    refine ⟨_,_,ws++[x],Ru,aw s3 Dt,by rw [ab,TH];rfl,by rw [TZ,A7];rfl,fun j y hj=>?_⟩;by_cases Mj:j<ws.length
    · rw [Wh Mj] at hj;exact yJ j y hj
    · have Ai:=(Tq.mp hj).1;rw [TZ] at Ai
      have:j=ws.length:=by
       have:([x]:List T6).length=1:=rfl;omega
      subst this;rw [XT (To _),Nat.sub_self] at hj;have:x=y:=by simpa using hj
      rw [<- this,hx,A7]
   have Rv:ws.length<=4:=by omega
   refine ⟨_,rfl,_,_,rfl,rfl,(by show (0:Int)<4;decide),rfl,_,rfl,?_⟩;refine cy (fun c0=>?_) (fun c0=>?_)
   · have h0:c%4=0:=V.int.inj (of_decide_eq_true c0);exact ⟨_,rfl,.inl ⟨rfl,_,SqL.of e3⟩,_,rfl,nl,_,_,rfl,rfl,e3,aK (by rw [Te];omega),fin _ (by unfold jp;rw [if_pos h0]) _ rfl⟩
   have n0:¬ c%4=0:=fun z=>c0 (decide_eq_true (congrArg V.int z));refine ⟨_,rfl,_,_,rfl,rfl,(by show (0:Int)<4;decide),rfl,_,rfl,?_⟩;refine cy (fun c1=>?_) (fun c1=>?_)
   · have h1:c%4=1:=V.int.inj (of_decide_eq_true c1);refine ⟨_,rfl,.inl ⟨rfl,_,SqL.of e3⟩,_,rfl,_,rfl,_,rfl,_,rfl,_,rfl,ai (by omega),_,_,rfl,rfl,ai (by rw [oA Cz];show 1+3<=1000000;decide),nl,_,_,rfl,rfl,e3,aK (by rw [Te];omega),fin _ (by unfold jp;rw [if_neg n0,if_pos h1]) _ rfl⟩
   have n1:¬ c%4=1:=fun z=>c1 (decide_eq_true (congrArg V.int z));refine ⟨_,rfl,_,_,rfl,rfl,(by show (0:Int)<4;decide),rfl,_,rfl,?_⟩;refine cy (fun c2=>?_) (fun c2=>?_)
   · have h2:c%4=2:=V.int.inj (of_decide_eq_true c2);have SN:=(fc (z:=word) (n:=5) (by omega)).2;refine ⟨_,rfl,.inl ⟨rfl,_,SqL.of e3⟩,_,rfl,_,rfl,_,rfl,ai (by omega),_,rfl,_,_,rfl,rfl,ai (by show (dU word none (some ((5:Nat):Int))).length+1<=1000000;omega),nl,_,_,rfl,rfl,e3,aK (by rw [Te];omega),fin _ (by unfold jp;rw [if_neg n0,if_neg n1,if_pos h2]) _ rfl⟩
   have n2:¬ c%4=2:=fun z=>c2 (decide_eq_true (congrArg V.int z));refine ⟨_,rfl,.inl ⟨rfl,_,SqL.of e3⟩,_,rfl,_,rfl,_,_,rfl,rfl,.inl ⟨by decide,by decide⟩,_,_,rfl,rfl,_,rfl,_,rfl,ai (by omega),nl,_,_,rfl,rfl,e3,aK (by rw [Te];omega),fin _ (by unfold jp;rw [if_neg n0,if_neg n1,if_neg n2,U6]) _ rfl⟩
 · rintro σ H3 ⟨kv,tv,ws,rfl,s3,e3,A7,yJ⟩;refine ⟨_,rfl,q nl ws H3 s3 e3 ⟨A7,fun x hx=>?_,fun i j x hi hj=>?_⟩⟩
   · obtain ⟨j,hj⟩:=TU.mp hx;have Ai:=(Tq.mp hj).1;rw [yJ j x hj];exact sI Fi Cz (by omega)
   · have zW:=(Tq.mp hi).1;have Ai:=(Tq.mp hj).1;have h1:=yJ i x hi;have h2:=yJ j x hj;exact sJ FJ OI Cz (by omega) (by omega) (h1.symm.trans h2)
inductive g9 (K:Tg) (vs:List V) (H:Hp) (Q:VK) (_E:XK):Prop
 | mk (a:Tn) (ns:List Int) (k:Int) (x9:vs=[.ref a,.int k]) (ya:SqL K H a (ns.map V.int)) (ye:0<=k) (yj:∀ c:Int,Q (.int c) H):g9 K vs H Q _E
def nn (K:Tg):Sp:=g9 K
theorem bZ:bn P w K mg base CX0 1 T.g__law_cell.f T.g__law_cell.d ["script","k"] (nn K):=by
 refine T.g__law_cell.F.ok nq (fun vs H Q E h=>?_) (fun xW A outer s H vs Q E hr h=>?_)
 · obtain ⟨a,ns,k,rfl,_⟩:=h;rfl
 obtain ⟨a,ns,k,rfl,hS,h0,q⟩:=h
 refine ⟨_,(ae (bm (aJ nX (pv 1) (ax ao rfl T.n_len T7 (aa (pv 0) ac)) (aO _)) (ag (aC (av aP (pv 0) (pv 1) (fun _ _=>rfl)))) ba)
  (ag (aC af))),?_⟩
 try dsimp only [ym,xR]
 refine ⟨_,rfl,_,rfl,a,_,rfl,.inl hS,_,_,rfl,rfl,_,rfl,?_⟩;refine cy (fun c=>?_) (fun c=>q 0);have c':k<(((ns.map V.int).length:Nat):Int):=of_decide_eq_true c;rw [Te] at c';exact ⟨_,rfl,_,rfl,a,_,k,_,rfl,rfl,hS,int_at h0 c',q _⟩
theorem gj {ks:List (T6×Int)} {S S' C':Int}:∀ (n:Nat) (t:Th),t.size<=n->t.FitS ks S 0->t.FitS ks S' C'
 | 0,t,h,_=>by have:=t.size_pos;omega
 | n+1,.call a b,_,h=>by rw [Th.FitS] at h;omega
 | n+1,.knot m us,hn,h=>by
   rw [Th.FitS] at h ⊢;rw [Th.size] at hn;exact ⟨h.1,FitSs.of fun t ht=>by have:=aG ht;exact gj n t (by omega) (FitSs.mem' h.2 t ht)⟩
def cT (n0 n1 n2 n3:T6):List (T6×Int):=[(n0,0),(n1,0),(n2,1),(n3,2)]
inductive fZ (vs:List V) (H:Hp) (Q:VK) (_E:XK):Prop
 | mk (num many:Int) (oa ea:Tn) (yE:List Tn) (n0 n1 n2 n3:T6) (e:Th) (S:Int) (x9:vs=[.int num,.ref oa,.int many,.ref ea]) (ya:H oa=some (.tup (yE.map V.ref))) (ye:KsAt H (cT n0 n1 n2 n3) yE) (yj:cf (cT n0 n1 n2 n3)) (yz:At H e ea) (y9:e.FitS (cT n0 n1 n2 n3) S 0) (Bm:0<=many) (BM:many<=18) (D':e.size<=1) (Hn:∀ (r:Tn) (t:Th) (H':Hp),L2.Same H H'->At H' t r->t.FitS (cT n0 n1 n2 n3) S 0->t.size<=1+2 * many.toNat->t.tall<=1+many.toNat->Q (.ref r) H'):fZ  vs H Q _E
def lQ:Sp:=fZ
set_option maxHeartbeats 1000000 in
theorem gY:bn P w K mg base CX0 1 T.g__law_spine.f T.g__law_spine.d ["number","outs","many","end"] lQ:=by
 refine T.g__law_spine.F.ok bM (fun vs H Q E h=>?_) (fun xW A outer s H vs Q E hr h=>?_)
 · obtain ⟨num,many,oa,ea,yE,n0,n1,n2,n3,e,S,rfl,_⟩:=h;rfl
 obtain ⟨num,many,oa,ea,yE,n0,n1,n2,n3,e,S,rfl,BK,Ii,go,Rw,Mx,m0,SO,Jo,q⟩:=h
 refine ⟨_,(ae (ay (i:=4) bM.nd rfl (TQ rfl) (pv 3))
  (ae (bt T9 rfl (bx rfl T.n_range (aa (pv 2) ac)) (aj (i:=5) bM.nd rfl (TQ rfl)) (ae (bm (aJ cj (aE bz (pv 0) af) af (aO _)) (ag (ay (i:=4) bM.nd rfl (TQ rfl) (aB (aa (av aA (av aA (pv 1) af (fun _ _=>rfl)) af (fun _ _=>rfl)) (aa (pv 4) (aa (aB (aa (av aA (av aA (pv 1) af (fun _ _=>rfl)) af (fun _ _=>rfl)) ac)) ac)))))) (ag (bm (aJ cj (aE bz (pv 0) af) af (aO _)) (ag (ay (i:=4) bM.nd rfl (TQ rfl) (aB (aa (av aA (av aA (pv 1) af (fun _ _=>rfl)) af (fun _ _=>rfl)) (aa (aB (aa (av aA (av aA (pv 1) af (fun _ _=>rfl)) af (fun _ _=>rfl)) ac)) (aa (pv 4) ac)))))) (ag (ay (i:=4) bM.nd rfl (TQ rfl) (aB (aa (av aA (av aA (pv 1) af (fun _ _=>rfl)) af (fun _ _=>rfl)) (aa (pv 4) ac))))))))
  (ag (ay (i:=0) bM.nd rfl (TQ rfl) (aE cY (pv 0) af)))))
  (ag (aC (pv 4))))),?_⟩
 try dsimp only [ym,xR]
 refine hid fun ZZ kZ=>?_;obtain ⟨k0,yW,z0⟩:=P2.get (i:=0) Ii rfl;obtain ⟨k2,zi,z2⟩:=P2.get (i:=2) Ii rfl;obtain ⟨k3,CZ,z3⟩:=P2.get (i:=3) Ii rfl;refine kZ ?_;have q0:n0≠BB.q:=jC (go.low (n0,0) (by simp [cT])).1;have q2:n2≠BB.q:=jC (go.low (n2,1) (by simp [cT])).1;have q3:n3≠BB.q:=jC (go.low (n3,2) (by simp [cT])).1;have ix:∀ (j:Nat) (k:Tn),yE[j]?=some k->atI (yE.map V.ref) ((j:Nat):Int)=some (.ref k):=fun j k h=>bK (by rw [Tw,h];rfl);have het:=jr e;refine ⟨_,rfl,?_⟩
 try dsimp only [aH]
 refine ⟨_,rfl,many,rfl,by omega,by omega,?_⟩
 refine bT (n:=many.toNat) (fun i σ H3=>Ex4 fun (num:Int) (ma:Tn) (kv:Option V) (t:Th)=>An6 (σ=[some (.int num),some (.ref oa),some (.int many),some (.ref ea),some (.ref ma),kv]) (L2.Same H H3) (At H3 t ma) (t.FitS (cT n0 n1 n2 n3) S 0) (t.size<=1+2 * i) (t.tall<=1+i))
  ⟨num,ea,none,e,rfl,.refl _,Rw,Mx,by omega,by omega⟩ ?_ ?_
 · rintro i σ H3 hi ⟨num,ma,kv,t,rfl,s3,Fj,Ec,JP,My⟩;have leaf:(Th.knot n0 []).FitS (cT n0 n1 n2 n3) S 0:=by rw [Th.FitS,FitSs];exact ⟨by simp [cT],trivial⟩
   have g3:=s3 _ _ BK;refine fh (fun xM H'=>Ex2 fun (ma:Tn) (t:Th)=>An6 (xM=[some (.int num),some (.ref oa),some (.int many),some (.ref ea),some (.ref ma),some (.int (0+(i:Int)))]) (L2.Same H H') (At H' t ma) (t.FitS (cT n0 n1 n2 n3) S 0) (t.size<=1+2 * (i+1)) (t.tall<=1+(i+1))) (fun kk hk=>?_) ?_
   · refine ⟨_,rfl,_,_,rfl,rfl,(by show (0:Int)<3;decide),rfl,_,rfl,?_⟩;refine cy (fun c1=>?_) (fun c1=>?_)
     · refine ⟨_,rfl,oa,_,3,.ref k3,rfl,rfl,SqT.of g3,ix 3 k3 CZ,k3,_,0,.str n3,rfl,rfl,SqT.of (s3 _ _ z3),at0,_,rfl,_,rfl,oa,_,0,.ref k0,rfl,rfl,SqT.of g3,ix 0 k0 yW,k0,_,0,.str n0,rfl,rfl,SqT.of (s3 _ _ z0),at0,ai (by show 1<=1000000;decide),fun l1 yV=>?_⟩;have s4:L2.Same H3 (upd H3 l1 (.tup [.str n0])):=ad yV _;have e4:At (upd H3 l1 (.tup [.str n0])) (.knot n0 []) l1:=by rw [At];exact ⟨q0,[],ab,.nil⟩
       generalize (upd H3 l1 (.tup [.str n0]))=H4 at s4 e4 ⊢;refine ⟨ai (by show 3<=1000000;decide),fun l2 yD=>?_⟩;have s5:=ad yD (.tup [.str n3,.ref ma,.ref l1]);refine hk _ _ ⟨l2,.knot n3 [t,.knot n0 []],rfl,s3.trans (s4.trans s5),?_,?_,?_,?_⟩
       · rw [At];exact ⟨q3,[ma,l1],ab,.cons (Fj.mono (Same.kt (s4.trans s5))) (.cons (e4.mono (Same.kt s5)) .nil)⟩
       · rw [Th.FitS,FitSs,FitSs,FitSs];exact ⟨by simp [cT],Ec,leaf,trivial⟩
       · simp only [Th.size,aq];omega
       · simp only [Th.tall,bf];omega
     · refine ⟨_,rfl,_,_,rfl,rfl,(by show (0:Int)<3;decide),rfl,_,rfl,?_⟩;refine cy (fun c2=>?_) (fun c2=>?_)
       · refine ⟨_,rfl,oa,_,3,.ref k3,rfl,rfl,SqT.of g3,ix 3 k3 CZ,k3,_,0,.str n3,rfl,rfl,SqT.of (s3 _ _ z3),at0,_,rfl,oa,_,0,.ref k0,rfl,rfl,SqT.of g3,ix 0 k0 yW,k0,_,0,.str n0,rfl,rfl,SqT.of (s3 _ _ z0),at0,ai (by show 1<=1000000;decide),fun l1 yV=>?_⟩;have s4:L2.Same H3 (upd H3 l1 (.tup [.str n0])):=ad yV _;have e4:At (upd H3 l1 (.tup [.str n0])) (.knot n0 []) l1:=by rw [At];exact ⟨q0,[],ab,.nil⟩
         generalize (upd H3 l1 (.tup [.str n0]))=H4 at s4 e4 ⊢;refine ⟨_,rfl,ai (by show 3<=1000000;decide),fun l2 yD=>?_⟩;have s5:=ad yD (.tup [.str n3,.ref l1,.ref ma]);refine hk _ _ ⟨l2,.knot n3 [.knot n0 [],t],rfl,s3.trans (s4.trans s5),?_,?_,?_,?_⟩
         · rw [At];exact ⟨q3,[l1,ma],ab,.cons (e4.mono (Same.kt s5)) (.cons (Fj.mono (Same.kt (s4.trans s5))) .nil)⟩
         · rw [Th.FitS,FitSs,FitSs,FitSs];exact ⟨by simp [cT],leaf,Ec,trivial⟩
         · simp only [Th.size,aq];omega
         · simp only [Th.tall,bf];omega
       · refine ⟨_,rfl,oa,_,2,.ref k2,rfl,rfl,SqT.of g3,ix 2 k2 zi,k2,_,0,.str n2,rfl,rfl,SqT.of (s3 _ _ z2),at0,_,rfl,ai (by show 2<=1000000;decide),fun l2 yD=>?_⟩;have s5:=ad yD (.tup [.str n2,.ref ma]);refine hk _ _ ⟨l2,.knot n2 [t],rfl,s3.trans s5,?_,?_,?_,?_⟩
         · rw [At];exact ⟨q2,[ma],ab,.cons (Fj.mono (Same.kt s5)) .nil⟩
         · rw [Th.FitS,FitSs,FitSs];exact ⟨by simp [cT],Ec,trivial⟩
         · simp only [Th.size,aq];omega
         · simp only [Th.tall,bf];omega
   rintro xM H' ⟨ma,t,rfl,s4,Fj,Ec,JP,My⟩;refine ⟨_,rfl,_,_,rfl,rfl,⟨by decide,by decide⟩,_,ma,_,t,rfl,s4,Fj,Ec,JP,My⟩
 · rintro σ H3 ⟨num,ma,kv,t,rfl,s3,Fj,Ec,JP,My⟩;exact ⟨_,rfl,q ma t H3 s3 Fj Ec (by omega) (by omega)⟩
theorem mj:∀ (ks:List Th) (j:Nat) (c:Th),c.size<=1->aq (ks.set j c)<=aq ks
 | [],j,c,_=>by rw [List.set_nil];exact To _
 | t::ks,0,c,h=>by rw [List.set_cons_zero,aq,aq];have:=t.size_pos;omega
 | t::ks,j+1,c,h=>by rw [List.set_cons_succ,aq,aq];have:=mj ks j c h;omega
inductive gW (vs:List V) (H:Hp) (Q:VK) (_E:XK):Prop
 | mk (cell S st C:Int) (sa:Tn) (sp:Th) (outs:List (T6×Int)) (S0:Int) (x9:vs=[.int cell,.ref sa,.int S,.int st,.int C]) (ya:At H sp sa) (ye:sp.FitS outs S0 0) (yj:1<=S) (yz:S<=1000) (y9:0<=st) (Bm:1<=C) (BM:C<=1000) (D':sp.size<=1000) (Hn:∀ (r:Tn) (p:Th) (H':Hp),L2.Same H H'->At H' p r->p.FitS outs S C->p.size<=sp.size->p.tall<=sp.tall->Q (.ref r) H'):gW  vs H Q _E
def nI:Sp:=gW
set_option maxHeartbeats 1000000 in
theorem nu:bn P w K mg base CX0 1 T.g__law_step.f T.g__law_step.d ["cell","spine","states","state","kids"] nI:=by
 refine T.g__law_step.F.ok dk (fun vs H Q E h=>?_) (fun xW A outer s H vs Q E hr h=>?_)
 · obtain ⟨cell,S,st,C,sa,sp,outs,S0,rfl,_⟩:=h;rfl
 obtain ⟨cell,S,st,C,sa,sp,outs,S0,rfl,Bh,yF,S1,S2,SQ,C1,C2,hsz,q⟩:=h
 refine ⟨_,(ae (ay (i:=5) dk.nd rfl (TQ rfl) (aE bz (aE cY (pv 0) af) (pv 4)))
  (ae (ay (i:=6) dk.nd rfl (TQ rfl) (aB (aa eA (aa (aE bz (aE cr (pv 3) af) (pv 2)) (aa (pv 5) ac)))))
  (ae (bm (PW.pt (vD (aJ cj (aE bz (pv 0) af) af (aO _)) (uy (aJ nT (ax ao rfl T.n_len T7 (aa (pv 1) ac)) af (aO _))))) (ae (ay (i:=7) dk.nd rfl (TQ rfl) (aE cr af (aE bz (aE cY (pv 0) af) (aE gb (ax ao rfl T.n_len T7 (aa (pv 1) ac)) af))))
  (ag (aC (aE d4 (aE d4 (bA fz (pv 1) cg (bJ (pv 7))) (aB (aa (pv 6) ac))) (bA fz (pv 1) (bJ (aE cr (pv 7) af)) cg))))) ba)
  (ag (aC (pv 6)))))),?_⟩
 try dsimp only [ym,xR]
 have k0:=U7 (cell / 7) (show C≠0 by omega);have k1:=U1 (cell / 7) (show 0<C by omega);have t0:=U7 (st+1) (show S≠0 by omega);have t1:=U1 (st+1) (show 0<S by omega);refine ⟨_,rfl,_,_,rfl,rfl,⟨by decide,by decide⟩,_,rfl,_,_,rfl,rfl,(by show 0<C;omega),?_⟩
 try dsimp only [aH]
 refine ⟨_,rfl,_,_,rfl,rfl,_,rfl,_,_,rfl,rfl,(by show 0<S;omega),_,rfl,ai (by show 3<=1000000;decide),fun ca G7=>?_⟩
 try dsimp only [aH]
 have s1:L2.Same H (upd H ca (.tup [.str BB.q,.int ((st+1)%S),.int (cell / 7%C)])):=ad G7 _;have e1:At (upd H ca (.tup [.str BB.q,.int ((st+1)%S),.int (cell / 7%C)])) (.call ((st+1)%S) (cell / 7%C)) ca:=by rw [At];exact ab
 have hq:(Tu "?")=BB.q:=rfl;rw [hq];generalize (upd H ca (.tup [.str BB.q,.int ((st+1)%S),.int (cell / 7%C)]))=H1 at s1 e1 ⊢;have Mz:(Th.call ((st+1)%S) (cell / 7%C)).FitS outs S C:=by rw [Th.FitS];exact ⟨t0,t1,k0,k1⟩
 generalize (st+1)%S=s',cell / 7%C=k' at e1 Mz ⊢;have Ij:=Bh.mono (Same.kt s1);have JP:=sp.tall_eq;have SR:=sp.size_pos;cases sp with
 | call a b=>rw [Th.FitS] at yF;omega
 | knot m ks =>
 rw [At] at Ij;refine hid fun ZZ kZ=>?_;obtain ⟨OJ,yk,ea,yL⟩:=Ij;refine kZ ?_;have zo:=yL.length;have D2:=bS ks;rw [Th.size] at hsz;refine df (fun bb H'=>An2 (H1=H') ((bb=true->0<ks.length))) (fun k2 zi=>?_) (fun H' hb=>?_) (fun H' hb=>?_)
 · refine ⟨_,rfl,_,_,rfl,rfl,(by show (0:Int)<7;decide),rfl,_,rfl,?_⟩;refine cy (fun c1=>?_) (fun c1=>?_)
   · refine ⟨_,rfl,sa,_,rfl,.inr (SqT.of ea),_,_,rfl,rfl,_,rfl,zi _ _ ⟨rfl,fun z=>?_⟩⟩;have:=of_decide_eq_true z;rw [Tx,Te] at this;omega
   · exact zi _ _ ⟨rfl,fun z=>by cases z⟩
 · obtain ⟨rfl,hb⟩:=hb;have yW:=hb rfl;have yV:(((V.str m::yk.map V.ref).length:Nat):Int) - 1=(ks.length:Int):=by rw [Tx,Te];omega
   have j0:=U7 (cell / 21) (show (ks.length:Int)≠0 by omega);have j1:=U1 (cell / 21) (show 0<(ks.length:Int) by omega);refine ⟨_,rfl,_,_,rfl,rfl,⟨by decide,by decide⟩,_,rfl,sa,_,rfl,.inr (SqT.of ea),_,_,rfl,rfl,_,_,rfl,rfl,(by rw [yV];show 0<_;omega),_,_,rfl,rfl,?_⟩
   try dsimp only [aH]
   rw [yV];obtain ⟨j,hj⟩:∃ j:Nat,(j:Int)=cell / 21%(ks.length:Int):=⟨_,Wu j0⟩;rw [<- hj] at j1 ⊢;have ej:1+(j:Int)=((j+1:Nat):Int):=by omega
   rw [ej];have Ai:j<ks.length:=by omega
   refine ⟨_,rfl,_,rfl,_,rfl,sa,_,rfl,SqT.of ea,?_,fun p1 Bp=>?_⟩
   · rintro ⟨_,z⟩;rw [HT.sIx_nat,Tx,Te] at z;omega
   try dsimp only
   have Jy:du (V.str m::yk.map V.ref) none (some ((j+1:Nat):Int))=V.str m::(yk.take j).map V.ref:=by
    rw [rc (by rw [Tx,Te];omega),List.take_succ_cons,List.map_take]
   rw [Jy];have s2:L2.Same H1 (upd H1 p1 (.tup (V.str m::(yk.take j).map V.ref))):=ad Bp _;have e2:(upd H1 p1 (.tup (V.str m::(yk.take j).map V.ref))) p1=some (.tup (V.str m::(yk.take j).map V.ref)):=ab;generalize (upd H1 p1 (.tup (V.str m::(yk.take j).map V.ref)))=H2 at s2 e2 ⊢;refine ⟨_,rfl,ai (by show 1<=1000000;decide),fun p4 MA=>?_⟩;have s4:L2.Same H2 (upd H2 p4 (.tup [.ref ca])):=ad MA _;have e4:(upd H2 p4 (.tup [.ref ca])) p4=some (.tup [.ref ca]):=ab;generalize (upd H2 p4 (.tup [.ref ca]))=H4 at s4 e4 ⊢;refine oK (s4 _ _ e2) e4 (by rw [Tx,Te,Ul];show min j yk.length+1+1<=1000000;omega) fun p5 H5 s5 e5=>?_;have BC:=s2.trans (s4.trans s5);refine ⟨_,rfl,_,rfl,_,_,rfl,rfl,_,rfl,sa,_,rfl,SqT.of (BC _ _ ea),?_,fun p6 Rx=>?_⟩
   · rintro ⟨z,_⟩;have Ry:((j+1:Nat):Int)+1=((j+2:Nat):Int):=by omega
     rw [Ry,HT.sIx_nat,Tx,Te] at z;omega
   try dsimp only
   have BH:du (V.str m::yk.map V.ref) (some (((j+1:Nat):Int)+1)) none=(yk.drop (j+1)).map V.ref:=by
    rw [show ((j+1:Nat):Int)+1=((j+2:Nat):Int) by omega,rg (by rw [Tx,Te];omega),YK,List.map_drop]
   rw [BH];have s6:L2.Same H5 (upd H5 p6 (.tup ((yk.drop (j+1)).map V.ref))):=ad Rx _;have e6:(upd H5 p6 (.tup ((yk.drop (j+1)).map V.ref))) p6=some (.tup ((yk.drop (j+1)).map V.ref)):=ab;generalize (upd H5 p6 (.tup ((yk.drop (j+1)).map V.ref)))=H6 at s6 e6 ⊢;refine oK (s6 _ _ e5) e6 (by rw [TZ,Tx,Te,Ul,Te,Vf];show min j yk.length+1+1+(yk.length - (j+1))<=1000000;omega) fun p7 H7 s7 e7=>?_;have AX:=BC.trans (s6.trans s7);rw [Th.FitS] at yF;refine q p7 (.knot m (ks.set j (.call s' k'))) H7 (s1.trans AX) ?_ ?_ ?_ ?_
   · rw [At];refine ⟨OJ,yk.set j ca,?_,(yL.mono (Same.kt AX)).set _ (e1.mono (Same.kt AX))⟩;rw [e7];have:yk.set j ca=yk.take j++ca::yk.drop (j+1):=List.set_eq_take_append_cons_drop .. |>.trans (if_pos (by omega));rw [this];simp
   · rw [Th.FitS,Yu];refine ⟨yF.1,FitSs.of fun t ht=>?_⟩;rcases List.mem_or_eq_of_mem_set ht with ht | rfl
     · exact gj _ t (To _) (FitSs.mem' yF.2 t ht)
     · exact Mz
   · rw [Th.size,Th.size];have:=mj ks j (.call s' k') (by rw [Th.size];exact To _);omega
   · rw [Th.tall,Th.tall]
     have:bf (ks.set j (.call s' k'))<=bf ks:=fb fun t ht=>by
      rcases List.mem_or_eq_of_mem_set ht with ht | rfl
      · exact bv ht
      · obtain ⟨u,hu⟩:∃ u,ks[j]?=some u:=⟨_,Ti Ai⟩;have h1:=bv (Tj hu);have h2:=u.tall_eq;rw [Th.tall];omega
     omega
 · obtain ⟨rfl,_⟩:=hb;dsimp only [lb];refine ⟨_,rfl,q ca _ _ s1 e1 Mz ?_ ?_⟩
   · rw [Th.size,Th.size];omega
   · rw [Th.tall,Th.tall];omega
theorem names4 {ws:List T6} (h:ni ws):∃ n0 n1 n2 n3,ws=[n0,n1,n2,n3]:=by
 have hl:=h.len
 match ws,hl with
 | [a,b,c,d],_=>exact ⟨a,b,c,d,rfl⟩
theorem nO {ws:List T6} (h:ni ws) (ix:List Nat) (ks:List (T6×Int)) (KR:ix.Nodup) (hl:ks.length=ix.length) (h1:1<=ks.length) (h8:ks.length<=8) (hk:∀ (i:Nat) (k:T6×Int),ks[i]?=some k->∃ j,ix[i]?=some j/\ws[j]?=some k.1/\0<=k.2/\k.2<=3) (hz:∃ k∈ks,k.2=0):cf ks:=by
 refine ⟨h1,h8,fun k hm=>?_,fun k hm=>?_,hz,fun i j k l hi hj e=>?_⟩
 · refine hid fun ZZ kZ=>?_;obtain ⟨i,hi⟩:=TU.mp hm;obtain ⟨j,_,hw,_⟩:=hk i k hi;refine kZ ?_;exact h.low _ (Tj hw)
 · refine hid fun ZZ kZ=>?_;obtain ⟨i,hi⟩:=TU.mp hm;obtain ⟨j,_,_,a,b⟩:=hk i k hi;refine kZ ?_;exact ⟨a,b⟩
 · refine hid fun ZZ kZ=>?_;obtain ⟨a,ha,Rz,_⟩:=hk i k hi;obtain ⟨b,hb,OK,_⟩:=hk j l hj;refine kZ ?_;rw [<- e] at OK;have:=h.inj a b _ Rz OK;subst this;exact (X1 (by have:=(Tq.mp ha).1;exact this) KR).mp (ha.trans hb.symm)
theorem xw {n:Nat} (h:1<n):ixN n 1=some 1:=by
 unfold ixN;simp;omega
structure ChW (ins outs:List (T6×Int)) (rows:List (List Th)):Prop where
 gi:cf ins
 go:cf outs
 le:rows.length<=20
 row:∀ row∈rows,row.length=ins.length
 fit:∀ row∈rows,∀ (j:Nat) (p:Th) (k:T6×Int),row[j]?=some p->ins[j]?=some k->p.FitS outs (rows.length:Nat) k.2
 sz:∀ row∈rows,∀ p∈row,p.size<=37/\p.tall<=19
inductive fT (K:Tg) (vs:List V) (H:Hp) (Q:VK) (_E:XK):Prop
 | mk (a:Tn) (ns:List Int) (x9:vs=[.ref a]) (ya:SqL K H a (ns.map V.int)) (ye:ns.length<=63) (yj:∀ (r:Tn) (ins outs:List (T6×Int)) (head:Th) (rows:List (List Th)) (H':Hp),L2.Same H H'->Bk H' ins outs head rows r->ChW ins outs rows->Q (.ref r) H'):fT K vs H Q _E
def lN (K:Tg):Sp:=fT K
set_option maxHeartbeats 4000000 in
theorem lM:bn P w K mg base CX0 3 T.g__law_chain.f T.g__law_chain.d ["script"] (lN K):=by
 refine T.g__law_chain.F.ok aN (fun vs H Q E h=>?_) (fun xW A outer s H vs Q E hr h=>?_)
 · obtain ⟨a,ns,rfl,_⟩:=h;rfl
 obtain ⟨a,ns,rfl,hS,CF,q⟩:=h
 refine ⟨_,(ae (ay (i:=1) aN.nd rfl (TQ rfl) (pcF T.g__law_names (gZ T) hr (aa (aE cr (aE cY (pcF T.g__law_cell (bZ T) hr (aa (pv 0) (aa af ac))) af) af) ac)))
  (ae (ay (i:=1) aN.nd rfl (TQ rfl) (aB (aa (aB (aa (av aP (pv 1) af (fun _ _=>rfl)) (aa af ac))) (aa (aB (aa (av aP (pv 1) af (fun _ _=>rfl)) (aa af ac))) (aa (aB (aa (av aP (pv 1) af (fun _ _=>rfl)) (aa af ac))) (aa (aB (aa (av aP (pv 1) af (fun _ _=>rfl)) (aa af ac))) ac))))))
  (ae (ay (i:=2) aN.nd rfl (TQ rfl) (pcF T.g__law_names (gZ T) hr (aa (pcF T.g__law_cell (bZ T) hr (aa (pv 0) (aa af ac))) ac)))
  (ae (ay (i:=3) aN.nd rfl (TQ rfl) (aE cr af (aE bz (pcF T.g__law_cell (bZ T) hr (aa (pv 0) (aa af ac))) af)))
  (ae (ay (i:=4) aN.nd rfl (TQ rfl) (aB (aa (aB (aa (av aP (pv 2) af (fun _ _=>rfl)) (aa af ac))) (aa (aB (aa (av aP (pv 2) af (fun _ _=>rfl)) (aa (pv 3) ac))) ac))))
  (ae (bm (aJ cj (aE bz (aE cY (pcF T.g__law_cell (bZ T) hr (aa (pv 0) (aa af ac))) af) af) af (aO _)) (ag (ay (i:=4) aN.nd rfl (TQ rfl) (aB (aa (aB (aa (av aP (pv 2) af (fun _ _=>rfl)) (aa af ac))) (aa (aB (aa (av aP (pv 2) af (fun _ _=>rfl)) (aa (pv 3) ac))) (aa (aB (aa (av aP (pv 2) af (fun _ _=>rfl)) (aa af ac))) ac)))))) ba)
  (ae (ay (i:=5) aN.nd rfl (TQ rfl) (aE cr af (aE bz (pcF T.g__law_cell (bZ T) hr (aa (pv 0) (aa af ac))) af)))
  (ae (ay (i:=6) aN.nd rfl (TQ rfl) (aE bz (pcF T.g__law_cell (bZ T) hr (aa (pv 0) (aa af ac))) af))
  (ae (ay (i:=7) aN.nd rfl (TQ rfl) (aE bz (aE cY (pcF T.g__law_cell (bZ T) hr (aa (pv 0) (aa af ac))) af) (aE pH af af)))
  (ae (ay (i:=8) aN.nd rfl (TQ rfl) (pcF T.g__law_spine (gY T) hr (aa (pv 7) (aa (pv 1) (aa (pv 6) (aa (aB (aa (av aA (av aA (pv 1) af (fun _ _=>rfl)) af (fun _ _=>rfl)) ac)) ac))))))
  (ae (ay (i:=9) aN.nd rfl (TQ rfl) (pcF T.g__law_folded (ld T) hr (aa (bA qj (pv 0) (bJ af) cg) (aa (pv 5) ac))))
  (ae (ay (i:=10) aN.nd rfl (TQ rfl) (bV ac))
  (ae (bt T9 rfl (bx rfl T.n_range (aa (pv 5) ac)) (aj (i:=11) aN.nd rfl (TQ rfl)) (ae (ay (i:=12) aN.nd rfl (TQ rfl) (bA qj (bV (aa (pv 8) (aa (pcF T.g__law_step (nu T) hr (aa (av aP (pv 9) (pv 11) (fun _ _=>rfl)) (aa (pv 8) (aa (pv 5) (aa (pv 11) (aa (pv 3) ac)))))) (aa (pv 8) ac)))) cg (bJ (ax ao rfl T.n_len T7 (aa (pv 4) ac)))))
  (ae (bm (PW.pt (cR (aJ cj (pv 11) (aE gb (pv 5) af) (aO _)) (cL (aJ cj (aE bz (av aP (pv 9) (pv 11) (fun _ _=>rfl)) af) af (aO _))))) (ag (eJ (pcF T.g__law_spine (gY T) hr (aa (pv 7) (aa (pv 1) (aa (aE bz (aE cY (av aP (pv 9) (pv 11) (fun _ _=>rfl)) af) (aE cr (pv 6) af)) (aa (aB (aa (av aA (av aA (pv 1) af (fun _ _=>rfl)) af (fun _ _=>rfl)) ac)) ac))))) (t4 (pv 12) af set_list))) ba)
  (ag (aU (bW TL Ub Ua aR (pv 10) (aa (dC cZ rfl T.n_tuple Vx (aa (pv 12) ac)) ac)))))))
  (ag (aC (aB (aa (pv 4) (aa (pv 1) (aa (aB (aa eA (aa af (aa af ac)))) (aa (dC cZ rfl T.n_tuple Vx (aa (pv 10) ac)) ac)))))))))))))))))))),?_⟩
 try dsimp only [ym,xR]
 -- outs
 refine ⟨_,rfl,a,ns,0,rfl,hS,by decide,fun SS=>⟨_,_,rfl,rfl,⟨by decide,by decide⟩,_,_,rfl,rfl,_,rfl,fun nb wo H1 s1 Ik D8=>?_⟩⟩
 try dsimp only [aH]
 obtain ⟨w0,w1,w2,w3,rfl⟩:=names4 D8;refine ⟨_,rfl,nb,_,0,.str w0,rfl,rfl,SqL.of Ik,at_nonneg (by decide) rfl,ai (by show 2<=1000000;decide),fun k0 yW=>?_⟩;have s2:L2.Same H1 (upd H1 k0 (.tup [.str w0,.int 0])):=ad yW _;have z0:KAt (upd H1 k0 (.tup [.str w0,.int 0])) (w0,0) k0:=ab;generalize (upd H1 k0 (.tup [.str w0,.int 0]))=H2 at s2 z0 ⊢;refine ⟨_,rfl,nb,_,1,.str w1,rfl,rfl,SqL.of (s2 _ _ Ik),at_nonneg (by decide) rfl,ai (by show 2<=1000000;decide),fun k1 Il=>?_⟩;have s3:L2.Same H2 (upd H2 k1 (.tup [.str w1,.int 0])):=ad Il _;have z1:KAt (upd H2 k1 (.tup [.str w1,.int 0])) (w1,0) k1:=ab;generalize (upd H2 k1 (.tup [.str w1,.int 0]))=H3 at s3 z1 ⊢;refine ⟨_,rfl,nb,_,2,.str w2,rfl,rfl,SqL.of ((s2.trans s3) _ _ Ik),at_nonneg (by decide) rfl,ai (by show 2<=1000000;decide),fun k2 zi=>?_⟩;have s4:L2.Same H3 (upd H3 k2 (.tup [.str w2,.int 1])):=ad zi _;have z2:KAt (upd H3 k2 (.tup [.str w2,.int 1])) (w2,1) k2:=ab;generalize (upd H3 k2 (.tup [.str w2,.int 1]))=H4 at s4 z2 ⊢;refine ⟨_,rfl,nb,_,3,.str w3,rfl,rfl,SqL.of ((s2.trans (s3.trans s4)) _ _ Ik),at_nonneg (by decide) rfl,ai (by show 2<=1000000;decide),fun k3 CZ=>?_⟩;have s5:L2.Same H4 (upd H4 k3 (.tup [.str w3,.int 2])):=ad CZ _;have z3:KAt (upd H4 k3 (.tup [.str w3,.int 2])) (w3,2) k3:=ab;generalize (upd H4 k3 (.tup [.str w3,.int 2]))=H5 at s5 z3 ⊢;refine ⟨ai (by show 4<=1000000;decide),fun oa RA=>?_⟩;have s6:L2.Same H5 (upd H5 oa (.tup [.ref k0,.ref k1,.ref k2,.ref k3])):=ad RA _;have BK:(upd H5 oa (.tup [.ref k0,.ref k1,.ref k2,.ref k3])) oa=some (.tup ([k0,k1,k2,k3].map V.ref)):=ab
 try dsimp only [aH]
 generalize (upd H5 oa (.tup [.ref k0,.ref k1,.ref k2,.ref k3]))=H6 at s6 BK ⊢;have Ii:KsAt H6 (cT w0 w1 w2 w3) [k0,k1,k2,k3]:=.cons ((s3.trans (s4.trans (s5.trans s6))) _ _ z0) (.cons ((s4.trans (s5.trans s6)) _ _ z1) (.cons ((s5.trans s6) _ _ z2) (.cons (s6 _ _ z3) .nil)))
 have go:cf (cT w0 w1 w2 w3):=nO D8 [0,1,2,3] _ (by decide) rfl (by show 1<=4;decide) (by show 4<=8;decide) (fun i k hi=>by
  match i,hi with
  | 0,hi=>cases hi;exact ⟨0,rfl,rfl,by simp,by simp⟩
  | 1,hi=>cases hi;exact ⟨1,rfl,rfl,by simp,by simp⟩
  | 2,hi=>cases hi;exact ⟨2,rfl,rfl,by simp,by simp⟩
  | 3,hi=>cases hi;exact ⟨3,rfl,rfl,by simp,by simp⟩) ⟨(w0,0),by simp [cT],rfl⟩
 have AY:L2.Same H H6:=s1.trans (s2.trans (s3.trans (s4.trans (s5.trans s6))));clear s1 s2 s3 s4 s5 s6 z0 z1 z2 z3 Ik
 -- ins
 refine ⟨_,rfl,a,ns,0,rfl,AY.seq hS,by decide,fun c0=>⟨c0,rfl,fun na ws H7 s7 MB yJ=>?_⟩⟩
 try dsimp only [aH]
 obtain ⟨x0,x1,x2,x3,rfl⟩:=names4 yJ;have OL:=AY.trans s7;refine ⟨_,rfl,a,ns,1,rfl,OL.seq hS,by decide,fun c1=>?_⟩;have y0:=U7 c1 (show (3:Int)≠0 by decide);have y1:=U1 c1 (show (0:Int)<3 by decide);refine ⟨_,_,rfl,rfl,(by show (0:Int)<3;decide),_,_,rfl,rfl,?_⟩
 try dsimp only [aH]
 obtain ⟨C,hC⟩:∃ C:Int,C=1+c1%3:=⟨_,rfl⟩;have C1:1<=C:=by omega
 have C3:C<=3:=by omega
 rw [<- hC];refine fh (fun xM H'=>Ex2 fun (ia:Tn) (xU:List Tn)=>An4 (xM=[some (.ref a),some (.ref oa),some (.ref na),some (.int C),some (.ref ia),none,none,none,none,none,none,none,none]) (L2.Same H7 H') (H' ia=some (.tup (xU.map V.ref))) (KsAt H' [(x0,0),(x1,C)] xU)) (fun kk hk=>?_) ?_
 · refine ⟨_,rfl,na,_,0,.str x0,rfl,rfl,SqL.of MB,at_nonneg (by decide) rfl,ai (by show 2<=1000000;decide),fun i0 MC=>?_⟩;have s8:L2.Same H7 (upd H7 i0 (.tup [.str x0,.int 0])):=ad MC _;have z0:KAt (upd H7 i0 (.tup [.str x0,.int 0])) (x0,0) i0:=ab;generalize (upd H7 i0 (.tup [.str x0,.int 0]))=H8 at s8 z0 ⊢;refine ⟨_,rfl,na,_,1,.str x1,rfl,rfl,SqL.of (s8 _ _ MB),at_nonneg (by decide) rfl,_,rfl,ai (by show 2<=1000000;decide),fun i1 MD=>?_⟩;have s9:L2.Same H8 (upd H8 i1 (.tup [.str x1,.int C])):=ad MD _;have z1:KAt (upd H8 i1 (.tup [.str x1,.int C])) (x1,C) i1:=ab;generalize (upd H8 i1 (.tup [.str x1,.int C]))=H9 at s9 z1 ⊢;refine ⟨ai (by show 2<=1000000;decide),fun ia ME=>?_⟩;have yg:=ad ME (.tup [.ref i0,.ref i1]);exact hk _ _ ⟨ia,[i0,i1],rfl,s8.trans (s9.trans yg),ab,.cons ((s9.trans yg) _ _ z0) (.cons (yg _ _ z1) .nil)⟩
 rintro xM H8 ⟨ia,xU,rfl,s8,F1,Aj⟩;have OM:=OL.trans s8;refine fh (fun xM H'=>Ex3 fun (ia:Tn) (xU:List Tn) (ins:List (T6×Int))=>An8 (xM=[some (.ref a),some (.ref oa),some (.ref na),some (.int C),some (.ref ia),none,none,none,none,none,none,none,none]) (L2.Same H8 H') (H' ia=some (.tup (xU.map V.ref))) (KsAt H' ins xU) (cf ins) (2<=ins.length) (ins.length<=3) (∀ (j:Nat) (k:T6×Int),ins[j]?=some k->(j=1->k.2=C)/\(j≠1->k.2=0))) (fun kk hk=>?_) ?_
 · refine df (fun bb H'=>H8=H') (fun k2 zi=>?_) (fun H' hb=>?_) (fun H' hb=>?_)
   · exact ⟨_,rfl,a,ns,1,rfl,OM.seq hS,by decide,fun SU=>⟨_,_,rfl,rfl,⟨by decide,by decide⟩,_,_,rfl,rfl,(by show (0:Int)<2;decide),rfl,_,rfl,zi _ _ rfl⟩⟩
   · subst hb;have Fl:=s8 _ _ MB;refine ⟨_,rfl,na,_,2,.str x2,rfl,rfl,SqL.of Fl,at_nonneg (by decide) rfl,ai (by show 2<=1000000;decide),fun i0 MC=>?_⟩;have s9:L2.Same H8 (upd H8 i0 (.tup [.str x2,.int 0])):=ad MC _;have z0:KAt (upd H8 i0 (.tup [.str x2,.int 0])) (x2,0) i0:=ab;generalize (upd H8 i0 (.tup [.str x2,.int 0]))=H9 at s9 z0 ⊢;refine ⟨_,rfl,na,_,1,.str x1,rfl,rfl,SqL.of (s9 _ _ Fl),at_nonneg (by decide) rfl,_,rfl,ai (by show 2<=1000000;decide),fun i1 MD=>?_⟩;have yg:L2.Same H9 (upd H9 i1 (.tup [.str x1,.int C])):=ad MD _;have z1:KAt (upd H9 i1 (.tup [.str x1,.int C])) (x1,C) i1:=ab;generalize (upd H9 i1 (.tup [.str x1,.int C]))=yC at yg z1 ⊢;refine ⟨_,rfl,na,_,0,.str x0,rfl,rfl,SqL.of ((s9.trans yg) _ _ Fl),at_nonneg (by decide) rfl,ai (by show 2<=1000000;decide),fun i2 E1=>?_⟩;have yU:L2.Same yC (upd yC i2 (.tup [.str x0,.int 0])):=ad E1 _;have z2:KAt (upd yC i2 (.tup [.str x0,.int 0])) (x0,0) i2:=ab;generalize (upd yC i2 (.tup [.str x0,.int 0]))=yR at yU z2 ⊢;refine ⟨ai (by show 3<=1000000;decide),fun ia ME=>?_⟩;have yO:=ad ME (.tup [.ref i0,.ref i1,.ref i2]);refine hk _ _ ⟨ia,[i0,i1,i2],[(x2,0),(x1,C),(x0,0)],rfl,s9.trans (yg.trans (yU.trans yO)),ab,.cons ((yg.trans (yU.trans yO)) _ _ z0) (.cons ((yU.trans yO) _ _ z1) (.cons (yO _ _ z2) .nil)),nO yJ [2,1,0] _ (by decide) rfl (by show 1<=3;decide) (by show 3<=8;decide) (fun i k hi=>?_) ⟨(x2,0),by simp,rfl⟩,by show 2<=3;decide,by show 3<=3;decide,fun j k hj=>?_⟩
     · match i,hi with
       | 0,hi=>cases hi;exact ⟨2,rfl,rfl,by simp,by simp⟩
       | 1,hi=>cases hi;exact ⟨1,rfl,rfl,by show 0<=C;omega,C3⟩
       | 2,hi=>cases hi;exact ⟨0,rfl,rfl,by simp,by simp⟩
     · match j,hj with
       | 0,hj=>cases hj;exact ⟨(fun z=>by cases z),fun _=>rfl⟩
       | 1,hj=>cases hj;exact ⟨fun _=>rfl,fun z=>absurd rfl z⟩
       | 2,hj=>cases hj;exact ⟨(fun z=>by cases z),fun _=>rfl⟩
   · subst hb;dsimp only [lb];refine hk _ _ ⟨ia,xU,[(x0,0),(x1,C)],rfl,.refl _,F1,Aj,nO yJ [0,1] _ (by decide) rfl (by show 1<=2;decide) (by show 2<=8;decide) (fun i k hi=>?_) ⟨(x0,0),by simp,rfl⟩,by show 2<=2;decide,by show 2<=3;decide,fun j k hj=>?_⟩
     · match i,hi with
       | 0,hi=>cases hi;exact ⟨0,rfl,rfl,by simp,by simp⟩
       | 1,hi=>cases hi;exact ⟨1,rfl,rfl,by show 0<=C;omega,C3⟩
     · match j,hj with
       | 0,hj=>cases hj;exact ⟨(fun z=>by cases z),fun _=>rfl⟩
       | 1,hj=>cases hj;exact ⟨fun _=>rfl,fun z=>absurd rfl z⟩
 clear ia xU F1 Aj;rintro xM H9 ⟨ia,xU,ins,rfl,s9,F1,Aj,gi,l2,l3,Bs⟩;have Im:=OM.trans s9;have ON:=s7.trans (s8.trans s9)
 -- JQ
 refine ⟨_,rfl,a,ns,2,rfl,Im.seq hS,by decide,fun c2=>?_⟩;have v0:=U7 c2 (show (20:Int)≠0 by decide);have v1:=U1 c2 (show (0:Int)<20 by decide);refine ⟨_,_,rfl,rfl,(by show (0:Int)<20;decide),_,_,rfl,rfl,?_⟩
 try dsimp only [aH]
 obtain ⟨S,Jk⟩:∃ S:Int,S=1+c2%20:=⟨_,rfl⟩;have S1:1<=S:=by omega
 have SV:S<=20:=by omega
 rw [<- Jk];refine ⟨_,rfl,a,ns,3,rfl,Im.seq hS,by decide,fun c3=>?_⟩;have u0:=U7 c3 (show (19:Int)≠0 by decide);have u1:=U1 c3 (show (0:Int)<19 by decide);refine ⟨_,_,rfl,rfl,(by show (0:Int)<19;decide),?_⟩
 try dsimp only [aH]
 generalize c3%19=many at u0 u1 ⊢;refine ⟨_,rfl,a,ns,3,rfl,Im.seq hS,by decide,fun c4=>?_⟩;refine ⟨_,_,rfl,rfl,⟨by decide,by decide⟩,_,_,rfl,rfl,⟨by decide,by decide⟩,_,_,rfl,rfl,(by show (0:Int)<3 ^ 20;decide),?_⟩
 try dsimp only [aH]
 have BD:=ON _ _ BK;have BE:=P2.mp (fun _ _ e=>(Same.kt ON) _ _ e) Ii;refine hid fun ZZ kZ=>?_;obtain ⟨k0,yW,z0⟩:=P2.get (i:=0) BE rfl;obtain ⟨k1,Il,z1⟩:=P2.get (i:=1) BE rfl;refine kZ ?_;have q0:w0≠BB.q:=jC (go.low (w0,0) (by simp [cT])).1;have q1:w1≠BB.q:=jC (go.low (w1,0) (by simp [cT])).1;refine ⟨_,rfl,_,rfl,_,rfl,_,rfl,oa,_,0,.ref _,rfl,rfl,SqT.of BD,bK (j:=0) (by rw [Tw,yW];rfl),_,_,0,.str w0,rfl,rfl,SqT.of z0,at0,ai (by show 1<=1000000;decide),fun lf RB=>?_⟩;have yg:L2.Same H9 (upd H9 lf (.tup [.str w0])):=ad RB _;have CL:At (upd H9 lf (.tup [.str w0])) (.knot w0 []) lf:=by rw [At];exact ⟨q0,[],ab,.nil⟩
 generalize (upd H9 lf (.tup [.str w0]))=yC at yg CL ⊢;have MF:(Th.knot w0 []).FitS (cT w0 w1 w2 w3) 0 0:=by rw [Th.FitS,FitSs];exact ⟨by simp [cT],trivial⟩
 have MG:(Th.knot w1 []).FitS (cT w0 w1 w2 w3) 0 0:=by rw [Th.FitS,FitSs];exact ⟨by simp [cT],trivial⟩
 refine ⟨_,many,oa,lf,_,w0,w1,w2,w3,_,0,rfl,yg _ _ BD,P2.mp (fun _ _ e=>(Same.kt yg) _ _ e) BE,go,CL,MF,u0,by omega,by rw [Th.size,aq];exact To _,fun sa sp yR yU MH MI hsz yG=>?_⟩
 try dsimp only [aH]
 have DA:=yg.trans yU;have MJ:=Im.trans DA
 -- cells
 refine ⟨_,rfl,4,rfl,a,_,rfl,MJ.seq hS,fun cl A9=>?_⟩;obtain ⟨cs,BI,LL⟩:=rX ns (some 4) none
 try dsimp only
 rw [BI];have yO:L2.Same yR (upd yR cl (.lst (cs.map V.int))):=ad A9 _;have Au:(upd yR cl (.lst (cs.map V.int))) cl=some (.lst (cs.map V.int)):=ab;generalize (upd yR cl (.lst (cs.map V.int)))=BS at yO Au ⊢;refine ⟨_,rfl,cl,cs,S,rfl,Au,by omega,by omega,by omega,fun dl ds AR BA JR CY=>?_⟩
 try dsimp only [aH]
 refine ⟨ai (by show 0<=1000000;decide),fun rl D1=>?_⟩;have BX:L2.Same AR (upd AR rl (.lst [])):=ad D1 _;have OO:(upd AR rl (.lst [])) rl=some (.lst (([]:List Tn).map V.ref)):=ab
 try dsimp only [aH]
 generalize (upd AR rl (.lst []))=SW at BX OO ⊢;have Ej:=yO.trans (BA.trans BX);have Fm:=DA.trans Ej;have OP:=BX _ _ JR;have OQ:=MH.mono (Same.kt Ej);have OR:=Fm _ _ BD;have OS:=P2.mp (fun _ _ e=>(Same.kt Fm) _ _ e) BE;have OT:=Fm _ _ F1;have zW:ins.length=xU.length:=TB Aj;refine ⟨_,rfl,S,rfl,by omega,by omega,?_⟩
 refine bT (n:=S.toNat) (fun i σ CA=>Ex5 fun (MK ML:Option V) (yx:List Tn) (rows:List (List Th)) (num:Int)=>An6 (σ=[some (.ref a),some (.ref oa),some (.ref na),some (.int C),some (.ref ia),some (.int S),some (.int many),some (.int num),some (.ref sa),some (.ref dl),some (.ref rl),MK,ML]) (L2.Same AR CA) (CA rl=some (.lst (yx.map V.ref))) (Ud (RowAt CA) rows yx) (rows.length=i) (∀ row∈rows,row.length=ins.length/\(∀ (j:Nat) (p:Th) (k:T6×Int),row[j]?=some p->ins[j]?=some k->p.FitS (cT w0 w1 w2 w3) S k.2)/\∀ p∈row,p.size<=37/\p.tall<=19))
  ⟨none,none,[],[],_,rfl,BX,OO,.nil,rfl,fun row h=>by cases h⟩ ?_ ?_
 · rintro i σ CA hi ⟨MK,ML,yx,rows,num,rfl,BC,Io,zI,E4,xT⟩;have yq:i<S.toNat:=hi;have OU:=BC;have Ao:=yO.trans (BA.trans BC);obtain ⟨d,hd⟩:∃ d,ds[i]?=some d:=⟨_,Ti (by omega)⟩;have BW:atI (ds.map V.int) (0+(i:Int))=some (.int d):=at_nonneg (by omega) (by rw [show (0+(i:Int)).toNat=i by omega,Tw,hd];rfl);refine ⟨_,rfl,_,rfl,_,rfl,dl,_,_,.int d,rfl,rfl,SqL.of (BC _ _ JR),BW,_,rfl,_,rfl,_,rfl,_,rfl,d,S,_,C,sa,sp,cT w0 w1 w2 w3,0,rfl,MH.mono (Same.kt Ao),MI,by omega,by omega,by omega,by omega,by omega,by omega,fun pa p DB BY AI Cp yB BR=>?_⟩;refine ⟨_,rfl,ai (by show 3<=1000000;decide),fun l1 yV=>?_⟩;have AX:L2.Same DB (upd DB l1 (.lst [.ref sa,.ref pa,.ref sa])):=ad yV _;have F2:(upd DB l1 (.lst [.ref sa,.ref pa,.ref sa])) l1=some (.lst ([sa,pa,sa].map V.ref)):=ab;generalize (upd DB l1 (.lst [.ref sa,.ref pa,.ref sa]))=F3 at AX F2 ⊢;have CB:=BY.trans AX;have Ip:L2.Same H9 F3:=DA.trans (Ao.trans CB);refine ⟨_,rfl,ia,_,rfl,.inr (SqT.of (Ip _ _ F1)),_,rfl,l1,_,rfl,SqL.of F2,fun AQ Iq=>?_⟩
   have MM:du ([sa,pa,sa].map V.ref) none (some (((xU.map V.ref).length:Nat):Int))=([sa,pa,sa].take ins.length).map V.ref:=by
    rw [Te,<- zW,rc (by show _<=3;omega),List.map_take]
   try dsimp only [aH]
   rw [MM];have Ek:L2.Same F3 (upd F3 AQ (.lst (([sa,pa,sa].take ins.length).map V.ref))):=ad Iq _;have JS:(upd F3 AQ (.lst (([sa,pa,sa].take ins.length).map V.ref))) AQ=some (.lst (([sa,pa,sa].take ins.length).map V.ref)):=ab;generalize (upd F3 AQ (.lst (([sa,pa,sa].take ins.length).map V.ref)))=Ir at Ek JS ⊢;have zJ:=CB.trans Ek;have zU:=Ip.trans Ek;have El:=BC.trans zJ;have Iu:CA AQ=none:=CB.free Iq;have RC:rl≠AQ:=fun z=>by rw [z,Iu] at Io;cases Io
   refine fh (fun xM H'=>Ex2 fun (pa:Tn) (p:Th)=>An7 (xM=[some (.ref a),some (.ref oa),some (.ref na),some (.int C),some (.ref ia),some (.int S),some (.int many),some (.int num),some (.ref sa),some (.ref dl),some (.ref rl),some (.int (0+(i:Int))),some (.ref AQ)]) (L2.Same CA H') (H' AQ=some (.lst (([sa,pa,sa].take ins.length).map V.ref))) (At H' p pa) (p.FitS (cT w0 w1 w2 w3) S C) (p.size<=37) (p.tall<=19)) (fun kk hk=>?_) ?_
   · refine df (fun bb H'=>Ir=H') (fun k2 zi=>?_) (fun H' hb=>?_) (fun H' hb=>?_)
     · refine ⟨_,rfl,_,rfl,_,_,rfl,rfl,rfl,_,rfl,?_⟩;refine cy (fun c=>zi _ _ rfl) (fun c=>?_);exact ⟨_,rfl,_,rfl,dl,_,_,.int d,rfl,rfl,SqL.of (El _ _ JR),BW,_,_,rfl,rfl,(by show (0:Int)<11;decide),rfl,_,rfl,zi _ _ rfl⟩
     · subst hb;have m0:=U7 (d / 11) (show many+1≠0 by omega);have m1:=U1 (d / 11) (show 0<many+1 by omega);refine ⟨_,rfl,_,rfl,_,rfl,_,rfl,dl,_,_,.int d,rfl,rfl,SqL.of (El _ _ JR),BW,_,_,rfl,rfl,⟨by decide,by decide⟩,_,rfl,_,_,rfl,rfl,_,_,rfl,rfl,(by show 0<many+1;omega),_,rfl,oa,_,1,.ref _,rfl,rfl,SqT.of (zU _ _ BD),bK (j:=1) (by rw [Tw,Il];rfl),_,_,0,.str w1,rfl,rfl,SqT.of (zU _ _ z1),at0,ai (by show 1<=1000000;decide),fun Iv MN=>?_⟩;have DC:L2.Same Ir (upd Ir Iv (.tup [.str w1])):=ad MN _;have JT:At (upd Ir Iv (.tup [.str w1])) (.knot w1 []) Iv:=by rw [At];exact ⟨q1,[],ab,.nil⟩
       generalize (upd Ir Iv (.tup [.str w1]))=Iw at DC JT ⊢;have Iy:=zU.trans DC;refine ⟨_,_,oa,Iv,_,w0,w1,w2,w3,_,0,rfl,Iy _ _ BD,P2.mp (fun _ _ e=>(Same.kt Iy) _ _ e) BE,go,JT,MG,m0,by omega,by rw [Th.size,aq];exact To _,fun JU t2 Fn DD MO RD JA DZ=>?_⟩;have Iz:=(DC.trans DD) _ _ JS;have SX:1<([sa,pa,sa].take ins.length).length:=by rw [Ul];show 1<min ins.length 3;omega
       refine ⟨_,rfl,AQ,_,1,1,rfl,rfl,Iz,xw (by rw [Te];omega),?_⟩;have F4:KT Fn (upd Fn AQ (.lst (((([sa,pa,sa].take ins.length).map V.ref)).set 1 (.ref JU)))):=aT Iz;refine hk _ _ ⟨JU,t2,rfl,aw (zJ.trans (DC.trans DD)) Iu,?_,MO.mono F4,gj _ t2 (To _) RD,by omega,by omega⟩;show (upd Fn AQ _) AQ=_;rw [ab,<- List.map_set]
       have:([sa,pa,sa].take ins.length).set 1 JU=[sa,JU,sa].take ins.length:=by
        rcases (show ins.length=2∨ins.length=3 by omega) with h | h <;> rw [h] <;> rfl
       rw [this]
     · subst hb;dsimp only [lb];exact hk _ _ ⟨pa,p,rfl,zJ,JS,AI.mono (Same.kt (AX.trans Ek)),Cp,by omega,by omega⟩
   clear AI Cp yB BR F2 AX MM JS;rintro xM Iw ⟨AL,p',rfl,DC,JT,AI,Cp,yB,BR⟩;have IC:=DC _ _ Io;have OV:rows.length=yx.length:=TB zI;refine ⟨_,rfl,.inl ⟨rfl,_,SqL.of IC⟩,_,rfl,AQ,_,rfl,.inl ⟨SqL.of JT,fun tp EY=>?_⟩⟩;have DD:L2.Same Iw (upd Iw tp (.tup (([sa,AL,sa].take ins.length).map V.ref))):=ad EY _;have Iz:(upd Iw tp (.tup (([sa,AL,sa].take ins.length).map V.ref))) tp=some (.tup (([sa,AL,sa].take ins.length).map V.ref)):=ab;generalize (upd Iw tp (.tup (([sa,AL,sa].take ins.length).map V.ref)))=Fn at DD Iz ⊢;have Em:=DD _ _ IC;refine ⟨rl,_,_,rfl,rfl,Em,aK (by rw [Te];omega),?_⟩;have F4:KT Fn (upd Fn rl (.lst (yx.map V.ref++[.ref tp]))):=aT Em;have ID:=(Same.kt (DC.trans DD)).trans F4;have CC:At (upd Fn rl (.lst (yx.map V.ref++[.ref tp]))) sp sa:=(MH.mono (Same.kt (Ao.trans (DC.trans DD)))).mono F4;refine ⟨_,_,yx++[tp],rows++[[sp,p',sp].take ins.length],num,rfl,aw (BC.trans (DC.trans DD)) D1,by rw [ab,TH];rfl,?_,by rw [TZ,E4];rfl,fun row xO=>?_⟩
   · refine P2.append (P2.mp (fun _ _ e=>RowAt.mono ID e) zI) (.cons ⟨_,F4 _ _ Iz,?_⟩ .nil);have En:=(AI.mono (Same.kt DD)).mono F4;rcases (show ins.length=2∨ins.length=3 by omega) with h | h <;> rw [h]
     · exact .cons CC (.cons En .nil)
     · exact .cons CC (.cons En (.cons CC .nil))
   · rcases UA.mp xO with xO | xO
     · exact xT row xO
     · rw [TY.mp xO];have Bh:sp.size<=37/\sp.tall<=19:=⟨by omega,by omega⟩;refine ⟨by rw [Ul];show min ins.length 3=_;omega,fun j t k hj hk=>?_,fun t ht=>?_⟩
       · obtain ⟨g1,g2⟩:=Bs j k hk;have Ai:=(Tq.mp hk).1;rw [List.getElem?_take_of_lt Ai] at hj
         match j,hj with
         | 0,hj=>cases hj;rw [g2 (by decide)];exact gj _ sp (To _) MI
         | 1,hj=>cases hj;rw [g1 rfl];exact Cp
         | 2,hj=>cases hj;rw [g2 (by decide)];exact gj _ sp (To _) MI
       · have IE:=YD ht;rcases TR.mp IE with rfl | IE
         · exact Bh
         · rcases TR.mp IE with rfl | IE
           · exact ⟨yB,BR⟩
           · rw [TY.mp IE];exact Bh
 · rintro σ CA ⟨MK,ML,yx,rows,num,rfl,BC,Io,zI,E4,xT⟩;have Ao:=yO.trans (BA.trans BC);have MP:=DA.trans Ao;refine ⟨_,rfl,_,rfl,ai (by show 3<=1000000;decide),fun ha RE=>?_⟩;have BY:L2.Same CA (upd CA ha (.tup [.str BB.q,.int 0,.int 0])):=ad RE _;have OW:At (upd CA ha (.tup [.str BB.q,.int 0,.int 0])) (.call 0 0) ha:=by rw [At];exact ab
   have hq:(Tu "?")=BB.q:=rfl;rw [hq];generalize (upd CA ha (.tup [.str BB.q,.int 0,.int 0]))=DB at BY OW ⊢;refine ⟨_,rfl,rl,_,rfl,.inl ⟨SqL.of (BY _ _ Io),fun ra RF=>?_⟩⟩;have AX:L2.Same DB (upd DB ra (.tup (yx.map V.ref))):=ad RF _;have F2:(upd DB ra (.tup (yx.map V.ref))) ra=some (.tup (yx.map V.ref)):=ab;generalize (upd DB ra (.tup (yx.map V.ref)))=F3 at AX F2 ⊢;refine ⟨ai (by show 4<=1000000;decide),fun bk JJ=>?_⟩;have Ek:=ad JJ (.tup [.ref ia,.ref oa,.ref ha,.ref ra]);have zJ:=BY.trans (AX.trans Ek);have zU:=MP.trans zJ;have GJ:(rows.length:Int)=S:=by omega
   refine q bk ins (cT w0 w1 w2 w3) (.call 0 0) rows _ (Im.trans zU) ⟨ia,oa,ha,ra,xU,_,yx,⟨ab,zU _ _ F1,P2.mp (fun _ _ e=>(Same.kt zU) _ _ e) Aj,zU _ _ BD,P2.mp (fun _ _ e=>(Same.kt zU) _ _ e) BE,OW.mono (Same.kt (AX.trans Ek)),Ek _ _ F2,P2.mp (fun _ _ e=>RowAt.mono (Same.kt zJ) e) zI⟩⟩ ⟨gi,go,by omega,fun row h=>(xT row h).1,fun row h j p k hp hk=>?_,fun row h=>(xT row h).2.2⟩;have:=(xT row h).2.1 j p k hp hk;rw [<- GJ] at this;exact this
inductive gU (P:TF) (w:T3) (K:Tg) (vs:List V) (H:Hp) (Q:VK) (_E:XK):Prop
 | mk (b:Tn) (ins outs:List (T6×Int)) (head:Th) (rows:List (List Th)) (Dm:Nat) (x9:vs=[.ref b]) (ya:Bk H ins outs head rows b) (ye:FrK ins outs rows) (yj:cf outs) (yz:(∀ s:Nat,s<rows.length->(mkF ins rows (s:Nat)).tall<=Dm)) (y9:∀ (fl:Tn) (fs:List Tn) (f':List (az×V)) (H':Hp),L2.Same H H'->H' fl=some (.lst (fs.map V.ref))->Ud (fun s a=>AtK K H' ((frS ins rows s).cut (Dk f' (s:Nat)) []) a) (Ue rows.length) fs->FrD ins rows (f'.map (·.1))->KeyM ins rows f'->Q (.ref fl) H'):gU P w K vs H Q _E
def mS (P:TF) (w:T3) (K:Tg):Sp:=gU P w K
theorem m3:bn P w K mg base CX0 8 T.g_fronts_of.f T.g_fronts_of.d ["book"] (mS P w K):=by
 refine T.g_fronts_of.F.ok fk (fun vs H Q E h=>?_) (fun xW A outer s0 H vs Q E hr h=>?_)
 · obtain ⟨b,ins,outs,head,rows,Dm,rfl,_⟩:=h;rfl
 obtain ⟨b,ins,outs,head,rows,Dm,rfl,hB,F,go,Dy,k⟩:=h
 refine ⟨_,(ae (eJ (pcF T.g_found_fronts (fJ T) hr (aa (pv 0) ac)) (bo rfl (au (aj (i:=1) fk.nd rfl (TQ rfl)) (au (aj (i:=2) fk.nd rfl (TQ rfl)) aY))))
  (ag (aC (pv 1)))),?_⟩
 try dsimp only [ym,xR]
 refine ⟨_,rfl,b,ins,outs,head,rows,Dm,rfl,hB,F,go,Dy,fun r fl pt fs f' H1 s1 er yM yF FZ hD hK=>?_⟩;exact ⟨r,_,rfl,SqT.of er,rfl,_,_,rfl,_,_,rfl,rfl,_,rfl,k fl fs f' H1 s1 yM yF hD hK⟩
def cV (t:Th):List (List Int):=((t.pl []).filter fun p=>p.2.isHole).map (·.1)
theorem lu (t:Th):(cV t).length<=t.size:=by
 unfold cV;rw [Te];have:=Xw (fun p:List Int×Th=>p.2.isHole) (t.pl []);rw [Th.pl_len] at this;exact this
theorem kz {t:Th} {pl:List Int}:pl∈cV t↔∃ v,In t pl v/\v.isHole=true:=by
 unfold cV;constructor
 · intro h;obtain ⟨x,hx,rfl⟩:=Uw.mp h;obtain ⟨h1,h2⟩:=VG.mp hx;exact ⟨x.2,In.of _ (To _) h1,h2⟩
 · rintro ⟨v,h1,h2⟩;exact Uw.mpr ⟨(pl,v),VG.mpr ⟨In.to h1,h2⟩,rfl⟩
theorem qr {D:List Int->Bool}:∀ (n:Nat) (t:Th) (pre pl:List Int) (v:Th),t.size<=n->t.noCall->In (t.cut D pre) pl v->v.isHole=true->D (pre++pl)=true∨∃ u,In t pl u/\u.isHole=true
 | 0,t,_,_,_,hn=>by have:=t.size_pos;omega
 | n+1,.call a b,_,_,_,_=>fun h=>by rw [Th.noCall] at h;exact h.elim
 | n+1,.knot m ks,pre,pl,v,hn=>fun hc hi hh=>by
   rw [Th.cut] at hi;by_cases hq:(Th.knot m ks).isHole=true∨D pre=true
   · rw [if_pos hq,hole] at hi;cases hi with
     | here =>
       rcases hq with h | h
       · exact .inr ⟨_,.here,h⟩
       · exact .inl (by rw [Up];exact h)
     | kid hj _=>simp at hj
   · rw [if_neg hq] at hi;cases hi with
     | here =>
       exfalso;refine hq (.inl ?_);rw [Th.isHole,decide_eq_true_iff] at hh ⊢;refine ⟨hh.1,UO.mp ?_⟩;rw [<- cH (D:=D) (pre:=pre) (i:=0),hh.2];rfl
     | kid hj hr =>
       rename_i j u r
       rw [eZ,T8] at hj;obtain ⟨w,hw,rfl⟩:=hj;rw [Th.size] at hn;rw [Th.noCall] at hc;have hz:=aG (Tj hw);rcases qr n w _ r v (by omega) (bp hc (Tj hw)) hr hh with h | ⟨u,h1,h2⟩
       · refine .inl ?_;rw [U6,Uy] at h;exact h
       · exact .inr ⟨u,.kid hw h1,h2⟩
theorem kB (D:List Int->Bool):∀ (n:Nat) (t:Th) (pre:List Int),t.size<=n->(t.cut D pre).tall<=t.tall
 | 0,t,_,hn=>by have:=t.size_pos;omega
 | n+1,.call a b,pre,hn=>by rw [Th.cut,hole,Th.tall,Th.tall,bf];exact To _
 | n+1,.knot m ks,pre,hn=>by
   rw [Th.cut];split
   · rw [hole,Th.tall,Th.tall,bf];omega
   · rw [Th.size] at hn;rw [Th.tall,Th.tall]
     have:bf (cz D pre 0 ks)<=bf ks:=fb fun t ht=>by
      obtain ⟨j,hj⟩:=TU.mp ht;rw [eZ,T8] at hj;obtain ⟨u,hu,rfl⟩:=hj;have hm:=Tj hu;have h1:=aG hm;have h2:=bv hm;have h3:=kB D n u (pre++[0+(j:Int)]) (by omega);omega
     omega
def PrL (H:Hp) (R:Nat->List Int->Th->Th->Prop) (fr:Nat->Th) (N:Nat) (pl:Tn) (ls:List Tn):Prop:=H pl=some (.lst (ls.map V.ref))/\Ud (fun s la=>∃ prs:List Tn,H la=some (.lst (prs.map V.ref))/\Ud (fun h pr=>PtV H (R s h) (.ref pr)) (cV (fr s)) prs) (Ue N) ls
def Rp (ins:List (T6×Int)) (rows:List (List Th)) (Dm:Nat) (s:Nat) (h:List Int) (t1 t2:Th):Prop:=∃ ks,Vl0 ins rows Dm ks (nk (s:Nat) h) t1 t2
theorem l8 {α:Type} {f:α->V} {R:α->Tn->Prop}:∀ {zs:List α},(∀ z∈zs,∃ a,f z=.ref a/\R z a)->∃ as:List Tn,zs.map f=as.map V.ref/\Ud R zs as
 | [],_=>⟨[],rfl,.nil⟩
 | z::zs,h=>by
   refine hid fun ZZ kZ=>?_;obtain ⟨a,h1,h2⟩:=h z (T2 ..);obtain ⟨as,h3,h4⟩:=l8 (zs:=zs) fun y hy=>h y (T1 _ hy);refine kZ ?_;exact ⟨a::as,by rw [UE,UE,h1,h3],.cons h2 h4⟩
inductive fG (P:TF) (w:T3) (K:Tg) (vs:List V) (H:Hp) (Q:VK) (_E:XK):Prop
 | mk (b:Tn) (ins outs:List (T6×Int)) (head:Th) (rows:List (List Th)) (Dm:Nat) (x9:vs=[.ref b]) (ya:Bk H ins outs head rows b) (ye:FrK ins outs rows) (yj:cf outs) (yz:(∀ s:Nat,s<rows.length->(mkF ins rows (s:Nat)).tall<=Dm)) (y9:∀ (pl:Tn) (ls:List Tn) (f':List (az×V)) (H':Hp),L2.Same H H'->FrD ins rows (f'.map (·.1))->KeyM ins rows f'->PrL H' (Rp ins rows Dm) (fun s=>(frS ins rows s).cut (Dk f' (s:Nat)) []) rows.length pl ls->Q (.ref pl) H'):fG P w K vs H Q _E
def kb (P:TF) (w:T3) (K:Tg):Sp:=fG P w K
set_option maxHeartbeats 1000000 in
theorem lD:bn P w K mg base CX0 8 T.g_partings_of.f T.g_partings_of.d ["book"] (kb P w K):=by
 refine T.g_partings_of.F.ok bU (fun vs H Q E h=>?_) (fun xW A outer s0 H vs Q E hr h=>?_)
 · obtain ⟨b,ins,outs,head,rows,Dm,rfl,_⟩:=h;rfl
 obtain ⟨b,ins,outs,head,rows,Dm,rfl,hB,F,go,Dy,k⟩:=h
 refine ⟨_,(ae (eJ (pcF T.g_found_fronts (fJ T) hr (aa (pv 0) ac)) (bo rfl (au (aj (i:=1) bU.nd rfl (TQ rfl)) (au (aj (i:=2) bU.nd rfl (X8 rfl)) aY))))
  (ae (ay (i:=3) bU.nd rfl (TQ rfl) (bV ac))
  (ae (bt T9 rfl (jX rfl T.n_enumerate (pv 1)) (bo rfl (au (aj (i:=4) bU.nd rfl (X8 rfl)) (au (aj (i:=5) bU.nd rfl (TQ rfl)) aY))) (ag (aU (bW TL Ub Ua aR (pv 3) (aa (cv (N:=[Tu "place",Tu "partings",Tu "state"]) (js:=[none,some 2,some 4]) (g:=(aH 0)) (tt:=bG) (te:=(t7 P w (bw 1) (km (bq (bw 2) (bq (bw 0) dW))))) rfl (cJ rfl (by decide +kernel) (by decide +kernel) rfl rfl rfl) (cw (pcF T.g_holes_in (jz T) hr (aa (pv 5) ac))) (fun _ _ _ _ _ _=>(aj (i:=0) xl rfl (TQ rfl))) (aV rfl) (fun _ _ _ _ _ _=>bR) (fun _ _ _ _ _ _=>(o7 (fV hr) (pv 1) (aB (aa (pv 2) (aa (pv 0) ac))) (fun _ _=>rfl)))) ac)))))
  (ag (aC (pv 3)))))),?_⟩
 try dsimp only [ym,xR]
 refine ⟨_,rfl,b,ins,outs,head,rows,Dm,rfl,hB,F,go,Dy,fun r fl pt fs f' H1 s1 er yM yF FZ hD hK=>?_⟩;refine ⟨r,_,rfl,SqT.of er,rfl,_,_,rfl,_,_,rfl,rfl,?_⟩;have hle:=F.le;have zZ:(Ue rows.length).length=fs.length:=TB yF;rw [Uh] at zZ;refine ⟨ai (by show 0<=1000000;decide),fun tl yy=>?_⟩;have RG:H tl=none:=s1.free yy;have s2:L2.Same H1 (upd H1 tl (.lst [])):=ad yy _;have e2:(upd H1 tl (.lst [])) tl=some (.lst []):=ab;generalize (upd H1 tl (.lst []))=H2 at s2 e2 ⊢;refine ⟨_,rfl,fl,rfl,⟨_,SqL.of (s2 _ _ yM)⟩,?_⟩
 refine mI (K:=K) (a:=fl) (xs:=fs.map V.ref) (fun i σ H3=>Ex3 fun (c4 c5:Option V) (ls:List Tn)=>An4 (σ=[some (.ref b),some (.ref fl),some (.ref pt),some (.ref tl),c4,c5]) (L2.Same H1 H3) (H3 tl=some (.lst (ls.map V.ref))) (Ud (fun s la=>la≠tl/\∃ prs:List Tn,H3 la=some (.lst (prs.map V.ref))/\Ud (fun h pr=>PtV H3 (Rp ins rows Dm s h) (.ref pr)) (cV ((frS ins rows s).cut (Dk f' (s:Nat)) [])) prs) (Ue i) ls))
  ⟨none,none,[],rfl,s2,e2,.nil⟩ (fun i σ H3 _ ⟨_,_,_,_,s3,_,_⟩=>SqL.of (s3 _ _ yM)) ?_ ?_
 · rintro i x pr σ H3 hx zh ⟨c4,c5,ls,rfl,s3,e3,Aq⟩;obtain ⟨fa,rfl,yt⟩:=aZ hx;have zW:=(Tq.mp yt).1;have Ei:i<rows.length:=by omega
   obtain ⟨s',yA,zx⟩:=P2.get' yF yt;rw [Uv Ei] at yA;cases yA;obtain ⟨z1,z2,z3⟩:=i8 F Ei;have SY:=lg (Dk f' (i:Nat)) _ (frS ins rows i) [] (To _);have MM:=kB (Dk f' (i:Nat)) _ (frS ins rows i) [] (To _);have s4:L2.Same H3 (upd H3 pr (.tup [.int ((i:Nat):Int),.ref fa])):=ad zh _;have e4:(upd H3 pr (.tup [.int ((i:Nat):Int),.ref fa])) pr=some (.tup [.int ((i:Nat):Int),.ref fa]):=ab;generalize (upd H3 pr (.tup [.int ((i:Nat):Int),.ref fa]))=H4 at s4 e4 ⊢;refine ⟨pr,_,rfl,SqT.of e4,rfl,_,_,rfl,_,_,rfl,rfl,?_⟩;dsimp only [aH];have BX:=s3.trans s4;refine ⟨_,rfl,.inl ⟨rfl,_,SqL.of (s4 _ _ e3)⟩,_,rfl,fa,_,rfl,zx.mono (Same.kt BX),by omega,by omega,fun hl bs H5 s5 E5 yn=>?_⟩;have BC:=BX.trans s5;have IF:Ud (fun (p:List Int) b=>H5 b=some (.tup (p.map V.int))) (cV ((frS ins rows i).cut (Dk f' (i:Nat)) [])) bs:=yn;have zN:(cV ((frS ins rows i).cut (Dk f' (i:Nat)) [])).length=bs.length:=TB IF;have Eb:=lu ((frS ins rows i).cut (Dk f' (i:Nat)) []);have DE:=FZ.same BC
   have zy:∀ h∈cV ((frS ins rows i).cut (Dk f' (i:Nat)) []),∃ pr,aW f' (nk (i:Nat) h)=some (.ref pr)/\PtV H5 (Rp ins rows Dm i h) (.ref pr):=fun h hh=>by
    obtain ⟨v,Fp,JV⟩:=kz.mp hh
    have hm:nk (i:Nat) h∈f'.map (·.1):=by
     rcases qr _ _ [] h v (To _) z3 Fp JV with hd | ⟨u,h1,h2⟩
     · exact jo.mp hd
     · exact hD.hol i Ei (h,u) (In.to h1) h2
    obtain ⟨j,hj⟩:=TU.mp hm;rw [Tw,T8] at hj;obtain ⟨kv,FU,HJ⟩:=hj;obtain ⟨p0,ta,tb,t1,t2,ev,q1,q2,q3,q4⟩:=DE.vl j kv FU;have Ai:=(Tq.mp FU).1;have hlen:=DE.len;rw [HJ] at q4;refine ⟨p0,?_,p0,ta,tb,t1,t2,rfl,q1,q2,q3,_,q4⟩;cases Du:aW f' (nk (i:Nat) h) with
    | none=>exact absurd hm (cB Du)
    | some v' =>
      rw [<- HJ] at Du;rw [qw DE.nd FU Du,ev]
   refine ⟨hl,rfl,⟨_,SqL.of E5⟩,m8 (cV ((frS ins rows i).cut (Dk f' (i:Nat)) [])) (fun h=>(aW f' (nk (i:Nat) h)).getD .non) (SqL.of E5) (by rw [Te];exact zN) (by rw [Te];omega) (fun j x z H6 R W' hx hz s6 hR=>?_) (fun D H6 OX s6 e6=>?_)⟩
   · obtain ⟨pb,rfl,Dn⟩:=aZ hx;have FR:=nL IF hz Dn;obtain ⟨p0,hv,_⟩:=zy z (Tj hz);refine ⟨_,rfl,_,rfl,_,rfl,ai (by show 2<=1000000;decide),fun kp Bt=>?_⟩;have s7:L2.Same H6 (upd H6 kp (.tup [.int ((i:Nat):Int),.ref pb])):=ad Bt _;refine ⟨pt,kp,nk (i:Nat) z,f',.ref p0,rfl,rfl,DE.dm.mono (s6.trans s7),lF ab ((s6.trans s7) _ _ FR),hv,?_⟩;have:=hR _ s7;rw [hv] at this;exact this
   · have yd:D≠tl:=fun z=>by rw [z,(s4.trans s5) _ _ e3] at OX;cases OX
     have BY:=BC.trans s6
     obtain ⟨prs,ep,hp⟩:∃ prs:List Tn,(cV ((frS ins rows i).cut (Dk f' (i:Nat)) [])).map (fun h=>(aW f' (nk (i:Nat) h)).getD .non)=prs.map V.ref/\Ud (fun h pr=>PtV H6 (Rp ins rows Dm i h) (.ref pr)) (cV ((frS ins rows i).cut (Dk f' (i:Nat)) [])) prs :=
      l8 fun h hh=>by
       obtain ⟨p0,h1,h2⟩:=zy h hh;exact ⟨p0,by rw [h1];rfl,h2.mono (Same.kt s6)⟩
     rw [ep] at e6;have OY:=(s4.trans (s5.trans s6)) _ _ e3;have EL:(Ue i).length=ls.length:=TB Aq;rw [Uh] at EL;refine ⟨tl,_,_,rfl,rfl,OY,aK (by rw [Te];omega),?_⟩;have k7:KT H6 (upd H6 tl (.lst (ls.map V.ref++[.ref D]))):=aT OY;refine ⟨_,_,ls++[D],rfl,aw BY yy,by rw [ab,TH];rfl,?_⟩;rw [Yt];refine P2.append (P2.mp (fun s la ⟨h1,MQ,h2,h3⟩=>⟨h1,MQ,by rw [ak h1];exact (s4.trans (s5.trans s6)) _ _ h2,P2.mp (fun _ _ e=>(e.mono (Same.kt (s4.trans (s5.trans s6)))).mono k7) h3⟩) Aq) (.cons ⟨yd,prs,by rw [ak yd];exact e6,P2.mp (fun _ _ e=>e.mono k7) hp⟩ .nil)
 · rintro σ H3 ⟨c4,c5,ls,rfl,s3,e3,Aq⟩;rw [Te,<- zZ] at Aq;exact ⟨_,rfl,k tl ls f' H3 (s1.trans s3) hD hK ⟨e3,P2.mp (fun _ _ ⟨_,h⟩=>h) Aq⟩⟩
mutual
def Th.Fo (outs:List (T6×Int)):Th->Prop
 | .knot n ks=>(n=star/\ks=[])∨((n,(ks.length:Int))∈outs/\n≠star/\Fos outs ks)
 | .call _ _=>False
def Fos (outs:List (T6×Int)):List Th->Prop
 | []=>True
 | t::ts=>Th.Fo outs t/\Fos outs ts
end
theorem gJ {outs:List (T6×Int)}:∀ {ts:List Th} {t:Th},Fos outs ts->t∈ts->Th.Fo outs t
 | [],t,_,h=>(V2 h).elim
 | u::ts,t,h,hm=>by
   rw [Fos] at h;rcases TR.mp hm with rfl | hm
   · exact h.1
   · exact gJ h.2 hm
theorem nh {outs:List (T6×Int)}:∀ {ts:List Th},(∀ t∈ts,Th.Fo outs t)->Fos outs ts
 | [],_=>by rw [Fos];trivial
 | t::ts,h=>by rw [Fos];exact ⟨h t (T2 ..),nh fun u hu=>h u (T1 _ hu)⟩
def cX (K:Tg):Nat->Sp
 | 0=>fun _ _ _ _=>False
 | n+1=>fun vs H Q _=>∃ (oa x:Tn) (yE:List Tn) (outs:List (T6×Int)) (f:Th),vs=[.ref oa,.ref x]/\H oa=some (.tup (yE.map V.ref))/\KsAt H outs yE/\AtK K H f x/\Th.Fo outs f/\f.size<=1000/\f.tall<=n+1/\∀ H',L2.Same H H'->Q (.bl true) H'
set_option maxHeartbeats 1000000 in
theorem eP:∀ n:Nat,bn P w K mg base CX0 n T.g__law_is_front.f T.g__law_is_front.d ["outs","front"] (cX K n)
 | 0=>⟨fun _ _ _ _ h=>h.elim,fun _ _ _ _ _ _ _ _ _ _ _ _ _ h=>h.elim⟩
 | n+1=>by
   have ih:=eP n;refine T.g__law_is_front.F.ok jh (fun vs H Q E h=>?_) (fun xW A outer s H vs Q E hr h=>?_)
   · obtain ⟨oa,x,yE,outs,f,rfl,_⟩:=h;rfl
   obtain ⟨oa,x,yE,outs,f,rfl,eo,Aa,hx,hF,hsz,yy,k⟩:=h
   refine ⟨_,(ae (bm (PW.pt (cR (cW (aS (ax (rL (T:="tuple")) rfl T.n_isinstance UW (aa (pv 1) (aa (ef (v:=.ty "tuple") rfl T.n_tuple Vx rfl) ac))) (fun _=>rfl))) (cR (aJ cj (ax ao rfl T.n_len T7 (aa (pv 1) ac)) af (aO _)) (cL (cW (aS (ax (cD (T:="str")) rfl T.n_isinstance UW (aa (av aA (pv 1) af (fun _ _=>rfl)) (aa (ef (v:=.ty "str") rfl T.n_str PyProof.Rows.boot_str rfl) ac))) (fun _=>rfl))))))) (ag (aC cS)) ba)
    (ae (bm (aJ cj (av aA (pv 1) af (fun _ _=>rfl)) eA (aO _)) (ag (aC (iW cj (ax ao rfl T.n_len T7 (aa (pv 1) ac)) af (aO _)))) ba)
    (ae (bm (aJ (ml (B:=50) (qI hr)) (aB (aa (av aA (pv 1) af (fun _ _=>rfl)) (aa (aE gb (ax ao rfl T.n_len T7 (aa (pv 1) ac)) af) ac))) (pv 0) (by with_unfolding_all rfl)) (ag (aC cS)) ba)
    (ag (aC (ax (ko rfl) rfl T.n_all Yx (aa (cv (N:=[Tu "part",Tu "outs"]) (js:=[none,some 0]) (g:=(aH 0)) (tt:=bG) (te:=(fU (cX K _) [] E0 (bq (bw 1) (bq (bw 0) dW)))) rfl (cJ rfl (by decide +kernel) (by decide +kernel) rfl rfl rfl) (ja (bA fz (pv 1) (bJ af) cg)) (fun _ _ _ _ _ _=>(aj (i:=0) wG rfl (TQ rfl))) (aV rfl) (fun _ _ _ _ _ _=>bR) (fun _ _ _ _ _ _=>(iH (ih) (hr.mono (To _)) rfl T.g__law_is_front.m T.g__law_is_front.F.kp T.g__law_is_front.b .nil nW (aa (pv 1) (aa (pv 0) ac))))) ac))))))),?_⟩
   try dsimp only [ym,xR]
   cases f with
   | call s k=>rw [Th.Fo] at hF;exact hF.elim
   | knot nm ks =>
   rw [AtK] at hx;refine hid fun ZZ kZ=>?_;obtain ⟨JW,ka,ea,zp⟩:=hx;refine kZ ?_;have zo:ka.length=ks.length:=zp.length;have Jt:=bS ks;rw [Th.size] at hsz;rw [Th.tall] at yy;rw [Th.Fo] at hF;have hle:outs.length=yE.length:=TB Aa;have el:(((V.str nm::ka.map V.ref).length:Nat):Int)=(ks.length:Int)+1:=by rw [Tx,Te,zo];omega
   refine ⟨_,rfl,.inr ⟨_,_,_,rfl,ea.sq,pB,_,rfl,?_⟩⟩;refine cM ?_;refine ⟨_,rfl,x,_,rfl,.inr ea.sq,rfl,_,rfl,?_⟩;rw [el,decide_eq_false (show V.int ((ks.length:Int)+1)≠V.int 0 from fun z=>by have:=V.int.inj z;omega)];refine cM ?_;refine ⟨_,rfl,x,_,0,.str nm,rfl,rfl,ea.sq,at0,_,_,_,rfl,.str nm,tq,_,rfl,?_⟩;refine cM ?_;refine ⟨_,rfl,x,_,0,.str nm,rfl,rfl,ea.sq,at0,rfl,_,rfl,?_⟩;refine cy (fun c1=>?_) (fun c1=>?_)
   · have yG:nm=star:=V.str.inj (of_decide_eq_true c1);rcases hF with ⟨_,rfl⟩ | ⟨_,h,_⟩
     · refine ⟨_,rfl,x,_,rfl,.inr ea.sq,rfl,?_⟩;rw [el];exact k H (.refl _)
     · exact absurd yG h
   rcases hF with ⟨h,_⟩ | ⟨Bl,CF,D2⟩
   · exact absurd (by rw [h];exact decide_eq_true rfl) c1
   refine ⟨_,rfl,x,_,0,.str nm,rfl,rfl,ea.sq,at0,_,rfl,x,_,rfl,.inr ea.sq,_,_,rfl,rfl,ai (by show 2<=1000000;decide),fun p hp=>?_⟩;rw [el];have C0:(ks.length:Int)+1 - 1=(ks.length:Int):=by omega
   dsimp only;rw [C0];have s1:L2.Same H (upd H p (.tup [.str nm,.int (ks.length:Int)])):=ad hp _;have e1:(upd H p (.tup [.str nm,.int (ks.length:Int)])) p=some (.tup [.str nm,.int (ks.length:Int)]):=ab;generalize (upd H p (.tup [.str nm,.int (ks.length:Int)]))=H1 at s1 e1 ⊢;have Bs:=kE outs;refine ⟨_,rfl,oa,_,kDv (nm,(ks.length:Int)),outs.map kDv,rfl,SqT.of (s1 _ _ eo),?_,sH (Aa.mono (Same.kt s1)),by omega,fun r zQ=>⟨_,rfl,?_⟩⟩
   · rw [kDv,DAt];exact ⟨_,_,rfl,e1,.cons (by rw [DAt]) (.cons (by rw [DAt]) .nil)⟩
   have MR:r=false:=by
    cases r with
    | false=>rfl
    | true=>exact absurd (List.mem_map_of_mem Bl) (zQ.mp rfl)
   subst MR;refine cM ?_;have RH:=ea.mono (Same.kt s1);refine ⟨_,rfl,1,rfl,x,_,rfl,RH.sq,?_,fun p3 HU=>?_⟩
   · rintro ⟨z,_⟩;rw [Tx,show (1:Int)=((1:Nat):Int) by rfl,HT.sIx_nat] at z;omega
   dsimp only;rw [eQ];have s2:L2.Same H1 (upd H1 p3 (.tup (ka.map V.ref))):=ad HU _;have e2:(upd H1 p3 (.tup (ka.map V.ref))) p3=some (.tup (ka.map V.ref)):=ab;generalize (upd H1 p3 (.tup (ka.map V.ref)))=H2 at s2 e2 ⊢;have Ar:=s1.trans s2;refine ⟨p3,rfl,⟨_,SqT.of e2⟩,?_⟩;intro D hD;refine ⟨ks.length,fun j H3=>An3 (j<=ks.length) (L2.Same H2 H3) (H3 D=some (.lst ((U0 j true).map V.bl))),⟨T4 _,ad hD _,ab⟩,?_⟩;rintro j H3 ⟨hj,s3,eD⟩;by_cases AN:j=ks.length
   · left;refine ⟨⟨_,SqT.of (s3 _ _ e2),by rw [Te,zo,AN];exact To _⟩,?_⟩;refine ⟨D,U0 j true,rfl,SqL.of eD,?_⟩;rw [show (U0 j true).all id=true from V4.mpr fun b hb=>(YV.mp hb).2];exact k H3 (Ar.trans s3)
   · right;have yb:j<ks.length:=by omega
     refine hid fun ZZ kZ=>?_;obtain ⟨f,hf⟩:∃ f,ks[j]?=some f:=⟨_,Ti yb⟩;obtain ⟨fa,yt,MS⟩:=zp.at hf;refine kZ ?_;have Fq:f∈ks:=Tj hf;have h1:=bv Fq;have h2:=aG Fq;have h3:=f.tall_eq;refine ⟨yb,⟨_,.ref fa,SqT.of (s3 _ _ e2),by rw [Tw,yt];rfl⟩,?_⟩;rintro x' H4 ⟨zE,hv⟩;have Fs:H4=H3:=zE;subst Fs;have yN:=hv _ (SqT.of (s3 _ _ e2));rw [Tw,yt] at yN;cases yN;have E2:=Ar.trans s3;obtain ⟨m,rfl⟩:∃ m,n=m+1:=⟨n - 1,by omega⟩;refine ⟨_,rfl,_,rfl,oa,fa,yE,outs,f,rfl,E2 _ _ eo,Aa.mono (Same.kt E2),MS.mono (Same.kt E2),gJ D2 Fq,by omega,by omega,fun H5 s5=>?_⟩;have IG:=s5 _ _ eD;refine ⟨_,IG,aK (by rw [Te,Wa];omega),yb,aw (s3.trans s5) hD,?_⟩;rw [ab,YC,TH];rfl
mutual
def Th.CR (N:Nat):Th->Prop
 | .knot _ ks=>CRs N ks
 | .call l _=>0<=l/\l<(N:Int)
def CRs (N:Nat):List Th->Prop
 | []=>True
 | t::ts=>Th.CR N t/\CRs N ts
end
theorem qH {N:Nat}:∀ {ts:List Th} {t:Th},CRs N ts->t∈ts->Th.CR N t
 | [],t,_,h=>(V2 h).elim
 | u::ts,t,h,hm=>by
   rw [CRs] at h;rcases TR.mp hm with rfl | hm
   · exact h.1
   · exact qH h.2 hm
theorem px {N:Nat}:∀ {ts:List Th},(∀ t∈ts,Th.CR N t)->CRs N ts
 | [],_=>by rw [CRs];trivial
 | t::ts,h=>by rw [CRs];exact ⟨h t (T2 ..),px fun u hu=>h u (T1 _ hu)⟩
theorem mw {N:Nat}:∀ (n:Nat) (t:Th),t.size<=n->t.noCall->Th.CR N t
 | 0,t,h,_=>by have:=t.size_pos;omega
 | n+1,.call a b,_,h=>by rw [Th.noCall] at h;exact h.elim
 | n+1,.knot m ks,hn,h=>by
   rw [Th.noCall] at h;rw [Th.size] at hn;rw [Th.CR];exact px fun t ht=>mw n t (by have:=aG ht;omega) (bp h ht)
theorem qA {ks:List (T6×Int)} {N:Nat} {C:Int}:∀ (n:Nat) (t:Th),t.size<=n->t.FitS ks (N:Nat) C->Th.CR N t
 | 0,t,h,_=>by have:=t.size_pos;omega
 | n+1,.call a b,_,h=>by rw [Th.FitS] at h;rw [Th.CR];exact ⟨h.1,h.2.1⟩
 | n+1,.knot m us,hn,h=>by
   rw [Th.FitS] at h;rw [Th.size] at hn;rw [Th.CR];exact px fun t ht=>qA n t (by have:=aG ht;omega) (jg h.2 t ht)
def uJ:Th->Nat
 | .knot _ _=>0
 | .call _ _=>1
theorem uN {t:Th} (h:t.noCall):uJ t=0:=by
 cases t with
 | knot n ks=>rfl
 | call a b=>rw [Th.noCall] at h;exact h.elim
theorem qF (t:Th):uJ t<=1:=by
 cases t with
 | knot n ks=>exact T4 _
 | call a b=>exact To _
theorem qk (F:Int->Int->Th):∀ (n:Nat) (t:Th),t.size<=n->t.noCall->t.fill F=t
 | 0,t,h,_=>by have:=t.size_pos;omega
 | n+1,.call a b,_,h=>by rw [Th.noCall] at h;exact h.elim
 | n+1,.knot m ks,hn,h=>by
   rw [Th.noCall] at h;rw [Th.size] at hn;rw [Th.fill,gD];congr 1;refine (W0 (g:=id) fun t ht=>qk F n t (by have:=aG ht;omega) (bp h ht)).trans (List.map_id _)
def iO (K:Tg):Nat->Sp
 | 0=>fun _ _ _ _=>False
 | n+1=>fun vs H Q _=>∃ (x y fl:Tn) (f t:Th) (fs:List Tn) (N:Nat) (fr:Nat->Th),vs=[.ref x,.ref y,.ref fl]/\AtK K H f x/\AtK K H t y/\H fl=some (.lst (fs.map V.ref))/\Ud (fun s a=>AtK K H (fr s) a) (Ue N) fs/\(∀ s<N,(fr s).noCall)/\f.noCall/\f.size<=1000/\Th.CR N t/\2 * f.tall+uJ t<=n+1/\f.lies (t.fill fun l _=>fr l.toNat)=true/\∀ H',L2.Same H H'->Q (.bl true) H'
set_option maxHeartbeats 1000000 in
theorem iT:∀ n:Nat,bn P w K mg base CX0 n T.g__law_lies.f T.g__law_lies.d ["front","thing","fronts"] (iO K n)
 | 0=>⟨fun _ _ _ _ h=>h.elim,fun _ _ _ _ _ _ _ _ _ _ _ _ _ h=>h.elim⟩
 | n+1=>by
   have ih:=iT n;refine T.g__law_lies.F.ok m7 (fun vs H Q E h=>?_) (fun xW A outer s H vs Q E hr h=>?_)
   · obtain ⟨x,y,fl,f,t,fs,N,fr,rfl,_⟩:=h;rfl
   obtain ⟨x,y,fl,f,t,fs,N,fr,rfl,hx,hy,yM,yF,Eu,Fd,hsz,JX,hd,hl,k⟩:=h
   refine ⟨_,(ae (bm (aJ cj (av aA (pv 0) af (fun _ _=>rfl)) eA (aO _)) (ag (aC cS)) ba)
    (ae (bm (aJ cj (av aA (pv 1) af (fun _ _=>rfl)) eA (aO _)) (ag (aC (iH (ih) (hr.mono (To _)) rfl T.g__law_lies.m T.g__law_lies.F.kp T.g__law_lies.b .nil nW (aa (pv 0) (aa (av aP (pv 2) (av aA (pv 1) af (fun _ _=>rfl)) (fun _ _=>rfl)) (aa (pv 2) ac)))))) ba)
    (ae (bm (PW.pt (cR (aJ my (av aA (pv 1) af (fun _ _=>rfl)) (av aA (pv 0) af (fun _ _=>rfl)) (aO _)) (cL (aJ my (ax ao rfl T.n_len T7 (aa (pv 1) ac)) (ax ao rfl T.n_len T7 (aa (pv 0) ac)) (aO _))))) (ag (aC cS)) ba)
    (ag (aC (ax (ko rfl) rfl T.n_all Yx (aa (cv (N:=[Tu "k",Tu "fronts",Tu "front",Tu "thing"]) (js:=[none,some 2,some 0,some 1]) (g:=(aH 0)) (tt:=bG) (te:=(fU (iO K _) [] E0 (bq (tOp (tO K) (bw 2) (bw 0)) (bq (tOp (tO K) (bw 3) (bw 0)) (bq (bw 1) dW))))) rfl (cJ rfl (by decide +kernel) (by decide +kernel) rfl rfl rfl) (i6 rfl T.n_range (aa af (aa (ax ao rfl T.n_len T7 (aa (pv 0) ac)) ac))) (fun _ _ _ _ _ _=>(aj (i:=0) wR rfl (TQ rfl))) (aV rfl) (fun _ _ _ _ _ _=>bR) (fun _ _ _ _ _ _=>(iH (ih) (hr.mono (To _)) rfl T.g__law_lies.m T.g__law_lies.F.kp T.g__law_lies.b .nil nW (aa (av aA (pv 2) (pv 0) (fun _ _=>rfl)) (aa (av aA (pv 3) (pv 0) (fun _ _=>rfl)) (aa (pv 1) ac)))))) ac))))))),?_⟩
   try dsimp only [ym,xR]
   cases f with
   | call s k=>rw [Th.noCall] at Fd;exact Fd.elim
   | knot nm ks =>
   have BL:=hx;rw [AtK] at BL;obtain ⟨JW,ka,ea,zp⟩:=BL;have zo:ka.length=ks.length:=zp.length;have Jt:=bS ks;rw [Th.size] at hsz;rw [Th.tall] at hd;rw [Th.noCall] at Fd;obtain ⟨m,rfl⟩:∃ m,n=m+1:=⟨n - 1,by omega⟩;refine ⟨_,rfl,x,_,0,.str nm,rfl,rfl,ea.sq,at0,rfl,_,rfl,?_⟩;refine cy (fun c1=>?_) (fun c1=>?_)
   · exact k H (.refl _)
   have Co:(Th.knot nm ks).isHole=false:=by
    rw [Th.isHole];refine decide_eq_false fun z=>c1 ?_;rw [z.1];exact decide_eq_true rfl
   cases t with
   | call l c =>
     rw [AtK] at hy;rw [Th.CR] at JX;rw [Th.fill] at hl;refine hid fun ZZ kZ=>?_;obtain ⟨fa,yt⟩:∃ fa,fs[l.toNat]?=some fa:=⟨_,Ti (by have:=TB yF;rw [Uh] at this;omega)⟩;have OZ:l.toNat<N:=by omega
     obtain ⟨s',yA,zx⟩:=P2.get' yF yt;refine kZ ?_;rw [Uv OZ] at yA;cases yA;have Ft:=Eu _ OZ;refine ⟨_,rfl,y,_,0,.str q,rfl,rfl,hy.sq,at0,rfl,_,rfl,?_⟩;refine cy (fun c2=>?_) (fun c2=>absurd (decide_eq_true rfl) c2);refine ⟨_,rfl,_,rfl,_,rfl,y,_,1,.int l,rfl,rfl,hy.sq,at1,fl,_,l,.ref fa,rfl,rfl,SqL.of yM,at_nonneg JX.1 (by rw [Tw,yt];rfl),_,rfl,?_⟩;refine ⟨x,fa,fl,.knot nm ks,fr l.toNat,fs,N,fr,rfl,hx,zx,yM,yF,Eu,by rw [Th.noCall];exact Fd,by rw [Th.size];exact hsz,mw _ _ (To _) Ft,?_,by rw [qk _ _ _ (To _) Ft];exact hl,fun H' s'=>k H' s'⟩;rw [uN Ft,Th.tall];have:uJ (.call l c)=1:=rfl;omega
   | knot pm ps =>
     rw [AtK] at hy;refine hid fun ZZ kZ=>?_;obtain ⟨RI,ua,eu,D9⟩:=hy;have Lg:ua.length=ps.length:=D9.length;rw [Th.CR] at JX;rw [Th.fill,gD] at hl;obtain ⟨us,e,l1,b1⟩:=lies_of hl Co;refine kZ ?_;injection e with e1 e2;subst e1;subst e2;rw [Te] at l1;refine ⟨_,rfl,y,_,0,.str pm,rfl,rfl,eu.sq,at0,rfl,_,rfl,?_⟩;refine cy (fun c2=>absurd (V.str.inj (of_decide_eq_true c2)) RI) (fun c2=>?_);refine ⟨_,rfl,y,_,0,.str pm,rfl,rfl,eu.sq,at0,_,rfl,x,_,0,.str pm,rfl,rfl,ea.sq,at0,rfl,_,rfl,?_⟩;refine cy (fun c3=>by rw [decide_eq_true rfl] at c3;cases c3) (fun c3=>?_);refine ⟨_,rfl,y,_,rfl,.inr eu.sq,_,rfl,x,_,rfl,.inr ea.sq,rfl,_,rfl,?_⟩;have hlen:(V.str pm::ua.map V.ref).length=(V.str pm::ka.map V.ref).length:=by rw [Tx,Tx,Te,Te];omega
     refine cy (fun c4=>by rw [hlen,decide_eq_true rfl] at c4;cases c4) (fun c4=>?_);refine ⟨_,rfl,x,_,rfl,.inr ea.sq,_,_,rfl,⟨by decide,by decide,by omega,by rw [Tx,Te];omega⟩,?_⟩;intro D hD;have Dt:(((V.str pm::ka.map V.ref).length:Int) - 1).toNat=ks.length:=by rw [Tx,Te,zo];omega
     refine ⟨ks.length,fun j H3=>An3 (j<=ks.length) (L2.Same H H3) (H3 D=some (.lst ((U0 j true).map V.bl))),⟨T4 _,ad hD _,ab⟩,?_⟩;rintro j H3 ⟨hj,s3,eD⟩;by_cases AN:j=ks.length
     · left;refine ⟨(by show (((V.str pm::ka.map V.ref).length:Int) - 1).toNat<=j;rw [Dt,AN];exact To _),?_⟩;refine ⟨D,U0 j true,rfl,SqL.of eD,?_⟩;rw [show (U0 j true).all id=true from V4.mpr fun b hb=>(YV.mp hb).2];exact k H3 s3
     · right;have yb:j<ks.length:=by omega
       refine ⟨yb,(by show j<(((V.str pm::ka.map V.ref).length:Int) - 1).toNat;rw [Dt];exact yb),?_⟩;rintro x' H4 ⟨e1,e2⟩;have zE:H4=H3:=e1;subst zE;refine hid fun ZZ kZ=>?_;obtain ⟨f,hf⟩:∃ f,ks[j]?=some f:=⟨_,Ti yb⟩;obtain ⟨g,hg⟩:∃ g,ps[j]?=some g:=⟨_,Ti (by omega)⟩;obtain ⟨fa,yt,MS⟩:=zp.at hf;obtain ⟨ga,RJ,RK⟩:=D9.at hg;refine kZ ?_;have Fq:f∈ks:=Tj hf;have h1:=bv Fq;have h2:=aG Fq;have h3:=qF g;have zD:x'=V.int (1+(j:Int)):=e2;subst zD;refine ⟨_,rfl,_,rfl,x,_,_,.ref fa,rfl,rfl,(ea.mono (Same.kt s3)).sq,at_nonneg (by omega) (by rw [show (1+(j:Int)).toNat=j+1 by omega,UH,Tw,yt];rfl),?_⟩;refine ⟨_,rfl,_,rfl,y,_,_,.ref ga,rfl,rfl,(eu.mono (Same.kt s3)).sq,at_nonneg (by omega) (by rw [show (1+(j:Int)).toNat=j+1 by omega,UH,Tw,RJ];rfl),_,rfl,?_⟩;refine ⟨fa,ga,fl,f,g,fs,N,fr,rfl,MS.mono (Same.kt s3),RK.mono (Same.kt s3),s3 _ _ yM,P2.mp (fun _ _ h=>h.mono (Same.kt s3)) yF,Eu,bp Fd Fq,by omega,qH JX (Tj hg),by omega,dz b1 j f _ hf (by rw [Tw,hg];rfl),fun H5 s5=>?_⟩;have IG:=s5 _ _ eD;refine ⟨_,IG,aK (by rw [Te,Wa];omega),yb,aw (s3.trans s5) hD,?_⟩;rw [ab,YC,TH];rfl
def PlAt (H:Hp) (p:List Int) (b:Tn):Prop:=H b=some (.tup (p.map V.int))
theorem PlAt.mono {H H':Hp} (k:KT H H') {p:List Int} {b:Tn} (h:PlAt H p b):PlAt H' p b:=k _ _ h
theorem kT (pre:List Int):∀ (a b:List Th) (i:Int),pls pre i (a++b)=pls pre i a++pls pre (i+(a.length:Int)) b
 | [],b,i=>by rw [Vv,pls,Vv];simp
 | t::a,b,i=>by
   rw [VA,pls,pls,kT pre a b (i+1),Uy,Tx];rw [show i+1+(a.length:Int)=i+((a.length+1:Nat):Int) by omega]
def lR (ks:List Th) (i:Nat):List (List Int):=((pls [] 0 (ks.take i)).filter fun p=>p.2.isHole).map (·.1)
theorem l5 (ks:List Th):lR ks 0=[]:=by unfold lR;rw [WN,pls];rfl
theorem mv {ks:List Th} {i:Nat} {u:Th} (h:ks[i]?=some u):lR ks (i+1)=lR ks i++(cV u).map fun p=>(i:Int)::p:=by
 have hi:=(Tq.mp h).1;unfold lR cV;rw [take_snoc h,kT,XU,TH,pls,pls,Up,Ul,XI (by omega),U6];have e:=pw u [(i:Int)] [];rw [Up] at e;rw [Vv,e,List.filter_map,VE,VE];rfl
theorem sk {n:T6} {ks:List Th} (h:(Th.knot n ks).isHole=false):cV (.knot n ks)=lR ks ks.length:=by
 unfold cV lR;rw [UY (To _),Th.pl,Vz,if_neg (by rw [h];exact TV)]
theorem rH:cV hole=[[]]:=by
 unfold cV;rw [hole,Th.pl,pls,Vz,if_pos (by exact fR)];rfl
inductive gg (K:Tg) (n:Nat) (vs:List V) (H:Hp) (Q:VK) (_E:XK):Prop
 | mk (a:Tn) (t:Th) (outs:List (T6×Int)) (x9:vs=[.ref a]) (ya:AtK K H t a) (ye:Th.Fo outs t) (yj:t.tall<=n) (yz:t.size<=1000) (y9:∀ (r:Tn) (bs:List Tn) (H':Hp),L2.Same H H'->H r=none->H' r=some (.lst (bs.map V.ref))->Ud (PlAt H') (cV t) bs->Q (.ref r) H'):gg K n vs H Q _E
def lL (K:Tg) (n:Nat):Sp:=gg K n
set_option maxHeartbeats 1000000 in
theorem eE:∀ n:Nat,bn P w K mg base CX0 n T.g__law_holes.f T.g__law_holes.d ["front"] (lL K n)
 | 0=>⟨fun _ _ _ _ h=>by obtain ⟨_,t,_,_,_,_,h1,_⟩:=h;have:=t.tall_eq;omega,fun _ _ _ _ _ _ _ _ _ _ _ _ _ h=>by obtain ⟨_,t,_,_,_,_,h1,_⟩:=h;have:=t.tall_eq;omega⟩
 | n+1=>by
   have ih:=eE n;refine T.g__law_holes.F.ok de (fun vs H Q E h=>?_) (fun xW A outer s H vs Q E hr h=>?_)
   · obtain ⟨a,t,outs,rfl,_⟩:=h;rfl
   obtain ⟨a,t,outs,rfl,hA,hF,yy,hsz,q⟩:=h
   refine ⟨_,(ae (bm (aJ cj (av aA (pv 0) af (fun _ _=>rfl)) eA (aO _)) (ag (aC (bV (aa (aB ac) ac)))) ba)
    (ae (ay (i:=1) de.nd rfl (TQ rfl) (bV ac))
    (ae (bt T9 rfl (i6 rfl T.n_range (aa af (aa (ax ao rfl T.n_len T7 (aa (pv 0) ac)) ac))) (aj (i:=2) de.nd rfl (X8 rfl)) (ag (ay (i:=1) de.nd rfl (TQ rfl) (aE vE (pv 1) (cv (N:=[Tu "place",Tu "k"]) (js:=[none,some 2]) (g:=(aH 0)) (tt:=bG) (te:=(tOp (lW K) (km (bq (tOp (rI0 fun i j=>.int (i - j)) (bw 1) (tC (.int 1))) dW)) (bw 0))) rfl (cJ rfl (by decide +kernel) (by decide +kernel) rfl rfl rfl) (cw (iH (ih) (hr.mono (To _)) rfl T.g__law_holes.m T.g__law_holes.F.kp T.g__law_holes.b .nil nW (aa (av aA (pv 0) (pv 2) (fun _ _=>rfl)) ac))) (fun _ _ _ _ _ _=>(aj (i:=0) wK rfl (TQ rfl))) (aV rfl) (fun _ _ _ _ _ _=>bR) (fun _ _ _ _ _ _=>(aE d4 (aB (aa (aE gb (pv 1) af) ac)) (pv 0))))))))
    (ag (aC (pv 1)))))),?_⟩
   try dsimp only [ym,xR]
   cases t with
   | call s k=>rw [Th.Fo] at hF;exact hF.elim
   | knot nm ks =>
   have CK:=hA;rw [AtK] at hA;refine hid fun ZZ kZ=>?_;obtain ⟨JW,yk,ea,yL⟩:=hA;refine kZ ?_;have zo:yk.length=ks.length:=yL.length;have D2:=bS ks;rw [Th.size] at hsz;rw [Th.tall] at yy;refine ⟨_,rfl,a,_,0,.str nm,rfl,rfl,ea.sq,at0,rfl,_,rfl,?_⟩;rw [Th.Fo] at hF;refine cy (fun c1=>?_) (fun c1=>?_)
   · have yG:nm=star:=V.str.inj (of_decide_eq_true c1);rcases hF with ⟨_,rfl⟩ | ⟨_,h,_⟩
     · refine ⟨ai (by show 0<=1000000;decide),fun ep RL=>?_⟩;refine ⟨ai (by show 1<=1000000;decide),fun fl zZ=>?_⟩;have s1:L2.Same H (upd H ep (.tup [])):=ad RL _;have s2:=ad zZ (.lst [.ref ep]);refine q fl [ep] _ (s1.trans s2) (s1.free zZ) ab ?_;rw [yG];show Ud _ (cV hole) _;rw [rH];exact .cons (s2 _ _ ab) .nil
     · exact absurd yG h
   rcases hF with ⟨h,_⟩ | ⟨Bl,CF,RM⟩
   · exact absurd (by rw [h];exact decide_eq_true rfl) c1
   have Co:(Th.knot nm ks).isHole=false:=by rw [Th.isHole,decide_eq_false_iff_not];exact fun z=>CF z.1
   refine ⟨ai (by show 0<=1000000;decide),fun fl zZ=>?_⟩;have s2:L2.Same H (upd H fl (.lst [])):=ad zZ _;have e2:(upd H fl (.lst [])) fl=some (.lst (([]:List Tn).map V.ref)):=ab
   try dsimp only [aH]
   generalize (upd H fl (.lst []))=H2 at s2 e2 ⊢;refine ⟨_,rfl,a,_,rfl,.inr ((ea.mono (Same.kt s2)).sq),1,_,rfl,⟨by decide,by decide,by rw [Tx,Te];omega,by rw [Tx,Te];omega⟩,?_⟩;have RN:((((V.str nm::yk.map V.ref).length:Nat):Int) - 1).toNat=ks.length:=by rw [Tx,Te];omega
   rw [RN]
   refine bT (n:=ks.length) (fun i σ H3=>Ex3 fun (kv:Option V) (fl:Tn) (bs:List Tn)=>An6 (σ=[some (.ref a),some (.ref fl),kv]) (L2.Same H H3) (H fl=none) (H3 fl=some (.lst (bs.map V.ref))) (Ud (PlAt H3) (lR ks i) bs) ((lR ks i).length<=aq (ks.take i)))
    ⟨none,fl,[],rfl,s2,zZ,e2,by rw [l5];exact .nil,by rw [l5];exact T4 _⟩ ?_ ?_
   · rintro i σ H3 hi ⟨kv,fl,bs,rfl,s3,O0,e3,yB,ze⟩;have yq:i<ks.length:=hi;have Js:=ea.mono (Same.kt s3);refine hid fun ZZ kZ=>?_;obtain ⟨u,hu⟩:∃ u,ks[i]?=some u:=⟨_,Ti yq⟩;obtain ⟨ka,zp,MT⟩:=yL.at hu;refine kZ ?_;have MU:=Tj hu;have Lc:=bv MU;have S3:=aG MU
     have yG:aq (ks.take i)+u.size<=aq ks:=by
      have h1:aq (ks.take (i+1))+aq (ks.drop (i+1))=aq ks:=by rw [<- b8,List.take_append_drop]
      rw [take_snoc hu,b8,aq,aq] at h1;omega
     refine ⟨_,rfl,_,rfl,_,rfl,a,_,_,.ref ka,rfl,rfl,Js.sq,at_nonneg (by omega) (by rw [show (1+(i:Int)).toNat=i+1 by omega,UH,Tw,zp];rfl),ka,u,outs,rfl,MT.mono (Same.kt s3),gJ RM MU,by omega,by omega,fun r BV H4 s4 nr er IH=>?_⟩;have MV:(cV u).length=BV.length:=TB IH;have zN:(lR ks i).length=bs.length:=TB yB;have NS:=lu u;refine ⟨r,rfl,⟨_,SqL.of er⟩,jS (F:=PlAt) (xs:=BV.map V.ref) ((cV u).map fun p=>(i:Int)::p) (fun H1 H2 z p kt h=>h.mono kt) (by rw [Te,Te];exact MV) (by rw [Te];omega) (fun j Hx sx hj=>⟨_,_,SqL.of (sx _ _ er),Ti hj⟩) (fun Hx sx=>⟨_,SqL.of (sx _ _ er),To _⟩) (fun j Hx x Hy sx hj hy=>⟨hy.1,hy.2 _ (SqL.of (sx _ _ er))⟩) (fun j x z Hx R W' hx Bc sx hR=>?_) (fun D H5 Fu hD s5 eD BQ=>?_)⟩
     · obtain ⟨pb,rfl,Dn⟩:=aZ hx;rw [Tw] at Bc;obtain ⟨p,hp,rfl⟩:=T8.mp Bc;have RO:PlAt Hx p pb:=(nL IH hp Dn).mono (Same.kt sx);obtain ⟨v,Fp,JV⟩:=kz.mp (Tj hp);have II:=ol _ u [] (To _) _ (In.to Fp);have RP:=jr u;rw [Wi] at II;dsimp only at II;refine ⟨_,rfl,_,_,rfl,rfl,ai (by show 1<=1000000;decide),fun k1 Il=>?_⟩;have t1:L2.Same Hx (upd Hx k1 (.tup [.int (1+(i:Int) - 1)])):=ad Il _;have f1:(upd Hx k1 (.tup [.int (1+(i:Int) - 1)])) k1=some (.tup [.int (i:Int)]):=by rw [ab,show 1+(i:Int) - 1=(i:Int) by omega]
       try dsimp only
       generalize (upd Hx k1 (.tup [.int (1+(i:Int) - 1)]))=Hy at t1 f1 ⊢;refine ⟨_,rfl,?_⟩;refine oK f1 (t1 _ _ RO) (by rw [Te];show 1+p.length<=1000000;omega) fun p3 H7 s7 e7=>?_;exact hR H7 p3 (t1.trans s7) e7
     have Fv:((cV u).map fun p=>(i:Int)::p).length=Fu.length:=TB BQ;rw [Te] at Fv;have RQ:=(s4.trans s5) _ _ e3;refine ⟨fl,D,_,_,rfl,rfl,RQ,eD,ai (by rw [Te,Te];omega),fun nl Dt=>?_⟩;have s6:L2.Same H5 (upd H5 nl (.lst (bs.map V.ref++Fu.map V.ref))):=ad Dt _;have O1:=s4.trans (s5.trans s6);refine ⟨_,nl,bs++Fu,rfl,s3.trans O1,(s3.trans (s4.trans s5)).free Dt,by rw [ab,TH],?_,?_⟩
     · rw [mv hu];exact P2.append (P2.mp (fun _ _ e=>PlAt.mono (Same.kt O1) e) yB) (P2.mp (fun _ _ e=>PlAt.mono (Same.kt s6) e) BQ)
     · rw [mv hu,TZ,Te,take_snoc hu,b8,aq,aq];omega
   · rintro σ H3 ⟨kv,fl,bs,rfl,s3,O0,e3,yB,ze⟩;rw [<- sk Co] at yB;exact ⟨_,rfl,q fl bs H3 s3 O0 e3 yB⟩
def FrL (K:Tg) (H:Hp) (N:Nat) (fr:Nat->Th) (fl:Tn) (fs:List Tn):Prop:=H fl=some (.lst (fs.map V.ref))/\Ud (fun s a=>AtK K H (fr s) a) (Ue N) fs
inductive cE (K:Tg) (vs:List V) (H:Hp) (Q:VK) (_E:XK):Prop
 | mk (b fl:Tn) (ins outs:List (T6×Int)) (head:Th) (rows:List (List Th)) (fs:List Tn) (fr:Nat->Th) (x9:vs=[.ref b,.ref fl]) (ya:Bk H ins outs head rows b) (ye:FrL K H rows.length fr fl fs) (yj:(∀ s<rows.length,Th.Fo outs (fr s)/\(fr s).size<=200/\(fr s).tall<=25)) (yz:rows.length<=20) (y9:∀ H',L2.Same H H'->Q (.bl true) H'):cE K vs H Q _E
def fP (K:Tg):Sp:=cE K
set_option maxHeartbeats 1000000 in
theorem fN:bn P w K mg base CX0 31 T.g__law_fronts_formed.f T.g__law_fronts_formed.d ["book","fronts"] (fP K):=by
 refine T.g__law_fronts_formed.F.ok fO (fun vs H Q E h=>?_) (fun xW A outer s H vs Q E hr h=>?_)
 · obtain ⟨b,fl,ins,outs,head,rows,fs,fr,rfl,_⟩:=h;rfl
 obtain ⟨b,fl,ins,outs,head,rows,fs,fr,rfl,hB,⟨yM,yF⟩,BF,hle,k⟩:=h;refine hid fun ZZ kZ=>?_;obtain ⟨ia,oa,ha,ra,xU,yE,yx,hB⟩:=hB;refine kZ ?_
 refine ⟨_,(ae (bm (PW.pt (cR (cW (aS (ax (cD (T:="list")) rfl T.n_isinstance UW (aa (pv 1) (aa (ef (v:=.ty "list") rfl T.n_list Xm rfl) ac))) (fun _=>rfl))) (cL (aJ my (ax ao rfl T.n_len T7 (aa (pv 1) ac)) (ax ao rfl T.n_len T7 (aa (av aA (pv 0) af (fun _ _=>rfl)) ac)) (aO _))))) (ag (aC cS)) ba)
  (ag (aC (ax (ko rfl) rfl T.n_all Yx (aa (cv (N:=[Tu "front",Tu "book"]) (js:=[none,some 0]) (g:=(aH 0)) (tt:=bG) (te:=(fU (cX K _) [] E0 (bq (tOp (tO K) (bw 1) (tC (.int 1))) (bq (bw 0) dW)))) rfl (cJ rfl (by decide +kernel) (by decide +kernel) rfl rfl rfl) (cw (pv 1)) (fun _ _ _ _ _ _=>(aj (i:=0) wF rfl (TQ rfl))) (aV rfl) (fun _ _ _ _ _ _=>bR) (fun _ _ _ _ _ _=>(pcF T.g__law_is_front (eP T 30) hr (aa (av aA (pv 1) af (fun _ _=>rfl)) (aa (pv 0) ac))))) ac))))),?_⟩
 try dsimp only [ym,xR]
 have Cq:rows.length=yx.length:=TB hB.rw;have zZ:(Ue rows.length).length=fs.length:=TB yF;rw [Uh] at zZ;refine ⟨_,rfl,_,_,_,rfl,.lst yM,pZ,_,rfl,?_⟩;refine cM ?_;refine ⟨_,rfl,fl,_,rfl,.inl (SqL.of yM),_,rfl,b,_,3,.ref ra,rfl,rfl,SqT.of hB.bk,at_nonneg (by decide) rfl,ra,_,rfl,.inr (SqT.of hB.rl),rfl,_,rfl,?_⟩;have hlen:(fs.map V.ref).length=(yx.map V.ref).length:=by rw [Te,Te];omega
 refine cy (fun c4=>by rw [hlen,decide_eq_true rfl] at c4;cases c4) (fun c4=>?_);refine ⟨_,rfl,fl,rfl,⟨_,SqL.of yM⟩,fun D hD=>?_⟩;refine ⟨rows.length,fun j H3=>An3 (j<=rows.length) (L2.Same H H3) (H3 D=some (.lst ((U0 j true).map V.bl))),⟨T4 _,ad hD _,ab⟩,?_⟩;rintro j H3 ⟨hj,s3,eD⟩;by_cases AN:j=rows.length
 · left;refine ⟨⟨_,SqL.of (s3 _ _ yM),by rw [Te];omega⟩,?_⟩;refine ⟨D,U0 j true,rfl,SqL.of eD,?_⟩;rw [show (U0 j true).all id=true from V4.mpr fun b hb=>(YV.mp hb).2];exact k H3 s3
 · right;have yb:j<rows.length:=by omega
   refine hid fun ZZ kZ=>?_;obtain ⟨fa,yt⟩:∃ fa,fs[j]?=some fa:=⟨_,Ti (by omega)⟩;obtain ⟨s',yA,zx⟩:=P2.get' yF yt;rw [Uv yb] at yA;cases yA;obtain ⟨z1,z2,z3⟩:=BF j yb;refine kZ ?_;refine ⟨yb,⟨_,.ref fa,SqL.of (s3 _ _ yM),by rw [Tw,yt];rfl⟩,?_⟩;rintro x' H4 ⟨zE,hv⟩;have Fs:H4=H3:=zE;subst Fs;have yN:=hv _ (SqL.of (s3 _ _ yM));rw [Tw,yt] at yN;cases yN;refine ⟨_,rfl,b,_,1,.ref oa,rfl,rfl,SqT.of (s3 _ _ hB.bk),at1,_,rfl,oa,fa,yE,outs,fr j,rfl,s3 _ _ hB.outE,hB.outK.mono (Same.kt s3),zx.mono (Same.kt s3),z1,by omega,(by show _<=29+1;omega),fun H5 s5=>?_⟩;have IG:=s5 _ _ eD;refine ⟨_,IG,aK (by rw [Te,Wa];omega),yb,aw (s3.trans s5) hD,?_⟩;rw [ab,YC,TH];rfl
inductive fH (K:Tg) (vs:List V) (H:Hp) (Q:VK) (_E:XK):Prop
 | mk (b fl:Tn) (ins outs:List (T6×Int)) (head:Th) (rows:List (List Th)) (fs:List Tn) (fr:Nat->Th) (x9:vs=[.ref b,.ref fl]) (ya:Bk H ins outs head rows b) (ye:FrL K H rows.length fr fl fs) (yj:(∀ s<rows.length,(fr s).noCall/\(fr s).size<=200/\(fr s).tall<=25)) (yz:rows.length<=20) (y9:(∀ row∈rows,row.length<=1000)) (Bm:(∀ (s:Nat) (row:List Th),rows[s]?=some row->∀ p∈row,Th.CR rows.length p/\(fr s).lies (p.fill fun l _=>fr l.toNat)=true)) (BM:∀ H',L2.Same H H'->Q (.bl true) H'):fH K vs H Q _E
def ll (K:Tg):Sp:=fH K
set_option maxHeartbeats 1000000 in
theorem kG:bn P w K mg base CX0 61 T.g__law_closed.f T.g__law_closed.d ["book","fronts"] (ll K):=by
 refine T.g__law_closed.F.ok dE (fun vs H Q E h=>?_) (fun xW A outer s H vs Q E hr h=>?_)
 · obtain ⟨b,fl,ins,outs,head,rows,fs,fr,rfl,_⟩:=h;rfl
 obtain ⟨b,fl,ins,outs,head,rows,fs,fr,rfl,hB,⟨yM,yF⟩,BF,hle,S4,MW,k⟩:=h;refine hid fun ZZ kZ=>?_;obtain ⟨ia,oa,ha,ra,xU,yE,yx,hB⟩:=hB;refine kZ ?_
 refine ⟨_,(ae (bt T9 rfl (bx rfl T.n_range (aa (ax ao rfl T.n_len T7 (aa (pv 1) ac)) ac)) (aj (i:=2) dE.nd rfl (TQ rfl)) (ag (bt T9 rfl (ja (av aA (av aA (pv 0) af (fun _ _=>rfl)) (pv 2) (fun _ _=>rfl))) (aj (i:=3) dE.nd rfl (TQ rfl)) (ag (bm (cW (aS (pcF T.g__law_lies (iT T 60) hr (aa (av aP (pv 1) (pv 2) (fun _ _=>rfl)) (aa (pv 3) (aa (pv 1) ac)))) (fun _=>rfl))) (ag (aC cS)) ba)))))
  (ag (aC cS))),?_⟩
 try dsimp only [ym,xR]
 have Cq:rows.length=yx.length:=TB hB.rw;have zZ:(Ue rows.length).length=fs.length:=TB yF;rw [Uh] at zZ;refine ⟨_,rfl,fl,_,rfl,.inl (SqL.of yM),_,rfl,by omega,by rw [Te];omega,?_⟩;refine bT (n:=(((fs.map V.ref).length:Nat):Int).toNat) (fun i σ H3=>Ex2 fun (c2 c3:Option V)=>An2 (σ=[some (.ref b),some (.ref fl),c2,c3]) (L2.Same H H3)) ⟨none,none,rfl,.refl _⟩ ?_ ?_
 · rintro i σ H3 hi ⟨c2,c3,rfl,s3⟩
   have yq:i<rows.length:=by
    have h1:i<(((fs.map V.ref).length:Nat):Int).toNat:=hi;rw [Te] at h1;omega
   refine hid fun ZZ kZ=>?_;obtain ⟨row,xO⟩:∃ row,rows[i]?=some row:=⟨_,Ti yq⟩;obtain ⟨yT,zr,E3,CM,Ak⟩:=P2.get hB.rw xO;obtain ⟨fa,yt⟩:∃ fa,fs[i]?=some fa:=⟨_,Ti (by omega)⟩;obtain ⟨s',yA,zx⟩:=P2.get' yF yt;rw [Uv yq] at yA;cases yA;obtain ⟨z1,z2,z3⟩:=BF i yq;refine kZ ?_;have ze:=Ak.length;refine ⟨_,rfl,b,_,3,.ref ra,rfl,rfl,SqT.of (s3 _ _ hB.bk),at_nonneg (by decide) rfl,_,rfl,ra,_,_,.ref yT,rfl,rfl,SqT.of (s3 _ _ hB.rl),at_nonneg (by omega) (by rw [show (0+(i:Int)).toNat=i by omega,Tw,zr];rfl),yT,rfl,⟨_,SqT.of (s3 _ _ CM)⟩,?_⟩;refine um (K:=K) (a:=yT) (xs:=E3.map V.ref) (fun j σ H4=>Ex1 fun (c3:Option V)=>An2 (σ=[some (.ref b),some (.ref fl),some (.int (0+(i:Int))),c3]) (L2.Same H H4)) ⟨_,rfl,s3⟩ (fun j σ H4 _ ⟨_,_,s4⟩=>SqT.of (s4 _ _ CM)) ?_ ?_
   · rintro j y σ H4 hy ⟨c3,rfl,s4⟩;refine hid fun ZZ kZ=>?_;obtain ⟨pa,rfl,AI⟩:=aZ hy;obtain ⟨p,hp,Fw⟩:=Ak.get AI;obtain ⟨y1,y2⟩:=MW i row xO p (Tj hp);refine kZ ?_;have h3:=qF p;refine ⟨_,rfl,_,rfl,fl,_,_,.ref fa,rfl,rfl,SqL.of (s4 _ _ yM),at_nonneg (by omega) (by rw [show (0+(i:Int)).toNat=i by omega,Tw,yt];rfl),_,rfl,_,rfl,?_⟩;refine ⟨fa,pa,fl,fr i,p,fs,rows.length,fr,rfl,zx.mono (Same.kt s4),(Fw.mono (Same.kt s4)).k,s4 _ _ yM,P2.mp (fun _ _ h=>h.mono (Same.kt s4)) yF,fun s hs=>(BF s hs).1,z1,by omega,y1,(by show _<=59+1;omega),y2,fun H5 s5=>⟨_,rfl,?_⟩⟩;exact cM ⟨_,rfl,s4.trans s5⟩
   · rintro σ H4 ⟨c3,rfl,s4⟩;exact ⟨_,_,rfl,s4⟩
 · rintro σ H3 ⟨c2,c3,rfl,s3⟩;exact k H3 s3
inductive eW (vs:List V) (H:Hp) (Q:VK) (_E:XK):Prop
 | mk (b ta pa:Tn) (s:Int) (ins outs:List (T6×Int)) (head:Th) (rows:List (List Th)) (t:Th) (pl:List Int) (m:T6) (x9:vs=[.ref b,.int s,.ref ta,.ref pa]) (ya:Bk H ins outs head rows b) (ye:cf ins) (yj:At H t ta) (yz:H pa=some (.tup (pl.map V.int))) (y9:pl.length<=1000) (Bm:qa ins rows s t pl m) (BM:∀ H',L2.Same H H'->Q (.str m) H'):eW  vs H Q _E
def jL:Sp:=eW
def NmI (ins:List (T6×Int)) (rows:List (List Th)) (b pa nl:Tn) (s:Int) (pl:List Int) (m:T6) (H:Hp) (n:Nat) (σ:St) (H3:Hp):Prop:=∃ (ta ha:Tn) (at':Nat) (p t:Th),σ=[some (.ref b),some (.int s),some (.ref ta),some (.ref pa),some (.ref nl),some (.ref ha),some (.int (at':Nat))]/\H3=H/\At H p ha/\At H t ta/\at'<=pl.length/\NmAt ins rows n p t (pl.drop at') m
set_option maxHeartbeats 1000000 in
theorem fL:bn P w K mg base CX0 1 T.g__law_name_at.f T.g__law_name_at.d ["book","state","tree","place"] jL:=by
 refine T.g__law_name_at.F.ok bg (fun vs H Q E h=>?_) (fun xW A outer s0 H vs Q E hr h=>?_)
 · obtain ⟨b,ta,pa,s,ins,outs,head,rows,t,pl,m,rfl,_⟩:=h;rfl
 obtain ⟨b,ta,pa,s,ins,outs,head,rows,t,pl,m,rfl,hB,g,zH,AJ,ze,JW,q⟩:=h;refine hid fun ZZ kZ=>?_;obtain ⟨ia,oa,ha,ra,xU,yE,yx,bk⟩:=hB;refine kZ ?_
 refine ⟨_,(ae (gF (i:=4) (N:=[Tu "kind"]) (js:=[none]) (g:=(aH 0)) (tt:=bG) (te:=(tOp (tO K) (bw 0) (tC (.int 0)))) bg.nd rfl (TQ rfl) rfl (cJ rfl (by decide +kernel) (by decide +kernel) rfl rfl rfl) (ja (av aA (pv 0) af (fun _ _=>rfl))) (fun _ _ _ _ _ _=>(aj (i:=0) wA rfl (TQ rfl))) (aV rfl) (fun _ _ _ _ _ _=>bR) (fun _ _ _ _ _ _=>(av aA (pv 0) af (fun _ _=>rfl))))
  (ae (ay (i:=5) bg.nd rfl (TQ rfl) (av aA (av aA (av aA (pv 0) af (fun _ _=>rfl)) (pv 1) (fun _ _=>rfl)) (bW TL Wv Yg me (pv 4) (aa (av aA (pv 2) af (fun _ _=>rfl)) ac)) (fun _ _=>rfl)))
  (ae (ay (i:=6) bg.nd rfl (TQ rfl) af)
  (ae (dL T9 (PW.pt (cR (aJ cj (av aA (pv 5) af (fun _ _=>rfl)) eA (aO _)) (cL (aJ nX (pv 6) (ax ao rfl T.n_len T7 (aa (pv 3) ac)) (aO _))))) (ag (bm (aJ cj (av aA (pv 5) af (fun _ _=>rfl)) eA (aO _)) (ae (ay (i:=2) bg.nd rfl (TQ rfl) (av aA (pv 2) (aE cr af (av aA (pv 5) af (fun _ _=>rfl))) (fun _ _=>rfl)))
  (ag (ay (i:=5) bg.nd rfl (TQ rfl) (av aA (av aA (av aA (pv 0) af (fun _ _=>rfl)) (av aA (pv 5) af (fun _ _=>rfl)) (fun _ _=>rfl)) (bW TL Wv Yg me (pv 4) (aa (av aA (pv 2) af (fun _ _=>rfl)) ac)) (fun _ _=>rfl))))) (ag (bm (aJ nX (av aA (pv 3) (pv 6) (fun _ _=>rfl)) (aE gb (ax ao rfl T.n_len T7 (aa (pv 5) ac)) af) (aO _)) (ae (ay (i:=5) bg.nd rfl (TQ rfl) (av aA (pv 5) (aE cr af (av aA (pv 3) (pv 6) (fun _ _=>rfl))) (fun _ _=>rfl)))
  (ag (ay (i:=6) bg.nd rfl (TQ rfl) (aE cr (pv 6) af)))) (ag (aC pS)))))))
  (ag (aC (av aA (pv 5) af (fun _ _=>rfl)))))))),?_⟩
 try dsimp only [ym,xR]
 have zW:ins.length=xU.length:=TB bk.inK;have Dg:=g.le;refine ⟨_,rfl,b,_,0,.ref ia,rfl,rfl,SqT.of bk.bk,at0,ia,rfl,⟨_,SqT.of bk.inE⟩,oW ins (fun k=>V.str k.1) (SqT.of bk.inE) (by rw [Te];exact zW) (by rw [Te];omega) (fun i x z H2 R W' hx hz s2 hR=>?_) (fun D H1 hD s1 e1=>?_)⟩
 · obtain ⟨ka,rfl,zp⟩:=aZ hx;obtain ⟨z',zz,ez⟩:=P2.get' bk.inK zp;rw [hz] at zz;cases zz;exact ⟨_,rfl,ka,_,0,.str z.1,rfl,rfl,SqT.of (s2 _ _ ez),at0,hR H2 (.refl _)⟩
 have en:ins.map (fun k=>V.str k.1)=(ins.map (·.1)).map V.str:=by rw [VE];rfl
 rw [en] at e1;refine hid fun ZZ kZ=>?_;obtain ⟨vm,vs,row,j,kd,p,n,RR,rfl,xO,hj,Bs,hp,hN⟩:=JW;have F5:=bk.mono (Same.kt s1);have IJ:=zH.mono (Same.kt s1);have DF:=s1 _ _ AJ;have IK:=IJ;rw [At] at IK;obtain ⟨OJ,bs,eta,yn⟩:=IK;obtain ⟨yT,zr,RS,MX,IL⟩:=P2.get F5.rw xO;have yD:=IL.length;have RT:=(Tq.mp hp).1;obtain ⟨O2,IM⟩:∃ a,RS[j]?=some a:=⟨_,Ti (by omega)⟩;obtain ⟨t2,DZ,MY⟩:=IL.get IM;refine kZ ?_;rw [hp] at DZ;cases DZ;refine ⟨_,rfl,b,_,3,.ref ra,rfl,rfl,SqT.of F5.bk,bK (j:=3) rfl,_,rfl,ra,_,_,.ref yT,rfl,rfl,SqT.of F5.rl,at_nonneg RR (by rw [Tw,zr];rfl),_,rfl,.inl ⟨rfl,_,SqL.of e1⟩,_,rfl,ta,_,0,.str vm,rfl,rfl,SqT.of eta,at0,D,ins.map (·.1),vm,j,rfl,rfl,SqL.of e1,by rw [Tw,hj,<- Bs];rfl,fun i hi hz=>?_,by rw [Te];omega,yT,_,(j:Int),.ref O2,rfl,rfl,SqT.of MX,bK (by rw [Tw,IM];rfl),?_⟩
 · rw [Tw] at hz;obtain ⟨k',za,e⟩:=T8.mp hz;have:=g.nd i j k' kd za hj (e.trans Bs.symm);omega
 refine ⟨NmI ins rows b pa D s pl m H1,⟨_,ta,O2,0,p,.knot vm vs,rfl,rfl,MY,IJ,T4 _,by rw [VR];exact hN⟩,?_⟩;rintro n σ H2 ⟨ta,ha,at',p,t,rfl,rfl,Fw,O3,MZ,hN⟩
 have M0:∀ (j:Int) (r:List Int),pl.drop at'=j::r->at'<pl.length/\pl[at']?=some j/\pl.drop (at'+1)=r:=fun j r e=>by
  have xV:at'<pl.length:=by
   have:=congrArg Wo e;rw [Vf,Tx] at this;omega
  rw [WY xV] at e;injection e with e1 e2;exact ⟨xV,by rw [Ti xV,e1],e2⟩
 generalize D5:pl.drop at'=dr at hN;cases hN with
 | here =>
   rename_i ks
   rw [At] at Fw;refine hid fun ZZ kZ=>?_;obtain ⟨FW,yk,eh,yL⟩:=Fw;refine kZ ?_
   have zA:at'=pl.length:=by
    have:=congrArg Wo D5;rw [Vf,Wi] at this;omega
   have JY:decide (V.str m=V.str (Tu "?"))=false:=decide_eq_false fun z=>FW (V.str.inj z);refine ⟨_,rfl,ha,_,0,.str m,rfl,rfl,SqT.of eh,at0,rfl,_,rfl,?_⟩;rw [JY];refine cM ?_;refine ⟨_,rfl,_,rfl,pa,_,rfl,.inr (SqT.of DF),_,_,rfl,rfl,_,rfl,?_⟩;rw [Te,zA,decide_eq_false (by omega)];refine cM ?_;exact ⟨_,rfl,ha,_,0,.str m,rfl,rfl,SqT.of eh,at0,q _ s1⟩
 | step hu hN =>
   rename_i n nm ks j u r
   rw [At] at Fw;refine hid fun ZZ kZ=>?_;obtain ⟨FW,yk,eh,yL⟩:=Fw;obtain ⟨xV,M1,M3⟩:=M0 _ _ D5;have zo:=yL.length;have Ai:=(Tq.mp hu).1;obtain ⟨ua,D9,M4⟩:=yL.at hu;refine kZ ?_;have JY:decide (V.str nm=V.str (Tu "?"))=false:=decide_eq_false fun z=>FW (V.str.inj z);refine ⟨_,rfl,ha,_,0,.str nm,rfl,rfl,SqT.of eh,at0,rfl,_,rfl,?_⟩;rw [JY];refine cM ?_;refine ⟨_,rfl,_,rfl,pa,_,rfl,.inr (SqT.of DF),_,_,rfl,rfl,_,rfl,?_⟩;rw [Te,decide_eq_true (by omega)];refine r6 ?_;refine ⟨fun xM H'=>∃ m',m'<n+1/\NmI ins rows b pa D s pl m H2 m' xM H',fun xM H' h=>h,?_⟩;refine ⟨_,rfl,ha,_,0,.str nm,rfl,rfl,SqT.of eh,at0,rfl,_,rfl,?_⟩;rw [JY];refine cM ?_;have BW:atI (pl.map V.int) ((at':Nat):Int)=some (.int (j:Int)):=bK (by rw [Tw,M1];rfl);refine ⟨_,rfl,_,rfl,pa,_,_,.int (j:Int),rfl,rfl,SqT.of DF,BW,_,rfl,ha,_,rfl,.inr (SqT.of eh),_,_,rfl,rfl,_,_,rfl,rfl,_,rfl,?_⟩;rw [Tx,Te,decide_eq_true (by omega)];refine r6 ?_;refine ⟨_,rfl,_,rfl,_,rfl,pa,_,_,.int (j:Int),rfl,rfl,SqT.of DF,BW,_,_,rfl,rfl,ha,_,_,.ref ua,rfl,rfl,SqT.of eh,at_nonneg (by omega) (by rw [show (1+(j:Int)).toNat=j+1 by omega,UH,Tw,D9];rfl),?_⟩;refine ⟨_,rfl,_,_,rfl,rfl,n,by omega,ta,ua,at'+1,u,t,by rfl,rfl,M4,O3,by omega,by rw [M3];exact hN⟩
 | call hk hs hu hr hi hn hp hN =>
   rename_i n s' k tm O4 us S5 zq i' NR p'
   have IP:=Fw;rw [At] at IP;have IQ:=O3;rw [At] at IQ;refine hid fun ZZ kZ=>?_;obtain ⟨S6,S7,et,M5⟩:=IQ;obtain ⟨va,RU,IS⟩:=M5.at hu;have Eo:=IS;rw [At] at Eo;obtain ⟨S8,S9,ev,RV⟩:=Eo;obtain ⟨Ep,Fx,M6,IT,Er⟩:=P2.get F5.rw hr;have Ta:=Er.length;have RW:=(Tq.mp hp).1;obtain ⟨O5,IU⟩:∃ a,M6[i']?=some a:=⟨_,Ti (by omega)⟩;obtain ⟨t3,O6,M7⟩:=Er.get IU;refine kZ ?_;rw [hp] at O6;cases O6;refine ⟨_,rfl,ha,_,0,.str (Tu "?"),rfl,rfl,SqT.of IP,at0,rfl,_,rfl,?_⟩;refine vk rfl ?_;refine r6 ?_;refine ⟨fun xM H'=>∃ m',m'<n+1/\NmI ins rows b pa D s pl m H2 m' xM H',fun xM H' h=>h,?_⟩;refine ⟨_,rfl,ha,_,0,.str (Tu "?"),rfl,rfl,SqT.of IP,at0,rfl,_,rfl,?_⟩;refine vk rfl ?_;refine ⟨_,rfl,_,rfl,ha,_,2,.int k,rfl,rfl,SqT.of IP,at2,_,_,rfl,rfl,ta,_,_,.ref va,rfl,rfl,SqT.of et,at_nonneg (by omega) (by rw [show (1+k).toNat=k.toNat+1 by omega,UH,Tw,RU];rfl),?_⟩;refine ⟨_,rfl,b,_,3,.ref ra,rfl,rfl,SqT.of F5.bk,bK (j:=3) rfl,_,rfl,ha,_,1,.int s',rfl,rfl,SqT.of IP,at1,ra,_,_,.ref Ep,rfl,rfl,SqT.of F5.rl,at_nonneg hs (by rw [Tw,Fx];rfl),_,rfl,.inl ⟨rfl,_,SqL.of e1⟩,_,rfl,va,_,0,.str O4,rfl,rfl,SqT.of ev,at0,D,ins.map (·.1),O4,i',rfl,rfl,SqL.of e1,by rw [Tw,hi,<- hn];rfl,fun i E1 hz=>?_,by rw [Te];omega,Ep,_,(i':Int),.ref O5,rfl,rfl,SqT.of IT,bK (by rw [Tw,IU];rfl),?_⟩
   · rw [Tw] at hz;obtain ⟨k',za,e⟩:=T8.mp hz;have:=g.nd i i' k' NR za hi (e.trans hn.symm);omega
   exact ⟨n,by omega,va,O5,at',p',_,by rfl,rfl,M7,IS,MZ,by rw [D5];exact hN⟩
def szW:List (Th×Int)->Nat
 | []=>0
 | p::ps=>p.1.size+szW ps
theorem fy:∀ a b:List (Th×Int),szW (a++b)=szW a+szW b
 | [],b=>by rw [Vv,szW];omega
 | p::a,b=>by rw [VA,szW,szW,fy a b];omega
theorem kX (d:Int):∀ ks:List Th,szW (ks.map fun t=>(t,d))=aq ks
 | []=>by rw [VO,szW,aq]
 | t::ks=>by rw [UE,szW,aq,kX d ks]
theorem qi:∀ a:List (Th×Int),a.length<=szW a
 | []=>T4 _
 | p::a=>by rw [Tx,szW];have:=qi a;have:=p.1.size_pos;omega
def WAt (H:Hp) (p:Th×Int) (a:Tn):Prop:=∃ xa,H a=some (.tup [.ref xa,.int p.2])/\At H p.1 xa
theorem WAt.mono {H H':Hp} (k:KT H H') {p:Th×Int} {a:Tn} (h:WAt H p a):WAt H' p a:=by
 obtain ⟨xa,h1,h2⟩:=h;exact ⟨xa,k _ _ h1,h2.mono k⟩
inductive eT (vs:List V) (H:Hp) (Q:VK) (_E:XK):Prop
 | mk (ia ta:Tn) (most:Int) (xU:List Tn) (ins:List (T6×Int)) (t:Th) (x9:vs=[.ref ia,.ref ta,.int most]) (ya:H ia=some (.tup (xU.map V.ref))) (ye:KsAt H ins xU) (yj:ins.length<=8) (yz:At H t ta) (y9:t.FitS ins 0 0) (Bm:(t.tall:Int)<=most) (BM:t.size<=2000) (D':∀ H',L2.Same H H'->Q (.bl true) H'):eT  vs H Q _E
def jR:Sp:=eT
def wE (ins:List (T6×Int)) (ia ta wl:Tn) (most:Int) (H:Hp) (m:Nat) (σ:St) (H3:Hp):Prop:=∃ (ws:List Tn) (Ws:List (Th×Int)) (mn:Nat) (c5 c6:Option V),σ=[some (.ref ia),some (.ref ta),some (.int most),some (.ref wl),some (.int (mn:Nat)),c5,c6]/\L2.Same H H3/\H3 wl=some (.lst (ws.map V.ref))/\Ud (WAt H3) Ws ws/\(∀ p∈Ws,p.1.FitS ins 0 0/\p.2+(p.1.tall:Int)<=most+1)/\mn+szW Ws<=2000/\m=szW Ws
set_option maxHeartbeats 1000000 in
theorem fK:bn P w K mg base CX0 1 T.g__law_is_tree.f T.g__law_is_tree.d ["ins","tree","most"] jR:=by
 refine T.g__law_is_tree.F.ok bC (fun vs H Q E h=>?_) (fun xW A outer s0 H vs Q E hr h=>?_)
 · obtain ⟨ia,ta,most,xU,ins,t,rfl,_⟩:=h;rfl
 obtain ⟨ia,ta,most,xU,ins,t,rfl,ei,Aj,Dg,zH,hf,yy,hsz,q⟩:=h
 refine ⟨_,(ae (ay (i:=3) bC.nd rfl (TQ rfl) (bV (aa (aB (aa (pv 1) (aa af ac))) ac)))
  (ae (ay (i:=4) bC.nd rfl (TQ rfl) af)
  (ae (dL T9 (aJ nT (ax ao rfl T.n_len T7 (aa (pv 3) ac)) af (aO _)) (ae (eJ (i9 TL V9 V8 jb (pv 3)) (bo rfl (au (aj (i:=5) bC.nd rfl (TQ rfl)) (au (aj (i:=6) bC.nd rfl (X8 rfl)) aY))))
  (ae (ay (i:=4) bC.nd rfl (TQ rfl) (aE cr (pv 4) af))
  (ae (bm (PW.pt (cR (cW (aS (ax (cD (T:="tuple")) rfl T.n_isinstance UW (aa (pv 5) (aa (ef (v:=.ty "tuple") rfl T.n_tuple Vx rfl) ac))) (fun _=>rfl))) (cR (aJ cj (ax ao rfl T.n_len T7 (aa (pv 5) ac)) af (aO _)) (cR (cW (aS (ax (cD (T:="str")) rfl T.n_isinstance UW (aa (av aA (pv 5) af (fun _ _=>rfl)) (aa (ef (v:=.ty "str") rfl T.n_str PyProof.Rows.boot_str rfl) ac))) (fun _=>rfl))) (cL (aJ nT (pv 6) (pv 2) (aO _))))))) (ag (aC cS)) ba)
  (ae (bm (PW.pt (cR (aJ (ml (B:=50) (qI hr)) (aB (aa (av aA (pv 5) af (fun _ _=>rfl)) (aa (aE gb (ax ao rfl T.n_len T7 (aa (pv 5) ac)) af) ac))) (pv 0) (by with_unfolding_all rfl)) (cL (aJ nT (pv 4) af (aO _))))) (ag (aC cS)) ba)
  (ag (aU (bW TL Wr Wq gC (pv 3) (aa (cv (N:=[Tu "kid",Tu "deep"]) (js:=[none,some 6]) (g:=(aH 0)) (tt:=bG) (te:=(km (bq (bw 0) (bq (tOp (rI0 fun i j=>.int (i+j)) (bw 1) (tC (.int 1))) dW)))) rfl (cJ rfl (by decide +kernel) (by decide +kernel) rfl rfl rfl) (ja (bA fz (pv 5) (bJ af) cg)) (fun _ _ _ _ _ _=>(aj (i:=0) wy rfl (TQ rfl))) (aV rfl) (fun _ _ _ _ _ _=>bR) (fun _ _ _ _ _ _=>(aB (aa (pv 0) (aa (aE cr (pv 1) af) ac))))) ac)))))))))
  (ag (aC cS))))),?_⟩
 try dsimp only [ym,xR]
 have zW:ins.length=xU.length:=TB Aj;refine ⟨_,rfl,ai (by show 2<=1000000;decide),fun p1 Bp=>?_⟩;refine ⟨ai (by show 1<=1000000;decide),fun wl A7=>?_⟩;have s1:L2.Same H (upd H p1 (.tup [.ref ta,.int 1])):=ad Bp _;have e1:(upd H p1 (.tup [.ref ta,.int 1])) p1=some (.tup [.ref ta,.int 1]):=ab;generalize (upd H p1 (.tup [.ref ta,.int 1]))=H1 at s1 e1 A7 ⊢;have Hf:H wl=none:=s1.free A7;have s2:L2.Same H1 (upd H1 wl (.lst [.ref p1])):=ad A7 _;have e2:(upd H1 wl (.lst [.ref p1])) wl=some (.lst ([p1].map V.ref)):=ab
 try dsimp only [aH]
 generalize (upd H1 wl (.lst [.ref p1]))=H2 at s2 e2 ⊢;have yO:=s1.trans s2;refine ⟨wE ins ia ta wl most H,⟨_,[p1],[(t,1)],0,none,none,rfl,yO,e2,.cons ⟨ta,s2 _ _ e1,zH.mono (Same.kt yO)⟩ .nil,fun p hp=>by rw [TY.mp hp];exact ⟨hf,by dsimp only;omega⟩,by rw [szW,szW];dsimp only;omega,rfl⟩,?_⟩;rintro m σ H3 ⟨ws,Ws,mn,c5,c6,rfl,s3,ew,O7,hW,Jj,rfl⟩;have Tb:Ws.length=ws.length:=TB O7;refine ⟨_,rfl,wl,_,rfl,.inl (SqL.of ew),_,_,rfl,rfl,_,rfl,?_⟩;refine cy (fun c=>?_) (fun c=>?_)
 · refine ⟨fun xM H'=>∃ m',m'<szW Ws/\wE ins ia ta wl most H m' xM H',fun xM H' h=>h,?_⟩;have yS:ws≠[]:=by intro z;subst z;simp at c
   refine hid fun ZZ kZ=>?_;obtain ⟨Bf,b,rfl⟩:∃ xY b,ws=xY++[b]:=⟨ws.dropLast,ws.getLast yS,(Vw yS).symm⟩;obtain ⟨Us,⟨x,d⟩,rfl,a3,xa,eb,Jx⟩:=P2.snoc_inv O7;dsimp only at eb Jx;have C5:szW (Us++[(x,d)])=szW Us+x.size:=by rw [fy,szW,szW];rfl
   rw [C5] at Jj;obtain ⟨M8,O8⟩:=hW (x,d) (by simp);refine kZ ?_;dsimp only at M8 O8;have N':Us.length=Bf.length:=TB a3;have q4:Us.length<=szW Us:=qi Us;refine ⟨_,rfl,.inl ⟨rfl,_,SqL.of ew⟩,wl,_,.ref b,rfl,rfl,ew,by simp,?_⟩;have d1:((Bf++[b]).map V.ref).dropLast=Bf.map V.ref:=by simp
   rw [d1];have k1:KT H3 (upd H3 wl (.lst (Bf.map V.ref))):=aT ew;have BN:L2.Same H (upd H3 wl (.lst (Bf.map V.ref))):=aw s3 Hf;have M9:(upd H3 wl (.lst (Bf.map V.ref))) wl=some (.lst (Bf.map V.ref)):=ab;generalize (upd H3 wl (.lst (Bf.map V.ref)))=H4 at k1 BN M9 ⊢;refine ⟨b,_,rfl,SqT.of (k1 _ _ eb),rfl,_,_,rfl,_,_,rfl,rfl,?_⟩
   try dsimp only [aH]
   cases x with
   | call u v=>rw [Th.FitS] at M8;omega
   | knot nm ks =>
   have IV:=Jx.mono k1;rw [At] at IV;refine hid fun ZZ kZ=>?_;obtain ⟨FW,yk,ex,yL⟩:=IV;refine kZ ?_;have zo:yk.length=ks.length:=yL.length;have Jt:=bS ks;rw [Th.size] at Jj C5;rw [Th.tall] at O8;have Fy:=M8;rw [Th.FitS] at Fy;have el:(((V.str nm::yk.map V.ref).length:Nat):Int)=(ks.length:Int)+1:=by rw [Tx,Te,zo];omega
   refine ⟨_,rfl,_,_,rfl,rfl,?_⟩
   try dsimp only [aH]
   refine ⟨_,rfl,_,_,_,rfl,.tup ex,pB,_,rfl,?_⟩;refine cM ?_;refine ⟨_,rfl,xa,_,rfl,.inr (SqT.of ex),rfl,_,rfl,?_⟩;rw [el,decide_eq_false (show V.int ((ks.length:Int)+1)≠V.int 0 from fun z=>by have:=V.int.inj z;omega)];refine cM ?_;refine ⟨_,rfl,xa,_,0,.str nm,rfl,rfl,SqT.of ex,at0,_,_,_,rfl,.str nm,tq,_,rfl,?_⟩;refine cM ?_;refine ⟨_,rfl,_,rfl,_,_,rfl,rfl,_,rfl,?_⟩;rw [decide_eq_false (by omega)];refine cM ?_
   -- Ap kind
   refine ⟨_,rfl,xa,_,0,.str nm,rfl,rfl,SqT.of ex,at0,_,rfl,xa,_,rfl,.inr (SqT.of ex),_,_,rfl,rfl,ai (by show 2<=1000000;decide),fun p hp=>?_⟩;rw [el];have C0:(ks.length:Int)+1 - 1=(ks.length:Int):=by omega
   dsimp only;rw [C0];have s5:L2.Same H4 (upd H4 p (.tup [.str nm,.int (ks.length:Int)])):=ad hp _;have e5:(upd H4 p (.tup [.str nm,.int (ks.length:Int)])) p=some (.tup [.str nm,.int (ks.length:Int)]):=ab;generalize (upd H4 p (.tup [.str nm,.int (ks.length:Int)]))=H5 at s5 e5 ⊢;have Bs:=kE ins;have Cr:=BN.trans s5;refine ⟨_,rfl,ia,_,kDv (nm,(ks.length:Int)),ins.map kDv,rfl,SqT.of (Cr _ _ ei),?_,sH (Aj.mono (Same.kt Cr)),by omega,fun r zQ=>⟨_,rfl,?_⟩⟩
   · rw [kDv,DAt];exact ⟨_,_,rfl,e5,.cons (by rw [DAt]) (.cons (by rw [DAt]) .nil)⟩
   have MR:r=false:=by
    cases r with
    | false=>rfl
    | true=>exact absurd (List.mem_map_of_mem Fy.1) (zQ.mp rfl)
   subst MR;refine cM ?_;refine ⟨_,rfl,_,_,rfl,rfl,_,rfl,?_⟩;rw [decide_eq_false (by omega)];refine cM ?_
   -- kids
   refine ⟨_,rfl,.inl ⟨rfl,_,SqL.of (s5 _ _ M9)⟩,_,rfl,1,rfl,xa,_,rfl,SqT.of (s5 _ _ ex),?_,fun p3 HU=>?_⟩
   · rintro ⟨z,_⟩;rw [Tx,show (1:Int)=((1:Nat):Int) by rfl,HT.sIx_nat] at z;omega
   dsimp only;rw [eQ];have s6:L2.Same H5 (upd H5 p3 (.tup (yk.map V.ref))):=ad HU _;have e6:(upd H5 p3 (.tup (yk.map V.ref))) p3=some (.tup (yk.map V.ref)):=ab;generalize (upd H5 p3 (.tup (yk.map V.ref)))=H6 at s6 e6 ⊢;refine ⟨p3,rfl,⟨_,SqT.of e6⟩,jS (F:=WAt) (xs:=yk.map V.ref) (ks.map fun t=>(t,d+1)) (fun H1 H2 z p kt h=>h.mono kt) (by rw [Te,Te];omega) (by rw [Te];omega) (fun j Hx sx hj=>⟨_,_,SqT.of (sx _ _ e6),Ti hj⟩) (fun Hx sx=>⟨_,SqT.of (sx _ _ e6),To _⟩) (fun j Hx x Hy sx hj hy=>⟨hy.1,hy.2 _ (SqT.of (sx _ _ e6))⟩) (fun j x z Hx R W' hx Bc sx hR=>?_) (fun D H7 Fu hD s7 eD BQ=>?_)⟩
   · obtain ⟨ka,rfl,zp⟩:=aZ hx;rw [Tw] at Bc;obtain ⟨u,hu,rfl⟩:=T8.mp Bc;obtain ⟨u',zf,MT⟩:=yL.get zp;rw [hu] at zf;cases zf;refine ⟨_,rfl,_,rfl,_,_,rfl,rfl,ai (by show 2<=1000000;decide),fun p4 MA=>?_⟩;have s8:=ad MA (.tup [.ref ka,.int (d+1)]);exact hR _ p4 s8 ⟨ka,ab,MT.mono (Same.kt (s5.trans (s6.trans (sx.trans s8))))⟩
   · have Fv:(ks.map fun t=>(t,d+1)).length=Fu.length:=TB BQ;rw [Te] at Fv;have O9:=(s5.trans (s6.trans s7)) _ _ M9;refine ⟨wl,D,_,_,rfl,rfl,O9,eD,ai (by rw [Te,Te];omega),?_⟩;have k8:KT H7 (upd H7 wl (.lst (Bf.map V.ref++Fu.map V.ref))):=aT O9;refine ⟨szW (Us++ks.map fun t=>(t,d+1)),by rw [fy,kX,C5];omega,Bf++Fu,Us++ks.map (fun t=>(t,d+1)),mn+1,_,_,rfl,aw (BN.trans (s5.trans (s6.trans s7))) Hf,by rw [ab,TH],?_,fun p' yQ=>?_,?_,rfl⟩
     · exact P2.append (P2.mp (fun _ _ e=>(e.mono (k1.trans (Same.kt (s5.trans (s6.trans s7))))).mono k8) a3) (P2.mp (fun _ _ e=>e.mono k8) BQ)
     · rcases UA.mp yQ with yQ | yQ
       · exact hW p' (Ux _ yQ)
       · obtain ⟨u,hu,rfl⟩:=Uw.mp yQ;have:=bv hu;exact ⟨FitSs.mem' Fy.2 u hu,by dsimp only;omega⟩
     · rw [fy,kX];omega
 · exact q H3 s3
def vh (ins:List (T6×Int)) (R:Nat->List Int->Th->Th->Prop):Prop:=∀ s h t1 t2,R s h t1 t2->(t1.FitS ins 0 0/\t1.size<=2000/\t1.tall<=600)/\(t2.FitS ins 0 0/\t2.size<=2000/\t2.tall<=600)
inductive cO (K:Tg) (vs:List V) (H:Hp) (Q:VK) (_E:XK):Prop
 | mk (b fl pl:Tn) (ins outs:List (T6×Int)) (head:Th) (rows:List (List Th)) (fs ls:List Tn) (fr:Nat->Th) (R:Nat->List Int->Th->Th->Prop) (x9:vs=[.ref b,.ref fl,.ref pl]) (ya:Bk H ins outs head rows b) (ye:ins.length<=8) (yj:FrL K H rows.length fr fl fs) (yz:(∀ s<rows.length,Th.Fo outs (fr s)/\(fr s).size<=200/\(fr s).tall<=25)) (y9:rows.length<=20) (Bm:PrL H R fr rows.length pl ls) (BM:vh ins R) (D':∀ H',L2.Same H H'->Q (.bl true) H'):cO K vs H Q _E
def fQ (K:Tg):Sp:=cO K
set_option maxHeartbeats 1000000 in
theorem gq:bn P w K mg base CX0 31 T.g__law_pairs_formed.f T.g__law_pairs_formed.d ["book","fronts","pairs"] (fQ K):=by
 refine T.g__law_pairs_formed.F.ok ck (fun vs H Q E h=>?_) (fun xW A outer s H vs Q E hr h=>?_)
 · obtain ⟨b,fl,pl,ins,outs,head,rows,fs,ls,fr,R,rfl,_⟩:=h;rfl
 obtain ⟨b,fl,pl,ins,outs,head,rows,fs,ls,fr,R,rfl,hB,Dg,⟨yM,yF⟩,BF,hle,⟨BU,Aq⟩,hR,k⟩:=h;refine hid fun ZZ kZ=>?_;obtain ⟨ia,oa,ha,ra,xU,yE,yx,hB⟩:=hB;refine kZ ?_
 refine ⟨_,(ae (bm (PW.pt (cR (cW (aS (ax (cD (T:="list")) rfl T.n_isinstance UW (aa (pv 2) (aa (ef (v:=.ty "list") rfl T.n_list Xm rfl) ac))) (fun _=>rfl))) (cL (aJ my (ax ao rfl T.n_len T7 (aa (pv 2) ac)) (ax ao rfl T.n_len T7 (aa (pv 1) ac)) (aO _))))) (ag (aC cS)) ba)
  (ae (bt T9 rfl (bx rfl T.n_range (aa (ax ao rfl T.n_len T7 (aa (pv 1) ac)) ac)) (aj (i:=3) ck.nd rfl (TQ rfl)) (ae (bm (PW.pt (cR (cW (aS (ax (cD (T:="list")) rfl T.n_isinstance UW (aa (av aP (pv 2) (pv 3) (fun _ _=>rfl)) (aa (ef (v:=.ty "list") rfl T.n_list Xm rfl) ac))) (fun _=>rfl))) (cL (aJ my (ax ao rfl T.n_len T7 (aa (av aP (pv 2) (pv 3) (fun _ _=>rfl)) ac)) (ax ao rfl T.n_len T7 (aa (pcF T.g__law_holes (eE T 30) hr (aa (av aP (pv 1) (pv 3) (fun _ _=>rfl)) ac)) ac)) (aO _))))) (ag (aC cS)) ba)
  (ag (bt T9 rfl (cw (av aP (pv 2) (pv 3) (fun _ _=>rfl))) (aj (i:=4) ck.nd rfl (TQ rfl)) (ae (bm (PW.pt (cR (cW (aS (ax (cD (T:="tuple")) rfl T.n_isinstance UW (aa (pv 4) (aa (ef (v:=.ty "tuple") rfl T.n_tuple Vx rfl) ac))) (fun _=>rfl))) (cL (aJ my (ax ao rfl T.n_len T7 (aa (pv 4) ac)) af (aO _))))) (ag (aC cS)) ba)
  (ag (bm (PW.pt (cR (cW (aS (pcF T.g__law_is_tree (fK T) hr (aa (av aA (pv 0) af (fun _ _=>rfl)) (aa (av aA (pv 4) af (fun _ _=>rfl)) (aa af ac)))) (fun _=>rfl))) (cL (cW (aS (pcF T.g__law_is_tree (fK T) hr (aa (av aA (pv 0) af (fun _ _=>rfl)) (aa (av aA (pv 4) af (fun _ _=>rfl)) (aa af ac)))) (fun _=>rfl)))))) (ag (aC cS)) ba)))))))
  (ag (aC cS)))),?_⟩
 try dsimp only [ym,xR]
 have zZ:(Ue rows.length).length=fs.length:=TB yF;have EL:(Ue rows.length).length=ls.length:=TB Aq;rw [Uh] at zZ EL;refine ⟨_,rfl,_,_,_,rfl,.lst BU,pZ,_,rfl,?_⟩;refine cM ?_;refine ⟨_,rfl,pl,_,rfl,.inl (SqL.of BU),_,rfl,fl,_,rfl,.inl (SqL.of yM),rfl,_,rfl,?_⟩;have hlen:(ls.map V.ref).length=(fs.map V.ref).length:=by rw [Te,Te];omega
 refine cy (fun c4=>by rw [hlen,decide_eq_true rfl] at c4;cases c4) (fun c4=>?_);dsimp only [lb,v6];refine ⟨_,rfl,fl,_,rfl,.inl (SqL.of yM),_,rfl,by omega,by rw [Te];omega,?_⟩;refine bT (n:=(((fs.map V.ref).length:Nat):Int).toNat) (fun i σ H3=>Ex2 fun (c3 c4:Option V)=>An2 (σ=[some (.ref b),some (.ref fl),some (.ref pl),c3,c4]) (L2.Same H H3)) ⟨none,none,rfl,.refl _⟩ ?_ ?_
 · rintro i σ H3 hi ⟨c3,c4,rfl,s3⟩
   have yq:i<rows.length:=by
    have h1:i<(((fs.map V.ref).length:Nat):Int).toNat:=hi;rw [Te] at h1;omega
   refine hid fun ZZ kZ=>?_;obtain ⟨fa,yt⟩:∃ fa,fs[i]?=some fa:=⟨_,Ti (by omega)⟩;obtain ⟨s',yA,zx⟩:=P2.get' yF yt;rw [Uv yq] at yA;cases yA;obtain ⟨la,zX⟩:∃ la,ls[i]?=some la:=⟨_,Ti (by omega)⟩;obtain ⟨s',yA,prs,Fz,Am⟩:=P2.get' Aq zX;rw [Uv yq] at yA;cases yA;obtain ⟨z1,z2,z3⟩:=BF i yq;refine kZ ?_;have ze:(cV (fr i)).length=prs.length:=TB Am;have BZ:∀ (xs:List Tn) (a:Tn),xs[i]?=some a->atI (xs.map V.ref) (0+(i:Int))=some (.ref a):=fun xs a h=>at_nonneg (by omega) (by rw [show (0+(i:Int)).toNat=i by omega,Tw,h];rfl);refine df (fun bb H'=>An2 (bb=false) (L2.Same H H')) (fun k2 zi=>?_) (fun H' hb=>absurd hb.1 (by decide)) (fun H4 hb=>?_)
   · refine ⟨_,rfl,_,rfl,pl,_,_,.ref la,rfl,rfl,SqL.of (s3 _ _ BU),BZ ls la zX,_,_,_,rfl,.lst (s3 _ _ Fz),pZ,_,rfl,?_⟩;refine cM ?_;refine ⟨_,rfl,_,rfl,pl,_,_,.ref la,rfl,rfl,SqL.of (s3 _ _ BU),BZ ls la zX,la,_,rfl,.inl (SqL.of (s3 _ _ Fz)),_,rfl,_,rfl,fl,_,_,.ref fa,rfl,rfl,SqL.of (s3 _ _ yM),BZ fs fa yt,fa,fr i,outs,rfl,zx.mono (Same.kt s3),z1,by omega,by omega,fun r bs H4 s4 nr er yB=>⟨r,_,rfl,.inl (SqL.of er),rfl,_,rfl,?_⟩⟩;have zN:(cV (fr i)).length=bs.length:=TB yB;have IW:(prs.map V.ref).length=(bs.map V.ref).length:=by rw [Te,Te];omega
     rw [IW,decide_eq_true rfl];exact zi _ _ ⟨rfl,s3.trans s4⟩
   have s4:=hb.2;refine ⟨_,rfl,_,rfl,pl,_,_,.ref la,rfl,rfl,SqL.of (s4 _ _ BU),BZ ls la zX,la,rfl,⟨_,SqL.of (s4 _ _ Fz)⟩,?_⟩;refine dI (K:=K) (a:=la) (xs:=prs.map V.ref) (fun j σ H5=>Ex1 fun (c4:Option V)=>An2 (σ=[some (.ref b),some (.ref fl),some (.ref pl),some (.int (0+(i:Int))),c4]) (L2.Same H H5)) ⟨_,rfl,s4⟩ (fun j σ H5 _ ⟨_,_,s5⟩=>SqL.of (s5 _ _ Fz)) ?_ ?_
   · rintro j x σ H5 hx ⟨c4,rfl,s5⟩;refine hid fun ZZ kZ=>?_;obtain ⟨pr,rfl,zh⟩:=aZ hx;obtain ⟨h,hh,p0,ta,tb,t1,t2,e0,BO,zH,HK,M'⟩:=P2.get' Am zh;refine kZ ?_;cases e0;refine hid fun ZZ kZ=>?_;obtain ⟨⟨f1,g1,y1⟩,⟨f2,g2,y2⟩⟩:=hR _ _ _ _ M';refine kZ ?_;have FA:=s5 _ _ BO;refine ⟨_,rfl,_,_,_,rfl,.tup FA,pB,_,rfl,?_⟩;refine cM ?_;refine ⟨_,rfl,pr,_,rfl,.inr (SqT.of FA),rfl,_,rfl,?_⟩;refine cM ?_;dsimp only [lb];refine ⟨_,rfl,b,_,0,.ref ia,rfl,rfl,SqT.of (s5 _ _ hB.bk),at0,_,rfl,pr,_,0,.ref ta,rfl,rfl,SqT.of FA,at0,ia,ta,600,xU,ins,t1,rfl,s5 _ _ hB.inE,hB.inK.mono (Same.kt s5),Dg,zH.mono (Same.kt s5),f1,by omega,by omega,fun H6 s6=>⟨_,rfl,?_⟩⟩;refine cM ?_;have AY:=s5.trans s6;refine ⟨_,rfl,b,_,0,.ref ia,rfl,rfl,SqT.of (AY _ _ hB.bk),at0,_,rfl,pr,_,1,.ref tb,rfl,rfl,SqT.of (AY _ _ BO),at1,ia,tb,600,xU,ins,t2,rfl,AY _ _ hB.inE,hB.inK.mono (Same.kt AY),Dg,HK.mono (Same.kt AY),f2,by omega,by omega,fun H7 s7=>⟨_,rfl,?_⟩⟩;refine cM ?_;exact ⟨_,rfl,AY.trans s7⟩
   · rintro σ H5 ⟨c4,rfl,s5⟩;exact ⟨_,_,rfl,s5⟩
 · rintro σ H3 ⟨c3,c4,rfl,s3⟩;exact k H3 s3
def ql (ins:List (T6×Int)) (rows:List (List Th)) (R:Nat->List Int->Th->Th->Prop):Prop:=∀ s h t1 t2,R s h t1 t2->∃ m1 m2,m1≠m2/\qa ins rows (s:Nat) t1 h m1/\qa ins rows (s:Nat) t2 h m2
inductive di (K:Tg) (vs:List V) (H:Hp) (Q:VK) (_E:XK):Prop
 | mk (b fl pl:Tn) (ins outs:List (T6×Int)) (head:Th) (rows:List (List Th)) (fs ls:List Tn) (fr:Nat->Th) (R:Nat->List Int->Th->Th->Prop) (x9:vs=[.ref b,.ref fl,.ref pl]) (ya:Bk H ins outs head rows b) (ye:cf ins) (yj:FrL K H rows.length fr fl fs) (yz:(∀ s<rows.length,Th.Fo outs (fr s)/\(fr s).size<=200/\(fr s).tall<=25)) (y9:rows.length<=20) (Bm:PrL H R fr rows.length pl ls) (BM:ql ins rows R) (D':∀ H',L2.Same H H'->Q (.bl true) H'):di K vs H Q _E
def iE (K:Tg):Sp:=di K
set_option maxHeartbeats 1000000 in
theorem ie:bn P w K mg base CX0 31 T.g__law_pairs_part.f T.g__law_pairs_part.d ["book","fronts","pairs"] (iE K):=by
 refine T.g__law_pairs_part.F.ok bi (fun vs H Q E h=>?_) (fun xW A outer s H vs Q E hr h=>?_)
 · obtain ⟨b,fl,pl,ins,outs,head,rows,fs,ls,fr,R,rfl,_⟩:=h;rfl
 obtain ⟨b,fl,pl,ins,outs,head,rows,fs,ls,fr,R,rfl,hB,g,⟨yM,yF⟩,BF,hle,⟨BU,Aq⟩,hR,k⟩:=h
 refine ⟨_,(ae (bt T9 rfl (bx rfl T.n_range (aa (ax ao rfl T.n_len T7 (aa (pv 1) ac)) ac)) (aj (i:=3) bi.nd rfl (TQ rfl)) (ae (ay (i:=4) bi.nd rfl (TQ rfl) (pcF T.g__law_holes (eE T 30) hr (aa (av aP (pv 1) (pv 3) (fun _ _=>rfl)) ac)))
  (ag (bt T9 rfl (bx rfl T.n_range (aa (ax ao rfl T.n_len T7 (aa (pv 4) ac)) ac)) (aj (i:=5) bi.nd rfl (TQ rfl)) (ae (ay (i:=6) bi.nd rfl (TQ rfl) (pcF T.g__law_name_at (fL T) hr (aa (pv 0) (aa (pv 3) (aa (av aA (av aP (av aP (pv 2) (pv 3) (fun _ _=>rfl)) (pv 5) (fun _ _=>rfl)) af (fun _ _=>rfl)) (aa (av aP (pv 4) (pv 5) (fun _ _=>rfl)) ac))))))
  (ae (ay (i:=7) bi.nd rfl (TQ rfl) (pcF T.g__law_name_at (fL T) hr (aa (pv 0) (aa (pv 3) (aa (av aA (av aP (av aP (pv 2) (pv 3) (fun _ _=>rfl)) (pv 5) (fun _ _=>rfl)) af (fun _ _=>rfl)) (aa (av aP (pv 4) (pv 5) (fun _ _=>rfl)) ac))))))
  (ag (bm (PW.pt (cR (aJ tF (pv 6) pS (aO _)) (cR (aJ tF (pv 7) pS (aO _)) (cL (aJ cj (pv 6) (pv 7) (aO _)))))) (ag (aC cS)) ba))))))))
  (ag (aC cS))),?_⟩
 try dsimp only [ym,xR]
 have zZ:(Ue rows.length).length=fs.length:=TB yF;have EL:(Ue rows.length).length=ls.length:=TB Aq;rw [Uh] at zZ EL;refine ⟨_,rfl,fl,_,rfl,.inl (SqL.of yM),_,rfl,by omega,by rw [Te];omega,?_⟩;refine bT (n:=(((fs.map V.ref).length:Nat):Int).toNat) (fun i σ H3=>Ex5 fun (c3 c4 c5 c6 c7:Option V)=>An2 (σ=[some (.ref b),some (.ref fl),some (.ref pl),c3,c4,c5,c6,c7]) (L2.Same H H3)) ⟨none,none,none,none,none,rfl,.refl _⟩ ?_ ?_
 · rintro i σ H3 hi ⟨c3,c4,c5,c6,c7,rfl,s3⟩
   have yq:i<rows.length:=by
    have h1:i<(((fs.map V.ref).length:Nat):Int).toNat:=hi;rw [Te] at h1;omega
   refine hid fun ZZ kZ=>?_;obtain ⟨fa,yt⟩:∃ fa,fs[i]?=some fa:=⟨_,Ti (by omega)⟩;obtain ⟨s',yA,zx⟩:=P2.get' yF yt;rw [Uv yq] at yA;cases yA;obtain ⟨la,zX⟩:∃ la,ls[i]?=some la:=⟨_,Ti (by omega)⟩;obtain ⟨s',yA,prs,Fz,Am⟩:=P2.get' Aq zX;rw [Uv yq] at yA;cases yA;obtain ⟨z1,z2,z3⟩:=BF i yq;refine kZ ?_;have ze:(cV (fr i)).length=prs.length:=TB Am;have FN:=lu (fr i);have BZ:∀ (xs:List Tn) (a:Tn) (j:Nat),xs[j]?=some a->atI (xs.map V.ref) (0+(j:Int))=some (.ref a):=fun xs a j h=>at_nonneg (by omega) (by rw [show (0+(j:Int)).toNat=j by omega,Tw,h];rfl);refine ⟨_,rfl,_,rfl,fl,_,_,.ref fa,rfl,rfl,SqL.of (s3 _ _ yM),BZ fs fa i yt,fa,fr i,outs,rfl,zx.mono (Same.kt s3),z1,by omega,by omega,fun sl bs H4 s4 nr er yB=>?_⟩;have zN:(cV (fr i)).length=bs.length:=TB yB
   try dsimp only [aH]
   have O':=s3.trans s4;refine ⟨_,rfl,sl,_,rfl,.inl (SqL.of er),_,rfl,by omega,by rw [Te];omega,?_⟩;refine bT (n:=(((bs.map V.ref).length:Nat):Int).toNat) (fun j σ H5=>Ex3 fun (c5 c6 c7:Option V)=>An2 (σ=[some (.ref b),some (.ref fl),some (.ref pl),some (.int (0+(i:Int))),some (.ref sl),c5,c6,c7]) (L2.Same H4 H5)) ⟨_,_,_,rfl,.refl _⟩ ?_ ?_
   · rintro j σ H5 hj ⟨c5,c6,c7,rfl,s5⟩
     have yb:j<bs.length:=by
      have h1:j<(((bs.map V.ref).length:Nat):Int).toNat:=hj;rw [Te] at h1;omega
     refine hid fun ZZ kZ=>?_;obtain ⟨pb,Dn⟩:∃ a,bs[j]?=some a:=⟨_,Ti yb⟩;obtain ⟨pr,zh⟩:∃ a,prs[j]?=some a:=⟨_,Ti (by omega)⟩;obtain ⟨h,hh,p0,ta,tb,t1,t2,e0,BO,zH,HK,M'⟩:=P2.get' Am zh;refine kZ ?_;cases e0;refine hid fun ZZ kZ=>?_;obtain ⟨h',Jp,FR⟩:=P2.get' yB Dn;rw [hh] at Jp;cases Jp;obtain ⟨m1,m2,yd,n1,n2⟩:=hR _ _ _ _ M';obtain ⟨v,Fp,_⟩:=kz.mp (Tj hh);refine kZ ?_;have hd:=ol _ (fr i) [] (To _) _ (In.to Fp);rw [Wi] at hd;dsimp only at hd;have Cr:=O'.trans s5;refine ⟨_,rfl,_,rfl,_,rfl,_,rfl,pl,_,_,.ref la,rfl,rfl,SqL.of (Cr _ _ BU),BZ ls la i zX,_,rfl,la,_,_,.ref pr,rfl,rfl,SqL.of (Cr _ _ Fz),BZ prs pr j zh,pr,_,0,.ref ta,rfl,rfl,SqT.of (Cr _ _ BO),at0,_,rfl,_,rfl,sl,_,_,.ref pb,rfl,rfl,SqL.of (s5 _ _ er),BZ bs pb j Dn,b,ta,pb,_,ins,outs,head,rows,t1,h,m1,rfl,hB.mono (Same.kt Cr),g,zH.mono (Same.kt Cr),s5 _ _ FR,by omega,by rw [U6];exact n1,fun H6 s6=>?_⟩
     try dsimp only [aH]
     have AY:=Cr.trans s6;refine ⟨_,rfl,_,rfl,_,rfl,_,rfl,pl,_,_,.ref la,rfl,rfl,SqL.of (AY _ _ BU),BZ ls la i zX,_,rfl,la,_,_,.ref pr,rfl,rfl,SqL.of (AY _ _ Fz),BZ prs pr j zh,pr,_,1,.ref tb,rfl,rfl,SqT.of (AY _ _ BO),at1,_,rfl,_,rfl,sl,_,_,.ref pb,rfl,rfl,SqL.of ((s5.trans s6) _ _ er),BZ bs pb j Dn,b,tb,pb,_,ins,outs,head,rows,t2,h,m2,rfl,hB.mono (Same.kt AY),g,HK.mono (Same.kt AY),(s5.trans s6) _ _ FR,by omega,by rw [U6];exact n2,fun H7 s7=>?_⟩
     try dsimp only [aH]
     refine ⟨_,rfl,rfl,_,rfl,?_⟩;refine cM ?_;refine ⟨_,rfl,rfl,_,rfl,?_⟩;refine cM ?_;refine ⟨_,rfl,_,rfl,rfl,_,rfl,?_⟩;rw [decide_eq_false (show V.str m1≠V.str m2 from fun z=>yd (V.str.inj z))];refine cM ?_;exact ⟨_,_,_,rfl,s5.trans (s6.trans s7)⟩
   · rintro σ H5 ⟨c5,c6,c7,rfl,s5⟩;exact ⟨_,_,_,_,_,rfl,O'.trans s5⟩
 · rintro σ H3 ⟨c3,c4,c5,c6,c7,rfl,s3⟩;exact k H3 s3
theorem qR (outs:List (T6×Int)):Th.Fo outs hole:=by rw [hole,Th.Fo];exact .inl ⟨rfl,rfl⟩
theorem vf {outs:List (T6×Int)}:∀ (n:Nat) (t:Th),t.size<=n->Th.Fo outs t->t.noCall
 | 0,t,h,_=>by have:=t.size_pos;omega
 | n+1,.call a b,_,h=>by rw [Th.Fo] at h;exact h.elim
 | n+1,.knot m ks,hn,h=>by
   rw [Th.Fo] at h;rw [Th.size] at hn;rw [Th.noCall];rcases h with ⟨_,rfl⟩ | ⟨_,_,h⟩
   · rw [bQ];trivial
   · exact kc fun t ht=>vf n t (by have:=aG ht;omega) (gJ h ht)
theorem tT {outs:List (T6×Int)} (g:cf outs) {S:Int}:∀ (n:Nat) (t:Th),t.size<=n->t.FitS outs S 0->Th.Fo outs t
 | 0,t,h,_=>by have:=t.size_pos;omega
 | n+1,.call a b,_,h=>by rw [Th.FitS] at h;omega
 | n+1,.knot m ks,hn,h=>by
   rw [Th.FitS] at h;rw [Th.size] at hn;rw [Th.Fo];exact .inr ⟨h.1,oJ (g.low _ h.1).1,nh fun t ht=>tT g n t (by have:=aG ht;omega) (jg h.2 t ht)⟩
theorem ub {outs:List (T6×Int)}:∀ (n:Nat) (l r:Th),l.size<=n->Th.Fo outs l->Th.Fo outs (l.com r)
 | 0,l,_,h,_=>by have:=l.size_pos;omega
 | n+1,l,r,hn,h=>by
   rw [ig];by_cases hs:aI l r=true
   · rw [if_pos hs];obtain ⟨m,ks,us,rfl,rfl,hl,hh⟩:=bD hs;rw [Th.Fo] at h;rw [Th.size] at hn;rcases h with ⟨h1,h2⟩ | ⟨h1,h2,h3⟩
     · rw [Th.isHole,decide_eq_true ⟨h1,h2⟩] at hh;cases hh
     · show Th.Fo outs (.knot m ((ks.zip us).map fun p=>p.1.com p.2));rw [Th.Fo];refine .inr ⟨by rw [Te,Xe,<- hl,Yn];exact h1,h2,nh fun t ht=>?_⟩;obtain ⟨p,hp,rfl⟩:=Uw.mp ht;have hm:=(WD hp).1;exact ub n p.1 p.2 (by have:=aG hm;omega) (gJ h3 hm)
   · rw [if_neg hs];exact qR _
theorem sW {outs:List (T6×Int)} (mk:Int->Th):∀ (row:List Th) (m:Th),Th.Fo outs m->Th.Fo outs (frF mk m row)
 | [],m,h=>h
 | p::row,m,h=>sW mk row _ (ub _ m _ (To _) h)
theorem tG {outs:List (T6×Int)} (D:List Int->Bool):∀ (n:Nat) (t:Th) (pre:List Int),t.size<=n->Th.Fo outs t->Th.Fo outs (t.cut D pre)
 | 0,t,_,h,_=>by have:=t.size_pos;omega
 | n+1,.call a b,_,_,h=>by rw [Th.Fo] at h;exact h.elim
 | n+1,.knot m ks,pre,hn,h=>by
   rw [Th.cut];by_cases hc:(Th.knot m ks).isHole=true∨D pre=true
   · rw [if_pos hc];exact qR _
   · rw [if_neg hc];rw [Th.Fo] at h;rw [Th.size] at hn;rcases h with ⟨h1,h2⟩ | ⟨h1,h2,h3⟩
     · exact absurd (.inl (by rw [Th.isHole];exact decide_eq_true ⟨h1,h2⟩)) hc
     · rw [Th.Fo];refine .inr ⟨by rw [cH];exact h1,h2,nh fun t ht=>?_⟩;obtain ⟨j,hj⟩:=TU.mp ht;rw [eZ,T8] at hj;obtain ⟨u,hu,rfl⟩:=hj;have hm:=Tj hu;exact tG D n u _ (by have:=aG hm;omega) (gJ h3 hm)
theorem mW {ins outs:List (T6×Int)} {rows:List (List Th)} (F:FrK ins outs rows) {f':List (az×V)} (hD:FrD ins rows (f'.map (·.1))) {s:Nat} {row:List Th} (xO:rows[s]?=some row) {p:Th} (hp:p∈row) :
 ((frS ins rows s).cut (Dk f' (s:Nat)) []).lies (p.fill fun l _=>(frS ins rows l.toNat).cut (Dk f' ((l.toNat:Nat):Int)) [])=true:=by
 have hs:=(Tq.mp xO).1;obtain ⟨j,hj⟩:=TU.mp hp;obtain ⟨D1,ES⟩:=F.fit.row row (Tj xO);obtain ⟨k0,yW⟩:∃ k0,ins[j]?=some k0:=⟨_,Ti (by have:=(Tq.mp hj).1;omega)⟩;have Cp:=ES j p k0 hj yW;obtain ⟨z1,z2,z3⟩:=i8 F hs;have Pa:=gI _ _ (To _) z3
 have Es:∀ (m:Nat),m<rows.length->(frS ins rows m).lies (mkF ins rows (m:Nat))=true/\∀ zq,rows[m]?=some zq->∀ p'∈zq,(frS ins rows m).lies (p'.fill fun l _=>mkF ins rows l)=true:=fun m hm=>by
  obtain ⟨y1,y2,y3⟩:=i8 F hm;have h0:=gI _ _ (To _) y3;obtain ⟨g1,g2⟩:=kD (frS ins rows m) ((rows[m]?).getD []) (mkF ins rows (m:Nat)) h0;refine ⟨g1,fun zq zQ p' yQ=>g2 p' (by rw [zQ];exact yQ)⟩
 have:=lv (f0:=fun l=>frS ins rows l.toNat) (D:=fun l=>Dk f' ((l.toNat:Nat):Int)) (mk:=mkF ins rows) (s:=(s:Nat)) (pat:=p) (fun c hc=>?_) _ (frS ins rows s) p [] (To _) (fun x hx=>hx) (fun c hc=>hc) z3 ((Es s hs).2 row xO p hp)
 · exact this
 · obtain ⟨c0,c1,_⟩:=gG p [] Cp c hc;have Na:c.2.1.toNat<rows.length:=by omega
   have Ew:((c.2.1.toNat:Nat):Int)=c.2.1:=Wu c0;have hl:=(Es _ Na).1;rw [Ew] at hl;refine ⟨hl,(i8 F Na).2.2,fun r u hu hh=>jo.mpr (hD.hol _ Na (r,u) hu hh),fun r u hd hu=>?_⟩;have zf:(c.1++r,u)∈(frS ins rows s).pl []:=hu;obtain ⟨v,Fp,JV⟩:=oX _ (u:=u) (To _) zf;have hk:=jo.mp hd;rw [Ew] at hk;exact jo.mpr (hD.cl s row xO p hp c hc v Fp (r,u) JV hk)
inductive qN (K:Tg) (vs:List V) (H:Hp) (Q:VK) (_E:XK):Prop
 | mk (a:Tn) (ns:List Int) (x9:vs=[.ref a]) (ya:SqL K H a (ns.map V.int)) (ye:ns.length<=63) (yj:∀ H',Q (.bl true) H'):qN K vs H Q _E
def nj (K:Tg):Sp:=qN K
theorem vY {ins:List (T6×Int)} {rows:List (List Th)} (hl:rows.length<=20):vh ins (Rp ins rows 19):=fun s h t1 t2 ⟨ks,hv⟩=>by
 refine hid fun ZZ kZ=>?_;obtain ⟨s',pl,m1,m2,L,_,_,_,hW,_,⟨f1,g1,y1,_⟩,⟨f2,g2,y2,_⟩⟩:=hv;refine kZ ?_;have:=hW.len;have h2:rows.length * 19<=20 * 19:=XE _ hl;exact ⟨⟨f1,by omega,by omega⟩,⟨f2,by omega,by omega⟩⟩
theorem t6 {ins:List (T6×Int)} {rows:List (List Th)} {D:Nat}:ql ins rows (Rp ins rows D):=fun s h t1 t2 ⟨ks,hv⟩=>by
 refine hid fun ZZ kZ=>?_;obtain ⟨s',pl,m1,m2,L,e,_,yd,_,_,⟨_,_,_,n1⟩,⟨_,_,_,n2⟩⟩:=hv;obtain ⟨e4,rfl⟩:=pG e;refine kZ ?_;have:s=s':=by omega
 subst this;exact ⟨m1,m2,yd,n1,n2⟩
set_option maxHeartbeats 1000000 in
theorem vS:bn P w K mg base CX0 70 T.g_law.f T.g_law.d ["script"] (nj K):=by
 refine T.g_law.F.ok nF (fun vs H Q E h=>?_) (fun xW A outer s H vs Q E hr h=>?_)
 · obtain ⟨a,ns,rfl,_⟩:=h;rfl
 obtain ⟨a,ns,rfl,hS,CF,k⟩:=h
 refine ⟨_,(ae (ay (i:=1) nF.nd rfl (TQ rfl) (pcF T.g__law_chain (lM T) hr (aa (pv 0) ac)))
  (ae (ay (i:=2) nF.nd rfl (TQ rfl) (pcF T.g_fronts_of (m3 T) hr (aa (pv 1) ac)))
  (ae (bm (PW.pt (cR (cW (aS (pcF T.g__law_fronts_formed (fN T) hr (aa (pv 1) (aa (pv 2) ac))) (fun _=>rfl))) (cL (cW (aS (pcF T.g__law_closed (kG T) hr (aa (pv 1) (aa (pv 2) ac))) (fun _=>rfl)))))) (ag (aC cS)) ba)
  (ae (ay (i:=3) nF.nd rfl (TQ rfl) (pcF T.g_partings_of (lD T) hr (aa (pv 1) ac)))
  (ag (aC (nN (pcF T.g__law_pairs_formed (gq T) hr (aa (pv 1) (aa (pv 2) (aa (pv 3) ac)))) (pN (pcF T.g__law_pairs_part (ie T) hr (aa (pv 1) (aa (pv 2) (aa (pv 3) ac)))))))))))),?_⟩
 try dsimp only [ym,xR]
 refine ⟨_,rfl,a,ns,rfl,hS,CF,fun b ins outs head rows H1 s1 hb W=>?_⟩;have gi:=W.gi;have go:=W.go;have hle:=W.le
 have F:FrK ins outs rows:=⟨gi,⟨rfl,fun row xO=>⟨W.row row xO,fun j p k0 hp hk=>W.fit row xO j p k0 hp hk⟩⟩,hle,fun row xO p hp=>by
  have:=W.sz row xO p hp;exact ⟨by omega,by omega⟩⟩
 have CO:∀ s:Nat,s<rows.length->(mkF ins rows (s:Nat)).size<=37/\(mkF ins rows (s:Nat)).tall<=19/\Th.Fo outs (mkF ins rows (s:Nat)):=fun s hs=>by
  obtain ⟨row,p,hr,hp,e,z1,z2,hf⟩:=F.mkd (l:=(s:Nat)) (by omega) (by omega);have:=W.sz row (Tj hr) p (Tj hp);rw [e];exact ⟨this.1,this.2,tT go _ _ (To _) hf⟩
 have Dy:∀ s:Nat,s<rows.length->(mkF ins rows (s:Nat)).tall<=19:=fun s hs=>(CO s hs).2.1;refine ⟨_,rfl,b,ins,outs,head,rows,19,rfl,hb,F,go,Dy,fun fl fs f' H2 s2 yM yF hD hK=>?_⟩
 have BF:∀ s<rows.length,Th.Fo outs ((frS ins rows s).cut (Dk f' (s:Nat)) [])/\((frS ins rows s).cut (Dk f' (s:Nat)) []).size<=200/\((frS ins rows s).cut (Dk f' (s:Nat)) []).tall<=25:=fun s hs=>by
  obtain ⟨y1,y2,y3⟩:=CO s hs;have hz:=iM (mkF ins rows) (mkF ins rows (s:Nat)) ((rows[s]?).getD []);have hc:=lg (Dk f' (s:Nat)) _ (frS ins rows s) [] (To _);have ht:=kB (Dk f' (s:Nat)) _ (frS ins rows s) [] (To _);have Tc:(frS ins rows s).size<=(mkF ins rows (s:Nat)).size:=hz.1;have JA:(frS ins rows s).tall<=(mkF ins rows (s:Nat)).tall:=hz.2;exact ⟨tG _ _ _ [] (To _) (sW _ _ _ y3),by omega,by omega⟩
 have yf:=hb.mono (Same.kt s2);refine ⟨_,rfl,_,rfl,b,fl,ins,outs,head,rows,fs,fun s=>(frS ins rows s).cut (Dk f' (s:Nat)) [],rfl,yf,⟨yM,yF⟩,BF,by omega,fun H3 s3=>?_⟩;refine ⟨_,rfl,?_⟩;refine cM ?_;have FP:=yf.mono (Same.kt s3);refine ⟨_,rfl,_,rfl,b,fl,ins,outs,head,rows,fs,fun s=>(frS ins rows s).cut (Dk f' (s:Nat)) [],rfl,FP,⟨s3 _ _ yM,P2.mp (fun _ _ h=>h.mono (Same.kt s3)) yF⟩,fun s hs=>?_,by omega,fun row xO=>by rw [W.row row xO];have:=gi.le;omega,fun s row xO p hp=>⟨?_,mW F hD xO hp⟩,fun Hc sc=>?_⟩
 · obtain ⟨y1,y2,y3⟩:=BF s hs;exact ⟨vf _ _ (To _) y1,by omega,by omega⟩
 · obtain ⟨j,hj⟩:=TU.mp hp;have Pb:=Tj xO;obtain ⟨k0,yW⟩:∃ k0,ins[j]?=some k0:=⟨_,Ti (by have:=(Tq.mp hj).1;have:=W.row row Pb;omega)⟩;exact qA _ _ (To _) (W.fit row Pb j p k0 hj yW)
 refine ⟨_,rfl,?_⟩;refine cM ?_;dsimp only [lb];have s3:=s3.trans sc;have FP:=yf.mono (Same.kt s3);refine ⟨_,rfl,b,ins,outs,head,rows,19,rfl,FP,F,go,Dy,fun pl ls Nb H4 s4 Td RX Nc=>?_⟩;have Mx:(fun s=>(frS ins rows s).cut (Dk Nb (s:Nat)) [])=fun (s:Nat)=>(frS ins rows s).cut (Dk f' (s:Nat)) []:=funext fun s=>by rw [RX.eq hK s]
 rw [Mx] at Nc;have F0:=FP.mono (Same.kt s4);have Nf:=s3.trans s4;refine ⟨_,rfl,_,rfl,_,rfl,b,fl,pl,ins,outs,head,rows,fs,ls,fun s=>(frS ins rows s).cut (Dk f' (s:Nat)) [],Rp ins rows 19,rfl,F0,by have:=gi.le;omega,⟨Nf _ _ yM,P2.mp (fun _ _ h=>h.mono (Same.kt Nf)) yF⟩,BF,by omega,Nc,vY hle,fun H5 s5=>?_⟩;refine ⟨_,rfl,?_⟩;rw [if_pos rfl];have D7:=Nf.trans s5;obtain ⟨BU,Aq⟩:=Nc;exact ⟨_,rfl,_,rfl,_,rfl,b,fl,pl,ins,outs,head,rows,fs,ls,fun s=>(frS ins rows s).cut (Dk f' (s:Nat)) [],Rp ins rows 19,rfl,F0.mono (Same.kt s5),gi,⟨D7 _ _ yM,P2.mp (fun _ _ h=>h.mono (Same.kt D7)) yF⟩,BF,by omega,⟨s5 _ _ BU,P2.mp (fun s la ⟨prs,h1,h2⟩=>⟨prs,s5 _ _ h1,P2.mp (fun _ _ e=>e.mono (Same.kt s5)) h2⟩) Aq⟩,t6,fun H6 s6=>k H6⟩
end
set_option maxHeartbeats 8000000 in
theorem all_mk {l:PySem.W.OpenLaw} {w:T3} {K:Tg} {h:US} {mg:T6->Option Tp} {fa:Tn} (X:K.In h) (G:h.Ns Uo mg) (yt:mg "law"=some (.ref fa))
 {IX:Tn} {Ng IY:Option Tn} {Nh:Array (Option Tp)} {Ni IZ I0 Ja FC Jb:Tp} {Pd:Tok} {FL:Tok} {Nj:Tn} {Nk:Option Tn} {RY:Nat} {Nl:Array (Option Tp)} {Jc:Tok}
 (g_kids_of:FX K mg "kids_of" jq ["thing"])
 (g_walked:FX K mg "walked" ki ["thing"])
 (g_placed:FX K mg "placed" j8 ["thing"])
 (g_built:FX K mg "built" nG ["tops"])
 (g_places:FX K mg "places" kj ["tree"])
 (g_is_call:FX K mg "is_call" i7 ["thing"])
 (g_is_hole:FX K mg "is_hole" jk ["thing"])
 (g_is_knot:FX K mg "is_knot" jc ["thing"])
 (g_called_by:FX K mg "called_by" gx ["call"])
 (g_calls_in:FX K mg "calls_in" ik ["pattern"])
 (g_holes_in:FX K mg "holes_in" ip ["front"])
 (g_top_of:FX K mg "top_of" jY ["part"])
 (g_filled:FX K mg "filled" kW ["pattern","table"])
 (g_same_top:FX K mg "same_top" iz ["one","two"])
 (g_side_by_side:FX K mg "side_by_side" dD ["one","two"])
 (g_common:FX K mg "common" kP ["one","two"])
 (g_ins_of:FX K mg "ins_of" kM ["book"])
 (g_rules_of:FX K mg "rules_of" iC ["book"])
 (g_states_of:FX K mg "states_of" gd ["book"])
 (g_small_tree:FX K mg "small_tree" fE ["ins"])
 (g_knot_above:FX K mg "knot_above" fw ["ins","kind","kids"])
 (g_first_makings:FX K mg "first_makings" dh ["book"])
 (g_first_front:FX K mg "first_front" eF ["book","state","made","partings"])
 (g_put_links:FX K mg "put_links" gp ["book","state","front","links"])
 (g_spread:FX K mg "spread" kL ["ins","links","partings"])
 (g_cut_front:FX K mg "cut_front" gf ["front","state","partings"])
 (g_found_fronts:FX K mg "found_fronts" dP ["book"])
 (g_fronts_of:FX K mg "fronts_of" fW ["book"])
 (g_partings_of:FX K mg "partings_of" eK ["book"])
 (g__law_cell:FX K mg "_law_cell" gu ["script","k"])
 (g__law_folded:FX K mg "_law_folded" eB ["cells","many"])
 (g__law_names:FX K mg "_law_names" fq ["cell"])
 (g__law_name_at:FX K mg "_law_name_at" dO ["book","state","tree","place"])
 (g__law_is_tree:FX K mg "_law_is_tree" dJ ["ins","tree","most"])
 (g__law_is_front:FX K mg "_law_is_front" dg ["outs","front"])
 (g__law_holes:FX K mg "_law_holes" fA ["front"])
 (g__law_lies:FX K mg "_law_lies" gw ["front","thing","fronts"])
 (g__law_fronts_formed:FX K mg "_law_fronts_formed" cn ["book","fronts"])
 (g__law_pairs_formed:FX K mg "_law_pairs_formed" cx ["book","fronts","pairs"])
 (g__law_pairs_part:FX K mg "_law_pairs_part" cI ["book","fronts","pairs"])
 (g__law_closed:FX K mg "_law_closed" eC ["book","fronts"])
 (g__law_spine:FX K mg "_law_spine" fx ["number","outs","many","end"])
 (g__law_step:FX K mg "_law_step" fS ["cell","spine","states","state","kids"])
 (g__law_chain:FX K mg "_law_chain" ft ["script"])
 (a44:Vm K Uo "law"=some (some (.ref IX))) (l44:K.lookup IX=some ⟨Ni,Ng,.func (WT "law" "law" (bO iJ) (bL iJ) (am iJ) .none IZ I0 Ja IY FC Jb),Nh⟩) (c44:YB K FC "law"=true) (k44:YA K (.ref IX)=true)
 (z0:Vm K Uo "all"=some none)
 (z1:Vm K Uo "dict"=some none)
 (z2:Vm K Uo "enumerate"=some none)
 (z3:Vm K Uo "isinstance"=some none)
 (z4:Vm K Uo "len"=some none)
 (z5:Vm K Uo "list"=some none)
 (z6:Vm K Uo "range"=some none)
 (z7:Vm K Uo "reversed"=some none)
 (z8:Vm K Uo "str"=some none)
 (z9:Vm K Uo "tuple"=some none)
 (z10:Vm K Uo "zip"=some none)
 (y0:Vm K Uo "CALL_SIGN"=some (some (.str (Tu "?") Pd)))
 (y1:Vm K Uo "MOST_KIDS"=some (some (.int (3) FL)))
 (y2:Vm K Uo "HOLE"=some (some (.ref Nj)))
 (w2:K.lookup Nj=some ⟨.type "tuple",Nk,.seq #[.str (Tu "*") Jc] RY,Nl⟩) :
 ∃ fd:WO,(∀ (s:Tv) (v:Tp),BindsTo s fd ⟨[v],[]⟩ [("script",v)])/\∀ base:US,K.In base->base.Ns Uo mg->bn l.prog w K mg base CX0 70 fa fd ["script"] (nj K):=by
 have e0:=yt.symm.trans (X5 X G a44);have e:IX=fa:=(Value.ref.inj (T5 e0)).symm;subst e;have Pe:=dH (st:=iJ) l44 c44 k44;have RZ:=Pe.binds (ps:=["script"]) fun _ _ _ _ _ _ us hl=>by obtain ⟨y0,rfl⟩:=us1 hl;rfl
 let T:TX K mg:=⟨⟨Pd,X5 X G y0⟩,⟨FL,X5 X G y1⟩,Nj,X5 X G y2,fun H=>.inr ⟨_,_,_,w2,rfl,rfl,(by show 1<=TN;decide),.cons ⟨_,rfl⟩ (.nil)⟩,g_kids_of,g_walked,g_placed,g_built,g_places,g_is_call,g_is_hole,g_is_knot,g_called_by,g_calls_in,g_holes_in,g_top_of,g_filled,g_same_top,g_side_by_side,g_common,g_ins_of,g_rules_of,g_states_of,g_small_tree,g_knot_above,g_first_makings,g_first_front,g_put_links,g_spread,g_cut_front,g_found_fronts,g_fronts_of,g_partings_of,g__law_cell,g__law_folded,g__law_names,g__law_name_at,g__law_is_tree,g__law_is_front,g__law_holes,g__law_lies,g__law_fronts_formed,g__law_pairs_formed,g__law_pairs_part,g__law_closed,g__law_spine,g__law_step,g__law_chain,⟨IX,_,Pe,RZ,X5 X G a44⟩,Vc X G z0,Vc X G z1,Vc X G z2,Vc X G z3,Vc X G z4,Vc X G z5,Vc X G z6,Vc X G z7,Vc X G z8,Vc X G z9,Vc X G z10⟩
 refine ⟨WT "law" "law" (bO iJ) (bL iJ) (am iJ) .none IZ I0 Ja IY FC Jb,fun s v=>.of_eq rfl,fun base _ _=>?_⟩;exact vS T
theorem walk {l:PySem.W.OpenLaw} {q:TF} {loose:List T6} {XP:(T6->Option Tp)->US->Prop} {YP:T3->US->Prop} {d:DefRec} {K:Params->Tg} (hn:l.most=some 63) (Gp:d.params.defaults=[])
 (hY:∀ (w:T3) (h:US),YP w h->(K w.params).In h)
 (F:∀ (w:T3) (mg:T6->Option Tp) (fa:Tn) (h:US),(K w.params).In h->h.Ns Uo mg->mg d.name=some (.ref fa) →
  ∃ fd:WO,(∀ (s:Tv) (u:Tp),BindsTo s fd ⟨[u],[]⟩ [("script",u)])/\∀ base:US,(K w.params).In base->base.Ns Uo mg->bn l.prog w (K w.params) mg base CX0 70 fa fd ["script"] (nj (K w.params))) :
 PySem.W.WalkO q loose XP YP l.row.toRowW d [] (fun f vs=>PySem.call f vs) :=
 L2.uD (n:=63) (k:=70) (x:="script") (CX:=fun _=>CX0) (sp:=fun w=>nj (K w.params)) hn (by decide) Gp ⟨rfl,by decide,by decide⟩ hY F (fun _ _ a ns hl _ hS=>⟨a,ns,rfl,hS,hl,fun _=>rfl⟩) fun _ _ _ _ _ z=>z
end LAW
open PySem PySem.W PyProof.Rows
set_option maxRecDepth 100000 in
set_option maxHeartbeats 0 in
theorem PySem.Challenge.cw_boughbook_k60_whole_long_chains_holds : PySem.Challenge.rw_boughbook_k60_whole_long_chains.Holds := by
 w_on;o_law;(refine holds_open (q:=LAW.vw) (N:=90000) (loose:=[]) (XP:=XL LAW.vw []) (Yf:=Hook.obs (kHook LAW.d0.heap_1 LAW.ks LAW.ke)) (Ya:=Hook.val (kHook LAW.d0.heap_1 LAW.ks LAW.ke)) (YP:=Hook.says (kHook LAW.d0.heap_1 LAW.ks LAW.ke)) (Xt:=LAW.xt) (HD.rW (by kernel_rfl) (by kernel_rfl) (fun _=>by kernel_rfl) LAW.lk0 LAW.lk1 LAW.lk2 LAW.lk3 LAW.lk4 LAW.lk5 (HD.Pc.k LAW.kp)) (Hook.of (kHook LAW.d0.heap_1 LAW.ks LAW.ke)) (Hook.keeps (kHook LAW.d0.heap_1 LAW.ks LAW.ke)) (fun s e=>xl_of s (YI.mp e).1) XL.keeps (by rfl) (by rfl) (by rfl) (fun s e=>recFacts_of (YI.mp e).2) (by rfl) (by assumption) (by decide +kernel) ⟨rfl,rfl,rfl,rfl,rfl,by decide +kernel⟩ ?_ ?_);w_witness2
 k_fill
 refine LAW.walk (l:=PySem.Challenge.rw_boughbook_k60_whole_long_chains) rfl rfl (fun w h Y=>PySem.W.kIn_of Y) ?F
 case F =>
  intro w mg fa h KX G Gq;refine' LAW.all_mk KX G Gq (LAW.fx1 KX G) (LAW.fx1 KX G) (LAW.fx1 KX G) (LAW.fx1 KX G) (LAW.fx1 KX G) (LAW.fx1 KX G) (LAW.fx1 KX G) (LAW.fx1 KX G) (LAW.fx1 KX G) (LAW.fx1 KX G) (LAW.fx1 KX G) (LAW.fx1 KX G) (LAW.fx2 KX G) (LAW.fx2 KX G) (LAW.fx2 KX G) (LAW.fx2 KX G) (LAW.fx1 KX G) (LAW.fx1 KX G) (LAW.fx1 KX G) (LAW.fx1 KX G) (LAW.fx3 KX G) (LAW.fx1 KX G) (LAW.fx4 KX G) (LAW.fx4 KX G) (LAW.fx3 KX G) (LAW.fx3 KX G) (LAW.fx1 KX G) (LAW.fx1 KX G) (LAW.fx1 KX G) (LAW.fx2 KX G) (LAW.fx2 KX G) (LAW.fx1 KX G) (LAW.fx4 KX G) (LAW.fx3 KX G) (LAW.fx2 KX G) (LAW.fx1 KX G) (LAW.fx3 KX G) (LAW.fx2 KX G) (LAW.fx3 KX G) (LAW.fx3 KX G) (LAW.fx2 KX G) (LAW.fx4 KX G) (LAW.fx5 KX G) (LAW.fx1 KX G) ?a44 ?l44 ?c44 ?k44 ?z0 ?z1 ?z2 ?z3 ?z4 ?z5 ?z6 ?z7 ?z8 ?z9 ?z10 ?y0 ?y1 ?y2 ?w2
  (case a44=>k_is)
  (case l44=>k_is)
  (case c44=>k_is)
  (case k44=>k_is)
  (case z0=>k_is)
  (case z1=>k_is)
  (case z2=>k_is)
  (case z3=>k_is)
  (case z4=>k_is)
  (case z5=>k_is)
  (case z6=>k_is)
  (case z7=>k_is)
  (case z8=>k_is)
  (case z9=>k_is)
  (case z10=>k_is)
  (case y0=>k_is)
  (case y1=>k_is)
  (case y2=>k_is)
  (case w2=>k_is)
