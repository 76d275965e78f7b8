import PyProof.Rows.All
import Wide.All
import OpenK.AllK
import Wide.FinOn
import Lean
import PyProof.EqAt
import PyProof.EqKinds
import PyProof.TupleCall
import KE.KRevIter
import PyProof.ListNew
import PyProof.Draws
import PyProof.EnumMake
import PyProof.Rows.EnumRows
import PyProof.ZipIter
import PyProof.ConsumeWalk
import KE.LcSums
import PyProof.AttrMissHeap
import KE.KDictOf
import PyProof.DictWalks
import PyProof.ListMulRoad
import PyProof.FactsAll.tuple
import PyProof.NeKinds
import KE.RegKTryMore
import KE.RegKIsAll
import PyProof.StrWalks
import PyProof.Rows.SetFrom
import PyProof.FString5
import Wide.Txt
import PyProof.Rows.SeqMore
import PyProof.StrOps2
import KE.KEqDict
import PyProof.CollectIter
import PyProof.JoinWalk
import PyProof.CallStr
import PyProof.DictRoadsH
import PyProof.MeetsDictList
import PyProof.DictTruth
import PyProof.StrLawsChain
import PyProof.StrCalls6
import PyProof.ToksMono
import PyProof.StrCalls2
import KE.KWords
import PyProof.MeetsStr2
import KE.KLam
import KE.KDictLaws
import PySem.Challenge.RW_boughbook_k44_whole_many_times_over
set_option maxHeartbeats 0
set_option Elab.async false
set_option linter.all false
set_option maxRecDepth 100000
set_option genInjectivity false
set_option genSizeOf false
open List renaming length_map->Sl,getElem?_eq_getElem->Sn,mem_of_getElem?->Sv,getElem?_map->Sx,mem_singleton->Sz,length_append->SD,size_toArray->SF,map_append->SI,mem_cons_of_mem->SN,length_cons->SQ,mem_cons->SR,mem_cons_self->SU,mem_append_right->S3,mem_append->S6,length_take->S9,map_cons->Tb,length_reverse->Te,mem_iff_getElem?->Tg,mem_map->Tj,mem_append_left->Tp,getElem?_append_left->Ts,length_drop->Tz,take_of_length_le->TC,replicate->TJ,reverse_cons->TU,getElem?_eq_some_iff->T2,append_nil->T3,getElem?_append_right->T5,lookup_cons->T8,getElem?_eq_none->T9,mem_singleton_self->Uc,take_add_one->Ui,length_eq_zero_iff->Uj,getElem_mem->Uk,getD->Ul,map_map->Ur,reverse_append->Uw,map_congr_left->Ux,getElem?_zip_eq_some->UB,getElem?_reverse->UC,range->UE,reverse_reverse->UI,replicate_succ->UL,filterMap_cons->UM,drop_zero->US,take_append_drop->UT,find?_cons->UY,mem_of_mem_take->U2,map_nil->U3,lookup->U4,take_zero->Va,take_length->Vb,mem_flatMap->Vc,length->Vf,mem_filterMap->Vg,dropLast_concat_getLast->Vl,append_assoc->Vq,mem_of_mem_drop->Vw,mem_reverse->Vz,length_filterMap_le->VD,getElem?_take_of_lt->VE,of_mem_zip->VJ,length_zip->VL,filterMap_append->V4,map_reverse->V6,cons_append->V7,all_eq_true->V8,nodup_cons->Wg,mem_filter->Wh,mem_range->Wr,flatten_cons->Wy,ext_getElem?->Wz,prefix_refl->WO,nil_append->WZ,idxOf_cons->W0,length_filter_le->W9,nodup_nil->Xh,getElem?_set_ne->Xi,take_sublist->XJ,nodup_append->XM
open PySem renaming wpAny_bind->Sm,Addr->So,Value->Sq,Shared->Sr,wpAny_pure->Sw,Str->SG,Program->SH,sizeLine->SM,wpAny->SV,World->S0,model->S7,boot_len->S8,Around->Ta,Paired->Tc,mem_of_lookup->Tf,starEach->Tr,Heap->TL,Expr->TN,wpAny_mono->TQ,mainGlobals->TR,wpAny_newObj_type->TV,Scope->Ub,wpAny_callSpecial?_slot->Ue,wpAny_Call_Name_kw->Ug,sysModules->Uh,wpAny_field->Uo,wpAny_call_entry->Up,FuncData->Uu,Obj->UD,NameKind->UR,wpAny_holding->UU,eval->UZ,wpAny_specialOf->U7,Arguments->U9,rawInt->Vi,Stmt->Vj,wpAny_typeNameOfWhole_keyiter->Vm,sizeLine_eq->Vn,cLine->Vo,backTo->Vr,wpAny_passesOwn->Vs,binaryOp->Vt,codeAny->VA,wpAny_setField->VB,tupleKeyHash->VM,codeAny_mono->VN,atKey->VP,wpAny_typeNameOf_keyiter->VS,bindArgs->VT,Pos->VX,Builtin->VY,compareOp->V0,wpAny_typeOf->Wb,wpAny_dictEntries->Wc,isSubtype_type->Wd,getItem->We,Env->Wf,builtinLookup_eq_fast->Wi,wpAny_isInstance->Wk,wpAny_of_eq->Wl,sliceBounds->Wm,wpAny_updateSeq->Wt,wpAny_execs_nil->Wu,pyNext->Wv,letOwnedTupleGo->Ww,OsState->WE,call_meets->WI,foldedSetIterable->WV,atKey_none_of_get->WW,wpAny_comprehension_free->W5,wpAny_attempt->W6,wpAny_forIn_list->Xb,swapsWith->Xc,noteFrame->Xd,cellsFrom->Xe,wpAny_rule->Xk,wpAny_call->Xl,bootBuiltins->Xm,assignEach->Xn,IsPart->Xq,typeLookup_type->Xr,importedModules->Xs,codeAny_handlers_test->Xv,wpAny_newFunctionEnv->XA,slicePicked->XB,newFunctionEnv->XC,firstArgMember->XD
open PySem.W renaming Frag->Ss,findIn->TY,emptyDict->Uq,envX->UN,keepIn->UQ,kla_obj->UW,instObj->UX,boot_heap->U0,tabObj->Vv,fnOf->Vy,callWith_K->VO,exmOne->VU,hideAll->VZ,tabIn->V9,mroIn->Wa,CodeHd->Wn,plainGet->WJ,lookIn->Xf,fnMade->Xg,plainGet_of->Xp,methodObj->XF,hasDictIn->XG
open Nat renaming le_refl->Su,lt_of_lt_of_le->SY,le_trans->Td,ne_of_lt->Ti,zero_le->Tn,lt_irrefl->Tx,pow_le_pow_right->UH,le_of_lt->U1,min_eq_left->VI,lt_of_le_of_lt->Wq,lt_succ_of_lt->Wx,lt_succ_self->WN,ne_of_gt->WU,not_lt_zero->WY,add_assoc->Xu,sub_zero->XH,lt_trans->XI
open PySem.Heap renaming get?_push_of_some->Sy,get?_push_size->SO,lt_size->SS,get?_update_other->T4,get?_update_self->T6,SameBut->Um,size_push->VF
open PySem.Str renaming ofString->SE
open PySem.Paired renaming length->SJ
open PySem.F renaming plainAttrs_list->SK,type_list_append->S4,slot_list_append->S5,slot_dict_keyiterator_next->UP,slot_dict_setdefault->Vk,slot_list_index->VQ,plain_extend_loop->VR,type_list_pop->V1,slot_list_pop->V2,type_list_extend->WB,slot_list_extend->WC,args_tuple_add_2->WD,type_list_index->WK,entry_tuple_add->WL,slot_tuple_add->WS,slot_tuple_hash->W2
open Bool renaming false_ne_true->SW,false_eq_true->T1,eq_false_iff->WA,not_true->WH,and_eq_true->WR,eq_iff_iff->W4,and_eq_true_iff->Xj
open Array renaming length_toList->SX,getElem?_eq_some_iff->Uv,toList_append->U8,append_assoc->Ws,getElem?_toList->Xa,forIn_toList->Xy
open PyProof.Rows renaming slot_tuple_getitem->To,boot_tuple->Tt,envOfC->Vd,callWith_type1->Vp,boot_max->V3,boot_int->W7,IsTup->Xw,AllBare->Xz
open Option.some renaming inj->Tq
open Int renaming emod_lt_of_pos->Tu,emod_nonneg->Tv,toNat_natCast->Ut,toNat_of_nonneg->Uy,ne_of_gt->VW,lt_of_lt_of_le->Xx
open PySem.PassesOwn renaming never->Tw
open Sum renaming inl->TB,inr->Vx
open PySem.Value renaming ref->TF,none->Ud,type->Xo
open False renaming elim->TH
open Option renaming map_eq_some_iff->TM,isSome_iff_exists->VC,map_some->WX
open PySem.NameKind renaming free->TZ,cell->VV
open PySem.Builtin.Slice renaming slicePlaces->T7,sliceAdjust->U6,sliceApplied->VH
open PySem.Builtin.Tuple renaming tupleExact->Ua,tupleHashOf->UG,tupleItemsOf->VG
open ForInStep renaming yield->Uz
open Ne renaming symm->UA
open PySem.Obj renaming data_mapFields->UJ,mapSeq->UO,isFreed_of_fields->Wj,mapFields->W8
open PySem.Builtin.List renaming listTooLong->UK
open PySem.Calls renaming Name_function_global->U5,loadGlobal_global->V5,spliced_cons->WQ,spliced_nil->W3
open Sum.inl renaming inj->Ve
open PySem.Heap.SameBut renaming update->Vh
open True renaming intro->Vu
open Prod renaming ext->Wo,fst->WM
open PySem.Builtin.Str renaming strSliceIndices->WG
open Or renaming inl->WT
open PySem.Around renaming frames_deeper->XN
open Option renaming some->A?,none->Am
open Bool renaming true->B?,false->C?
theorem D?.{u}{α:Sort u}{a:α}:a=a:=rfl
variable{m ns:List Int}{h base h1 h':TL}{α β:Type}{a f b l it sl c':So}{loose N ps:List SG}{as ch fp:List So}{K:Ss}{e tg iter elt:TN}{x qual name stem p1 p2:SG}{us its:List Sq}{u cd oc vl vu acc:Sq}{F:α->β->Prop}{P prog:SH}{t' j n d c0:Nat}{yg pins:List (So×UD)}{M:Model}{A:Ta}{E Q:Sq->Sr->Prop}{s' s s1:Sr}{pos:VX}{st:Vj}{c C k' S S1:Int}{es ifs:List TN}{body:List Vj}{lo hi:Option Int}{pl:PySem.Sem Bool}{op:CmpOp}{kw:List (SG×Sq)}{env:Wf}{mg:SG->Option Sq}{fd:Uu}{outer:List Wf}{kindOf:SG->Option UR}{sc scope:Ub}{params:U9}{od:Option So}{items:Array Sq}{XP:(SG->Option Sq)->TL->Prop}{YP:S0->TL->Prop}{B:Prop}{js:List (Option Nat)}{cl:List (SG×So)}{L:List Nat}{ins outs:List (SG×Int)}{begun:Bool}{e':Int->Int->Int}
def Za:=@if_neg
def Yb:=@if_pos
def Zb:=@decide_eq_false
def Yc:=@decide_eq_true
def Zc:=@of_decide_eq_true
def Yd:=@absurd
def Zd:=@congrArg
namespace HD
open PySem PySem.W PySem.Calls PyProof.Rows
def jN(tb:String->Option VY)(p:SH)(w:S0)(m:Nat)(ann:Option Sq):Nat->SharedT->Thread->Option SharedT
 |0,_,_=>Am
 | n+1,s,t=>match through t with
   |true=>A? s
   | false=>match stepOk m ann t with
     |false=>Am
     | true=>match stepT (denote tb) p w s t with
       |some (s',t')=>jN tb p w m ann n s' t'
       |none=>Am
theorem kc{tb:String->Option VY}{p:SH}{w:S0}{m:Nat}{ann:Option Sq}:∀{n:Nat}{s s':SharedT}{t:Thread},jN tb p w m ann n s t=A? s'->topRun tb p w m ann n s.abs t=A? s'.abs
 |0,_,_,_,h=>by cases h
 | n+1,s,s',t,h=>by
   unfold jN at h;unfold topRun;cases he:through t with
   |true=>rw[he]at h;cases h;rfl
   | false =>
     rw[he]at h;cases hk:stepOk m ann t with
     |false=>rw[hk]at h;cases h
     | true =>
       rw[hk]at h;cases hs:stepT (denote tb) p w s t with
       |none=>rw[hs]at h;cases h
       | some r =>
         obtain⟨s2,t2⟩:=r;rw[hs]at h;rw[stepT_spec hs];exact kc h
def rJ:List UD->Nat->BT->BT
 | [],_,t=>t
 |o::l,n,t=>rJ l (n+1) (t.ins n o)
def uE:List UD->Nat->BT->Bool
 | [],_,_=>B?
 |o::l,n,t=>((t.ins n o).get n).isSome && uE l (n+1) (t.ins n o)
theorem ls:∀(l:List UD)(n:Nat)(t:BT),uE l n t=B?->(rJ l n t).list (n+l.length)=t.list n++l
 | [],n,t,_=>by rw[T3];rfl
 | o::l,n,t,h=>by
   obtain⟨h1,h2⟩:=Xj.mp h;have e:=absHeap_ins (life:=default) h1
   have e2:(t.ins n o).list (n+1)=t.list n++[o]:=by
    have:=Zd (λx:TL=>x.objs.toList) e;simpa[absHeap,Heap.push]using this
   have ih:=ls l (n+1) (t.ins n o) h2;rw[e2,Vq]at ih;rw[SQ,show n+(l.length+1)=n+1+l.length by lia];exact ih
theorem vN(ok:uE h.objs.toList 0 .nil=B?):absHeap (rJ h.objs.toList 0 .nil) h.objs.size h.life=h:=by
 have e:=ls _ _ _ ok;rw[Nat.zero_add]at e;unfold absHeap;rw[<-SX,e];rfl
noncomputable abbrev mh(p:SH)(N:Nat)(w:S0)(os:WE):Option SharedT :=
 jN treeTable p w 11 (A? (.ref 6)) N ⟨rJ (U0 w.params).objs.toList 0 .nil,11,(U0 w.params).life,Array.mk [],boot_drawn,boot_toks,os⟩ (topStub p)
theorem t8(P:Params):(uE (U0 P).objs.toList 0 .nil,(U0 P).isNs TR,(U0 P).objs.size,(U0 P).nsMap TR "__annotations__")=(B?,B?,11,A? (.ref 6)):=by kernel_rfl
theorem map_some{o:Option α}{a:α}{f:α->β}{b:β}(h:o=A? a)(e:o.map f=A? b):f a=b:=by rw[h]at e;exact Tq e
abbrev Tr0(p q:SH)(loose:List SG)(Xt:Sr->Bool)(N:Nat)(g0:Bool):Prop:=∀(w:S0)(os:WE),((mh p N w os).map λs=>(staticsOk (Xs p.main.body) (U0 w.params) s.abs.heap && namesBound p s.abs.heap && gensDone s.abs && laidKept (U0 w.params) s.abs.heap,s.abs.heap.bltView,pinSeenD q (drecsOf q) s.abs,plainSeenD q loose s.abs,clsSeenW q loose s.abs,(s.abs.heap.accountedOkI (Xs p.main.body),s.abs.heap.isNs TR,s.abs.heap.isNs builtinsNs,tablesOk q s.abs.heap,Xt s.abs,(if g0 then s.abs.gens.size == 0 else !leftWithCleanup s.abs.gens))))=A? (B?,bltViewBooted,pinGoodD (drecsOf q),plainGoodD q loose,clsGoodW q loose,(B?,B?,B?,B?,B?,B?))
abbrev Tr1(p q:SH)(N:Nat):Prop:=∀(w:S0)(os:WE),((mh p N w os).map λs=>seen ((recsOf q).map (·.name)) (ownsOf q) [] {s.abs with gens:=#[]})=A? (expectedOf q)
abbrev Tr2(p q:SH)(loose:List SG)(N:Nat):Prop:=∀(w:S0)(os:WE),((mh p N w os).map λs=>s.abs.heap.keysOk (looseW q loose) ((recsOf q).map (·.name)) ((litsOf q).map (·.1)) ((clssOf q (looseW q loose)).map (·.name)))=A? B?
abbrev Tr3(p q:SH)(N:Nat):Prop:=∀(w:S0)(os:WE),((mh p N w os).map λs=>tabsOk q s.abs)=A? B?
abbrev Tr4(p q:SH)(loose:List SG)(N:Nat):Prop:=∀(w:S0)(os:WE),((mh p N w os).map λs=>plainSeenE q (looseW q loose) s.abs)=A? (plainGoodE q (looseW q loose))
abbrev Tr5(p q:SH)(N:Nat):Prop:=∀(w:S0)(os:WE),((mh p N w os).map λs=>wideSeen q s.abs)=A? (wideGood q)
theorem qK{p q:SH}{Xt:Sr->Bool}{Yf:Sr->α}{Ya:S0->α}{N:Nat}{g0:Bool}
 (e:opening p=plainProg p.main.scope.names) (hN:Nat.ble 600 N=B?) (f:∀s,fenceModules? p s=A? s)
 (r0:Tr0 p q loose Xt N g0)
 (r1:Tr1 p q N)
 (r2:Tr2 p q loose N)
 (r3:Tr3 p q N)
 (r4:Tr4 p q loose N)
 (r5:Tr5 p q N)
 (rY:∀(w:S0)(os:WE),((mh p N w os).map λs=>Yf s.abs)=A? (Ya w)) :
 LeftO p q loose Xt Yf Ya N g0:=λw=>by
 obtain⟨⟨h,gs,d,k,os⟩,e1,e'⟩:=TM.mp (boot_open e hN f w);obtain⟨rfl,rfl,rfl,rfl⟩:h=U0 w.params/\gs=Array.mk []/\d=boot_drawn/\k=boot_toks:=by simpa using e'
 have Jh:=t8 w.params;have z0:=Zd WM Jh;have z1:=Zd (λx=>x.2.1) Jh;have z2:=Zd (λx=>x.2.2.1) Jh;have z3:=Zd (λx=>x.2.2.2) Jh;dsimp only at z0 z1 z2 z3;obtain⟨s1,Ek,hY⟩:=TM.mp (rY w os);have q0:=map_some Ek (r0 w os);have q1:=map_some Ek (r1 w os);have q2:=map_some Ek (r2 w os);have q3:=map_some Ek (r3 w os);have q4:=map_some Ek (r4 w os);have q5:=map_some Ek (r5 w os);have rr:=kc Ek
 have JU:SharedT.abs ⟨rJ (U0 w.params).objs.toList 0 .nil,11,(U0 w.params).life,Array.mk [],boot_drawn,boot_toks,os⟩=⟨U0 w.params,Array.mk [],boot_drawn,boot_toks,os⟩:=by
  unfold SharedT.abs;dsimp only;rw[<-z2,vN z0]
 rw[JU]at rr;have a0:=Zd WM q0;have a1:=Zd (λx=>x.2.1) q0;have a2:=Zd (λx=>x.2.2.1) q0;have a3:=Zd (λx=>x.2.2.2.1) q0;have a4:=Zd (λx=>x.2.2.2.2.1) q0;have b0:=Zd (λx=>x.2.2.2.2.2.1) q0;have b1:=Zd (λx=>x.2.2.2.2.2.2.1) q0;have b2:=Zd (λx=>x.2.2.2.2.2.2.2.1) q0;have b3:=Zd (λx=>x.2.2.2.2.2.2.2.2.1) q0;have b4:=Zd (λx=>x.2.2.2.2.2.2.2.2.2.1) q0;have b5:=Zd (λx=>x.2.2.2.2.2.2.2.2.2.2) q0;dsimp only at a0 a1 a2 a3 a4 b0 b1 b2 b3 b4 b5
 have l2:openSeen q loose (Xs p.main.body) Xt g0 s1.abs=openGood q loose:=by
  unfold openSeen openGood;rw[q1,a1,q2,b0,b1,b2,b3,b4,b5,q3,a2,q4,a3,q5,a4];rfl
 have t:topFrom treeTable p w N ⟨U0 w.params,Array.mk [],boot_drawn,boot_toks,os⟩=A? s1.abs:=by
  unfold topFrom;dsimp only;rw[z1,z2,z3,rr];show(match staticsOk (Xs p.main.body) (U0 w.params) s1.abs.heap && namesBound p s1.abs.heap && gensDone s1.abs && laidKept (U0 w.params) s1.abs.heap with|true=>_|false=>_)=_;rw[a0]
 unfold openEnds;rw[e1];show(topFrom treeTable p w N _).map _=_;rw[t];exact Zd A? (Wo l2 hY)
def p0:Params:={strHash:=λ_=>0,shareClass:=λ_=>0,mergeTok:=λt=>t,idOf:=λ_=>0,idOfShared:=λ_ _=>0,followText:=λ_=>C?,idOfImm:=λ_=>0}
structure Pc(p:SH)(N:Nat)(as:List So)(vs:S0->List (Option UD)):Prop where
 out:∀(w:S0)(os:WE),((mh p N w os).map λs=>as.map s.abs.heap.get?)=A? (vs w)
theorem Pc.k{p:SH}{N:Nat}{K:Params->Frag}{e:∀P,as=(K P).map (·.1)}(h:Pc p N as λw=>(K w.params).map λp=>A? p.2):∀(w:S0)(os:WE),((mh p N w os).map λs=>(kHook K as e).obs s.abs)=A? ((kHook K as e).val w):=h.out
end HD
section
open PySem PySem.W PyProof.Rows
def LAW.vw:SH:=PySem.W.view PySem.Challenge.pw_boughbook_k44_whole_many_times_over [1,2,3,4,6,7,8,9,11,12,13,14,15,16,18,19,20,21,22,23,24,25,26,27,29,30,32,33,34,35,36,37,38,39,41,42,43,44,46,47,48,49,50,51,52,53,54,55,56,57,58,59,60,61]
def LAW.xt(s:Sr):Bool:=xlAt LAW.vw [] s && recOk (RowW.records (OpenRow.toRowW (OpenLaw.row PySem.Challenge.rw_boughbook_k44_whole_many_times_over))) s
theorem LAW.ws:OpenLaw.wellSaid PySem.Challenge.rw_boughbook_k44_whole_many_times_over=true:=by kernel_rfl
theorem LAW.lk0:HD.Tr0 PySem.Challenge.pw_boughbook_k44_whole_many_times_over LAW.vw [] LAW.xt 90000 true:=λ_ _=>by kernel_rfl
theorem LAW.lk1:HD.Tr1 PySem.Challenge.pw_boughbook_k44_whole_many_times_over LAW.vw 90000:=λ_ _=>by kernel_rfl
theorem LAW.lk2:HD.Tr2 PySem.Challenge.pw_boughbook_k44_whole_many_times_over LAW.vw [] 90000:=λ_ _=>by kernel_rfl
theorem LAW.lk3:HD.Tr3 PySem.Challenge.pw_boughbook_k44_whole_many_times_over LAW.vw 90000:=λ_ _=>by kernel_rfl
theorem LAW.lk4:HD.Tr4 PySem.Challenge.pw_boughbook_k44_whole_many_times_over LAW.vw [] 90000:=λ_ _=>by kernel_rfl
theorem LAW.lk5:HD.Tr5 PySem.Challenge.pw_boughbook_k44_whole_many_times_over LAW.vw 90000:=λ_ _=>by kernel_rfl
section
local macro_rules | `(tactic| o_head $_H) => `(tactic| assumption)
theorem LAW.d0(h:OpenRow.Holds (OpenLaw.row PySem.Challenge.rw_boughbook_k44_whole_many_times_over)):OpenRow.Holds (OpenLaw.row PySem.Challenge.rw_boughbook_k44_whole_many_times_over):=by
 k_head
end
noncomputable def LAW.ks:List So:=(LAW.d0.heap_1 HD.p0).map (·.1)
theorem LAW.ke:∀P,LAW.ks=(LAW.d0.heap_1 P).map (·.1):=λ_=>by kernel_rfl
theorem LAW.kp:HD.Pc PySem.Challenge.pw_boughbook_k44_whole_many_times_over 90000 LAW.ks λw=>(LAW.d0.heap_1 w.params).map λp=>A? p.2:=⟨λ_ _=>by kernel_rfl⟩
end
namespace L2
open PySem PySem.Spec PyProof.Rows
theorem gmE{f:α->β}{l:List α}{i:Nat}{x:α}(h:l[i]?=A? x):(l.map f)[i]?=A? (f x):=by rw[Sx,h];rfl
theorem glE{l:List α}{i:Nat}{x:α}(h:l[i]?=A? x):i<l.length:=(T2.mp h).1
abbrev Key:=Sum Int SG
def gw:Key->Sq->Bool
 |.inl k,v=>Value.isInt k v
 |.inr x,v=>Value.isStrOf x v
def xk(w:S0):Key->Int
 |.inl k=>hashInt k
 |.inr x=>hashStr w x
theorem aX:∀{k:Key}{v:Sq},gw k v=B?->(∃i t,k=TB i/\v=Value.int i t)\/(∃x t,k=Vx x/\v=Value.str x t)
 | .inl i,v,h=>by
   obtain⟨t,e⟩:=Value.isInt_shape (k:=i) (v:=v) h;exact .inl ⟨i,t,rfl,e⟩
 | .inr x,v,h=>by
   obtain⟨t,e⟩:=Value.isStrOf_shape (x:=x) (v:=v) h;exact .inr ⟨x,t,rfl,e⟩
theorem qI(i:Int)(t:Tok):gw (.inl i) (.int i t)=true:=by simp[gw,Value.isInt]
theorem qD(x:SG)(t:Tok):gw (.inr x) (.str x t)=true:=by simp[gw,Value.isStrOf]
theorem vE(a b:Int):decide ((TB a:Key)=TB b)=(a == b):=by
 by_cases e:a=b
 .subst e;simp
 .have h:¬(TB a:Key)=TB b:=λq=>e (Ve q);rw[Zb h];exact(beq_eq_false_iff_ne.mpr e).symm
theorem vp(a b:SG):decide ((Vx a:Key)=Vx b)=decide (a=b):=by
 by_cases e:a=b
 .subst e;simp
 .have h:¬(Vx a:Key)=Vx b:=λq=>e (Sum.inr.inj q);rw[Zb h,Zb e]
theorem vO(a:Int)(b:SG):decide ((TB a:Key)=Vx b)=false:=Zb (λq=>nomatch q)
theorem vF(a:SG)(b:Int):decide ((Vx a:Key)=TB b)=false:=Zb (λq=>nomatch q)
def ax(prog:SH)(w:S0):PySem.KeyKind prog w Key where
 is:=gw
 hash:=xk w
 inj:=λv a b ha hb=>by
  rcases aX ha with⟨i,t,rfl,rfl⟩|⟨x,t,rfl,rfl⟩
  .rcases aX hb with⟨j,u,rfl,e⟩|⟨y,u,rfl,e⟩
   .injection e with e1 _;rw[e1]
   .exact nomatch e
  .rcases aX hb with⟨j,u,rfl,e⟩|⟨y,u,rfl,e⟩
   .exact nomatch e
   .injection e with e1 _;rw[e1]
 byValue:=λk v h=>by
  rcases aX h with⟨i,t,rfl,rfl⟩|⟨x,t,rfl,rfl⟩ <;> rfl
 pyHash:=λhv h=>by
  rcases aX hv with⟨i,t,rfl,rfl⟩|⟨x,t,rfl,rfl⟩
  .exact wpAny_pyHash_int h
  .exact wpAny_pyHash_str h
 eqBool:=λhu hv h=>by
  rcases aX hu with⟨i,t,rfl,rfl⟩|⟨x,t,rfl,rfl⟩
  .rcases aX hv with⟨j,u,rfl,rfl⟩|⟨y,u,rfl,rfl⟩
   .rw[vE]at h;exact wpAny_eqBool_int h
   .rw[vO]at h;exact SeqAt.EqAt.int_str i t y u _ _ _ _ h
  .rcases aX hv with⟨j,u,rfl,rfl⟩|⟨y,u,rfl,rfl⟩
   .rw[vF]at h;exact SeqAt.EqAt.str_int x t j u _ _ _ _ h
   .rw[vp]at h;exact wpAny_eqBool_str h
 «strs»:=λk x t v h=>by
  rcases aX h with⟨i,u,rfl,e⟩|⟨y,u,rfl,e⟩
  .exact nomatch e
  .injection e with e1 _;subst e1;cases v <;> rfl
theorem ni(prog:SH)(w:S0)(i:Int)(t:Tok):(ax prog w).is (.inl i) (.int i t)=true:=qI i t
theorem ol(prog:SH)(w:S0)(x:SG)(t:Tok):(ax prog w).is (.inr x) (.str x t)=true:=qD x t
set_option genInjectivity true in
inductive V where
 |non|bl (b:Bool)|int (i:Int)|str (x:SG)|byt (b:Array UInt8)|flt (b:UInt64)|ref (a:So)|ty (n:String)
 deriving DecidableEq
def RelV:V->Sq->Prop
 |.non,u=>u=Ud
 |.bl b,u=>u=Value.bool b
 |.int i,u=>∃t,u=Value.int i t
 |.str x,u=>∃t,u=Value.str x t
 |.byt b,u=>∃t,u=Value.bytes b t
 |.flt b,u=>∃t,u=Value.float b t
 |.ref a,u=>u=TF a
 |.ty n,u=>u=Xo n
abbrev Vals:List V->List Sq->Prop:=Tc RelV
theorem Vals.length{xs:List V}(r:Vals xs us):xs.length=us.length:=SJ r
theorem Vals.get:∀{xs:List V}{us:List Sq}{i:Nat}{x:V},Vals xs us->xs[i]?=A? x->∃u,us[i]?=A? u/\RelV x u
 |_,_,_,_,.nil,e=>by simp at e
 |_,_,0,_,.cons r _,e=>by simp at e;subst e;exact⟨_,D?,r⟩
 | _,_,i+1,x,.cons _ t,e=>by
   obtain⟨u,h1,h2⟩:=Vals.get (i:=i) (x:=x) t (by simpa using e);exact⟨u,by simpa using h1,h2⟩
theorem Vals.set{x:V}(r:RelV x u):∀{xs:List V}{us:List Sq}(i:Nat),Vals xs us->Vals (xs.set i x) (us.set i u)
 |_,_,_,.nil=>.nil
 |_,_,0,.cons _ t=>.cons r t
 |_,_,i+1,.cons q t=>.cons q (Vals.set r i t)
theorem Vals.append:∀{xs ys:List V}{us ws:List Sq},Vals xs us->Vals ys ws->Vals (xs++ys) (us++ws)
 |_,_,_,_,.nil,s=>s
 |_,_,_,_,.cons r t,s=>.cons r (Vals.append t s)
theorem Vals.take:∀{xs:List V}{us:List Sq}(n:Nat),Vals xs us->Vals (xs.take n) (us.take n)
 |_,_,0,_=>.nil
 |_,_,_+1,.nil=>.nil
 |_,_,n+1,.cons r t=>.cons r (Vals.take n t)
theorem Vals.drop:∀{xs:List V}{us:List Sq}(n:Nat),Vals xs us->Vals (xs.drop n) (us.drop n)
 |_,_,0,r=>r
 |_,_,_+1,.nil=>.nil
 |_,_,n+1,.cons _ t=>Vals.drop n t
def RelO:Option V->Option Sq->Prop
 |some v,A? u=>RelV v u
 |none,Am=>True
 |_,_=>False
def KV{κ:Type}:List (κ×V)->List (κ×Sq)->Prop:=Tc λ(p:κ×V)(q:κ×Sq)=>p.1=q.1/\RelV p.2 q.2
def kV:Key->V
 |.inl i=>.int i
 |.inr x=>.str x
inductive HO where
 |lst (xs:List V)
 |tup (xs:List V)
 |dK (xP:List (Key×V))|dT (xP:List (List Key×V))
 |set (S:Int->Bool) (n:Nat)
 |ins (C dx:So) (fs:List (SG×V))
 |own (x:So)
 |xd (fs:List (SG×V))
 |met (f x:So)
 |rng (lo hi:Int)
 |frz (o:UD) (u:HO)
 |tbl (ps:Array Sq)
 |ext (φ:TL->Prop)
abbrev Hp:=So->Option HO
def upd(H:Hp)(a:So)(o:HO):Hp:=λb=>if b=a then A? o else H b
theorem ad{H:Hp}{o:HO}:upd H a o a=A? o:=by unfold upd;rw[Yb rfl]
theorem aj{H:Hp}{o:HO}(h:b≠a):upd H a o b=H b:=by unfold upd;rw[Za h]
theorem tJ{H:Hp}{o u:HO}:upd (upd H a o) a u=upd H a u:=by
 funext b;unfold upd;split <;> rfl
theorem de{H:Hp}{o u:HO}(h:H a=A? o)(h':H b=A? u)(d:o≠u):a≠b:=by
 intro e;subst e;rw[h]at h';exact d (Tq h')
theorem ao{H:Hp}{o:HO}(h:H a=A? o)(h':H b=Am):a≠b:=by
 intro e;subst e;rw[h]at h';cases h'
section
variable(P:SH)(w:S0)
def ObjOk(H:Hp)(h:TL)(a:So):HO->Prop
 |.lst xs=>xs.length<=SM/\∃(its:List Sq)(n:Nat),Vals xs its/\h.get? a=A? {cls:=.type "list",data:=.seq its.toArray n}
 |.tup xs=>xs.length<=SM/\∃(its:List Sq)(n:Nat),Vals xs its/\h.get? a=A? {cls:=.type "tuple",data:=.seq its.toArray n}
 |.dK xP=>xP.length<=SM/\(a == Uh)=C?/\∃vs,KV xP vs/\h.DictOf (ax P w) a vs
 |.dT xP=>xP.length<=SM/\(a == Uh)=C?/\∃xs:List (List Key×So×Sq),
  Tc (λ(p:List Key×V)(q:List Key×So×Sq)=>p.1=q.1/\H q.2.1=A? (.tup (p.1.map kV))/\RelV p.2 q.2.2) xP xs /\
  ∃o es ep,h.get? a=A? o/\o.ExactDict/\o.data=.dict es ep/\es.toList=xs.map (entryOfKey (tupleKind (ax P w)))/\(xs.map (·.1)).Nodup
 |.set S n=>h.SetOf (intKind P w) a S n
 |.ins C dx fs=>H dx=A? (.own a)/\fs.length<=1000/\dx≠a/\h.get? a=A? (UX C dx) /\
  ∃mA,h.Ns1 dx mA/\(∀f,RelO (fs.lookup f) (mA f))/\PySem.Within mA (fs.map (·.1))
 |.own _=>∃o,h.get? a=A? o
 |.xd fs=>∃mA,h.Ns1 a mA/\∀f,RelO (fs.lookup f) (mA f)
 |.rng lo hi=>∃t u v,h.get? a=A? {cls:=.type "range",data:=.fields #[.int lo t,.int hi u,.int 1 v]}
 |.frz o u=>h.get? a=A? o/\ObjOk H h a u
 |.tbl ps=>h.get? a=A? {cls:=.none,data:=.fields ps}
 |.met f x=>h.get? a=A? (XF (.ref f) (.ref x))
 |.ext φ=>φ h/\(∃o,h.get? a=A? o)/\∀h1 h2:TL,φ h1->(∀o,h1.get? a=A? o->h2.get? a=A? o)->φ h2
def HOk(H:Hp)(h:TL):Prop:=∀a o,H a=A? o->ObjOk P w H h a o
end
section
variable{w:S0}{H H':Hp}{o:HO}
theorem ObjOk.lt(x:ObjOk P w H h a o):a<h.objs.size:=by
 cases o with
 |lst xs=>obtain⟨_,_,_,_,e⟩:=x;exact SS e
 |tup xs=>obtain⟨_,_,_,_,e⟩:=x;exact SS e
 |dK xP=>obtain⟨_,_,_,_,o,_,_,e,_⟩:=x;exact SS e
 |dT xP=>obtain⟨_,_,_,_,o,_,_,e,_⟩:=x;exact SS e
 |set S n=>obtain⟨o,_,_,_,e,_⟩:=x;exact SS e
 |ins C dx fs=>obtain⟨_,_,_,e,_⟩:=x;exact SS e
 |own y=>obtain⟨_,e⟩:=x;exact SS e
 |xd fs=>obtain⟨_,⟨_,_,_,e,_⟩,_⟩:=x;exact SS e
 |rng lo hi=>obtain⟨_,_,_,e⟩:=x;exact SS e
 |frz ob u=>obtain⟨e,_⟩:=x;exact SS e
 |tbl ps=>exact SS (show h.get? a=A? _ from x)
 |met f y=>exact SS (show h.get? a=A? _ from x)
 |ext φ=>obtain⟨_,⟨_,e⟩,_⟩:=x;exact SS e
theorem Tc.mapP{G:α->β->Prop}:∀{Gz:List α}{GA:List β},Tc F Gz GA->(∀a b,F a b->G a b)->Tc G Gz GA
 |_,_,.nil,_=>.nil
 |_,_,.cons r t,f=>.cons (f _ _ r) (Tc.mapP t f)
theorem ObjOk.stay(x:ObjOk P w H h a o)(k:∀b u,(b=a\/H b=A? (.own a))->h.get? b=A? u->h'.get? b=A? u)
 (ho:∀b,H b=A? (.own a)->H' b=A? (.own a)) (ht:∀b xs,H b=A? (.tup xs)->H' b=A? (.tup xs)):ObjOk P w H' h' a o:=by
 induction o with
 |lst xs=>obtain⟨z,its,n,r,e⟩:=x;exact⟨z,its,n,r,k _ _ (.inl rfl) e⟩
 |tup xs=>obtain⟨z,its,n,r,e⟩:=x;exact⟨z,its,n,r,k _ _ (.inl rfl) e⟩
 |dK xP=>obtain⟨z,y,vs,r,ob,es,ep,e,c⟩:=x;exact⟨z,y,vs,r,ob,es,ep,k _ _ (.inl rfl) e,c⟩
 | dT xP =>
   obtain⟨z,y,xs,r,ob,es,ep,e,c⟩:=x;exact⟨z,y,xs,Tc.mapP r λp q z=>⟨z.1,ht _ _ z.2.1,z.2.2⟩,ob,es,ep,k _ _ (.inl rfl) e,c⟩
 |set S n=>obtain⟨ob,es,ep,t,e,c⟩:=x;exact⟨ob,es,ep,t,k _ _ (.inl rfl) e,c⟩
 | ins C dx fs =>
   obtain⟨d,z,ne,e,mA,⟨od,es,ep,e2,c⟩,r⟩:=x;exact⟨ho _ d,z,ne,k _ _ (.inl rfl) e,mA,⟨od,es,ep,k _ _ (.inr d) e2,c⟩,r⟩
 |own y=>obtain⟨ob,e⟩:=x;exact⟨ob,k _ _ (.inl rfl) e⟩
 |xd fs=>obtain⟨mA,⟨od,es,ep,e,c⟩,r⟩:=x;exact⟨mA,⟨od,es,ep,k _ _ (.inl rfl) e,c⟩,r⟩
 |rng lo hi=>obtain⟨t,u,v,e⟩:=x;exact⟨t,u,v,k _ _ (.inl rfl) e⟩
 |frz ob u ih=>obtain⟨e,q⟩:=x;exact⟨k _ _ (.inl rfl) e,ih q⟩
 | tbl ps =>
   have e:h.get? a=A? {cls:=.none,data:=.fields ps}:=x;show h'.get? a=A? {cls:=.none,data:=.fields ps};exact k a _ (.inl rfl) e
 | met f y =>
   have e:h.get? a=A? (XF (.ref f) (.ref y)):=x;show h'.get? a=A? (XF (.ref f) (.ref y));exact k a _ (.inl rfl) e
 |ext φ=>obtain⟨p,⟨o,e⟩,st⟩:=x;exact⟨st _ _ p λo q=>k _ _ (.inl rfl) q,⟨o,k _ _ (.inl rfl) e⟩,st⟩
theorem HOk.lt(x:HOk P w H h)(e:H a=A? o):a<h.objs.size:=(x a o e).lt
theorem HOk.fresh(x:HOk P w H h)(e:h.objs.size<=a):H a=none:=by
 cases q:H a with
 |none=>rfl
 |some u=>exact Yd (SY (x.lt q) e) (Tx _)
theorem HOk.kept(x:HOk P w H h)(k:∀b u,h.get? b=A? u->h'.get? b=A? u):HOk P w H h':=λa o e =>
 (x a o e).stay (λb u _ q=>k b u q) (λ_ q=>q) λ_ _ q=>q
theorem HOk.laid(x:HOk P w H h)(k:∀b u,h.get? b=A? u->h'.get? b=A? u)(hp:h.objs.size<=a)(new:ObjOk P w (upd H a o) h' a o):HOk P w (upd H a o) h':=λb u e=>by
 have hn:=x.fresh hp;by_cases hb:b=a
 .subst hb;rw[ad]at e;cases e;exact new
 .rw[aj hb]at e;exact(x b u e).stay (λc v _ q=>k c v q) (λc q=>by rw[aj (ao q hn)];exact q) λc xs q=>by rw[aj (ao q hn)];exact q
end
def Rd(H:Hp)(a:So)(u:HO):Prop:=H a=A? u\/∃o,H a=A? (.frz o u)
theorem Rd.ok{w:S0}{H:Hp}{u:HO}(r:Rd H a u)(x:HOk P w H h):ObjOk P w H h a u:=by
 rcases r with r|⟨o,r⟩
 .exact x a u r
 .obtain⟨_,q⟩:=x a _ r;exact q
def Mut:Option HO->Prop
 |some (.lst _)=>True
 |some (.dK _)=>True
 |some (.dT _)=>True
 |some (.set _ _)=>True
 |some (.ins _ _ _)=>True
 |some (.ext _)=>True
 |_=>False
section
variable{w:S0}{H:Hp}{x e:So}{o':HO}
theorem HOk.write(ok:HOk P w H h)(mu:Mut (H x))(he:e=x\/H e=A? (.own x))(k:∀b u,b≠e->h.get? b=A? u->h'.get? b=A? u)(FP:∃u,h'.get? e=A? u)
 (new:ObjOk P w (upd H x o') h' x o'):HOk P w (upd H x o') h':=λb u q=>by
 have GB:∀c y,H c=A? (.own y)->c≠x:=λc y r z=>by subst z;rw[r]at mu;exact mu
 have JV:∀c xs,H c=A? (.tup xs)->c≠x:=λc xs r z=>by subst z;rw[r]at mu;exact mu
 by_cases hb:b=x
 .subst hb;rw[ad]at q;cases q;exact new
 .rw[aj hb]at q;by_cases El:b=e
  .have q':H b=A? (.own x):=by
    rcases he with z|z
    .exact Yd (El.trans z) hb
    .rw[El];exact z
   rw[q]at q';cases q';obtain⟨v,hv⟩:=FP;exact⟨v,by rw[El];exact hv⟩
  .refine(ok b u q).stay (λc v hc r=>k c v ?_ r) (λc r=>by rw[aj (GB c b r)];exact r) λc xs r=>by rw[aj (JV c xs r)];exact r
   rcases hc with rfl|hc
   .exact El
   .rintro rfl;rcases he with z|z
    .exact GB c b hc z
    .rw[hc]at z;cases z;exact hb rfl
end
structure Un(fs ex:List So)(H H':Hp)(h h':TL):Prop where
 keep:∀b o,h.get? b=A? o->H b=Am->b∉fs->b∉ex->h'.get? b=A? o
 slot:∀b o,h.get? b=A? o->H b=Am->b∈fs->b∉ex->∃sl,h'.get? b=A? {o with slots:=sl}
 free:∀b o,h.get? b=A? o->H b=Am->b∉ex->H' b=Am
 there:∀b o,h.get? b=A? o->b∉ex->∃o',h'.get? b=A? o'
 tups:∀b xs,H b=A? (.tup xs)->H' b=A? (.tup xs)
 frzs:∀b o u,H b=A? (.frz o u)->H' b=A? (.frz o u)
 tbls:∀b ps,H b=A? (.tbl ps)->∃more,H' b=A? (.tbl (ps++more))
section
variable{fs FQ ex Ji:List So}{H H1 H2:Hp}{h2:TL}{x e:So}{o:HO}
theorem Un.any(u:Un fs ex H H1 h h1){ob:UD}(q:h.get? b=A? ob)(n:H b=Am)(hx:b∉ex):∃sl,h1.get? b=A? {ob with slots:=sl}:=by
 by_cases hb:b∈fs
 .exact u.slot b ob q n hb hx
 .exact⟨ob.slots,u.keep b ob q n hb hx⟩
theorem Un.kept(k:∀b u,h.get? b=A? u->h'.get? b=A? u):Un fs ex H H h h' :=
 ⟨λb ob q _ _ _=>k b ob q,λb ob q _ _ _=>⟨ob.slots,k b ob q⟩,λ_ _ _ n _=>n,λb ob q _=>⟨ob,k b ob q⟩,λ_ _ q=>q,λ_ _ _ q=>q,λ_ ps q=>⟨#[],by rw[q];simp⟩⟩
theorem Un.refl:Un fs ex H H h h:=Un.kept λ_ _ q=>q
theorem Un.laid(k:∀b u,h.get? b=A? u->h'.get? b=A? u)(hp:h.objs.size<=a)(hn:H a=Am):Un fs ex H (upd H a o) h h' where
 keep:=λb u q _ _ _=>k b u q
 slot:=λb u q _ _ _=>⟨u.slots,k b u q⟩
 free:=λb u q n _=>by rw[aj (Ti (SY (SS q) hp))];exact n
 there:=λb u q _=>⟨u,k b u q⟩
 tups:=λb xs q=>by rw[aj (ao q hn)];exact q
 frzs:=λb u xs q=>by rw[aj (ao q hn)];exact q
 tbls:=λb ps q=>⟨#[],by rw[aj (ao q hn),q];simp⟩
theorem Un.write(mu:Mut (H x))(he:e=x\/H e=A? (.own x))(k:∀b u,b≠e->h.get? b=A? u->h'.get? b=A? u)(FP:∃u,h'.get? e=A? u):Un fs ex H (upd H x o) h h':=by
 have hx:∀b,H b=Am->b≠x:=λb n z=>by subst z;rw[n]at mu;exact mu
 have hb:∀b,H b=Am->b≠e:=λb n z=>by
  subst z;rcases he with r|r
  .exact hx b n r
  .rw[n]at r;cases r
 have hm:∀b u,H b=A? u->¬Mut (A? u)->b≠x:=λb u q nm z=>by subst z;rw[q]at mu;exact nm mu
 refine⟨λb u q n _ _=>k b u (hb b n) q,λb u q n _ _=>⟨u.slots,k b u (hb b n) q⟩,λb u q n _=>by rw[aj (hx b n)];exact n,λb u q _=>?_,
  λb xs q=>by rw[aj (hm b _ q λz=>z)];exact q,λb u xs q=>by rw[aj (hm b _ q λz=>z)];exact q,λb ps q=>⟨#[],by rw[aj (hm b _ q λz=>z),q];simp⟩⟩
 by_cases El:b=e
 .subst El;exact FP
 .exact⟨u,k b u El q⟩
end
def trk(h:TL)(H:Hp):List So:=(UE h.objs.size).filter λa=>(H a).isSome
def li(h:TL)(H:Hp):TL:=PySem.W.hideAll h (trk h H)
theorem qE(h:TL)(H:Hp):(li h H).objs.size=h.objs.size:=PySem.W.hideAll_size _ _
theorem re{H:Hp}{o:UD}(e:h.get? b=A? o)(n:H b=Am):(li h H).get? b=A? o :=
 PySem.W.hideAll_get _ e λhm=>by
  have q:(H b).isSome=true:=(Wh.mp hm).2;rw[n]at q;simp at q
theorem t6{H:Hp}{o:UD}(e:(li h H).get? b=A? o):h.get? b=A? o/\H b=none:=by
 have e':h.get? b=A? o:=PySem.W.of_hideAll (trk h H) e;refine⟨e',?_⟩;cases q:H b with
 |none=>rfl
 | some x =>
   have hm:b∈trk h H:=Wh.mpr ⟨Wr.mpr (SS e'),by simp[q]⟩;have z:(li h H).get? b=none:=PySem.W.hideAll_none (trk h H) hm;rw[z]at e;cases e
end L2
open L2.V renaming ref->Ye,int->Yh,str->Yp
variable{xs:List L2.V}{H H' H1 H2 H3:L2.Hp}{v y:L2.V}{xP:List (List L2.Key×L2.V)}{fin:So->L2.Hp->Prop}
namespace L2
open PySem PySem.Spec PyProof.Rows
structure Mod(K:Ss)(mg:SG->Option Sq)(base:TL):Prop where
 kin:K.In base
 glob:base.Ns TR mg
 blt:∃mb,base.Ns builtinsNs mb/\∀x:SG,x≠"__name__"->mb x=Xm x
 nolimit:base.NoLimit
set_option genInjectivity true in
structure Cx where
 prog:SH
 w:S0
 K:Ss
 mg:SG->Option Sq
 base:TL
 A:Ta
 N:List SG
 s₀:Sr
 H₀:Hp
 env:Wf
 outer:List Wf
 stack:List Wf
 ex:List So
 fn:SG->Bool
 calm:Bool
 pn:List (So×UD)
 xe:Sq->Sr->Prop
def frs(l:List Wf):List So:=l.filterMap (·.frame)
abbrev Cx.fs(X:Cx):List So:=frs X.outer
def Vis(sc:Ub)(x:SG):Prop:=sc.names.lookup x=A? .local\/sc.names.lookup x=A? .cell\/sc.names.lookup x=A? .free
def Loc(sc:Ub)(x:SG):Prop:=sc.names.lookup x=A? .local\/sc.names.lookup x=A? .cell
def Look(env:Wf)(h:TL)(m:SG->Option Sq)(x:SG)(u:Sq):Prop :=
 (env.kindOf x=A? .local/\m x=A? u)\/((env.kindOf x=A? .cell\/env.kindOf x=A? .free)/\∃c,env.cells.lookup x=A? c/\h.IsCell c (A? u))
structure Cx.Ok(X:Cx):Prop where
 mod:Mod X.K X.mg X.base
 kind:X.env.scope.kind=.function
 glob:X.env.globals=TR
 blt:X.env.builtins=builtinsNs
 above:X.s₀.heap.1.size<=X.env.locals
 inj:∀x y c,X.env.cells.lookup x=A? c->X.env.cells.lookup y=A? c->x=y
 has:∀x,(X.env.kindOf x=A? .cell\/X.env.kindOf x=A? .free)->∃c,X.env.cells.lookup x=A? c
 cab:∀x c,X.fn x=B?->X.env.cells.lookup x=A? c->X.s₀.heap.1.size<=c
 hd:X.calm=B?->X.A.handled=Am
 frames:X.A.frames=A? X.stack
 stk:X.stack=X.outer\/(X.stack=X.env::X.outer/\X.env.frame=A? X.env.locals)
 exf:∀b∈X.ex,b≠X.env.locals/\∀x c,X.env.cells.lookup x=A? c->c≠b
 bs:∀b o,X.base.get? b=A? o->X.s₀.heap.get? b=A? o/\X.H₀ b=Am
 bsz:X.base.objs.size<=X.s₀.heap.1.size
 noex:∀b o,X.base.get? b=A? o->b∉X.ex
 exfs:∀b∈X.ex,b∉X.fs
 funs:X.s₀.heap.FunFrames X.base X.outer
 frf:∀b∈X.fs,X.H₀ b=Am
structure Inv(X:Cx)(Z:List (So×UD))(Y:List (Option V))(H:Hp)(s:Sr):Prop where
 ok:X.Ok
 os:s.os=X.s₀.os
 bare:Xz s.gens
 base:Un X.fs X.ex X.H₀ H X.s₀.heap s.1
 loc:∃m,s.1.Ns X.env.locals m/\∀(i:Nat)(x:SG)(v:V),X.N[i]?=A? x->Y[i]?=A? (A? v)->Vis X.env.scope x->∃u,RelV v u/\Look X.env s.1 m x u
 cell:∀x c,X.env.cells.lookup x=A? c->∃v,s.1.IsCell c v
 free:H X.env.locals=Am
 freeC:∀x c,X.env.cells.lookup x=A? c->H c=Am
 pin:∀p∈X.pn++Z,s.1.get? p.1=A? p.2/\H p.1=Am/\p.1≠X.env.locals/\p.1∉X.fs/\∀v,p.2.data≠.cell v
 hok:HOk X.prog X.w H s.1
 len:Y.length=X.N.length
section
variable{X:Cx}{Y:List (Option V)}
theorem Cx.Ok.nofr(ok:X.Ok){o:UD}(e:X.base.get? b=A? o):b∉X.fs:=λhb=>by
 have:=(ok.funs.mem hb).1;rw[e]at this;cases this
theorem Inv.bs(I:Inv X Z Y H s):∀b o,X.base.get? b=A? o->s.1.get? b=A? o/\H b=none:=λb o e =>
 ⟨I.base.keep b o (I.ok.bs b o e).1 (I.ok.bs b o e).2 (I.ok.nofr e) (I.ok.noex b o e),I.base.free b o (I.ok.bs b o e).1 (I.ok.bs b o e).2 (I.ok.noex b o e)⟩
theorem Inv.bk(I:Inv X Z Y H s):∀b o,X.base.get? b=A? o->s.1.get? b=A? o:=λb o e=>(I.bs b o e).1
theorem Inv.mod(I:Inv X Z Y H s):Mod X.K X.mg X.base:=I.ok.mod
theorem Inv.kIn(I:Inv X Z Y H s):X.K.In s.1:=I.ok.mod.kin.keeps I.bk
theorem Inv.lt(I:Inv X Z Y H s):X.env.locals<s.1.1.size:=let⟨_,hn,_⟩:=I.loc;hn.lt
theorem Inv.sz(I:Inv X Z Y H s):X.s₀.heap.1.size<=s.1.1.size:=Td I.ok.above (U1 I.lt)
theorem Inv.nofs(I:Inv X Z Y H s)(h:s.1.1.size<=a):a∉X.fs:=λhb=>by
 obtain⟨_,o,ho,_⟩:=I.ok.funs.mem hb;exact Yd (SY (SS ho) (Td I.sz h)) (Tx _)
theorem Inv.cne(I:Inv X Z Y H s):∀x c,X.env.cells.lookup x=A? c->c≠X.env.locals:=λx c e z=>by
 obtain⟨v,o,ho,hd⟩:=I.cell x c e;obtain⟨m,⟨o',es,ep,yD,Ag,_⟩,_⟩:=I.loc;rw[z,yD]at ho;cases ho;rw[Ag]at hd;cases hd
theorem Inv.funs(I:Inv X Z Y H s):s.1.FunFrames X.base X.outer:=by
 have all:∀(l:List Wf),(∀b∈frs l,b∈X.fs)->X.s₀.heap.FunFrames X.base l->s.1.FunFrames X.base l:=by
  intro l;induction l with
  |nil=>intro _ _;trivial
  | cons env r ih =>
    intro hs hl;obtain⟨hk,⟨L,o,hf,hn,ho,hd⟩,hr⟩:=hl;have hL:L∈X.fs:=hs L (by unfold frs;rw[UM,hf];exact SU);obtain⟨sl,e⟩:=I.base.slot L o ho (I.ok.frf L hL) hL λz=>I.ok.exfs L z hL;exact⟨hk,⟨L,_,hf,hn,e,hd⟩,ih (λb hb=>hs b (by unfold frs;rw[UM,hf];exact SN _ hb)) hr⟩
 exact all X.outer (λ_ hb=>hb) I.ok.funs
theorem Inv.stack(I:Inv X Z Y H s):s.1.FunFrames X.base X.stack:=by
 rcases I.ok.stk with e|⟨e,hf⟩
 .rw[e];exact I.funs
 .rw[e];obtain⟨m,hn,_⟩:=I.loc;refine .cons (by rw[I.ok.kind];decide) hf hn ?_ I.funs;exact Heap.get?_none_of_le (Td I.ok.bsz I.ok.above)
theorem Inv.stkSub(I:Inv X Z Y H s):∀b∈frs X.stack,b∈X.env.locals::X.fs:=λb hb=>by
 rcases I.ok.stk with e|⟨e,hf⟩
 .rw[e]at hb;exact SN _ hb
 .rw[e]at hb;unfold frs at hb;rw[UM,hf]at hb;exact hb
theorem Inv.stkFree(I:Inv X Z Y H s):∀b∈frs X.stack,H b=none:=λb hb=>by
 rcases SR.mp (I.stkSub b hb)with e|hb
 .rw[e];exact I.free
 .obtain⟨_,o,ho,_⟩:=I.ok.funs.mem hb;exact I.base.free b o ho (I.ok.frf b hb) λz=>I.ok.exfs b z hb
theorem Inv.step{g':Array GenState}{d':Drawn}(I:Inv X Z Y H s)
 (CC:∀b∈ch,(b∈X.ex\/X.s₀.heap.1.size<=b)/\b≠X.env.locals/\(∀x c,X.env.cells.lookup x=A? c->c≠b)/\∀p∈X.pn++Z,p.1≠b)
 (keep:∀b o,b≠X.env.locals->b∉X.fs->b∉ch->s.1.get? b=A? o->H b=Am->h'.get? b=A? o)
 (slot:∀b o,b≠X.env.locals->b∈X.fs->b∉ch->s.1.get? b=A? o->H b=Am->∃sl,h'.get? b=A? {o with slots:=sl}) (free:∀b o,b∉ch->s.1.get? b=A? o->H b=Am->H' b=Am)
 (there:∀b o,b∉ch->s.1.get? b=A? o->∃o',h'.get? b=A? o')
 (tups:∀b xs,H b=A? (.tup xs)->H' b=A? (.tup xs)) (frzs:∀b o u,H b=A? (.frz o u)->H' b=A? (.frz o u)) (tbls:∀b ps,H b=A? (.tbl ps)->∃more,H' b=A? (.tbl (ps++more)))
 (ns:∀m,s.1.Ns X.env.locals m->h'.Ns X.env.locals m) (hok:HOk X.prog X.w H' h') (hg:Xz g') :
 Inv X Z Y H' {s with heap:=h',gens:=g',drawn:=d',toks:=t'}:=by
 have Nh:∀b o,X.s₀.heap.get? b=A? o->b≠X.env.locals:=λb o e=>Ti (SY (SS e) I.ok.above)
 have Em:∀b o,X.s₀.heap.get? b=A? o->b∉X.ex->b∉ch:=λb o e hx hb=>by
  rcases(CC b hb).1 with z|z
  .exact hx z
  .exact Yd (SY (SS e) z) (Tx _)
 have cellK:∀x c,X.env.cells.lookup x=A? c->∀v,s.1.IsCell c v->h'.IsCell c v:=λx c e v⟨o,ho,hd⟩=>by
  have GC:c∉ch:=λz=>(CC c z).2.2.1 x c e rfl;by_cases hc:c∈X.fs
  .obtain⟨sl,q⟩:=slot c o (I.cne x c e) hc GC ho (I.freeC x c e);exact⟨_,q,hd⟩
  .exact⟨o,keep c o (I.cne x c e) hc GC ho (I.freeC x c e),hd⟩
 refine⟨I.ok,I.os,hg,⟨λb o e n hb hx=>?_,λb o e n hb hx=>?_,λb o e n hx=>?_,λb o e hx=>?_,λb xs e=>tups b xs (I.base.tups b xs e),λb o xs e=>frzs b o xs (I.base.frzs b o xs e),λb ps e=>?_⟩,?_,λx c e=>?_,?_,λx c e=>?_,λp hp=>?_,hok,I.len⟩
 .exact keep b o (Nh b o e) hb (Em b o e hx) (I.base.keep b o e n hb hx) (I.base.free b o e n hx)
 .obtain⟨sl,e1⟩:=I.base.slot b o e n hb hx;obtain⟨OX,e2⟩:=slot b _ (Nh b o e) hb (Em b o e hx) e1 (I.base.free b o e n hx);exact⟨OX,e2⟩
 .obtain⟨o',e1⟩:=I.base.there b o e hx;exact free b o' (Em b o e hx) e1 (I.base.free b o e n hx)
 .obtain⟨o',e1⟩:=I.base.there b o e hx;exact there b o' (Em b o e hx) e1
 .obtain⟨m1,e1⟩:=I.base.tbls b ps e;obtain⟨m2,e2⟩:=tbls b _ e1;exact⟨m1++m2,by rw[e2,Ws]⟩
 .obtain⟨m,hn,hl⟩:=I.loc;refine⟨m,ns m hn,λi x v e1 e2 e3=>?_⟩;obtain⟨u,r,l⟩:=hl i x v e1 e2 e3;refine⟨u,r,?_⟩;rcases l with l|⟨k,c,e,z⟩
  .exact .inl l
  .exact .inr ⟨k,c,e,cellK x c e _ z⟩
 .obtain⟨v,z⟩:=I.cell x c e;exact⟨v,cellK x c e v z⟩
 .obtain⟨m,⟨o,_,_,ho,_⟩,_⟩:=I.loc;exact free _ o (λz=>(CC _ z).2.1 rfl) ho I.free
 .obtain⟨v,o,ho,hd⟩:=I.cell x c e;exact free c o (λz=>(CC c z).2.2.1 x c e rfl) ho (I.freeC x c e)
 .obtain⟨e,n,ne,nf,d⟩:=I.pin p hp;have GC:p.1∉ch:=λz=>(CC p.1 z).2.2.2 p hp rfl;exact⟨keep p.1 p.2 ne nf GC e n,free p.1 p.2 GC e n,ne,nf,d⟩
theorem Inv.un(I:Inv X Z Y H s)(u:Un X.fs [] H H' s.1 h')(hok:HOk X.prog X.w H' h'):Inv X Z Y H' {s with heap:=h',toks:=t'}:=by
 obtain⟨m,⟨o,es,ep,ho,r⟩,_⟩:=id I.loc;obtain⟨sl,hL⟩:=u.any ho I.free (by simp)
 exact I.step (g':=s.gens) (d':=s.drawn) (ch:=[]) (λ_ z=>nomatch z) (λb o _ hb _ e n=>u.keep b o e n hb (by simp)) (λb o _ hb _ e n=>u.slot b o e n hb (by simp)) (λb o _ e n=>u.free b o e n (by simp)) (λb o _ e=>u.there b o e (by simp)) u.tups u.frzs u.tbls (λm' hm=>by
  obtain⟨o',JW,JX,yD,r'⟩:=hm;rw[ho]at yD;cases yD;exact⟨_,JW,JX,hL,r'⟩) hok I.bare
theorem Inv.call{g':Array GenState}{d':Drawn}(I:Inv X Z Y H s)(u:Un (frs X.stack) ch H H' s.1 h')(hok:HOk X.prog X.w H' h')(hg:Xz g')
 (CC:∀b∈ch,(b∈X.ex\/X.s₀.heap.1.size<=b)/\b≠X.env.locals/\(∀x c,X.env.cells.lookup x=A? c->c≠b)/\∀p∈X.pn++Z,p.1≠b) :
 Inv X Z Y H' {s with heap:=h',gens:=g',drawn:=d',toks:=t'}:=by
 obtain⟨m,⟨o,es,ep,ho,r⟩,_⟩:=id I.loc;obtain⟨sl,hL⟩:=u.any ho I.free λz=>(CC _ z).2.1 rfl
 exact I.step (ch:=ch) CC (λb o hL hb hc e n=>u.keep b o e n (λz=>(SR.mp (I.stkSub b z)).elim hL hb) hc) (λb o _ _ hc e n=>u.any e n hc) (λb o hc e n=>u.free b o e n hc) (λb o hc e=>u.there b o e hc) u.tups u.frzs u.tbls (λm' hm=>by
  obtain⟨o',JW,JX,yD,r'⟩:=hm;rw[ho]at yD;cases yD;exact⟨_,JW,JX,hL,r'⟩) hok hg
theorem Inv.turned(I:Inv X Z Y H s)(k:∀b o,b≠it->s.1.get? b=A? o->h'.get? b=A? o)(hn:H it=Am)(hL:it≠X.env.locals)
 (h1:it∈X.ex\/X.s₀.heap.1.size<=it) (h2:∀x c,X.env.cells.lookup x=A? c->c≠it) (h3:∀p∈X.pn++Z,p.1≠it):Inv X Z Y H {s with heap:=h',toks:=t'}:=by
 have Ni:∀b u,H b=A? u->b≠it:=λb u e z=>by rw[z,hn]at e;cases e
 refine I.step (g':=s.gens) (d':=s.drawn) (ch:=[it]) (λb hb=>?_) (λb o _ _ hc e _=>k b o (λz=>hc (by simp[z])) e) (λb o _ _ hc e _=>⟨o.slots,k b o (λz=>hc (by simp[z])) e⟩) (λ_ _ _ _ n=>n)
  (λb o hc e=>⟨o,k b o (λz=>hc (by simp[z])) e⟩) (λ_ _ e=>e) (λ_ _ _ e=>e) (λb ps e=>⟨#[],by rw[e];simp⟩) (λm hm=>?_) (λb u e=>?_) I.bare
 .have e:b=it:=by simpa using hb
  subst e;exact⟨h1,hL,h2,h3⟩
 .obtain⟨o,es,ep,ho,r⟩:=hm;exact⟨o,es,ep,k _ o (UA hL) ho,r⟩
 .refine(I.hok b u e).stay (λc v hc q=>k c v ?_ q) (λ_ q=>q) λ_ _ q=>q;rcases hc with z|z
  .rw[z];exact Ni b u e
  .exact Ni c _ z
theorem Inv.tok(I:Inv X Z Y H s)(t:Nat):Inv X Z Y H {s with toks:=t}:=I.un (h':=s.1) (t':=t) Un.refl I.hok
theorem Inv.kept(I:Inv X Z Y H s)(k:∀b u,s.1.get? b=A? u->h'.get? b=A? u):Inv X Z Y H {s with heap:=h',toks:=t'}:=I.un (Un.kept k) (I.hok.kept k)
theorem Inv.laid{o:HO}(I:Inv X Z Y H s)(k:∀b u,s.1.get? b=A? u->h'.get? b=A? u)(hp:s.1.1.size<=a)(new:ObjOk X.prog X.w (upd H a o) h' a o) :
 Inv X Z Y (upd H a o) {s with heap:=h',toks:=t'}:=I.un (Un.laid k hp (I.hok.fresh hp)) (I.hok.laid k hp new)
theorem Inv.write{x e:So}{o:HO}(I:Inv X Z Y H s)(mu:Mut (H x))(he:e=x\/H e=A? (.own x))(k:∀b u,b≠e->s.1.get? b=A? u->h'.get? b=A? u)(FP:∃u,h'.get? e=A? u)
 (new:ObjOk X.prog X.w (upd H x o) h' x o):Inv X Z Y (upd H x o) {s with heap:=h',toks:=t'}:=I.un (Un.write mu he k FP) (I.hok.write mu he k FP new)
theorem Inv.weak{xS:List (Option V)}(I:Inv X Z Y H s)(hl:xS.length=Y.length)(w:∀(i:Nat)v,xS[i]?=A? (A? v)->Y[i]?=A? (A? v)):Inv X Z xS H s :=
 ⟨I.ok,I.os,I.bare,I.base,let⟨m,hn,zi⟩:=I.loc;⟨m,hn,λi x v e1 e2 e3=>zi i x v e1 (w i v e2) e3⟩,I.cell,I.free,I.freeC,I.pin,I.hok,hl.trans I.len⟩
theorem Inv.pins_of(I:Inv X Z Y H s)(h:∀p∈yg,s.1.get? p.1=A? p.2/\H p.1=Am/\p.1≠X.env.locals/\p.1∉X.fs/\∀v,p.2.data≠.cell v):Inv X yg Y H s :=
 ⟨I.ok,I.os,I.bare,I.base,I.loc,I.cell,I.free,I.freeC,λp hp=>(S6.mp hp).elim (λz=>I.pin p (Tp _ z)) (h p),I.hok,I.len⟩
theorem nL(hN:N.Nodup){i:Nat}(a:N[i]?=A? x)(b:N[j]?=A? x):i=j:=by
 obtain⟨h1,e1⟩:=T2.mp a;obtain⟨h2,e2⟩:=T2.mp b;exact(List.getElem_inj hN).mp (e1.trans e2.symm)
theorem lM{i:Nat}{Q:Unit->Sr->Prop}(I:Inv X Z Y H s)(hN:X.N.Nodup)(hi:X.N[i]?=A? x)(hx:Loc X.env.scope x)(r:RelV v u)
 (h:∀s',Inv X Z (Y.set i (A? v)) H s'->(∃a,Um a s.1 s'.1/\(a=X.env.locals\/X.env.cells.lookup x=A? a))->Q () s') (hf:X.fn x=B?\/X.env.scope.names.lookup x=A? .local:=by first|exact .inl rfl|exact .inr rfl|assumption):SV M A (storeName X.env x u) Q E s:=by
 obtain⟨m,hn,hl⟩:=id I.loc;have AV:(X.env.scope.kind == .class ||(X.env.scope.kind == .module && X.env.locals != X.env.globals))=false:=by rw[I.ok.kind];rfl
 have GD:i<Y.length:=by rw[I.len];exact(glE hi)
 have cne:=I.cne
 have tracked:∀{a:So}{h':TL},(∃o,s.1.get? a=A? o/\H a=Am)->Um a s.1 h'->HOk X.prog X.w H h':=λ{a h'}ha hs b ob e=>by
  obtain⟨_,_,zf⟩:=ha;refine(I.hok b ob e).stay (λc w' hc q=>(hs.2 c ?_).trans q) (λ_ q=>q) λ_ _ q=>q;rintro rfl;rcases hc with rfl|hc
  .rw[zf]at e;cases e
  .rw[zf]at hc;cases hc
 rcases hx with hk|hk
 .refine wpAny_storeName_local hk hn (λh' GF hs=>?_) AV;obtain⟨oL,_,_,OY,_⟩:=id hn;refine h _ ⟨I.ok,I.os,I.bare,⟨λb o e n hb hx=>?_,λb o e n hb hx=>?_,I.base.free,λb o e hx=>?_,I.base.tups,I.base.frzs,I.base.tbls⟩,⟨_,GF,λj y v' e1 e2 e3=>?_⟩,λy c e=>?_,I.free,I.freeC,λp hp=>?_,tracked ⟨oL,OY,I.free⟩ hs,by simpa using I.len⟩ ⟨_,hs,.inl rfl⟩
  .exact(hs.2 b (Ti (SY (SS e) I.ok.above))).trans (I.base.keep b o e n hb hx)
  .obtain⟨sl,e1⟩:=I.base.slot b o e n hb hx;exact⟨sl,(hs.2 b (Ti (SY (SS e) I.ok.above))).trans e1⟩
  .obtain⟨o',e1⟩:=I.base.there b o e hx;exact⟨o',(hs.2 b (Ti (SY (SS e) I.ok.above))).trans e1⟩
  .by_cases hj:j=i
   .subst hj;rw[hi]at e1;cases e1;rw[List.getElem?_set_self GD]at e2;cases e2;exact⟨u,r,.inl ⟨hk,by simp⟩⟩
   .rw[Xi (UA hj)]at e2;obtain⟨u',r',q⟩:=hl j y v' e1 e2 e3;refine⟨u',r',?_⟩;rcases q with⟨k,e⟩|⟨k,c,e,z⟩
    .refine .inl ⟨k,?_⟩;have:y≠x:=λe=>hj (nL hN e1 (e ▸ hi));simp[this,e]
    .exact .inr ⟨k,c,e,z.sameBut hs (cne y c e)⟩
  .obtain⟨w',z⟩:=I.cell y c e;exact⟨w',z.sameBut hs (cne y c e)⟩
  .obtain⟨e,n,ne,nf,d⟩:=I.pin p hp;exact⟨(hs.2 p.1 ne).trans e,n,ne,nf,d⟩
 .have JY:X.fn x=true:=by
   rcases hf with z|z
   .exact z
   .rw[z]at hk;cases hk
  obtain⟨c,hc⟩:=I.ok.has x (.inl hk);obtain⟨w',z⟩:=I.cell x c hc;refine wpAny_storeName_cell I.ok.kind hk hc z (λh' yC hs=>?_);obtain⟨oc,Jj,JZ⟩:=id z;refine h {s with heap:=h'} ⟨I.ok,I.os,I.bare,⟨λb o e n hb hx=>?_,λb o e n hb hx=>?_,I.base.free,λb o e hx=>?_,I.base.tups,I.base.frzs,I.base.tbls⟩,⟨m,hn.sameBut hs (UA (cne x c hc)),λj y v' e1 e2 e3=>?_⟩,λy c' e=>?_,I.free,I.freeC,λp hp=>?_,tracked ⟨oc,Jj,I.freeC x c hc⟩ hs,by simpa using I.len⟩ ⟨c,hs,.inr hc⟩
  .exact(hs.2 b (Ti (SY (SS e) (I.ok.cab x c JY hc)))).trans (I.base.keep b o e n hb hx)
  .obtain⟨sl,e1⟩:=I.base.slot b o e n hb hx;exact⟨sl,(hs.2 b (Ti (SY (SS e) (I.ok.cab x c JY hc)))).trans e1⟩
  .obtain⟨o',e1⟩:=I.base.there b o e hx;exact⟨o',(hs.2 b (Ti (SY (SS e) (I.ok.cab x c JY hc)))).trans e1⟩
  .by_cases hj:j=i
   .subst hj;rw[hi]at e1;cases e1;rw[List.getElem?_set_self GD]at e2;cases e2;exact⟨u,r,.inr ⟨.inl hk,c,hc,yC⟩⟩
   .rw[Xi (UA hj)]at e2;obtain⟨u',r',q⟩:=hl j y v' e1 e2 e3;refine⟨u',r',?_⟩;rcases q with q|⟨k,c',e,z'⟩
    .exact .inl q
    .refine .inr ⟨k,c',e,z'.sameBut hs ?_⟩;rintro rfl;exact hj (nL hN e1 (I.ok.inj _ _ _ e hc ▸ hi))
  .by_cases zK:c'=c
   .subst zK;exact⟨_,yC⟩
   .obtain⟨w2,z2⟩:=I.cell y c' e;exact⟨w2,z2.sameBut hs zK⟩
  .obtain⟨e,n,ne,nf,d⟩:=I.pin p hp;refine⟨(hs.2 p.1 ?_).trans e,n,ne,nf,d⟩;intro q;rw[q,Jj]at e;have q':oc=p.2:=Tq e;exact d w' (by rw[<-q'];exact JZ)
theorem ik{i:Nat}{Q:Unit->Sr->Prop}(I:Inv X Z Y H s)(hN:X.N.Nodup)(hi:X.N[i]?=A? x)(hx:Loc X.env.scope x)(r:RelV v u)
 (h:∀s',Inv X Z (Y.set i (A? v)) H s'->Q () s') (hf:X.fn x=B?\/X.env.scope.names.lookup x=A? .local:=by first|exact .inl rfl|exact .inr rfl|assumption):SV M A (storeName X.env x u) Q E s :=
 lM I hN hi hx r (λs' I' _=>h s' I') hf
theorem Inv.call'(I:Inv X Z Y H s)(ho:s'.os=s.os)(u:Un (frs X.stack) ch H H' s.1 s'.1)(hok:HOk X.prog X.w H' s'.1)(hg:Xz s'.gens)
 (CC:∀b∈ch,(b∈X.ex\/X.s₀.heap.1.size<=b)/\b≠X.env.locals/\(∀x c,X.env.cells.lookup x=A? c->c≠b)/\∀p∈X.pn++Z,p.1≠b):Inv X Z Y H' s':=by
 obtain⟨h',g',d',t',o'⟩:=s';have e:o'=s.os:=ho;subst e;exact I.call (g':=g') (t':=t') (d':=d') u hok hg CC
end
abbrev XK:=Sq->Option So->Hp->Prop
abbrev St:=List (Option V)
abbrev VK:=V->Hp->Prop
abbrev TE:=St->Hp->VK->Prop
abbrev TT:=St->Hp->(Bool->Hp->Prop)->Prop
abbrev TA:=St->Hp->(List V->Hp->Prop)->Prop
structure Ends where
 nx:St->Hp->Prop
 rt:VK
 bk:St->Hp->Prop:=λ_ _=>False
 ct:St->Hp->Prop:=λ_ _=>False
abbrev TS:=Ends->St->Hp->Prop
def EP(X:Cx)(Z:List (So×UD))(Y:St)(Q:VK)(u:Sq)(s':Sr):Prop:=∃v H',Inv X Z Y H' s'/\RelV v u/\Q v H'
def TP(X:Cx)(Z:List (So×UD))(Y:St)(Q:Bool->Hp->Prop)(b:Bool)(s':Sr):Prop:=∃H',Inv X Z Y H' s'/\Q b H'
def AP(X:Cx)(Z:List (So×UD))(Y:St)(Q:List V->Hp->Prop)(us:List Sq)(s':Sr):Prop:=∃vs H',Inv X Z Y H' s'/\Vals vs us/\Q vs H'
def SP(X:Cx)(Z:List (So×UD))(D:Ends)(f:Flow)(s':Sr):Prop :=
 match f with
 |.next=>∃xS H',Inv X Z xS H' s'/\D.nx xS H'
 |.brk=>∃xS H',Inv X Z xS H' s'/\D.bk xS H'
 |.cont=>∃xS H',Inv X Z xS H' s'/\D.ct xS H'
 |.ret u=>∃v xS H',Inv X Z xS H' s'/\RelV v u/\D.rt v H'
def PE(X:Cx)(e:TN)(t:TE):Prop :=
 ∀(Z:List (So×UD))(s:Sr)(Y:St)(H:Hp)(Q:VK),Inv X Z Y H s->t Y H Q->SV (S7 X.prog X.w) X.A (UZ e X.env) (EP X Z Y Q) X.xe s
def PT(X:Cx)(e:TN)(t:TT):Prop :=
 ∀(Z:List (So×UD))(s:Sr)(Y:St)(H:Hp)(Q:Bool->Hp->Prop),Inv X Z Y H s->t Y H Q->SV (S7 X.prog X.w) X.A (isTrue e X.env (UZ e X.env)) (TP X Z Y Q) X.xe s
def PW(X:Cx)(e:TN)(t:TT):Prop :=
 ∀(whole:Sem Sq)(Z:List (So×UD))(s:Sr)(Y:St)(H:Hp)(Q:Bool->Hp->Prop),Inv X Z Y H s->t Y H Q->SV (S7 X.prog X.w) X.A (isTrue e X.env whole) (TP X Z Y Q) X.xe s
theorem PW.pt{X:Cx}{t:TT}(h:PW X e t):PT X e t:=h _
def PA(X:Cx)(es:List TN)(t:TA):Prop :=
 ∀(pos:VX)(Z:List (So×UD))(s:Sr)(Y:St)(H:Hp)(Q:List V->Hp->Prop),Inv X Z Y H s->t Y H Q->SV (S7 X.prog X.w) X.A (spliced (Vr pos (Tr es X.env))) (AP X Z Y Q) X.xe s
def PS(X:Cx)(st:Vj)(t:TS):Prop :=
 ∀(Z:List (So×UD))(s:Sr)(Y:St)(H:Hp)(D:Ends),Inv X Z Y H s->t D Y H->SV (S7 X.prog X.w) X.A (exec st X.env) (SP X Z D) X.xe s
def PSs(X:Cx)(st:List Vj)(t:TS):Prop :=
 ∀(Z:List (So×UD))(s:Sr)(Y:St)(H:Hp)(D:Ends),Inv X Z Y H s->t D Y H->SV (S7 X.prog X.w) X.A (execs st X.env) (SP X Z D) X.xe s
theorem thn{t:Sem α}{Q Q':α->Sr->Prop}(h:SV M A t Q E s)(hQ:∀a s,Q a s->Q' a s):SV M A t Q' E s:=TQ h hQ λ_ _ x=>x
end L2
variable{tb:L2.TS}{Y:L2.St}{D:L2.Ends}{te tl:L2.TE}{tt:L2.TT}
namespace L2
open PySem PySem.Spec PyProof.Rows
section
variable{X:Cx}
inductive uX(i:Nat)(Y:St)(H:Hp)(Q:VK):Prop
 |mk (v:_) (zu:Y[i]?=A? (A? v)) (zv:Q v H):uX i Y H Q
def bC(i:Nat):TE:=uX i
def tC(v:V):TE:=λ_ H Q=>Q v H
theorem sJ{i:Nat}(hN:X.N[i]?=A? x)(hv:Vis X.env.scope x)(hd:(x == ("__debug__":SG))=false:=by decide)(y9:(x == ("__classdict__":SG))=false:=by decide):PE X (.Name x pos) (bC i):=by
 intro Z s Y H Q I h;obtain⟨v,e,h⟩:=h;obtain⟨m,hn,hl⟩:=I.loc;obtain⟨u,r,l⟩:=hl i x v hN e hv;have fin:EP X Z Y Q u s:=⟨v,H,I,r,h⟩;rcases l with⟨hk,hm⟩|⟨hk,c,hc,yd⟩
 .exact wpAny_Name (wpAny_loadName_local I.ok.kind hk hn hm fin) hd
 .rcases hk with hk|hk
  .exact wpAny_Name (wpAny_loadName_cell I.ok.kind hk hc yd fin) hd
  .exact wpAny_Name (wpAny_loadName_free I.ok.kind hk hc yd fin y9) hd
theorem af{i j pos}:PE X (.Constant (.int i) j pos) (tC (.int i)):=λ_ _ _ H _ I h=>wpAny_Constant_int ⟨.int i,H,I.tok _,⟨_,rfl⟩,h⟩
theorem nY{b j pos}:PE X (.Constant (.bool b) j pos) (tC (.bl b)):=λ_ _ _ H _ I h=>Constant_bool ⟨.bl b,H,I,rfl,h⟩
theorem kD{j pos}:PE X (.Constant .none j pos) (tC .non):=λ_ _ _ H _ I h=>Constant_none ⟨.non,H,I,rfl,h⟩
theorem dX{x j pos}:PE X (.Constant (.str x) j pos) (tC (.str x)):=λ_ _ _ H _ I h=>Calls.Constant_str ⟨.str x,H,I.tok _,⟨_,rfl⟩,h⟩
def Gl(X:Cx)(x:SG):Prop:=X.env.kindOf x=A? .globalImplicit
theorem fq(I:Inv X Z Y H s)(hg:Gl X x)(hm:X.mg x=A? u)(h:Q u s)
 (hd:(x == ("__debug__":SG))=false:=by decide):SV (S7 X.prog X.w) X.A (UZ (.Name x pos) X.env) Q E s :=
 U5 I.ok.kind hg (V5 (by rw[I.ok.glob];exact I.mod.glob.keeps I.bk) hm h) hd
theorem kg(I:Inv X Z Y H s)(hg:Gl X x)(hm:X.mg x=Am)(hv:Xm x=A? u)(h:Q u s)
 (hn:x≠"__name__":=by decide) (hd:(x == ("__debug__":SG))=false:=by decide):SV (S7 X.prog X.w) X.A (UZ (.Name x pos) X.env) Q E s:=by
 obtain⟨mb,h1,h2⟩:=I.mod.blt;exact U5 I.ok.kind hg (Calls.loadGlobal_builtin (by rw[I.ok.glob];exact I.mod.glob.keeps I.bk) hm (by rw[I.ok.blt];exact h1.keeps I.bk) ((h2 x hn).trans hv) h) hd
theorem cx(hg:Gl X x)(hm:X.mg x=A? u)(r:RelV v u)(hd:(x == ("__debug__":SG))=false:=by decide):PE X (.Name x pos) (tC v) :=
 λ_ _ _ H _ I h=>fq I hg hm ⟨v,H,I,r,h⟩ hd
variable{a b:TN}{ta tb:TE}
variable{tA Jk:TT}{rest:List TN}
def wX(t u:TT):TT:=λY H Q=>t Y H λc H1=>if c=B? then u Y H1 Q else Q C? H1
def tOr(t u:TT):TT:=λY H Q=>t Y H λc H1=>if c=B? then Q B? H1 else u Y H1 Q
def xb(t:TT):TT:=λY H Q=>t Y H λc H1=>Q (!c) H1
theorem jI(ha:PT X a tA):PW X (.BoolOp .And [a] pos) tA:=by
 intro wh Z s Y H Q I h;refine isTrue_and (thn (ha Z s Y H Q I h) λc s1 e=>?_);cases c with
 |true=>exact isTrue_and_nil e
 |false=>exact e
theorem kj(ha:PT X a tA):PW X (.BoolOp .Or [a] pos) tA:=by
 intro wh Z s Y H Q I h;refine isTrue_or (thn (ha Z s Y H Q I h) λc s1 e=>?_);cases c with
 |false=>exact isTrue_or_nil e
 |true=>exact e
theorem jb(ha:PT X a tA)(hb:PW X (.BoolOp .And (b::rest) pos) Jk):PW X (.BoolOp .And (a::b::rest) pos) (wX tA Jk):=by
 intro wh Z s Y H Q I h;refine isTrue_and (thn (ha Z s Y H _ I h) λc s1⟨H1,I1,q1⟩=>?_);cases c with
 |true=>exact hb wh Z s1 Y H1 Q I1 q1
 |false=>exact⟨H1,I1,q1⟩
theorem nk(ha:PT X a tA)(hb:PW X (.BoolOp .Or (b::rest) pos) Jk):PW X (.BoolOp .Or (a::b::rest) pos) (tOr tA Jk):=by
 intro wh Z s Y H Q I h;refine isTrue_or (thn (ha Z s Y H _ I h) λc s1⟨H1,I1,q1⟩=>?_);cases c with
 |true=>exact⟨H1,I1,q1⟩
 |false=>exact hb wh Z s1 Y H1 Q I1 q1
theorem vi(ha:PT X a tA):PT X (.UnaryOp .Not a pos) (xb tA):=by
 intro Z s Y H Q I h;exact isTrue_not (ha Z s Y H (λc H1=>Q (!c) H1) I h)
def wm(ta tb:TE):TE:=λY H Q=>ta Y H λx H1=>∃c,x=.bl c/\if c=B? then tb Y H1 Q else Q (.bl C?) H1
theorem vx{op}{t:TE}(h:PE X a t):PE X (.BoolOp op [a] pos) t:=λZ s Y H Q I hw=>BoolOp_one (h Z s Y H Q I hw)
theorem rg(ha:PE X a ta)(hb:PE X (.BoolOp .And (b::rest) pos) tb):PE X (.BoolOp .And (a::b::rest) pos) (wm ta tb):=by
 intro Z s Y H Q I h;refine BoolOp_and (thn (ha Z s Y H _ I h) λv s1⟨x,H1,I1,r1,q1⟩=>?_);obtain⟨c,rfl,q1⟩:=q1;cases r1;refine wpAny_truthy_bool ?_;cases c with
 |true=>exact hb Z s1 Y H1 Q I1 q1
 |false=>exact⟨.bl C?,H1,I1,D?,q1⟩
end
def SqL(K:Ss)(H:Hp)(a:So)(xs:List V):Prop :=
 Rd H a (.lst xs) \/
  ∃(o:UD)(its:Array Sq)(n:Nat),K.lookup a=A? o/\o.cls=.type "list"/\o.dict=Am/\o.data=.seq its n/\its.size<=SM/\Vals xs its.toList
def SqT(K:Ss)(H:Hp)(a:So)(xs:List V):Prop :=
 Rd H a (.tup xs) \/
  ∃(o:UD)(its:Array Sq)(n:Nat),K.lookup a=A? o/\o.cls=.type "tuple"/\o.data=.seq its n/\its.size<=SM/\Vals xs its.toList
def xm:Sq->Option V
 |.none=>A? .non
 |.bool b=>A? (.bl b)
 |.int i _=>A? (.int i)
 |.str x _=>A? (.str x)
 |.bytes b _=>A? (.byt b)
 |.float b _=>A? (.flt b)
 |.ref a=>A? (.ref a)
 |.type n=>A? (.ty n)
 |_=>Am
theorem RelV.abs{x:V}(r:RelV x u):xm u=A? x:=by
 cases x with
 |non=>cases r;rfl
 |bl _=>cases r;rfl
 |int _=>obtain⟨t,rfl⟩:=r;rfl
 |str _=>obtain⟨t,rfl⟩:=r;rfl
 |byt _=>obtain⟨t,rfl⟩:=r;rfl
 |flt _=>obtain⟨t,rfl⟩:=r;rfl
 |ref _=>cases r;rfl
 |ty _=>cases r;rfl
theorem RelV.inj{x:V}(r:RelV x u)(q:RelV y u):x=y:=Tq (r.abs.symm.trans q.abs)
theorem Vals.inj:∀{xs ys:List V}{us:List Sq},Vals xs us->Vals ys us->xs=ys
 |_,_,_,.nil,.nil=>rfl
 |_,_,_,.cons r t,.cons r' t'=>by rw[r.inj r',Vals.inj t t']
section
variable{X:Cx}{ys:List V}
theorem SqL.of(h:H a=A? (.lst xs)):SqL K H a xs:=.inl (.inl h)
theorem SqT.of(h:H a=A? (.tup xs)):SqT K H a xs:=.inl (.inl h)
theorem Inv.list(I:Inv X Z Y H s)(h:SqL X.K H a xs):∃its:List Sq,Vals xs its/\PlainL s.1 a its.toArray/\xs.length<=SM:=by
 rcases h with h|⟨o,its,n,hk,hc,hd,hs,hz,r⟩
 .obtain⟨z,its,n,r,e⟩:=h.ok I.hok;exact⟨its,r,⟨_,n,e,D?,D?,D?⟩,z⟩
 .refine⟨its.toList,r,⟨o,n,I.kIn a o hk,hc,hd,by simpa using hs⟩,?_⟩;have e:=r.length;simp only[SX]at e;lia
theorem Inv.tuple(I:Inv X Z Y H s)(h:SqT X.K H a xs):∃its:List Sq,Vals xs its/\IsTup s.1 a its.toArray/\xs.length<=SM:=by
 rcases h with h|⟨o,its,n,hk,hc,hs,hz,r⟩
 .obtain⟨z,its,n,r,p⟩:=h.ok I.hok;exact⟨its,r,⟨_,p,D?,n,D?⟩,z⟩
 .refine⟨its.toList,r,⟨o,I.kIn a o hk,hc,n,by simpa using hs⟩,?_⟩;have e:=r.length;simp only[SX]at e;lia
theorem Inv.list_inj(I:Inv X Z Y H s)(h:SqL X.K H a xs)(h':SqL X.K H a ys):xs=ys:=by
 obtain⟨its,r,⟨o,n,e,_,_,d⟩,_⟩:=I.list h;obtain⟨its',r',⟨o',n',e',_,_,d'⟩,_⟩:=I.list h';rw[e]at e';cases e';rw[d]at d';injection d' with d1 _;have:its=its':=by simpa using Zd Array.toList d1
 subst this;exact r.inj r'
theorem Inv.tuple_inj(I:Inv X Z Y H s)(h:SqT X.K H a xs)(h':SqT X.K H a ys):xs=ys:=by
 obtain⟨its,r,⟨o,e,_,n,d⟩,_⟩:=I.tuple h;obtain⟨its',r',⟨o',e',_,n',d'⟩,_⟩:=I.tuple h';rw[e]at e';cases e';rw[d]at d';injection d' with d1 _;have:its=its':=by simpa using Zd Array.toList d1
 subst this;exact r.inj r'
end
abbrev Cx.wish(X:Cx)(E:Sq->Sr->Prop):Cx:={X with xe:=E}
abbrev Cx.nox(X:Cx):Cx:=X.wish λ_ _=>False
theorem Cx.Ok.wish{X:Cx}(ok:X.Ok)(E:Sq->Sr->Prop):(X.wish E).Ok :=
 ⟨ok.mod,ok.kind,ok.glob,ok.blt,ok.above,ok.inj,ok.has,ok.cab,ok.hd,ok.frames,ok.stk,ok.exf,ok.bs,ok.bsz,ok.noex,ok.exfs,ok.funs,ok.frf⟩
theorem Cx.Ok.unwish{X:Cx}(ok:(X.wish E).Ok):X.Ok :=
 ⟨ok.mod,ok.kind,ok.glob,ok.blt,ok.above,ok.inj,ok.has,ok.cab,ok.hd,ok.frames,ok.stk,ok.exf,ok.bs,ok.bsz,ok.noex,ok.exfs,ok.funs,ok.frf⟩
section
variable{X:Cx}
theorem Inv.wish(I:Inv X Z Y H s)(E:Sq->Sr->Prop):Inv (X.wish E) Z Y H s:=⟨I.ok.wish E,I.os,I.bare,I.base,I.loc,I.cell,I.free,I.freeC,I.pin,I.hok,I.len⟩
theorem Inv.unwish(I:Inv (X.wish E) Z Y H s):Inv X Z Y H s:=⟨I.ok.unwish,I.os,I.bare,I.base,I.loc,I.cell,I.free,I.freeC,I.pin,I.hok,I.len⟩
theorem SP.unwish{f:Flow}(h:SP (X.wish E) Z D f s'):SP X Z D f s':=by
 cases f with
 |next=>obtain⟨xS,H',I,q⟩:=h;exact⟨xS,H',I.unwish,q⟩
 |brk=>obtain⟨xS,H',I,q⟩:=h;exact⟨xS,H',I.unwish,q⟩
 |cont=>obtain⟨xS,H',I,q⟩:=h;exact⟨xS,H',I.unwish,q⟩
 |ret u=>obtain⟨v,xS,H',I,r,q⟩:=h;exact⟨v,xS,H',I.unwish,r,q⟩
theorem PSs.nox{st:List Vj}{t:TS}(h:PSs X.nox st t):PSs X st t:=λZ s Y H D I hw =>
 TQ (h Z s Y H D (I.wish _) hw) (λ_ _ q=>q.unwish) λ_ _ z=>TH z
end
section
variable{X:Cx}{rest:List Vj}{t u:TS}
def j3:TS:=λD Y H=>D.nx Y H
def oh(t u:TS):TS:=λD Y H=>t {D with nx:=u D} Y H
theorem bp:PSs X [] j3:=λ_ _ Y H _ I h=>Wu ⟨Y,H,I,h⟩
theorem ae(h1:PS X st t)(h2:PSs X rest u):PSs X (st::rest) (oh t u):=by
 intro Z s Y H D I h;refine wpAny_execs_cons (thn (h1 Z s Y H {D with nx:=u D} I h) λf s1 q=>?_);cases f with
 | next =>
   obtain⟨xS,H',I',q⟩:=q;exact h2 Z s1 xS H' D I' q
 |ret v=>exact q
 |brk=>exact q
 |cont=>exact q
theorem ai(h1:PS X st t):PSs X [st] t:=by
 intro Z s Y H D I h;refine wpAny_execs_cons (thn (h1 Z s Y H D I h) λf s1 q=>?_);cases f with
 |next=>exact Wu q
 |ret v=>exact q
 |brk=>exact q
 |cont=>exact q
theorem Inv.quiet(I:Inv X Z Y H s):interactive X.env=false:=by simp[interactive,I.ok.kind]
def we(te:TE):TS:=λD Y H=>te Y H λ_ H1=>D.nx Y H1
theorem aY(he:PE X e te)(hs:Xc e Am pos.line X.env=pure false:=by rfl):PS X (.Expr e pos) (we te):=by
 intro Z s Y H D I h;exact wpAny_Expr_any (thn (he Z s Y H _ I h) λv s1⟨x,H1,I1,r1,q1⟩=>⟨Y,H1,I1,q1⟩) I.quiet hs
def xl(te:TE):TS:=λD Y H=>te Y H D.rt
theorem av(he:PE X e te):PS X (.Return (A? e) pos) (xl te):=by
 intro Z s Y H D I h;exact wpAny_Return_some (thn (he Z s Y H _ I h) λv s1⟨x,H1,I1,r1,q1⟩=>⟨x,Y,H1,I1,r1,q1⟩)
def wf(c:TT)(t u:TS):TS:=λD Y H=>c Y H λb H1=>if b=B? then t D Y H1 else u D Y H1
theorem bU{c:TN}{a b:List Vj}{tc:TT}(hc:PT X c tc)(ha:PSs X a t)(hb:PSs X b u):PS X (.If c a b pos) (wf tc t u):=by
 intro Z s Y H D I h;refine wpAny_If (thn (hc Z s Y H _ I h) λd s1⟨H1,I1,q1⟩=>?_);cases d with
 |true=>exact ha Z s1 Y H1 D I1 q1
 |false=>exact hb Z s1 Y H1 D I1 q1
def vj:TS:=λ_ _ _=>False
theorem nI:PS X st vj:=λ_ _ _ _ _ _ h=>h.elim
end
abbrev TG:=V->St->Hp->(St->Hp->Prop)->Prop
abbrev TGs:=List V->St->Hp->(St->Hp->Prop)->Prop
def PG(X:Cx)(target:TN)(t:TG):Prop :=
 ∀(Z:List (So×UD))(s:Sr)(Y:St)(H:Hp)(v:V)(u:Sq)(Q:St->Hp->Prop),Inv X Z Y H s->RelV v u->t v Y H Q ->
   SV (S7 X.prog X.w) X.A (assign target X.env u) (λ_ s'=>∃xS H',Inv X Z xS H' s'/\Q xS H') X.xe s
def PGs(X:Cx)(ts:List TN)(t:TGs):Prop :=
 ∀(Z:List (So×UD))(s:Sr)(Y:St)(H:Hp)(vs:List V)(us:List Sq)(Q:St->Hp->Prop),Inv X Z Y H s->Vals vs us->t vs Y H Q ->
   SV (S7 X.prog X.w) X.A (assignInOrder ((Xn ts X.env).map (·.2)) us) (λ_ s'=>∃xS H',Inv X Z xS H' s'/\Q xS H') X.xe s
abbrev ve:=V->V->V->Hp->(Hp->Prop)->Prop
def wy(X:Cx)(t:ve):Prop :=
 ∀(Z:List (So×UD))(s:Sr)(Y:St)(H:Hp)(o i v:V)(ov iv u:Sq)(Q:Hp->Prop),Inv X Z Y H s->RelV o ov->RelV i iv->RelV v u->t o i v H Q ->
   SV (S7 X.prog X.w) X.A (setItem ov iv u) (λ_ s'=>∃H',Inv X Z Y H' s'/\Q H') X.xe s
section
variable{X:Cx}
def aE(i:Nat):TG:=λv Y H Q=>Q (Y.set i (A? v)) H
theorem uv{i:Nat}(hN:X.N.Nodup)(hi:X.N[i]?=A? x)(hx:Loc X.env.scope x)(hf:X.fn x=B?\/X.env.scope.names.lookup x=A? .local:=by first|exact .inl rfl|exact .inr rfl|assumption):PG X (.Name x pos) (aE i):=by
 intro Z s Y H v u Q I r h;exact wpAny_assign_Name (ik I hN hi hx r (λs' I'=>⟨_,H,I',h⟩) hf)
def xg:TGs:=λvs Y H Q=>vs=[]/\Q Y H
def wI(t:TG)(u:TGs):TGs:=λvs Y H Q=>∃v r,vs=v::r/\t v Y H λxS H'=>u r xS H' Q
theorem b8:PGs X [] xg:=by
 intro Z s Y H vs us Q I r h;obtain⟨e,h⟩:=h;subst e;cases r;exact assignInOrder_nil ⟨Y,H,I,h⟩
theorem aD{t:TG}{u:TGs}(h1:PG X e t)(h2:PGs X es u)
 (hs:(Xn (e::es) X.env).map (·.2)=assign e X.env::(Xn es X.env).map (·.2):=by rfl):PGs X (e::es) (wI t u):=by
 intro Z s Y H vs us Q I r h;obtain⟨v,vr,e1,h⟩:=h;subst e1;cases r with
 | cons r rr =>
   rw[hs];refine assignInOrder_cons (thn (h1 Z s Y H _ _ _ I r h) λ_ s1⟨yt,H1,I1,q1⟩=>?_);exact h2 Z s1 yt H1 _ _ Q I1 rr q1
def wY(K:Ss)(n:Nat)(t:TGs):TG:=λv Y H Q=>∃a xs,v=.ref a/\SqT K H a xs/\xs.length=n/\t xs Y H Q
theorem cR{k:Nat}{t:TGs}(hc:X.calm=B?)(h:PGs X es t)
 (hn:(Xn es X.env).length=n:=by rfl) (yy:(Xn es X.env).findIdx? (·.1)=none:=by rfl):PG X (.Tuple es k pos) (wY X.K n t):=by
 intro Z s Y H v u Q I r hw;obtain⟨a,xs,e1,hq,hl,hw⟩:=hw;subst e1;cases r;obtain⟨its,rv,ht,hz⟩:=I.tuple hq;refine assign_Tuple_tuple (I.ok.hd hc) ht (by simp[hn,<-hl,rv.length]) yy λh' hx=>?_;have I1:Inv X Z Y H {s with heap:=h'}:=I.kept (t':=s.toks) λb o e=>hx b o (Ti (SS e)) e;exact h Z _ Y H xs _ Q I1 (by simpa using rv) hw
def xD(to ti:TE)(t:ve):TG:=λv Y H Q=>to Y H λo H1=>ti Y H1 λi H2=>t o i v H2 λH3=>Q Y H3
theorem vP{o i:TN}{to ti:TE}{t:ve}(ho:PE X o to)(hi:PE X i ti)(hs:wy X t)
 (ha:∀v,assign (.Subscript o i pos) X.env v=(do
  let ov <-holding [v] (UZ o X.env)
  let iv <-holding [v,ov] (UZ i X.env)
  standAt pos
  holding [v,ov,iv] (setItem ov iv v)
  release [v,ov,iv] []):=by intro _;rfl):PG X (.Subscript o i pos) (xD to ti t):=by
 intro Z s Y H v u Q I r h;rw[ha];refine Sm (UU (thn (ho Z s Y H _ I h) λov s1⟨x,H1,I1,r1,q1⟩=>?_));refine Sm (UU (thn (hi Z s1 Y H1 _ I1 q1) λiv s2⟨y,H2,I2,r2,q2⟩=>?_));refine Sm (wpAny_standAt (Sm (UU (thn (hs Z s2 Y H2 x y v ov iv u _ I2 r1 r2 r q2) λ_ s3⟨H3,I3,q3⟩=>?_))));exact wpAny_release ⟨Y,H3,I3,q3⟩
def nU(te:TE)(g:TG):TS:=λD Y H=>te Y H λx H1=>g x Y H1 D.nx
theorem eg{g:TG}(he:PE X e te)(hg:PG X tg g)(hs:swapsWithSole [tg] e pos.line X.env=pure false:=by rfl)(hw:swappedStores [tg] e X.env=pure none:=by rfl)
 (h1:(Xn [tg] X.env).map (·.2)=[assign tg X.env]:=by rfl):PS X (.Assign [tg] e pos) (nU te g):=by
 intro Z s Y H D I h;refine wpAny_Assign_stores (thn (he Z s Y H _ I h) λv s1⟨x,H1,I1,r1,q1⟩=>?_) hs hw;rw[h1];exact thn (hg Z s1 Y H1 x v _ I1 r1 q1) λ_ s2 q=>q
theorem vC{i:Nat}{pos':VX}(hN:X.N.Nodup)(hi:X.N[i]?=A? x)(hx:Loc X.env.scope x)(he:PE X e te)(hs:Xc e (A? (.Name x pos')) pos.line X.env=pure false:=by rfl)(hf:X.fn x=B?\/X.env.scope.names.lookup x=A? .local:=by first|exact .inl rfl|exact .inr rfl|assumption) :
 PS X (.Assign [.Name x pos'] e pos) (nU te (aE i)):=by
 intro Z s Y H D I h;refine wpAny_Assign_Name (thn (he Z s Y H _ I h) λv s1⟨y,H1,I1,r1,q1⟩=>?_) hs;exact ik I1 hN hi hx r1 (λs2 I2=>⟨_,H1,I2,q1⟩) hf
end
section
variable{X:Cx}
def vR(c:TT)(tb:TS):TS:=λD Y H=>∃W:Nat->St->Hp->Prop,(∃m,W m Y H)/\∀m Y H,W m Y H ->
 c Y H λb H1=>if b=B? then∃N:St->Hp->Prop,(∀xS H',N xS H'->∃m',m'<m/\W m' xS H')/\tb {D with nx:=N,ct:=N,bk:=D.nx} Y H1 else D.nx Y H1
theorem dD{c:TN}{tc:TT}(hp:PassesOwn (S7 X.prog X.w) X.A X.env X.xe)(hc:PT X c tc)(hb:PSs X body tb):PS X (.While c body [] pos) (vR tc tb):=by
 intro Z s Y H D I h;obtain⟨W,⟨m0,w0⟩,turn⟩:=h;refine wpAny_While (codeAny_whileLoop (λn s'=>∃xS H',Inv X Z xS H' s'/\W n xS H') ?_ m0 ⟨Y,H,I,w0⟩);rintro n s1 ⟨yt,H1,I1,w1⟩;refine Vs hp (thn (hc Z s1 yt H1 _ I1 (turn n yt H1 w1)) λb s2⟨H2,I2,q2⟩=>?_);cases b with
 | true =>
   obtain⟨N,hN,q2⟩:=q2;rw[Yb rfl];refine Vs hp (thn (hb Z s2 yt H2 _ I2 q2) λf s3 q3=>?_);cases f with
   | next =>
     obtain⟨BO,H3,I3,n3⟩:=q3;obtain⟨m',hm,w3⟩:=hN BO H3 n3;exact⟨m',hm,BO,H3,I3,w3⟩
   | cont =>
     obtain⟨BO,H3,I3,n3⟩:=q3;obtain⟨m',hm,w3⟩:=hN BO H3 n3;exact⟨m',hm,BO,H3,I3,w3⟩
   |brk=>exact q3
   |ret v=>exact q3
 | false =>
   rw[Za SW];exact Wu ⟨yt,H2,I2,q2⟩
end
structure It where
 go:Nat->Hp->Prop
 yld:Nat->Hp->V->Hp->Prop
 stop:Nat->Hp->Prop
def gh(X:Cx)(Z:List (So×UD))(H:Hp)(b:So):Prop :=
 H b=Am/\b≠X.env.locals/\b∉X.fs/\(b∈X.ex\/X.s₀.heap.1.size<=b)/\(∀x c,X.env.cells.lookup x=A? c->c≠b)/\∀p∈X.pn++Z,p.1≠b
theorem Inv.fpOk{X:Cx}(I:Inv X Z Y H s)(hb:s.1.1.size<=b)(hn:H' b=Am):gh X Z H' b:=by
 refine⟨hn,WU (SY I.lt hb),I.nofs hb,.inr (Td I.sz hb),λx c e z=>?_,λp hp z=>?_⟩
 .obtain⟨v,q⟩:=I.cell x c e;exact Yd (SY q.lt (by rw[z];exact hb)) (Tx _)
 .exact Yd (SY (SS (I.pin p hp).1) (by rw[z];exact hb)) (Tx _)
structure Turn(P:SH)(w:S0)(K:Ss)(tg:TN)(J:It)(fp:List So)(it:So)(tn:Nat->TL->Prop):Prop where
 mem:it∈fp
 obj:∀i h,tn i h->∀b∈fp,∃o,h.get? b=A? o/\∀v,o.data≠.cell v
 keep:∀i h h',tn i h->(∀b∈fp,∀o,h.get? b=A? o->h'.get? b=A? o)->tn i h'
 item:∀(X:Cx),X.prog=P->X.w=w->X.K=K->X.calm=B?->∀(i:Nat)(Z:List (So×UD))(s:Sr)(Y:St)(H:Hp)(E:Sq->Sr->Prop),Inv X Z Y H s->(∀b∈fp,gh X Z H b)->tn i s.1->J.go i H ->
  SV (S7 P w) X.A (Wv (.ref it)) (λr s1=>∃u,r=A? u /\
   SV (S7 P w) X.A (Ww tg (.ref it) u) (λ_ s2=>∃x H',Inv X Z Y H' s2/\RelV x u/\J.yld i H x H'/\tn (i+1) s2.1/\∀b∈fp,H' b=Am) E s1) E s
 done:∀(X:Cx),X.prog=P->X.w=w->X.K=K->X.calm=B?->∀(i:Nat)(Z:List (So×UD))(s:Sr)(Y:St)(H:Hp)(E:Sq->Sr->Prop),Inv X Z Y H s->(∀b∈fp,gh X Z H b)->tn i s.1->J.stop i H ->
  SV (S7 P w) X.A (Wv (.ref it)) (λr s1=>r=Am/\Inv X Z Y H s1) E s
 self:∀(A:Ta)(i:Nat)(s:Sr)(Q:Sq->Sr->Prop)(E:Sq->Sr->Prop),tn i s.1->Q (.ref it) s->SV (S7 P w) A (pyIter (.ref it)) Q E s
abbrev TI:=St->Hp->(It->Hp->Prop)->Prop
def PIE(X:Cx)(Z:List (So×UD))(Y:St)(tg:TN)(R:It->Hp->Prop)(GG:Sq)(s2:Sr):Prop :=
 ∃(it:So)(fp:List So)(tn:Nat->TL->Prop)(J:It)(H':Hp),GG=.ref it/\Inv X Z Y H' s2/\Turn X.prog X.w X.K tg J fp it tn/\tn 0 s2.1/\(∀b∈fp,gh X Z H' b)/\R J H'
def PI(X:Cx)(tg iter:TN)(wi:TI):Prop :=
 ∀(Z:List (So×UD))(s:Sr)(Y:St)(H:Hp)(R:It->Hp->Prop),Inv X Z Y H s->wi Y H R ->
   SV (S7 X.prog X.w) X.A (UZ iter X.env) (λv s1=>SV (S7 X.prog X.w) X.A (pyIter v) (PIE X Z Y tg R) X.xe s1) X.xe s
theorem nw{o:UD}{n:String}{vs:Array Sq}{Q:Unit->Sr->Prop}(ho:s.1.get? it=A? o)(hc:o.cls=.type n)(hd:o.data=.fields vs)
 (hn:["enumerate","zip","dict_itemiterator","dict_reverseitemiterator","odict_iterator","itertools.zip_longest","itertools.pairwise"].contains n=C?) (hQ:Q () s):SV M A (Ww tg (.ref it) u) Q E s:=by
 unfold Ww
 cases tg <;> first
  |exact Sw hQ
  |(cases u <;> first
   |exact Sw hQ
   | (refine Sm (wpAny_load ho ?_)
      rw[hc,hd];show SV M A (if(["enumerate","zip","dict_itemiterator","dict_reverseitemiterator","odict_iterator","itertools.zip_longest","itertools.pairwise"].contains n && vs[0]? == A? (Vi _))=B? then _ else _) Q E s;rw[Za (by intro h;rw[hn,Bool.false_and]at h;cases h)];exact Sw hQ))
def Itl(K:Ss)(a:So):It :=
 ⟨λi H=>∃xs x,SqL K H a xs/\xs[i]?=A? x,λi H x H'=>H'=H/\∀xs,SqL K H a xs->xs[i]?=A? x,λi H=>∃xs,SqL K H a xs/\xs.length<=i⟩
def Itt(K:Ss)(a:So):It :=
 ⟨λi H=>∃xs x,SqT K H a xs/\xs[i]?=A? x,λi H x H'=>H'=H/\∀xs,SqT K H a xs->xs[i]?=A? x,λi H=>∃xs,SqT K H a xs/\xs.length<=i⟩
def Itr(lo:Int)(n:Nat):It:=⟨λi _=>i<n,λi H x H'=>H'=H/\x=.int (lo+i),λi _=>n<=i⟩
theorem lX{w:S0}(a it:So):Turn P w K tg (Itl K a) [it] it (λi h=>h.IsListIter it a i) where
 mem:=by simp
 obj:=λi h st b hb=>by
  have e:b=it:=by simpa using hb
  subst e;obtain⟨o,e,c,d⟩:=st;exact⟨o,e,λv z=>by rw[d]at z;cases z⟩
 keep:=λi h h' st k=>st.at λo e=>k it (by simp) o e
 item:=by
  intro X hP hw hK hc i Z s Y H E I hf st hg;subst hP hw hK;obtain⟨xs,x,hq,hx⟩:=hg;obtain⟨its,rv,p,hz⟩:=I.list hq;obtain⟨u,hu,ru⟩:=rv.get hx;obtain⟨f0,f1,f2,f3,f4,f5⟩:=hf it (by simp);refine wpAny_pyNext_list_item st p.isList (x:=u) (by simpa using hu) λh' Ah sb=>?_;have I1:Inv X Z Y H {s with heap:=h'}:=I.turned (t':=s.toks) (λb o hb e=>(sb.2 b hb).trans e) f0 f1 f3 f4 f5;obtain⟨o,e,c,d⟩:=id Ah;exact⟨u,D?,nw (s:={s with heap:=h'}) e c d (by decide) ⟨x,H,I1,ru,⟨D?,λys hy=>by rw[I.list_inj hy hq];exact hx⟩,Ah,λb hb=>(hf b hb).1⟩⟩
 done:=by
  intro X hP hw hK hc i Z s Y H E I hf st hg;subst hP hw hK;obtain⟨xs,hq,hx⟩:=hg;obtain⟨its,rv,p,hz⟩:=I.list hq;obtain⟨f0,f1,f2,f3,f4,f5⟩:=hf it (by simp);have hl:=rv.length;exact wpAny_pyNext_list_end (I.ok.hd hc) st p.isList (by simp;lia) λh' eb=>⟨rfl,I.turned (t':=s.toks) (λb o hb e=>eb b o hb e) f0 f1 f3 f4 f5⟩
 self:=λ_ _ _ _ _ st h=>wpAny_pyIter_listiter st h
theorem kb{w:S0}(a it:So):Turn P w K tg (Itt K a) [it] it (λi h=>h.IsTupleIter it a i) where
 mem:=by simp
 obj:=λi h st b hb=>by
  have e:b=it:=by simpa using hb
  subst e;obtain⟨o,e,c,d⟩:=st;exact⟨o,e,λv z=>by rw[d]at z;cases z⟩
 keep:=λi h h' st k=>st.at λo e=>k it (by simp) o e
 item:=by
  intro X hP hw hK hc i Z s Y H E I hf st hg;subst hP hw hK;obtain⟨xs,x,hq,hx⟩:=hg;obtain⟨its,rv,p,hz⟩:=I.tuple hq;obtain⟨u,hu,ru⟩:=rv.get hx;obtain⟨f0,f1,f2,f3,f4,f5⟩:=hf it (by simp);refine wpAny_pyNext_tuple_item st (show s.1.IsTuple a its.toArray from p) (x:=u) (by simpa using hu) λh' Ah sb=>?_;have I1:Inv X Z Y H {s with heap:=h'}:=I.turned (t':=s.toks) (λb o hb e=>(sb.2 b hb).trans e) f0 f1 f3 f4 f5;obtain⟨o,e,c,d⟩:=id Ah;exact⟨u,D?,nw (s:={s with heap:=h'}) e c d (by decide) ⟨x,H,I1,ru,⟨D?,λys hy=>by rw[I.tuple_inj hy hq];exact hx⟩,Ah,λb hb=>(hf b hb).1⟩⟩
 done:=by
  intro X hP hw hK hc i Z s Y H E I hf st hg;subst hP hw hK;obtain⟨xs,hq,hx⟩:=hg;obtain⟨its,rv,p,hz⟩:=I.tuple hq;obtain⟨f0,f1,f2,f3,f4,f5⟩:=hf it (by simp);have hl:=rv.length;exact wpAny_pyNext_tuple_end (I.ok.hd hc) st (show s.1.IsTuple a its.toArray from p) (by simp;lia) λh' eb=>⟨rfl,I.turned (t':=s.toks) (λb o hb e=>eb b o hb e) f0 f1 f3 f4 f5⟩
 self:=λ_ _ _ _ _ st h=>wpAny_pyIter_tupleiter st h
theorem pz{w:S0}(it:So)(lo:Int)(n:Nat):Turn P w K tg (Itr lo n) [it] it (λi h=>IsRangeIter h it (lo+(i:Nat) * 1) ((n:Int) - (i:Nat)) 1) where
 mem:=by simp
 obj:=λi h st b hb=>by
  have e:b=it:=by simpa using hb
  subst e
  exact⟨_,st,λv z=>by
   have z':Data.fields _=Data.cell v:=z;cases z'⟩
 keep:=λi h h' st k=>k it (by simp) _ st
 item:=by
  intro X hP hw hK hc i Z s Y H E I hf st hg;subst hP hw hK;obtain⟨f0,f1,f2,f3,f4,f5⟩:=hf it (by simp);have W:=Walks.range (prog:=X.prog) (w:=X.w) (I.ok.hd hc) it lo 1 n;refine W.item i s _ _ hg st λv h' tk hv Ah kk=>?_;obtain⟨t,rfl⟩:=hv;have I1:Inv X Z Y H {s with heap:=h',toks:=tk}:=I.turned (λb o hb e=>kk b o (by simpa using hb) e) f0 f1 f3 f4 f5;refine⟨_,D?,nw (s:={s with heap:=h',toks:=tk}) (n:="range_iterator") Ah rfl rfl (by decide) ⟨.int (lo+i),H,I1,⟨t,?_⟩,⟨D?,D?⟩,Ah,λb hb=>(hf b hb).1⟩⟩;rw[Int.mul_one]
 done:=by
  intro X hP hw hK hc i Z s Y H E I hf st hg;subst hP hw hK;obtain⟨f0,f1,f2,f3,f4,f5⟩:=hf it (by simp);exact wpAny_pyNext_range_end (I.ok.hd hc) st (by have:n<=i:=hg;lia) λh' eb=>⟨rfl,I.turned (t':=s.toks) (λb o hb e=>eb b o hb e) f0 f1 f3 f4 f5⟩
 self:=λ_ _ _ _ _ st h=>wpAny_pyIter_rangeiter st h
end L2
open L2.SqT renaming of->Yg
open L2.SqL renaming of->Zg
variable{wi:L2.TI}{J:L2.It}
namespace L2
open PySem PySem.Spec PyProof.Rows
section
variable{X:Cx}
def v9(K:Ss)(tl:TE):TI:=λY H R=>tl Y H λx H1=>∃a,x=.ref a/\(∃xs,SqL K H1 a xs)/\R (Itl K a) H1
def w9(K:Ss)(tl:TE):TI:=λY H R=>tl Y H λx H1=>∃a,x=.ref a/\(∃xs,SqT K H1 a xs)/\R (Itt K a) H1
theorem cJ{l:TN}(hl:PE X l tl):PI X tg l (v9 X.K tl):=by
 intro Z s Y H R I h;refine thn (hl Z s Y H _ I h) λv s1⟨x,H1,I1,r1,q1⟩=>?_;obtain⟨a,e,⟨xs,hq⟩,q⟩:=q1;subst e;cases r1;obtain⟨its,rv,p,hz⟩:=I1.list hq;refine wpAny_pyIter_list p.isList ?_;refine⟨s1.1.1.size,[s1.1.1.size],_,_,H1,D?,I1.kept (t':=s1.toks) λb o e=>Sy _ e,lX a _,⟨_,SO _ rfl,D?,D?⟩,λb hb=>?_,q⟩;have e:b=s1.1.1.size:=by simpa using hb
 subst e;exact I1.fpOk (Su _) (I1.hok.fresh (Su _))
theorem d3{l:TN}(hl:PE X l tl):PI X tg l (w9 X.K tl):=by
 intro Z s Y H R I h;refine thn (hl Z s Y H _ I h) λv s1⟨x,H1,I1,r1,q1⟩=>?_;obtain⟨a,e,⟨xs,hq⟩,q⟩:=q1;subst e;cases r1;obtain⟨its,rv,p,hz⟩:=I1.tuple hq;refine wpAny_pyIter_tuple (show s1.1.IsTuple a its.toArray from p) ?_;refine⟨s1.1.1.size,[s1.1.1.size],_,_,H1,D?,I1.kept (t':=s1.toks) λb o e=>Sy _ e,kb a _,⟨_,SO _ rfl,D?,D?⟩,λb hb=>?_,q⟩;have e:b=s1.1.1.size:=by simpa using hb
 subst e;exact I1.fpOk (Su _) (I1.hok.fresh (Su _))
theorem rb{R:It->Hp->Prop}{lo hi:Int}{t u v:Tok}{tk:Nat}(I:Inv X Z Y H s)(h1:-(2 ^ 62)<=lo)(h2:lo<2 ^ 62)(h3:-(2 ^ 62)<=hi)(h4:hi<2 ^ 62)
 (q:R (Itr lo (hi - lo).toNat) H):SV (S7 X.prog X.w) X.A (pyIter (.ref s.1.1.size)) (PIE X Z Y tg R) E {s with heap:=s.1.push {cls:=.type "range",data:=.fields #[.int lo t,.int hi u,.int 1 v]},toks:=tk}:=by
 refine wpAny_pyIter_range (IsRange.new ..) (small_one h1 h2 h3 h4) ?_;have I1:Inv X Z Y H {s with heap:=s.1.push {cls:=.type "range",data:=.fields #[.int lo t,.int hi u,.int 1 v]},toks:=tk}:=I.kept λb o e=>Sy _ e
 refine⟨(s.1.push {cls:=.type "range",data:=.fields #[.int lo t,.int hi u,.int 1 v]}).objs.size,[(s.1.push {cls:=.type "range",data:=.fields #[.int lo t,.int hi u,.int 1 v]}).objs.size],_,_,H,D?,
  I1.kept (t':=tk) λb o e=>Sy _ e,pz _ lo (hi - lo).toNat,?_,λb hb=>?_,q⟩
 .have e1:lo+((0:Nat):Int) * 1=lo:=by simp
  have e2:(((hi - lo).toNat:Nat):Int) - ((0:Nat):Int)=Builtin.Range.rangeSize lo hi 1:=by rw[rangeSize_one];split <;> lia
  show IsRangeIter _ _ (lo+((0:Nat):Int) * 1) ((((hi - lo).toNat:Nat):Int) - ((0:Nat):Int)) 1;rw[e1,e2];exact SO _ rfl
 .have e:b=(s.1.push {cls:=.type "range",data:=.fields #[.int lo t,.int hi u,.int 1 v]}).objs.size:=by simpa using hb
  subst e;exact I1.fpOk (Su _) (I1.hok.fresh (Su _))
def v7(ta:TA):TI:=λY H R=>ta Y H λvs H1=>∃j:Int,vs=[.int j]/\-(2 ^ 62)<=j/\j<2 ^ 62/\R (Itr 0 j.toNat) H1
theorem cA{a:TN}{ta:TA}{p:VX}(hg:Gl X "range")(hm:X.mg "range"=Am)(ha:PA X [a] ta)(hs:Tr [a] X.env=[(C?,UZ a X.env)]:=by rfl):PI X tg (.Call (.Name "range" p) [a] [] pos) (v7 ta):=by
 intro Z s Y H R I h;refine Call_ (kg I hg hm boot_range (Vp (thn (ha pos Z s Y H _ I h) λus s1⟨vs,H1,I1,r1,q1⟩=>?_) hs rfl));obtain⟨j,e,q1,q2,q⟩:=q1;subst e;cases r1 with
 | cons r rr =>
   cases rr;obtain⟨t,rfl⟩:=r;exact call_range_1 (rb I1 (by lia) (by lia) q1 q2 (by simpa using q))
def xy(wi:TI)(g:TG)(tb:TS):TS:=λD Y H=>wi Y H λJ H1=>∃W:Nat->Nat->St->Hp->Prop,(∃m,W 0 m Y H1)/\∀i m Y H,W i m Y H ->
 (J.stop i H/\D.nx Y H)\/(J.go i H/\∃N:St->Hp->Prop,(∀xS H',N xS H'->∃m',m'<m/\W (i+1) m' xS H')/\∀x H',J.yld i H x H'->g x Y H' λyL H2=>tb {D with nx:=N,ct:=N,bk:=D.nx} yL H2)
def iV(fp:List So)(h:TL):List (So×UD):=fp.filterMap λb=>(h.get? b).map λo=>(b,o)
theorem dj{o:UD}(hb:b∈fp)(e:h.get? b=A? o):(b,o)∈iV fp h:=Vg.mpr ⟨b,hb,by rw[e];rfl⟩
theorem qv{p:So×UD}(hp:p∈iV fp h):p.1∈fp/\h.get? p.1=A? p.2:=by
 obtain⟨b,hb,e⟩:=Vg.mp hp;cases q:h.get? b with
 |none=>rw[q]at e;cases e
 | some o =>
   rw[q]at e;have e':(b,o)=p:=Tq e;subst e';exact⟨hb,q⟩
theorem Inv.pinned(I:Inv X Z Y H s)(hf:∀b∈fp,gh X Z H b)(ho:∀b∈fp,∃o,s.1.get? b=A? o/\∀v,o.data≠.cell v):Inv X (Z++iV fp s.1) Y H s :=
 I.pins_of λp hp=>(S6.mp hp).elim (λz=>I.pin p (S3 _ z)) λz=>by
  obtain⟨hb,e⟩:=qv z;obtain⟨f0,f1,f2,_⟩:=hf p.1 hb;obtain⟨o,e',d⟩:=ho p.1 hb;rw[e]at e';cases e';exact⟨e,f0,f1,f2,d⟩
theorem Inv.unpinned{pl:List (So×UD)}(I:Inv X (Z++pl) Y H s):Inv X Z Y H s:=I.pins_of λp hp=>I.pin p (S3 _ (Tp _ hp))
theorem cE{g:TG}(hp:PassesOwn (S7 X.prog X.w) X.A X.env X.xe)(hc:X.calm=B?)(hi:PI X tg iter wi)(hg:PG X tg g)(hb:PSs X body tb)
 (hs:∀x,WV iter X.env x=pure x:=by intro _;rfl):PS X (.For tg iter body [] pos) (xy wi g tb):=by
 intro Z s Y H D I h;refine wpAny_For (thn (hi Z s Y H _ I h) λv s1 h1=>thn h1 λGG s2 h2=>?_) hs;obtain⟨it,fp,tn,J,H2,e,I2,T,En,f2,W,⟨m0,w0⟩,turn⟩:=h2;subst e
 have zw:∀{H':Hp},(∀b∈fp,H' b=Am)->∀b∈fp,gh X Z H' b:=λhn b hb=>⟨hn b hb,(f2 b hb).2⟩;refine codeAny_forLoop_any (λn s'=>∃i xS H',Inv X Z xS H' s'/\tn i s'.1/\(∀b∈fp,H' b=Am)/\W i n xS H') ?_ m0 ⟨0,Y,H2,I2,En,λb hb=>(f2 b hb).1,w0⟩;rintro n s3 ⟨i,BO,H3,I3,Nj,Nk,w3⟩;rcases turn i n BO H3 w3 with⟨stop,qn⟩|⟨go,N,hN,step⟩
 .refine Vs hp (thn (T.done X rfl rfl rfl hc i Z s3 BO H3 X.xe I3 (zw Nk) Nj stop) λr s4⟨hr,I4⟩=>?_);subst hr;exact Wu ⟨BO,H3,I4,qn⟩
 .refine Vs hp (thn (T.item X rfl rfl rfl hc i Z s3 BO H3 X.xe I3 (zw Nk) Nj go) λr s4⟨u,hr,h4⟩=>?_);subst hr;refine Vs hp (thn h4 λ_ s5⟨x,H5,I5,r5,y5,BP,Ep⟩=>?_);have OZ:=I5.pinned (zw Ep) (T.obj _ _ BP);refine Vs hp (thn (hg _ s5 BO H5 x u _ OZ r5 (step x H5 y5)) λ_ s6⟨O0,H6,I6,q6⟩=>?_);refine Vs hp (thn (hb _ s6 O0 H6 _ I6 q6) λf s7 q7=>?_)
  have again:∀{BQ:St}{H7:Hp},Inv X (Z++iV fp s5.1) BQ H7 s7->N BQ H7->∃m,m<n/\∃i xS H',Inv X Z xS H' s7/\tn i s7.1/\(∀b∈fp,H' b=Am)/\W i m xS H':=λ{BQ H7}I7 n7=>by
   obtain⟨m',hm,w7⟩:=hN BQ H7 n7;refine⟨m',hm,i+1,BQ,H7,I7.unpinned,T.keep _ _ _ BP λb hb o e=>(I7.pin (b,o) (S3 _ (S3 _ (dj hb e)))).1,λb hb=>?_,w7⟩;obtain⟨o,e,d⟩:=T.obj _ _ BP b hb;exact(I7.pin (b,o) (S3 _ (S3 _ (dj hb e)))).2.1
  cases f with
  |next=>obtain⟨BQ,H7,I7,n7⟩:=q7;exact again I7 n7
  |cont=>obtain⟨BQ,H7,I7,n7⟩:=q7;exact again I7 n7
  |brk=>obtain⟨BQ,H7,I7,q7⟩:=q7;exact⟨BQ,H7,I7.unpinned,q7⟩
  |ret v=>obtain⟨x7,BQ,H7,I7,r7,q7⟩:=q7;exact⟨x7,BQ,H7,I7.unpinned,r7,q7⟩
end
theorem dY{g:TG}(Pv:Nat->St->Hp->Prop)(h0:Pv 0 Y H)(hl:∀i Y H,i<=xs.length->Pv i Y H->SqL K H a xs)
 (hs:∀i x Y H,xs[i]?=A? x->Pv i Y H->g x Y H λyL H2=>tb {D with nx:=Pv (i+1),ct:=Pv (i+1),bk:=D.nx} yL H2) (hd:∀Y H,Pv xs.length Y H->D.nx Y H) :
 ∃W:Nat->Nat->St->Hp->Prop,(∃m,W 0 m Y H)/\∀i m Y H,W i m Y H ->
   ((Itl K a).stop i H/\D.nx Y H)\/((Itl K a).go i H/\∃N:St->Hp->Prop,(∀xS H',N xS H'->∃m',m'<m/\W (i+1) m' xS H')/\∀x H',(Itl K a).yld i H x H'->g x Y H' λyL H2=>tb {D with nx:=N,ct:=N,bk:=D.nx} yL H2):=by
 refine⟨λi m Y H=>m=xs.length - i/\i<=xs.length/\Pv i Y H,⟨xs.length,by simp,Tn _,h0⟩,?_⟩;rintro i m Y H ⟨rfl,hi,p⟩;have q:=hl i Y H hi p;by_cases yb:i<xs.length
 .refine .inr ⟨⟨xs,xs[i],q,by simp[yb]⟩,Pv (i+1),λxS H' p'=>⟨xs.length - (i+1),by lia,rfl,yb,p'⟩,λx H' y=>?_⟩;obtain⟨e,y⟩:=y;subst e;exact hs i x Y _ (y xs q) p
 .have e:i=xs.length:=by lia
  subst e;exact .inl ⟨⟨xs,q,Su _⟩,hd Y H p⟩
theorem cO{lo:Int}{g:TG}(Pv:Nat->St->Hp->Prop)(h0:Pv 0 Y H)
 (hs:∀i Y H,i<n->Pv i Y H->g (.int (lo+i)) Y H λyL H2=>tb {D with nx:=Pv (i+1),ct:=Pv (i+1),bk:=D.nx} yL H2) (hd:∀Y H,Pv n Y H->D.nx Y H) :
 ∃W:Nat->Nat->St->Hp->Prop,(∃m,W 0 m Y H)/\∀i m Y H,W i m Y H ->
   ((Itr lo n).stop i H/\D.nx Y H)\/((Itr lo n).go i H/\∃N:St->Hp->Prop,(∀xS H',N xS H'->∃m',m'<m/\W (i+1) m' xS H')/\∀x H',(Itr lo n).yld i H x H'->g x Y H' λyL H2=>tb {D with nx:=N,ct:=N,bk:=D.nx} yL H2):=by
 refine⟨λi m Y H=>m=n - i/\i<=n/\Pv i Y H,⟨n,by simp,Tn _,h0⟩,?_⟩;rintro i m Y H ⟨rfl,hi,p⟩;by_cases yb:i<n
 .refine .inr ⟨yb,Pv (i+1),λxS H' p'=>⟨n - (i+1),by lia,rfl,yb,p'⟩,λx H' y=>?_⟩;obtain⟨e,y⟩:=y;subst e y;exact hs i Y _ yb p
 .have e:i=n:=by lia
  subst e;exact .inl ⟨Su _,hd Y H p⟩
abbrev R2:=V->V->Hp->VK->Prop
def OpR(X:Cx)(f:Sq->Sq->Sem Sq)(r:R2):Prop :=
 ∀(Z:List (So×UD))(s:Sr)(Y:St)(H:Hp)(x y:V)(v u:Sq)(Q:VK),Inv X Z Y H s->RelV x v->RelV y u->r x y H Q ->
   SV (S7 X.prog X.w) X.A (f v u) (EP X Z Y Q) X.xe s
def UnR(X:Cx)(f:Sq->Sem Sq)(r:V->Hp->VK->Prop):Prop :=
 ∀(Z:List (So×UD))(s:Sr)(Y:St)(H:Hp)(x:V)(v:Sq)(Q:VK),Inv X Z Y H s->RelV x v->r x H Q ->
   SV (S7 X.prog X.w) X.A (f v) (EP X Z Y Q) X.xe s
def eK(X:Cx)(f:Sq)(r:List V->Hp->VK->Prop):Prop :=
 ∀(Z:List (So×UD))(s:Sr)(Y:St)(H:Hp)(xs:List V)(us:List Sq)(Q:VK),Inv X Z Y H s->Vals xs us->r xs H Q ->
   SV (S7 X.prog X.w) X.A (call f us) (EP X Z Y Q) X.xe s
def xJ(X:Cx)(r:V->Hp->(Bool->Hp->Prop)->Prop):Prop :=
 ∀(Z:List (So×UD))(s:Sr)(Y:St)(H:Hp)(x:V)(v:Sq)(Q:Bool->Hp->Prop),Inv X Z Y H s->RelV x v->r x H Q ->
   SV (S7 X.prog X.w) X.A (truthy v) (TP X Z Y Q) X.xe s
def tOp(r:R2)(ta tb:TE):TE:=λY H Q=>ta Y H λx H1=>tb Y H1 λy H2=>r x y H2 Q
def tUn(r:V->Hp->VK->Prop)(ta:TE):TE:=λY H Q=>ta Y H λx H1=>r x H1 Q
inductive IrI(C:Int->Int->Prop)(g:Int->Int->V)(x:V)(y:V)(H:Hp)(Q:VK):Prop
 |mk (i:_) (j:_) (zu:x=.int i) (zv:y=.int j) (An:C i j) (CD:Q (g i j) H):IrI C g x y H Q
def rI(C:Int->Int->Prop)(g:Int->Int->V):R2:=IrI C g
inductive wE(g:Int->Int->V)(x:V)(y:V)(H:Hp)(Q:VK):Prop
 |mk (i:_) (j:_) (zu:x=.int i) (zv:y=.int j) (An:Q (g i j) H):wE g x y H Q
def rI0(g:Int->Int->V):R2:=wE g
inductive IrU(g:Int->V)(x:V)(H:Hp)(Q:VK):Prop
 |mk (i:_) (zu:x=.int i) (zv:Q (g i) H):IrU g x H Q
def rU(g:Int->V):V->Hp->VK->Prop:=IrU g
section
variable{X:Cx}{a b c:TN}{ta tb tc:TE}
theorem vk(ha:PE X a ta)(hb:PE X b tb){R:V->V->Hp->Prop}(I:Inv X Z Y H s)
 (h:ta Y H λx H1=>tb Y H1 λy H2=>R x y H2) {f:Sq->Sq->Sem Sq}
 (hf:∀v u s2 x y H2,Inv X Z Y H2 s2->RelV x v->RelV y u->R x y H2->SV (S7 X.prog X.w) X.A (f v u) Q X.xe s2) :
 SV (S7 X.prog X.w) X.A (UZ a X.env) (λv xT=>SV (S7 X.prog X.w) X.A (UZ b X.env) (λu y2=>SV (S7 X.prog X.w) X.A (f v u) Q X.xe y2) X.xe xT) X.xe s:=by
 refine thn (ha Z s Y H _ I h) λv s1⟨x,H1,I1,r1,q1⟩=>?_;refine thn (hb Z s1 Y H1 _ I1 q1) λu s2⟨y,H2,I2,r2,q2⟩=>?_;exact hf v u s2 x y H2 I2 r1 r2 q2
theorem ap{op:Operator}{r:R2}(ho:OpR X (Vt op) r)(ha:PE X a ta)(hb:PE X b tb):PE X (.BinOp a op b pos) (tOp r ta tb):=by
 intro Z s Y H Q I h;exact wpAny_BinOp (vk ha hb I h λv u s2 x y H2 I2 rx ry q=>ho Z s2 Y H2 x y v u Q I2 rx ry q)
theorem v8{op:UnaryOp}{r:V->Hp->VK->Prop}(ho:UnR X (unaryOp op) r)(ha:PE X a ta):PE X (.UnaryOp op a pos) (tUn r ta):=by
 intro Z s Y H Q I h;exact UnaryOp_ (thn (ha Z s Y H _ I h) λv s1⟨x,H1,I1,r1,q1⟩=>ho Z s1 Y H1 x v Q I1 r1 q1)
theorem opI{f:Sq->Sq->Sem Sq}{C:Int->Int->Prop}{g:Int->Int->Int}
 (rule:∀(i j:Int)(t u:Tok)(s:Sr)(Q:Sq->Sr->Prop)(E:Sq->Sr->Prop),C i j->Q (.int (g i j) s.toks) {s with toks:=s.toks+1}->SV (S7 X.prog X.w) X.A (f (.int i t) (.int j u)) Q E s) :
 OpR X f (rI C λi j=>.int (g i j)):=by
 intro Z s Y H x y v u Q I rx ry h;obtain⟨i,j,rfl,rfl,hc,q⟩:=h;obtain⟨t,rfl⟩:=rx;obtain⟨t',rfl⟩:=ry;exact rule i j t t' s _ _ hc ⟨.int (g i j),H,I.tok _,⟨_,rfl⟩,q⟩
theorem wO{f:Sq->Sq->Sem Sq}{g:Int->Int->Int}
 (rule:∀(i j:Int)(t u:Tok)(s:Sr)(Q:Sq->Sr->Prop)(E:Sq->Sr->Prop),Q (.int (g i j) s.toks) {s with toks:=s.toks+1}->SV (S7 X.prog X.w) X.A (f (.int i t) (.int j u)) Q E s) :
 OpR X f (rI0 λi j=>.int (g i j)):=by
 intro Z s Y H x y v u Q I rx ry h;obtain⟨i,j,rfl,rfl,q⟩:=h;obtain⟨t,rfl⟩:=rx;obtain⟨t',rfl⟩:=ry;exact rule i j t t' s _ _ ⟨.int (g i j),H,I.tok _,⟨_,rfl⟩,q⟩
theorem ui{f:Sq->Sq->Sem Sq}{g:Int->Int->Bool}
 (rule:∀(i j:Int)(t u:Tok)(s:Sr)(Q:Sq->Sr->Prop)(E:Sq->Sr->Prop),Q (.bool (g i j)) s->SV (S7 X.prog X.w) X.A (f (.int i t) (.int j u)) Q E s) :
 OpR X f (rI0 λi j=>.bl (g i j)):=by
 intro Z s Y H x y v u Q I rx ry h;obtain⟨i,j,rfl,rfl,q⟩:=h;obtain⟨t,rfl⟩:=rx;obtain⟨t',rfl⟩:=ry;exact rule i j t t' s _ _ ⟨.bl (g i j),H,I,rfl,q⟩
def xF(i j:Int):Prop:=0<j/\j<1073741824
def CMul(i j:Int):Prop:=(-(2 ^ 64)<i/\i<2 ^ 64)\/(-(2 ^ 64)<j/\j<2 ^ 64)
theorem CMul.ok{i j:Int}(h:CMul i j):IntMulOk i j:=by
 rcases h with⟨h1,h2⟩|⟨h1,h2⟩
 .exact .of_left (intBits_le_64 h1 h2)
 .exact .of_right (intBits_le_64 h1 h2)
theorem bA:OpR X (Vt .Add) (rI0 λi j=>.int (i+j)):=wO λ_ _ _ _ _ _ _ q=>add_int q
theorem gG:OpR X (Vt .Sub) (rI0 λi j=>.int (i - j)):=wO λ_ _ _ _ _ _ _ q=>sub_int q
theorem eI:OpR X (Vt .Mult) (rI CMul λi j=>.int (i * j)):=opI λ_ _ _ _ _ _ _ hc q=>mul_int q hc.ok
theorem b9:OpR X (Vt .FloorDiv) (rI xF λi j=>.int (i / j)):=opI λi j _ _ _ _ _ hc q=>by
 have h1:(0:Int)<j:=hc.1;have h2:j<1073741824:=hc.2;exact floordiv_int (by lia) (by rw[Int.fdiv_eq_ediv_of_nonneg i (by lia)];exact q) (.inl (PyProof.noPylong_small (by lia)))
theorem bB:OpR X (Vt .Mod) (rI (λ_ j=>0<j) λi j=>.int (i%j)):=opI λi j _ _ _ _ _ hc q=>by
 have h1:(0:Int)<j:=hc;exact mod_int' (by lia) (by rw[Int.fmod_eq_emod_of_nonneg i (by lia)];exact q)
theorem unI{f:Sq->Sem Sq}{g:Int->Int}
 (rule:∀(i:Int)(t:Tok)(s:Sr)(Q:Sq->Sr->Prop)(E:Sq->Sr->Prop),Q (.int (g i) s.toks) {s with toks:=s.toks+1}->SV (S7 X.prog X.w) X.A (f (.int i t)) Q E s) :
 UnR X f (rU λi=>.int (g i)):=by
 intro Z s Y H x v Q I rx h;obtain⟨i,rfl,q⟩:=h;obtain⟨t,rfl⟩:=rx;exact rule i t s _ _ ⟨.int (g i),H,I.tok _,⟨_,rfl⟩,q⟩
theorem vz:UnR X (unaryOp .USub) (rU λi=>.int (-i)):=unI λ_ _ _ _ _ q=>neg_int q
end
def vY:V->V->Bool
 |.non,.non=>B?|.non,.int _=>B?|.int _,.non=>B?|.non,.bl _=>B?|.bl _,.non=>B?|.non,.str _=>B?|.str _,.non=>B?
 |.int _,.int _=>B?|.bl _,.bl _=>B?|.str _,.str _=>B?|.byt _,.byt _=>B?
 |.int _,.str _=>B?|.str _,.int _=>B?|.bl _,.str _=>B?|.str _,.bl _=>B?
 |_,_=>C?
inductive wj(x:V)(y:V)(H:Hp)(Q:VK):Prop
 |mk  (zu:vY x y=B?) (zv:Q (.bl (decide (x=y))) H):wj  x y H Q
def rEq:R2:=wj
inductive wx(x:V)(y:V)(H:Hp)(Q:VK):Prop
 |mk  (zu:vY x y=B?) (zv:Q (.bl (!decide (x=y))) H):wx  x y H Q
def rNe:R2:=wx
theorem pL{i j:Int}:decide (Yh i=Yh j)=(i == j):=by
 rw[W4];simp
theorem se{i j:Bool}:decide (V.bl i=V.bl j)=(i == j):=by
 rw[W4];simp
theorem pI{i j:SG}:decide (Yp i=Yp j)=(i == j):=by
 rw[W4];simp
theorem pF{i j:Array UInt8}:decide (V.byt i=V.byt j)=(i.toList == j.toList):=by
 rw[W4];cases i;cases j;simp
section
variable{X:Cx}{a b c:TN}{ta tb tc:TE}
theorem aV{Q:VK}{k k':Bool}(I:Inv X Z Y H s)(q:Q (.bl k) H)(e:k=k'):EP X Z Y Q (.bool k') s:=by
 subst e;exact⟨.bl k,H,I,D?,q⟩
theorem fG:OpR X (V0 .Eq) rEq:=by
 intro Z s Y H x y v u Q I rx ry h;obtain⟨hs,q⟩:=h;cases x with
 | non =>
   cases rx;cases y with
   |non=>cases ry;exact PySem.EqNone.eq_none_none (aV I q (by simp))
   |bl j=>cases ry;exact PySem.EqNone.eq_none_bool (aV I q (by simp))
   |int j=>obtain⟨t',rfl⟩:=ry;exact PySem.EqNone.eq_none_int (aV I q (by simp))
   |str j=>obtain⟨t',rfl⟩:=ry;exact PySem.EqNone.eq_none_str (aV I q (by simp))
   |_=>exact Yd (show C?=B? from hs) SW
 | bl i =>
   cases rx;cases y with
   |non=>cases ry;exact PySem.EqNone.eq_bool_none (aV I q (by simp))
   |bl j=>cases ry;exact eq_bool (aV I q se)
   |str j=>obtain⟨t',rfl⟩:=ry;exact PySem.EqMixed.eq_bool_str (aV I q (by simp))
   |_=>exact Yd (show C?=B? from hs) SW
 | int i =>
   obtain⟨t,rfl⟩:=rx;cases y with
   |non=>cases ry;exact PySem.EqNone.eq_int_none (aV I q (by simp))
   |int j=>obtain⟨t',rfl⟩:=ry;exact eq_int (aV I q pL)
   |str j=>obtain⟨t',rfl⟩:=ry;exact PySem.EqMixed.eq_int_str (aV I q (by simp))
   |_=>exact Yd (show C?=B? from hs) SW
 | str i =>
   obtain⟨t,rfl⟩:=rx;cases y with
   |non=>cases ry;exact PySem.EqNone.eq_str_none (aV I q (by simp))
   |bl j=>cases ry;exact PySem.EqMixed.eq_str_bool (aV I q (by simp))
   |int j=>obtain⟨t',rfl⟩:=ry;exact PySem.EqMixed.eq_str_int (aV I q (by simp))
   |str j=>obtain⟨t',rfl⟩:=ry;exact eq_str (aV I q pI)
   |_=>exact Yd (show C?=B? from hs) SW
 | byt i =>
   obtain⟨t,rfl⟩:=rx;cases y with
   |byt j=>obtain⟨t',rfl⟩:=ry;exact PySem.W.eq_bytes (aV I q pF)
   |_=>exact Yd (show C?=B? from hs) SW
 |_=>cases y <;> exact Yd (show C?=B? from hs) SW
theorem wB:OpR X (V0 .NotEq) rNe:=by
 intro Z s Y H x y v u Q I rx ry h;obtain⟨hs,q⟩:=h;cases x with
 | non =>
   cases rx;cases y with
   |non=>cases ry;exact PySem.EqNone.ne_none_none (aV I q (by simp))
   |bl j=>cases ry;exact PySem.EqNone.ne_none_bool (aV I q (by simp))
   |int j=>obtain⟨t',rfl⟩:=ry;exact PySem.EqNone.ne_none_int (aV I q (by simp))
   |str j=>obtain⟨t',rfl⟩:=ry;exact PySem.EqNone.ne_none_str (aV I q (by simp))
   |_=>exact Yd (show C?=B? from hs) SW
 | bl i =>
   cases rx;cases y with
   |non=>cases ry;exact PySem.EqNone.ne_bool_none (aV I q (by simp))
   |bl j=>cases ry;exact ne_bool (aV I q (Zd not se))
   |str j=>obtain⟨t',rfl⟩:=ry;exact PySem.EqMixed.ne_bool_str (aV I q (by simp))
   |_=>exact Yd (show C?=B? from hs) SW
 | int i =>
   obtain⟨t,rfl⟩:=rx;cases y with
   |non=>cases ry;exact PySem.EqNone.ne_int_none (aV I q (by simp))
   |int j=>obtain⟨t',rfl⟩:=ry;exact ne_int (aV I q (Zd not pL))
   |str j=>obtain⟨t',rfl⟩:=ry;exact PySem.EqMixed.ne_int_str (aV I q (by simp))
   |_=>exact Yd (show C?=B? from hs) SW
 | str i =>
   obtain⟨t,rfl⟩:=rx;cases y with
   |non=>cases ry;exact PySem.EqNone.ne_str_none (aV I q (by simp))
   |bl j=>cases ry;exact PySem.EqMixed.ne_str_bool (aV I q (by simp))
   |int j=>obtain⟨t',rfl⟩:=ry;exact PySem.EqMixed.ne_str_int (aV I q (by simp))
   |str j=>obtain⟨t',rfl⟩:=ry;exact ne_str (aV I q (Zd not pI))
   |_=>exact Yd (show C?=B? from hs) SW
 | byt i =>
   obtain⟨t,rfl⟩:=rx;cases y with
   |byt j=>obtain⟨t',rfl⟩:=ry;exact PySem.W.ne_bytes (aV I q (Zd not pF))
   |_=>exact Yd (show C?=B? from hs) SW
 |_=>cases y <;> exact Yd (show C?=B? from hs) SW
theorem ql:OpR X (V0 .Lt) (rI0 λi j=>.bl (decide (i<j))):=ui λ_ _ _ _ _ _ _ q=>lt_int q
theorem tq:OpR X (V0 .LtE) (rI0 λi j=>.bl (decide (i<=j))):=ui λ_ _ _ _ _ _ _ q=>le_int q
theorem cW:OpR X (V0 .Gt) (rI0 λi j=>.bl (decide (j<i))):=ui λ_ _ _ _ _ _ _ q=>gt_int q
theorem wq:OpR X (V0 .GtE) (rI0 λi j=>.bl (decide (j<=i))):=ui λ_ _ _ _ _ _ _ q=>ge_int q
theorem rE:OpR X (V0 .Is) (λx y H Q=>y=.non/\Q (.bl (decide (x=.non))) H):=by
 intro Z s Y H x y v u Q I rx ry h;obtain⟨rfl,q⟩:=h;cases ry;refine is_none_gen (aV I q ?_)
 cases x <;> first
  |(cases rx;rfl)
  |(obtain⟨t,rfl⟩:=rx;rfl)
theorem aI(b:TN)(h:op≠.In:=by decide)(h2:op≠.NotIn:=by decide):behindInMarks op b=false:=by
 have e1:(op == CmpOp.In)=false:=by cases op <;> first|rfl|exact Yd rfl h
 have e2:(op == CmpOp.NotIn)=false:=by cases op <;> first|rfl|exact Yd rfl h2
 cases b <;> simp[behindInMarks,e1,e2]
theorem d5{r:R2}(ho:OpR X (V0 op) r)(ha:PE X a ta)(hb:PE X b tb)(hm:behindInMarks op b=C?):PE X (.Compare a [op] [b] pos) (tOp r ta tb):=by
 intro Z s Y H Q I h;exact wpAny_Compare1 (vk ha hb I h λv u s2 x y H2 I2 rx ry q=>ho Z s2 Y H2 x y v u Q I2 rx ry q) hm
inductive uN(x:V)(Q:Bool->Hp->Prop)(H':Hp):Prop
 |mk (k:Bool) (zu:x=.bl k) (zv:Q k H'):uN x Q H'
def nM(t:TE):TT:=λY H Q=>t Y H λx H'=>uN x Q H'
theorem aF{r:R2}(ho:OpR X (V0 op) r)(ha:PE X a ta)(hb:PE X b tb)(hm:behindInMarks op b=C?):PT X (.Compare a [op] [b] pos) (nM (tOp r ta tb)):=by
 intro Z s Y H Q I h
 refine wpAny_isTrue_Compare1 (thn (ha Z s Y H _ I h) λv s1⟨x,H1,I1,r1,q1⟩=>thn (hb Z s1 Y H1 _ I1 q1) λu s2⟨y,H2,I2,r2,q2⟩ =>
  thn (ho Z s2 Y H2 x y v u _ I2 r1 r2 q2) λc s3⟨z,H3,I3,r3,k,e,q3⟩=>?_) hm
 subst e;cases r3;exact wpAny_truthy_bool ⟨H3,I3,q3⟩
def vG(K:Ss)(x:V)(H:Hp)(k:Bool):Prop :=
 match x with
 |.non=>k=C?
 |.bl b=>k=b
 |.int i=>k=(i != 0)
 |.str y=>y.length<=SM/\k=((y.length:Int) != 0)
 |.byt y=>y.size<=SM/\k=((y.size:Int) != 0)
 |.ref p=>(∃xs,SqL K H p xs/\k=!xs.isEmpty)\/(∃xs,SqT K H p xs/\k=!xs.isEmpty)\/∃xP,H p=A? (.dK xP)/\k=!xP.isEmpty
 |_=>False
theorem oG{κ:Type}{xP:List (κ×V)}{vs:List (κ×Sq)}(r:KV xP vs):(!vs.isEmpty)=!xP.isEmpty:=by
 cases r <;> rfl
theorem ky(r:Vals xs its):(!its.toArray.isEmpty)=!xs.isEmpty:=by
 cases r <;> simp
theorem fv:(SM:Nat)<2 ^ 63:=by rw[Vn];decide
theorem vB:xJ X (λx H Q=>∃k,vG X.K x H k/\Q k H):=by
 intro Z s Y H x v Q I rx h;obtain⟨k,e,q⟩:=h;have hl:=fv;have hs:SM=16777216:=Vn;cases x with
 | non =>
   cases rx;have e':k=false:=e;subst e';exact truthy_none ⟨H,I,q⟩
 | bl b =>
   cases rx;have e':k=b:=e;subst e';exact wpAny_truthy_bool ⟨H,I,q⟩
 | int i =>
   obtain⟨t,rfl⟩:=rx;have e':k=(i != 0):=e;subst e';exact PySem.P.truthy_int ⟨H,I,q⟩
 | str y =>
   obtain⟨t,rfl⟩:=rx;obtain⟨hy,e'⟩:y.length<=SM/\k=((y.length:Int) != 0):=e;subst e';exact PySem.P.truthy_str (by lia) ⟨H,I.tok _,q⟩
 | byt y =>
   obtain⟨t,rfl⟩:=rx;obtain⟨hy,e'⟩:y.size<=SM/\k=((y.size:Int) != 0):=e;subst e';exact PySem.W.truthy_bytes (by lia) ⟨H,I.tok _,q⟩
 | ref p =>
   cases rx;have e':(∃xs,SqL X.K H p xs/\k=!xs.isEmpty)\/(∃xs,SqT X.K H p xs/\k=!xs.isEmpty)\/∃xP,H p=A? (.dK xP)/\k=!xP.isEmpty:=e;rcases e' with⟨xs,hx,e'⟩|⟨xs,hx,e'⟩|⟨xP,hx,e'⟩
   .subst e';obtain⟨its,r,pl,hz⟩:=I.list hx;have hlen:=r.length;exact wpAny_truthy_list pl.isList (by simp only[SF];lia) ⟨H,I.tok _,by rw[ky r];exact q⟩
   .subst e';obtain⟨its,r,pl,hz⟩:=I.tuple hx;have hlen:=r.length;exact truthy_tuple pl (by simp only[SF];lia) ⟨H,I.tok _,by rw[ky r];exact q⟩
   .subst e';obtain⟨hz,hS,vs,r,m⟩:xP.length<=SM/\(p == Uh)=C?/\∃vs,KV xP vs/\s.1.DictOf (ax X.prog X.w) p vs:=I.hok p _ hx;have hlen:xP.length=vs.length:=SJ r;exact wpAny_truthy_dict hS m (by lia) ⟨H,I.tok _,by rw[oG r];exact q⟩
 |_=>exact(show False from e).elim
theorem bV(ha:PE X a ta)(he:∀whole,isTrue a X.env whole=(do let v <-whole;standAt a.pos;holding [v] (truthy v))) :
 PT X a (λY H Q=>ta Y H λx H'=>∃k,vG X.K x H' k/\Q k H'):=by
 intro Z s Y H Q I h;exact isTrue_plain (thn (ha Z s Y H _ I h) λv s1⟨x,H1,I1,r1,q1⟩=>vB Z s1 Y H1 x v Q I1 r1 q1) (he _)
theorem gH:OpR X (Vt .Add) (λx y H Q=>∃i j,x=.str i/\y=.str j/\i.length+j.length<=SM/\Q (.str (i++j)) H):=by
 intro Z s Y H x y v u Q I rx ry h;obtain⟨i,j,rfl,rfl,hz,q⟩:=h;obtain⟨t,rfl⟩:=rx;obtain⟨t',rfl⟩:=ry;exact add_str (λt' tk=>⟨.str (i++j),H,I.tok _,⟨_,rfl⟩,q⟩) hz
theorem vals1{x:V}(r:Vals [x] us):∃u,us=[u]/\RelV x u:=by
 cases r with
 |cons r1 r2=>cases r2;exact⟨_,D?,r1⟩
theorem vals2{x:V}(r:Vals [x,y] us):∃u w',us=[u,w']/\RelV x u/\RelV y w':=by
 cases r with
 | cons r1 r2 =>
   cases r2 with
   |cons r3 r4=>cases r4;exact⟨_,_,D?,r1,r3⟩
theorem lI(hc:X.calm=B?):eK X (.builtin "max") (λxs H Q=>∃i j,xs=[.int i,.int j]/\Q (.int (if j > i then j else i)) H):=by
 intro Z s Y H xs us Q I r h;obtain⟨i,j,rfl,q⟩:=h;obtain⟨u,w',rfl,⟨t,rfl⟩,⟨t',rfl⟩⟩:=vals2 r;refine max_two_ints (I.ok.hd hc) λh' tk k=>⟨_,H,I.kept k,?_,q⟩;by_cases hj:j > i
 .rw[Yb hj,Yb hj];exact⟨_,D?⟩
 .rw[Za hj,Za hj];exact⟨_,D?⟩
theorem iT:eK X (.type "int") (λxs H Q=>(∃i,xs=[.int i]/\Q (.int i) H)\/∃k,xs=[.bl k]/\Q (.int (if k then 1 else 0)) H):=by
 intro Z s Y H xs us Q I r h;rcases h with⟨i,rfl,q⟩|⟨k,rfl,q⟩
 .obtain⟨u,rfl,t,rfl⟩:=vals1 r;exact call_int_int ⟨.int i,H,I,⟨_,rfl⟩,q⟩
 .obtain⟨u,rfl,r1⟩:=vals1 r;cases r1;exact call_int_bool ⟨.int (if k then 1 else 0),H,I.tok _,⟨_,rfl⟩,q⟩
end
structure ObjM(h:TL)(x dx C:So)(mA:SG->Option Sq):Prop where
 obj:h.get? x=A? (UX C dx)
 ns:h.Ns1 dx mA
 ne:dx≠x
theorem qt{dx:So}{mA:SG->Option Sq}(n:h.Ns1 dx mA):∃od,h.get? dx=A? od/\∀name,Xf name od=A? (mA name):=by
 obtain⟨o,es,ep,ho,hd,hk,_,hm⟩:=n;refine⟨o,ho,λname=>?_⟩;have e:=hm name;unfold nsFind findBy at e;rw[<-Array.find?_toList]at e;unfold Xf;rw[hd];dsimp only;split
 .rename_i y q
  rw[q]at e;exact Zd A? e
 .rename_i q
  rw[q]at e
  have a:es.toList.any (·.refKey)=false:=by
   rw[List.any_eq_false];intro y hy;obtain⟨z,t,AW⟩:=hk y (Array.mem_toList_iff.mp hy);simp[DictEntry.refKey,AW]
  have a':¬es.toList.any (·.refKey)=true:=by rw[a];exact SW
  rw[Za a'];exact Zd A? e
theorem ObjM.look{x dx C:So}{mA:SG->Option Sq}(I:ObjM h x dx C mA):∃od,PySem.W.InstAt h x (UX C dx) C (A? od)/\∀name,Xf name od=A? (mA name) :=
 let⟨od,ho,hl⟩:=qt I.ns
 ⟨od,⟨I.obj,rfl,rfl,ho⟩,hl⟩
section
variable{w:S0}{x dx C:So}{mA:SG->Option Sq}{v:Sq}
theorem get_map{expr:Bool}(X:K.In s.1)(I:ObjM s.1 x dx C mA)(hg:WJ K C name=B?)(hh:XG K C=B?)
 (ha:TY K (.ref C) name=A? Am) (hv:mA name=A? v) (AN:PySem.W.handedIn v=B?) (h:Q v {s with toks:=s.toks+1}) :
 SV (S7 prog w) A (getAttr (.ref x) name expr) Q E s:=by
 obtain⟨od,J,hl⟩:=I.look;exact PySem.W.get_value X J (Xp hg).1 (PySem.W.findObj_own hh ha rfl (by rw[hl,hv])) AN h
theorem rC{Q:Sq×List Sq->Sr->Prop}(X:K.In s.1)(I:ObjM s.1 x dx C mA)(hg:WJ K C name=B?)
 (hf:TY K (.ref C) name=A? (A? (.ref f))) (ht:PySem.W.isFn K (.ref f)=B?) (hv:mA name=Am) (h:Q (.ref f,[.ref x]) s) :
 SV (S7 prog w) A (getMethod (.ref x) name pl) Q E s:=by
 obtain⟨od,J,hl⟩:=I.look;exact PySem.W.method_fn X J (Xp hg).1 (Xp hg).2 hf (beq_iff_eq.mp ht) (by show(Xf name od).map (·.isSome)=A? C?;rw[hl,hv];rfl) h
theorem ul{ns:List SG}{Q:Unit->Sr->Prop}(X:K.In s.1)(I:ObjM s.1 x dx C mA)
 (hs:TY K (.ref C) "__setattr__"=A? (A? (.builtin "object.__setattr__"))) (hp:PySem.W.plainOver K C=B?) (ht:PySem.W.takerIn K C name=A? Am) (hh:XG K C=B?)
 (hw:PySem.Within mA ns) (hsz:ns.length<=SM)
 (h:∀h',ObjM h' x dx C (λy=>if y=name then A? v else mA y)->Um dx s.1 h'->Q () {s with heap:=h',toks:=s.toks+2}) :
 SV (S7 prog w) A (setAttr (.ref x) name v) Q E s:=by
 obtain⟨od,J,hl⟩:=I.look;refine PySem.W.set_plain X J hs (PySem.W.osa_open (s:={s with toks:=s.toks+1}) (r:=Am) X J hp ht λb=>?_);obtain⟨cd,hc,Ag⟩:=PySem.W.any_some hh;have hx:s.1.get? x=A? ⟨.ref C,A? dx,.plain,#[]⟩:=I.obj;refine Sm (Sw (Sm (Sm (wpAny_loadPart hx (Sm (PySem.W.Looks.here (s:={s with toks:=s.toks+1}) (PySem.W.looks_clsIn X hc) ?_))))));rw[Ag];refine Sw (a:=A? dx) (Sm (Sw (Sm ?_)));refine wpAny_nsSet1 (s:={s with toks:=s.toks+1}) I.ns λh' FR DG=>?_;obtain⟨oD,Ry,Rz,O1,O2,O3⟩:=FR.count (PySem.Within.cons name v hw);refine Sm (wpAny_lookBehind O1 (by rw[O2];exact pastItsLine_dict (Td O3 (by rw[SQ];lia))) ?_);exact Sw (h _ ⟨(DG.2 _ (UA I.ne)).trans I.obj,FR,I.ne⟩ DG)
theorem rN{R:Result->Sr->Prop}{vs:List Sq}(X:K.In s.1)(hm:PySem.W.makesIn K C=B?)
 (hi:TY K (.ref C) "__init__"=A? (A? (.ref f))) (hf:PySem.W.typeIn K (.ref f)=A? (.type "function"))
 (h:VA (S7 prog w) (A.under (.builtin "type.__call__" ⟨.ref C::vs,kw⟩)) (.call (.ref f) ⟨.ref (s.1.1.size+1)::vs,kw⟩) (PySem.W.InitBack (s.1.1.size+1) R)
  {s with heap:=(s.1.push Uq).push (UX C s.1.1.size)}) :
 VA (S7 prog w) A (.call (.ref C) ⟨vs,kw⟩) R s:=by
 obtain⟨hh,g,d,t,os⟩:=s;exact PySem.W.make_core (PySem.W.makes_of X hm) (PySem.W.looks_findIn X hi) (λself=>PySem.W.bind_fn X self hf) (.inl rfl) h
end
def dC(f:SG)(v:V):List (SG×V)->List (SG×V)
 | []=>[(f,v)]
 |(g,x)::r=>if g=f then(g,v)::r else(g,x)::dC f v r
theorem jm(f g:SG)(v:V):∀fs:List (SG×V),(dC f v fs).lookup g=if g=f then A? v else fs.lookup g
 | []=>by
   show U4 g [(f,v)]=_;by_cases h:g=f
   .have hb:(g == f)=true:=beq_iff_eq.mpr h;simp only[U4,hb,Yb h]
   .have hb:(g == f)=false:=beq_eq_false_iff_ne.mpr h;simp only[U4,hb,Za h]
 | (k,x)::r=>by
   have ih:=jm f g v r;rw[show dC f v ((k,x)::r)=(if k=f then(k,v)::r else(k,x)::dC f v r)from rfl];by_cases hk:k=f
   .rw[Yb hk];by_cases h:g=k
    .have hb:(g == k)=true:=beq_iff_eq.mpr h;simp only[U4,hb,Yb (h.trans hk)]
    .have hb:(g == k)=false:=beq_eq_false_iff_ne.mpr h;simp only[U4,hb,Za (λe:g=f=>h (e.trans hk.symm))]
   .rw[Za hk];by_cases h:g=k
    .have hb:(g == k)=true:=beq_iff_eq.mpr h;simp only[U4,hb,Za (λe:g=f=>hk (h.symm.trans e))]
    .have hb:(g == k)=false:=beq_eq_false_iff_ne.mpr h;simp only[U4,hb];exact ih
theorem iZ(f:SG)(v:V):∀fs:List (SG×V),f∈(dC f v fs).map (·.1)/\∀g,g∈fs.map (·.1)->g∈(dC f v fs).map (·.1)
 | []=>⟨by simp[dC],λg h=>by simp at h⟩
 | (k,x)::r=>by
   obtain⟨i1,i2⟩:=iZ f v r;rw[show dC f v ((k,x)::r)=(if k=f then(k,v)::r else(k,x)::dC f v r)from rfl];by_cases hk:k=f
   .rw[Yb hk];subst hk;exact⟨by simp,λg h=>by simpa using h⟩
   .rw[Za hk];refine⟨?_,λg h=>?_⟩
    .rw[Tb];exact SN _ i1
    .rw[Tb]at h |-;rcases SR.mp h with e|e
     .exact SR.mpr (.inl e)
     .exact SN _ (i2 g e)
theorem jv(f:SG)(v:V):∀fs:List (SG×V),(dC f v fs).length<=fs.length+1
 | []=>by simp[dC]
 | (k,x)::r=>by
   have ih:=jv f v r;rw[show dC f v ((k,x)::r)=(if k=f then(k,v)::r else(k,x)::dC f v r)from rfl];by_cases hk:k=f
   .rw[Yb hk,SQ,SQ];lia
   .rw[Za hk,SQ,SQ];lia
theorem RelO.some_of{o:Option Sq}(r:RelO (A? v) o):∃u,o=A? u/\RelV v u:=by
 cases o with
 |none=>exact(show False from r).elim
 |some u=>exact⟨u,D?,r⟩
theorem RelO.none_of{o:Option Sq}(r:RelO Am o):o=none:=by
 cases o with
 |none=>rfl
 |some u=>exact(show False from r).elim
theorem qM(r:RelV v u):PySem.W.handedIn u=true:=by
 cases v with
 |non=>cases(show u=Ud from r);rfl
 |bl b=>cases(show u=Value.bool b from r);rfl
 |int i=>obtain⟨t,e⟩:=(show∃t,u=Value.int i t from r);cases e;rfl
 |str x=>obtain⟨t,e⟩:=(show∃t,u=Value.str x t from r);cases e;rfl
 |byt b=>obtain⟨t,e⟩:=(show∃t,u=Value.bytes b t from r);cases e;rfl
 |flt b=>obtain⟨t,e⟩:=(show∃t,u=Value.float b t from r);cases e;rfl
 |ref a=>cases(show u=TF a from r);rfl
 |ty n=>cases(show u=Xo n from r);rfl
section
variable{w:S0}{C dx:So}{fs FQ:List (SG×V)}
theorem mR(hok:HOk P w H h)(e:H a=A? (.ins C dx fs)):∃mA,ObjM h a dx C mA/\(∀f,RelO (fs.lookup f) (mA f))/\PySem.Within mA (fs.map (·.1))/\fs.length<=1000/\H dx=A? (.own a):=by
 obtain⟨d,z,ne,ob,mA,n,r,q⟩:=(show ObjOk P w H h a (.ins C dx fs)from hok a _ e);exact⟨mA,⟨ob,n,ne⟩,r,q,z,d⟩
end
structure Cls(K:Ss)(C:So):Prop where
 pg:WJ K C Str.empty=B?
 hd:XG K C=B?
 po:PySem.W.plainOver K C=B?
 sa:TY K (.ref C) "__setattr__"=A? (A? (.builtin "object.__setattr__"))
theorem Cls.get{C:So}(c:Cls K C)(f:SG):WJ K C f=true:=c.pg
def NoAttr(K:Ss)(C:So)(f:SG):Prop:=TY K (.ref C) f=A? Am
theorem NoAttr.taker{C:So}{f:SG}(n:NoAttr K C f):PySem.W.takerIn K C f=A? none:=by
 unfold PySem.W.takerIn;rw[show TY K (.ref C) f=A? Am from n];rfl
structure Meth(K:Ss)(C:So)(m:SG)(f:So):Prop where
 at_:TY K (.ref C) m=A? (A? (.ref f))
 fn:PySem.W.isFn K (.ref f)=B?
 kp:UQ K (.ref f)=B?
section
variable{X:Cx}{C dx:So}{fs:List (SG×V)}{f:SG}
theorem kM{b:Bool}(I:Inv X Z Y H s)(e:H a=A? (.ins C dx fs))(c:Cls X.K C)(n:NoAttr X.K C f)(l:fs.lookup f=A? v)
 (h:∀u s',Inv X Z Y H s'->RelV v u->Q u s'):SV (S7 X.prog X.w) A (getAttr (.ref a) f b) Q E s:=by
 obtain⟨mA,O,r,_,_,_⟩:=mR I.hok e;obtain⟨u,hu,ru⟩:=RelO.some_of (v:=v) (o:=mA f) (by rw[<-l];exact r f);exact get_map I.kIn O (c.get f) c.hd n hu (qM ru) (h u _ (I.tok _) ru)
theorem oH{m:SG}{g:So}{Q:Sq×List Sq->Sr->Prop}(I:Inv X Z Y H s)(e:H a=A? (.ins C dx fs))(c:Cls X.K C)(k:Meth X.K C m g)(l:fs.lookup m=Am)
 (h:Q (.ref g,[.ref a]) s):SV (S7 X.prog X.w) A (getMethod (.ref a) m pl) Q E s:=by
 obtain⟨mA,O,r,_,_,_⟩:=mR I.hok e;have hn:mA m=none:=RelO.none_of (by rw[<-l];exact r m);exact rC I.kIn O (c.get m) k.at_ k.fn hn h
theorem kT{Q:Unit->Sr->Prop}(I:Inv X Z Y H s)(e:H a=A? (.ins C dx fs))(c:Cls X.K C)(n:NoAttr X.K C f)(hl:fs.length<1000)(ry:RelV y u)
 (h:∀s',Inv X Z Y (upd H a (.ins C dx (dC f y fs))) s'->Q () s'):SV (S7 X.prog X.w) A (setAttr (.ref a) f u) Q E s:=by
 obtain⟨mA,O,r,wi,_,ho⟩:=mR I.hok e;have hz:(fs.map (·.1)).length<=SM:=by rw[Sl,Vn];lia
 refine ul I.kIn O c.sa c.po n.taker c.hd wi hz λh' O' sb=>h _ ?_;have hd:∃o,h'.get? dx=A? o:=let⟨o,_,_,e',_⟩:=O'.ns;⟨o,e'⟩
 refine I.write (x:=a) (e:=dx) (by rw[e];exact Vu) (.inr ho) (λb q hb z=>(sb.2 b hb).trans z) hd ?_;refine⟨by rw[aj O.ne];exact ho,?_,O.ne,O'.obj,_,O'.ns,λg=>?_,λg hg=>?_⟩
 .have:=jv f y fs;lia
 .show RelO ((dC f y fs).lookup g) (if g=f then A? u else mA g);rw[jm];by_cases q:g=f
  .rw[Yb q,Yb q];exact ry
  .rw[Za q,Za q];exact r g
 .by_cases q:g=f
  .rw[q];exact(iZ f y fs).1
  .refine(iZ f y fs).2 g (wi g λz=>hg ?_);show(if g=f then A? u else mA g)=Am;rw[Za q];exact z
theorem Inv.made(I:Inv X Z Y H s):Inv X Z Y (upd (upd H s.1.1.size (.own (s.1.1.size+1))) (s.1.1.size+1) (.ins C s.1.1.size []))
 {s with heap:=(s.1.push Uq).push (UX C s.1.1.size)}:=by
 have e1:(s.1.push Uq).get? s.1.1.size=A? Uq:=SO s.1 rfl
 have e2:((s.1.push Uq).push (UX C s.1.1.size)).get? (s.1.1.size+1)=A? (UX C s.1.1.size):=by
  have:=SO (s.1.push Uq) (o:=UX C s.1.1.size) rfl
  rwa [VF]at this
 have e3:(s.1.push Uq).Ns s.1.1.size (λ_=>Am):=⟨Uq,#[],_,e1,rfl,(λe he=>Yd he (by simp)),λ_=>rfl⟩;have I1:=I.laid (a:=s.1.1.size) (o:=.own (s.1.1.size+1)) (h':=s.1.push Uq) (t':=s.toks) (λb u q=>Sy _ q) (Su _) ⟨_,e1⟩;refine I1.laid (a:=s.1.1.size+1) (o:=.ins C s.1.1.size []) (t':=s.toks) (λb u q=>Sy _ q) (Nat.le_of_eq (VF _ _)) ?_;have ne:s.1.1.size≠s.1.1.size+1:=Ti (WN _);refine⟨by rw[aj ne,ad],Tn _,ne,e2,λ_=>Am,(Heap.Ns1.of_empty e3).at λo q=>Sy _ q,λ_=>Vu,λy hy=>Yd rfl hy⟩
theorem t9{w:S0}{f:SG}(hb:attributeBase e f env (UZ e env)=UZ e env)
 (h:SV (S7 prog w) A (UZ e env) (λo xT=>SV (S7 prog w) A (getAttr o f B?) Q E xT) E s):SV (S7 prog w) A (UZ (.Attribute e f pos) env) Q E s :=
 Attribute_any_ h (by rw[arm_eval_Attribute,hb])
end
def w6(K:Ss)(ta:TE)(f:SG):TE:=λY H Q=>ta Y H λx H1=>∃a C dx fs v,x=.ref a/\H1 a=A? (.ins C dx fs)/\Cls K C/\NoAttr K C f/\fs.lookup f=A? v/\Q v H1
def xE(K:Ss)(ta tv:TE)(f:SG):TS:=λD Y H=>tv Y H λy H1=>ta Y H1 λx H2=>∃a C dx fs,x=.ref a/\H2 a=A? (.ins C dx fs)/\Cls K C/\NoAttr K C f/\fs.length<1000 /\
 D.nx Y (upd H2 a (.ins C dx (dC f y fs)))
def wJ(X:Cx)(op:Operator)(rd:V->V->Hp->VK->Prop):Prop :=
 ∀(Z:List (So×UD))(s:Sr)(Y:St)(H:Hp)(x y:V)(u v:Sq)(Q:VK),Inv X Z Y H s->RelV x u->RelV y v->rd x y H Q->SV (S7 X.prog X.w) X.A (inplaceOp op u v) (EP X Z Y Q) X.xe s
def tZ(K:Ss)(ta tv:TE)(rd:V->V->Hp->VK->Prop)(f:SG):TS:=λD Y H=>ta Y H λx H1=>∃a C dx fs v,x=.ref a/\H1 a=A? (.ins C dx fs)/\Cls K C/\NoAttr K C f/\fs.lookup f=A? v /\
 tv Y H1 λy H2=>rd v y H2 λz H3=>∃J0 FQ,H3 a=A? (.ins C J0 FQ)/\FQ.length<1000/\D.nx Y (upd H3 a (.ins C J0 (dC f z FQ)))
section
variable{X:Cx}{o value:TN}{f:SG}{pos' GH:VX}{ta tv:TE}
theorem r8(he:PE X e ta)(hb:attributeBase e f X.env (UZ e X.env)=UZ e X.env):PE X (.Attribute e f pos) (w6 X.K ta f):=by
 intro Z s Y H Q I h;refine t9 hb (thn (he Z s Y H _ I h) λu s1⟨x,H1,I1,rx,a,C,dx,fs,v,ex,ea,c,n,l,q⟩=>?_);subst ex;obtain rfl:u=TF a:=rx;exact kM I1 ea c n l λu' s2 I2 ru=>⟨v,H1,I2,ru,q⟩
theorem tm(ha:PE X o ta)(hv:PE X value tv)(hs:Xc value (A? (.Attribute o f pos')) pos.line X.env=pure C?):PS X (.Assign [.Attribute o f pos'] value pos) (xE X.K ta tv f):=by
 intro Z s Y H D I h;refine plainObj_wpAny_Assign_Attribute (thn (hv Z s Y H _ I h) λu s1⟨y,H1,I1,ry,q⟩=>thn (ha Z s1 Y H1 _ I1 q) λov s2⟨x,H2,I2,rx,a,C,dx,fs,ex,ea,c,n,l,q2⟩=>?_) hs;subst ex;obtain rfl:ov=TF a:=rx;exact kT I2 ea c n l ry λs3 I3=>⟨Y,_,I3,q2⟩
theorem l9{op:Operator}{rd:V->V->Hp->VK->Prop}(ha:PE X o ta)(hv:PE X value tv)(O4:wJ X op rd):PS X (.AugAssign (.Attribute o f GH) op value pos) (tZ X.K ta tv rd f):=by
 intro Z s Y H D I h;refine wpAny_AugAssign_AttributeAny (thn (ha Z s Y H _ I h) λov s1⟨x,H1,I1,rx,a,C,dx,fs,v,ex,ea,c,n,l,q⟩=>?_);subst ex;obtain rfl:ov=TF a:=rx;refine kM I1 ea c n l λu s2 I2 ru=>thn (hv Z s2 Y H1 _ I2 q) λw3 s3⟨y,H2,I3,ry,q3⟩=>thn (O4 Z s3 Y H2 v y u w3 _ I3 ru ry q3) λw4 s4⟨z,H3,I4,rz,J0,FQ,Er,l',q4⟩=>?_;exact kT I4 Er c n l' rz λs5 I5=>⟨Y,_,I5,q4⟩
def xv:V->V->Hp->VK->Prop:=λx y H Q=>∃i j,x=.int i/\y=.int j/\Q (.int (i+j)) H
theorem sV:wJ X .Add xv:=by
 rintro Z s Y H x y u v Q I rx ry ⟨i,j,rfl,rfl,q⟩;obtain⟨t,rfl⟩:=(show∃t,u=Value.int i t from rx);obtain⟨t',rfl⟩:=(show∃t',v=Value.int j t' from ry);exact PyProof.Rows.iadd_int ⟨.int (i+j),H,I.tok _,⟨_,rfl⟩,q⟩
end
section
variable{X:Cx}{c:Sq}{b:Bool}
end
structure Room(k:Nat)(A:Ta):Prop where
 hd:A.handled=Am
 dp:A.depth+3 * k+5<recursionLimit
 un:A.units+16 * k+200<Vo
theorem Room.mono{k:Nat}(r:Room k A)(h:j<=k):Room j A:=⟨r.hd,by have:=r.dp;lia,by have:=r.un;lia⟩
theorem Room.deeper{k:Nat}(r:Room (k+1) A)(env:Wf):Room k (A.deeper env) :=
 ⟨r.hd,by have:=r.dp;show A.depth+1+3 * k+5<_;lia,by have:=r.un;show A.units+3+16 * k+200<_;lia⟩
theorem oK{C:So}:(A.under (.builtin "type.__call__" ⟨.ref C::us,kw⟩)).depth=A.depth+1:=by
 first|rfl|simp[Around.under,Code.weight,Code.isCreation,Code.isGuard,Code.isCaller,Code.frames,Code.isFrame,guardIds]
theorem px{C:So}:(A.under (.builtin "type.__call__" ⟨.ref C::us,kw⟩)).units=A.units+1:=by
 first|rfl|simp[Around.under,Code.cUnits,Code.frames,Code.isFrame]
theorem Room.make{k:Nat}(r:Room (k+1) A)(C:So)(us:List Sq)(kw:List (SG×Sq)):Room k (A.under (.builtin "type.__call__" ⟨.ref C::us,kw⟩)) :=
 ⟨r.hd,by have:=r.dp;rw[oK];lia,by have:=r.un;rw[px];lia⟩
theorem Room.depth{k:Nat}(r:Room k A):A.depth<recursionLimit:=by have:=r.dp;lia
theorem Room.units{k:Nat}(r:Room k A):A.units+64<Vo:=by have:=r.un;lia
def fU:TA:=λ_ H Q=>Q [] H
def bG(ta:TE)(tr:TA):TA:=λY H Q=>ta Y H λx H1=>tr Y H1 λxs H2=>Q (x::xs) H2
section
variable{X:Cx}{t:TA}
theorem ac:PA X [] fU:=λ_ _ _ _ H Q I h=>W3 ⟨[],H,I,.nil,h⟩
theorem aa(ha:PE X e te)(hr:PA X es t)(hs:Tr (e::es) X.env=(C?,UZ e X.env)::Tr es X.env:=by rfl):PA X (e::es) (bG te t):=by
 intro pos Z s Y H Q I h;rw[hs];show SV _ _ (spliced ((C?,UZ e X.env)::Vr pos (Tr es X.env))) _ _ s;refine WQ (thn (ha Z s Y H _ I h) λu s1⟨x,H1,I1,r1,q1⟩=>?_);exact thn (hr pos Z s1 Y H1 _ I1 q1) λus s2⟨xs,H2,I2,r2,q2⟩=>⟨x::xs,H2,I2,.cons r1 r2,q2⟩
def va(t:TA):TE:=λY H Q=>t Y H λxs H1=>xs.length<=SM/\∀p,H1 p=Am->Q (.ref p) (upd H1 p (.tup xs))
def xB(t:TA):TE:=λY H Q=>t Y H λxs H1=>xs.length<=SM/\∀p,H1 p=Am->Q (.ref p) (upd H1 p (.lst xs))
theorem aO{x1}(h:PA X es t):PE X (.Tuple es x1 pos) (va t):=by
 intro Z s Y H Q I hq;refine wpAny_Tuple_spliced (thn (h pos Z s Y H _ I hq) λus s1⟨xs,H1,I1,r,z,q⟩=>⟨by rw[<-r.length];exact z,?_⟩);have hf:H1 s1.1.1.size=none:=I1.hok.fresh (Su _);refine⟨.ref s1.1.1.size,upd H1 s1.1.1.size (.tup xs),I1.laid (t':=s1.toks) (λb u e=>Sy _ e) (Su _) ?_,D?,q _ hf⟩;exact⟨z,us,0,r,SO _ rfl⟩
theorem aZ(h:PA X es t):PE X (.List es pos) (xB t):=by
 intro Z s Y H Q I hq;refine wpAny_List_spliced (thn (h pos Z s Y H _ I hq) λus s1⟨xs,H1,I1,r,z,q⟩=>⟨by rw[<-r.length];exact z,?_⟩);have hf:H1 s1.1.1.size=none:=I1.hok.fresh (Su _);refine⟨.ref s1.1.1.size,upd H1 s1.1.1.size (.lst xs),I1.laid (t':=s1.toks) (λb u e=>Sy _ e) (Su _) ?_,D?,q _ hf⟩;exact⟨z,us,0,r,SO _ rfl⟩
end
abbrev Sp:=List V->Hp->VK->XK->Prop
abbrev CXT:=List Wf->Hp->Sr->XK->Sq->Sr->Prop
structure Env0(P:SH)(w:S0)(K:Ss)(mg:SG->Option Sq)(base:TL)(A:Ta)(outer:List Wf)(s:Sr)(H:Hp):Prop where
 frames:A.frames=A? outer
 mod:Mod K mg base
 bs:∀b o,base.get? b=A? o->s.1.get? b=A? o/\H b=Am
 bsz:base.objs.size<=s.1.1.size
 funs:s.1.FunFrames base outer
 frf:∀b∈frs outer,H b=Am
 hok:HOk P w H s.1
 bare:Xz s.gens
def CE(outer:List Wf)(P:SH)(w:S0)(H:Hp)(s:Sr)(Q:VK)(u:Sq)(s':Sr):Prop :=
 ∃v H',s'.os=s.os/\Xz s'.gens/\Un (frs outer) [] H H' s.1 s'.1/\HOk P w H' s'.1/\RelV v u/\Q v H'
def CR(CX:CXT)(outer:List Wf)(P:SH)(w:S0)(H:Hp)(s:Sr)(Q:VK)(E:XK)(r:Result)(s':Sr):Prop :=
 match r with
 |.ok (.ret u)=>CE outer P w H s Q u s'
 |.ok _=>False
 |.error e=>CX outer H s E e s'
structure FnOk(P:SH)(w:S0)(K:Ss)(mg:SG->Option Sq)(base:TL)(CX:CXT)(k:Nat)(f:So)(fd:Uu)(ps:List SG)(sp:Sp):Prop where
 len:∀vs H Q E,sp vs H Q E->vs.length=ps.length
 run:∀(A:Ta)(outer:List Wf)(s:Sr)(H:Hp)(args:Args)(us:List Sq)(vs:List V)(Q:VK)(E:XK),Room k A->Env0 P w K mg base A outer s H->BindsTo s fd args (ps.zip us)->Vals vs us->sp vs H Q E ->
  VA (S7 P w) A (.call (.ref f) args) (CR CX outer P w H s Q E) s
theorem FnOk.imp{w:S0}{CX:CXT}{k:Nat}{sp Nl:Sp}(F:FnOk P w K mg base CX k f fd ps sp)
 (h:∀vs H Q E,Nl vs H Q E->sp vs H Q E):FnOk P w K mg base CX k f fd ps Nl :=
 ⟨λvs H Q E q=>F.len vs H Q E (h _ _ _ _ q),λA outer s H args us vs Q E hr he hb hv hs=>F.run A outer s H args us vs Q E hr he hb hv (h _ _ _ _ hs)⟩
theorem Env0.make{w:S0}(e:Env0 P w K mg base A outer s H)(C:So)(us:List Sq)(kw:List (SG×Sq)) :
 Env0 P w K mg base (A.under (.builtin "type.__call__" ⟨.ref C::us,kw⟩)) outer s H:=⟨by first|exact e.frames|(simpa[Around.under,Code.envs,Code.isFrame,pushEnvs]using e.frames),e.mod,e.bs,e.bsz,e.funs,e.frf,e.hok,e.bare⟩
section
variable{X:Cx}
theorem Inv.env0(I:Inv X Z Y H s):Env0 X.prog X.w X.K X.mg X.base X.A X.stack s H :=
 ⟨I.ok.frames,I.ok.mod,I.bs,Td I.ok.bsz I.sz,I.stack,I.stkFree,I.hok,I.bare⟩
theorem Inv.after{Q:VK}(I:Inv X Z Y H s)(h:CE X.stack X.prog X.w H s Q u s'):EP X Z Y Q u s':=by
 obtain⟨v,H',os,bare,un,hok,r,q⟩:=h;obtain⟨hh,g,d,t,CV⟩:=s';obtain rfl:CV=s.os:=os;exact⟨v,H',I.call (h':=hh) (g':=g) (d':=d) (t':=t) (ch:=[]) un hok bare (λb z=>Yd z (by simp)),r,q⟩
end
def fD(sp:Sp)(dvs:List V)(E:XK)(t:TA):TE:=λY H Q=>t Y H λvs H1=>sp (vs++dvs) H1 Q E
def wP(C:So)(m:SG)(sp:Sp)(dvs:List V)(E:XK)(ta:TE)(t:TA):TE:=λY H Q=>ta Y H λx H1=>∃a dx fs,x=.ref a/\H1 a=A? (.ins C dx fs)/\fs.lookup m=Am /\
 t Y H1 λvs H2=>sp (x::(vs++dvs)) H2 Q E
def wH(C:So)(sp:Sp)(dvs:List V)(E:XK)(t:TA):TE:=λY H Q=>t Y H λvs H1=>∀x dx,H1 x=Am->H1 dx=Am->dx≠x ->
 sp (.ref x::(vs++dvs)) (upd (upd H1 dx (.own x)) x (.ins C dx [])) (λv H2=>v=.non/\Q (.ref x) H2) E
def Binds(K:Ss)(fd:Uu)(ps:List SG)(ds:List Sq):Prop :=
 ∀(s:Sr)(us:List Sq),K.In s.1->(us++ds).length=ps.length->BindsTo s fd ⟨us,[]⟩ (ps.zip (us++ds))
theorem Binds.all(h:∀us:List Sq,us.length=ps.length->VT fd ⟨us,[]⟩=pure (ps.zip us)):Binds K fd ps []:=λs us _ hl=>by
 rw[T3]at hl |-;exact .of_eq (h us hl)
def Passes(CX:CXT)(X:Cx)(E:XK):Prop:=∀(Z:List (So×UD))(Y:St)(H:Hp)(s:Sr)(e:Sq)(s':Sr),Inv X Z Y H s->CX X.stack H s E e s'->X.xe e s'
section
variable{X:Cx}{CX:CXT}{k:Nat}{C:So}{sp:Sp}{dvs:List V}{ds:List Sq}{E:XK}{m:SG}{p apos:VX}{o:TN}{ta:TE}{t:TA}
theorem sI{Q:VK}{vs:List V}(F:FnOk X.prog X.w X.K X.mg X.base CX k f fd ps sp)(hr:Room k X.A)(hb:Binds X.K fd ps ds)(hd:Vals dvs ds)(hx:Passes CX X E)
 (I:Inv X Z Y H s) (r:Vals vs us) (h:sp (vs++dvs) H Q E):SV (S7 X.prog X.w) X.A (call (.ref f) us) (EP X Z Y Q) X.xe s:=by
 have r2:Vals (vs++dvs) (us++ds):=r.append hd;have hl:(us++ds).length=ps.length:=by rw[<-r2.length];exact F.len _ _ _ _ h
 refine Xl (VN (F.run X.A X.stack s H ⟨us,[]⟩ (us++ds) (vs++dvs) Q E hr I.env0 (hb s us I.kIn hl) r2 h) λr s' hq=>?_);cases r with
 |error e=>exact hx Z Y H s e s' I hq
 | ok fl =>
   cases fl with
   |ret u=>exact I.after hq
   |next=>exact TH hq
   |brk=>exact TH hq
   |cont=>exact TH hq
theorem bz(F:FnOk X.prog X.w X.K X.mg X.base CX k f fd ps sp)(hr:Room k X.A)(hg:Gl X x)(hm:X.mg x=A? (.ref f))(hk:UQ X.K (.ref f)=B?)(hb:Binds X.K fd ps ds)(hd:Vals dvs ds)(hx:Passes CX X E)
 (ha:PA X (e::es) t) (Ao:(x == ("__debug__":SG))=false:=by decide) (he:Tr (e::es) X.env=(C?,UZ e X.env)::Tr es X.env:=by rfl) (yN:(Vr pos (Tr es X.env)).any (·.1)=false:=by rfl) :
 PE X (.Call (.Name x p) (e::es) [] pos) (fD sp dvs E t):=by
 intro Z s Y H Q I h;refine Ug (fq I hg hm ?_ Ao);refine VO (h₀:=X.base) I.ok.mod.kin hk (thn (ha pos Z s Y H _ I h) λus s1⟨vs,H1,I1,r,q⟩=>⟨I1.kIn,?_⟩) he yN;exact sI F hr hb hd hx I1 r q
theorem ug(he:PE X o ta)(c:Cls X.K C)(hm:Meth X.K C m f)(F:FnOk X.prog X.w X.K X.mg X.base CX k f fd ps sp)(hr:Room k X.A)(hb:Binds X.K fd ps ds)(hd:Vals dvs ds)(hx:Passes CX X E)(ha:PA X (e::es) t)
 (yy:Tr (e::es) X.env=(C?,UZ e X.env)::Tr es X.env:=by rfl) (yN:(Vr pos (Tr es X.env)).any (·.1)=false:=by rfl)
 (ht:UZ (.Call (.Attribute o m apos) (e::es) [] pos) X.env=(do
  let ov <-UZ o X.env
  standAt apos.atName
  let(f,first) <-holding [ov] (getMethod ov m pl)
  callWith pos f first (Vr pos (Tr (e::es) X.env)) (backToKw pos (keywordEach [] X.env))):=by rfl) :
 PE X (.Call (.Attribute o m apos) (e::es) [] pos) (wP C m sp dvs E ta t):=by
 intro Z s Y H Q I h;refine PySem.W.methodCall_KW (pl:=pl) (thn (he Z s Y H _ I h) λu s1⟨x,H1,I1,rx,a,dx,fs,ex,ea,l,q⟩=>?_) ht;subst ex;obtain rfl:u=TF a:=rx;refine oH I1 ea c hm l ?_;refine VO (first:=[.ref a]) (h₀:=X.base) I.ok.mod.kin hm.kp (thn (ha pos Z s1 Y H1 _ I1 q) λus s2⟨vs,H2,I2,r,q2⟩=>⟨I2.kIn,?_⟩) yy yN;exact sI (us:=.ref a::us) (vs:=.ref a::vs) F hr hb hd hx I2 (.cons rfl r) q2
structure Mk(K:Ss)(C f:So):Prop where
 makes:PySem.W.makesIn K C=B?
 init:TY K (.ref C) "__init__"=A? (A? (.ref f))
 fn:PySem.W.isFn K (.ref f)=B?
 kp:UQ K (.ref C)=B?
theorem sW{Q:VK}{vs:List V}(M:Mk X.K C f)(F:FnOk X.prog X.w X.K X.mg X.base CX k f fd ps sp)(hr:Room (k+1) X.A)(hb:Binds X.K fd ps ds)(hd:Vals dvs ds)
 (hx:Passes CX X E) (I:Inv X Z Y H s) (r:Vals vs us)
 (h:∀x dx,H x=Am->H dx=Am->dx≠x->sp (.ref x::(vs++dvs)) (upd (upd H dx (.own x)) x (.ins C dx [])) (λv H2=>v=.non/\Q (.ref x) H2) E) :
 SV (S7 X.prog X.w) X.A (call (.ref C) us) (EP X Z Y Q) X.xe s:=by
 have hq:=h (s.1.1.size+1) s.1.1.size (I.hok.fresh (Nat.le_succ _)) (I.hok.fresh (Su _)) (Ti (WN _));have I2:=Inv.made (C:=C) I;have r2:Vals (Ye (s.1.1.size+1)::(vs++dvs)) (TF (s.1.1.size+1)::(us++ds)):=.cons rfl (r.append hd)
 have hl:(TF (s.1.1.size+1)::us++ds).length=ps.length:=by
  have e:=r2.length;rw[F.len _ _ _ _ hq]at e;exact e.symm
 refine Xl (rN (f:=f) I.kIn M.makes M.init (beq_iff_eq.mp M.fn) (VN (F.run _ X.stack _ _ ⟨TF (s.1.1.size+1)::us,[]⟩ (TF (s.1.1.size+1)::(us++ds)) _ _ E (hr.make C us [])
  (I2.env0.make C us []) (hb _ (TF (s.1.1.size+1)::us) I2.kIn hl) r2 hq) λr s' GI=>?_))
 cases r with
 |error e=>exact hx Z Y _ _ e s' I2 GI
 | ok fl =>
   cases fl with
   | ret u =>
     obtain⟨v,H',I3,rv,ev,q3⟩:=I2.after GI;subst ev;exact⟨rv,⟨Ye (s.1.1.size+1),H',I3,D?,q3⟩⟩
   |next=>exact TH GI
   |brk=>exact TH GI
   |cont=>exact TH GI
theorem qW(M:Mk X.K C f)(F:FnOk X.prog X.w X.K X.mg X.base CX k f fd ps sp)(hr:Room (k+1) X.A)(hg:Gl X x)(hm:X.mg x=A? (.ref C))(hb:Binds X.K fd ps ds)(hd:Vals dvs ds)(hx:Passes CX X E)
 (Ao:(x == ("__debug__":SG))=false:=by decide):PE X (.Call (.Name x p) [] [] pos) (wH C sp dvs E fU):=by
 intro Z s Y H Q I h;refine Ug (fq I hg hm ?_ Ao);exact PySem.W.callWith_K0 I.kIn M.kp (sW (us:=[]) M F hr hb hd hx I .nil h)
end
section
variable{X:Cx}{CX:CXT}{k:Nat}{C:So}{ks:List SG}{sp:Sp}{E:XK}{m:SG}{p apos O5:VX}{o:TN}{RA:List Keyword}{ta:TE}{t tk:TA}{nm:Option SG}
variable{g:List Sq->List Sq->List Sq}{gV:List V->List V->List V}
end
structure cU(N P:List SG)(sc:Ub):Prop where
 kind:sc.kind=.function
 co:sc.isCoroutine=C?
 gen:sc.isGenerator=C?
 nd:N.Nodup
 pre:N.take P.length=P
 par:∀x∈P,sc.names.lookup x=A? .local\/sc.names.lookup x=A? .cell
 nofree:∀y∈sc.names,y.2≠.free
theorem lV:∀{binds:List (SG×Sq)}{m:SG->Option Sq},(∀v,(x,v)∉binds)->bindL kindOf binds m x=m x
 | [],_,_=>rfl
 | (n,v)::r,m,h=>by
   unfold bindL;rw[lV λw hw=>h w (SN _ hw)];split
   .have:x≠n:=by rintro rfl;exact h v SU
    simp[this]
   .rfl
theorem lJ:∀{binds:List (SG×Sq)}{m:SG->Option Sq},(∀v,(x,v)∉binds)->bindC kindOf binds m x=m x
 | [],_,_=>rfl
 | (n,v)::r,m,h=>by
   unfold bindC;rw[lJ λw hw=>h w (SN _ hw)];split
   .rfl
   .have:x≠n:=by rintro rfl;exact h v SU
    simp[this]
theorem l3{v:Sq}:∀{P:List SG}{vs:List Sq}{i:Nat}{m:SG->Option Sq},P.Nodup->P[i]?=A? x->vs[i]?=A? v->kindOf x=A? .local ->
 bindL kindOf (P.zip vs) m x=A? v
 | [],_,_,_,_,h,_,_=>by simp at h
 |_::_,[],_,_,_,_,h,_=>by simp at h
 | p::P,w::vs,0,m,nd,h1,h2,hk=>by
   simp at h1 h2;subst h1;subst h2;show bindL kindOf ((p,w)::P.zip vs) m p=_;unfold bindL;rw[lV λv hv=>(Wg.mp nd).1 (VJ hv).1,Yb hk];simp
 | p::P,w::vs,i+1,m,nd,h1,h2,hk=>by
   show bindL kindOf ((p,w)::P.zip vs) m x=_;unfold bindL;exact l3 (i:=i) (Wg.mp nd).2 (by simpa using h1) (by simpa using h2) hk
theorem lW{v:Sq}:∀{P:List SG}{vs:List Sq}{i:Nat}{m:SG->Option Sq},P.Nodup->P[i]?=A? x->vs[i]?=A? v->kindOf x≠A? .local ->
 bindC kindOf (P.zip vs) m x=A? v
 | [],_,_,_,_,h,_,_=>by simp at h
 |_::_,[],_,_,_,_,h,_=>by simp at h
 | p::P,w::vs,0,m,nd,h1,h2,hk=>by
   simp at h1 h2;subst h1;subst h2;show bindC kindOf ((p,w)::P.zip vs) m p=_;unfold bindC;rw[lJ λv hv=>(Wg.mp nd).1 (VJ hv).1,Za hk];simp
 | p::P,w::vs,i+1,m,nd,h1,h2,hk=>by
   show bindC kindOf ((p,w)::P.zip vs) m x=_;unfold bindC;exact lW (i:=i) (Wg.mp nd).2 (by simpa using h1) (by simpa using h2) hk
def start(N:List SG)(vs:List V):St:=vs.map A?++TJ (N.length - vs.length) Am
def iI(CX:CXT)(P:SH)(w:S0)(K:Ss)(mg:SG->Option Sq)(base:TL)(N:List SG)(qual:SG)(scope:Ub)(f:So)(cd:Sq)(A:Ta)(outer:List Wf)(s:Sr)(H:Hp)(E:XK):Cx where
 prog:=P
 w:=w
 K:=K
 mg:=mg
 base:=base
 A:=A.deeper (Vd qual scope s.1.1.size f cd)
 N:=N
 s₀:=s
 H₀:=H
 env:=Vd qual scope s.1.1.size f cd
 outer:=outer
 stack:=Vd qual scope s.1.1.size f cd::outer
 ex:=[]
 calm:=B?
 fn:=λ_=>B?
 pn:=[]
 xe:=λe s'=>SV (S7 P w) (A.deeper (Vd qual scope s.1.1.size f cd)) (leaving (Vd qual scope s.1.1.size f cd) e) (λ_ Bs=>CX outer H s E e Bs) (λe' Bs=>CX outer H s E e' Bs) s'
theorem nC(h:sc.names.lookup x=A? .cell):∃c,(Xe n sc.names []).lookup x=A? c:=by
 have q:=PySem.W.cellsFrom_some sc.names n [] (.inl h);exact VC.mp q
theorem qL{CX:CXT}{w:S0}{E:XK}{vs:List V}
 (S:cU N ps scope) (hd:A.handled=Am) (e0:Env0 P w K mg base A outer s H) (hl:vs.length=ps.length) (r:Vals vs us)
 (x:InCallC s s.1.1.size (bindL (Vd qual scope s.1.1.size f cd).kindOf (ps.zip us) λ_=>Am) (Xe (s.1.1.size+1) scope.names []) (bindC (Vd qual scope s.1.1.size f cd).kindOf (ps.zip us) λ_=>Am) s1) :
 Inv (iI CX P w K mg base N qual scope f cd A outer s H E) [] (start N vs) H s1:=by
 have yN:ps.length<=N.length:=by have:=Zd Vf S.pre;rw[S9]at this;lia
 obtain⟨h1,tk,rfl,hk⟩:=x.done;have J3:∀b:So,b∉(iI CX P w K mg base N qual scope f cd A outer s H E).ex:=λb z=>Yd (show b∈([]:List So)from z) (by simp)
 refine⟨⟨e0.mod,S.kind,D?,D?,Su _,λy z c h1 h2=>?_,λy hy=>?_,λy c _ h=>?_,λ_=>hd,XN e0.frames,.inr ⟨D?,D?⟩,λb z=>Yd z (J3 b),e0.bs,e0.bsz,λb _ _=>J3 b,λb z=>Yd z (J3 b),e0.funs,e0.frf⟩,
  rfl,e0.bare,Un.kept hk,⟨_,x.toInCall.ns,λi y v h1 h2 h3=>?_⟩,λy c h=>⟨_,x.cell y c h⟩,e0.hok.fresh (Su _),λy c h=>?_,λp hp=>Yd (show p∈([]:List (So×UD))from hp) (by simp),e0.hok.kept hk,?_⟩
 .exact name_of_addr x.apart (Tf h1) (Tf h2)
 .have hy:scope.names.lookup y=A? .cell\/scope.names.lookup y=A? .free:=hy;rcases hy with hy|hy
  .exact nC hy
  .exact Yd rfl (S.nofree _ (Tf hy))
 .exact U1 (x.above y c (Tf h))
 .have hi:i<vs.length:=by
   unfold start at h2;by_cases hi:i<vs.length
   .exact hi
   .rw[T5 (by simpa using hi)]at h2;rw[List.getElem?_replicate]at h2;split at h2 <;> cases h2
  have ha:vs[i]?=A? v:=by
   unfold start at h2;rw[Ts (by simpa using hi),Sx]at h2;cases e:vs[i]? with
   |none=>rw[e]at h2;cases h2
   |some a=>rw[e]at h2;cases h2;rfl
  obtain⟨u,hu,rv⟩:=r.get ha
  have hp:ps[i]?=A? y:=by
   rw[<-S.pre,VE (by lia)];exact h1
  have ndP:ps.Nodup:=by rw[<-S.pre];exact S.nd.sublist (XJ _ _)
  refine⟨u,rv,?_⟩;rcases S.par y (Sv hp)with k|k
  .exact .inl ⟨k,l3 ndP hp hu k⟩
  .obtain⟨c,e⟩:=nC (n:=s.1.1.size+1) k;refine .inr ⟨.inl k,c,e,?_⟩;have q:=x.cell y c e;rw[lW ndP hp hu (by show scope.names.lookup y≠_;rw[k];decide)]at q;exact q
 .exact e0.hok.fresh (U1 (x.above y c (Tf h)))
 .unfold start;show _=N.length;rw[SD,Sl,List.length_replicate];lia
theorem qg{CX:CXT}{w:S0}{k:Nat}{dV kV doc pm xX ct:Sq}{an:Option So}
 {BH:Array (Option Sq)} {sp:Sp} (lk:K.lookup f=A? ⟨oc,od,.func (Vy name qual params body scope dV kV doc pm an xX ct),BH⟩) (y9:PySem.W.codeIn K xX qual=B?) (S:cU N ps scope)
 (len:∀vs H Q E,sp vs H Q E->vs.length=ps.length)
 (yj:∀(A:Ta)(outer:List Wf)(s:Sr)(H:Hp)(vs:List V)(Q:VK)(E:XK),Room k (A.deeper (Vd qual scope s.1.1.size f xX))->sp vs H Q E ->
  ∃t,PSs (iI CX P w K mg base N qual scope f xX A outer s H E) body t/\t {nx:=λ_ H'=>Q .non H',rt:=Q} (start N vs) H) :
 FnOk P w K mg base CX (k+1) f (Vy name qual params body scope dV kV doc pm an xX ct) ps sp:=by
 refine⟨len,λA outer s H args us vs Q E hr e0 hb r zc=>?_⟩;have hl:=len _ _ _ _ zc;have KX:K.In s.1:=e0.mod.kin.keeps λb o e=>(e0.bs b o e).1;have lim:s.1.NoLimit:=e0.mod.nolimit.keeps λb o e=>(e0.bs b o e).1
 have GJ:∀y∈ps.zip us,scope.names.lookup y.1=A? .local\/(scope.names.lookup y.1=A? .cell/\((Xe (s.1.1.size+1) scope.names []).lookup y.1).isSome=B?):=λ⟨n,v⟩hy=>by
  rcases S.par n (VJ hy).1 with q|q
  .exact .inl q
  .exact .inr ⟨q,PySem.W.cellsFrom_some _ _ _ (.inl q)⟩
 refine codeAny_call_function hr.depth (KX _ _ lk) rfl S.co S.gen rfl (PySem.W.codeRec_of KX y9) (hb _ _ _ _ ?_);refine wpAny_newFunctionEnv_cells S.kind GJ λenv he s1 x=>?_;subst he;refine⟨lim.keeps x.toInCall.keep,codeAny_func ?_⟩;obtain⟨t,ht,hq⟩:=yj A outer s H vs Q E (hr.deeper _) zc;have I:Inv (iI CX P w K mg base N qual scope f xX A outer s H E) [] (start N vs) H s1:=qL S hr.hd e0 hl r x;refine TQ (ht [] s1 (start N vs) H _ I hq) (λfl s' hs=>?_) λe s' hs=>hs
 have fin:∀{xS:St}{H':Hp}{v:V}{u:Sq},Inv (iI CX P w K mg base N qual scope f xX A outer s H E) [] xS H' s'->RelV v u->Q v H'->CE outer P w H s Q u s' :=
  λ{xS H' v u}J rv q=>⟨v,H',J.os,J.bare,J.base,J.hok,rv,q⟩
 cases fl with
 | ret u =>
   obtain⟨v,xS,H',J,rv,q⟩:=hs;exact fin J rv q
 | next =>
   obtain⟨xS,H',J,q⟩:=hs;exact fin (v:=V.non) (u:=Ud) J rfl q
 | brk =>
   obtain⟨_,_,_,q⟩:=hs;exact TH q
 | cont =>
   obtain⟨_,_,_,q⟩:=hs;exact TH q
end L2
variable{CX:L2.CXT}{sp:L2.Sp}
namespace L2
open PySem PySem.Spec PyProof.Rows
section
variable{X:Cx}{p:VX}{t:TA}{id T:String}{r:List V->Hp->VK->Prop}
def tCB(r:List V->Hp->VK->Prop)(t:TA):TE:=λY H Q=>t Y H λvs H1=>r vs H1 Q
theorem aw(hc:eK X (.builtin id) r)(hg:Gl X x)(hm:X.mg x=Am)(hv:Xm x=A? (.builtin id))(ha:PA X (e::es) t)(hn:x≠"__name__":=by decide)(Ao:(x == ("__debug__":SG))=false:=by decide)
 (he:Tr (e::es) X.env=(C?,UZ e X.env)::Tr es X.env:=by rfl) (yN:(Vr pos (Tr es X.env)).any (·.1)=false:=by rfl):PE X (.Call (.Name x p) (e::es) [] pos) (tCB r t):=by
 intro Z s Y H Q I h;refine Ug (kg I hg hm hv ?_ hn Ao);exact PyProof.Rows.callWith_builtin1 (thn (ha pos Z s Y H _ I h) λus s1⟨vs,H1,I1,r1,q1⟩=>hc Z s1 Y H1 vs us Q I1 r1 q1) he yN
theorem aR(hc:eK X (.type T) r)(hg:Gl X x)(hm:X.mg x=Am)(hv:Xm x=A? (.type T))(ha:PA X (e::es) t)(hn:x≠"__name__":=by decide)(Ao:(x == ("__debug__":SG))=false:=by decide)
 (he:Tr (e::es) X.env=(C?,UZ e X.env)::Tr es X.env:=by rfl) (yN:(Vr pos (Tr es X.env)).any (·.1)=false:=by rfl):PE X (.Call (.Name x p) (e::es) [] pos) (tCB r t):=by
 intro Z s Y H Q I h;refine Ug (kg I hg hm hv ?_ hn Ao);exact Vp (thn (ha pos Z s Y H _ I h) λus s1⟨vs,H1,I1,r1,q1⟩=>hc Z s1 Y H1 vs us Q I1 r1 q1) he yN
end
end L2
namespace HT
open PySem PyProof.Rows
section
open PySem.SeqAt
open PySem.AutoSeq1 (wpAny_loadPart')
open PySem.MeetsSeq PySem.MeetsSeq2 PySem.MeetsSeq3
end
section
variable{w:S0}
theorem cat_tup{t:So}{vs ws:List Sq}(ht:IsTup s.1 t vs.toArray)(hb:IsTup s.1 b ws.toArray)(hv:vs≠[])
 (h1:ws=[]->Q (.ref t) s) (h2:ws≠[]->Q (.ref s.1.1.size) {s with heap:=s.1.push {cls:=.type "tuple",data:=.seq (vs++ws).toArray}})
 (hsz:vs.length+ws.length<=SM):SV (S7 prog w) A (Vt .Add (.ref t) (.ref b)) Q E s:=by
 obtain⟨⟨cls,dd,data,sl⟩,ho,hc,n,hd⟩:=id ht;obtain⟨⟨GK,FU,data2,FV⟩,CW,Ai,n2,hd2⟩:=id hb;simp only at hc hd Ai hd2;subst hc hd Ai hd2;have e:vs.toArray++ws.toArray=(vs++ws).toArray:=by simp
 by_cases hw:ws=[]
 .exact concat_meets ⟨_,ho,rfl⟩ ⟨_,CW,rfl⟩ noFill_tuple_add seq_tuple_add WS WL (WD _ _)
   (tuple_addW1 t b vs.toArray ws.toArray n n2 dd FU sl FV (by simpa using hv) (by simp[hw])) ⟨ho,CW,h1 hw⟩
 .refine concat_meets ⟨_,ho,rfl⟩ ⟨_,CW,rfl⟩ noFill_tuple_add seq_tuple_add WS WL (WD _ _)
   (tuple_addW2 t b vs.toArray ws.toArray n n2 dd FU sl FV (by simpa using hv) (by simpa using hw) (by rw[SF,SF];exact hsz)) ⟨ho,CW,?_⟩
  rw[e];exact h2 hw
def sIx(n d:Nat):Option Int->Nat
 |none=>d
 |some v=>if v<0 then(v+(n:Int)).toNat else min v.toNat n
theorem sIx_none(n d:Nat):sIx n d Am=d:=rfl
theorem sIx_nat(n d k:Nat):sIx n d (A? (k:Int))=min k n:=by
 show(if(k:Int)<0 then((k:Int)+(n:Int)).toNat else min (k:Int).toNat n)=min k n;rw[Za (by lia),Ut]
theorem sIx_le(n d:Nat)(hd:d<=n)(o:Option Int):sIx n d o<=n:=by
 cases o with
 |none=>exact hd
 | some v =>
   show(if v<0 then(v+(n:Int)).toNat else min v.toNat n)<=n;by_cases hv:v<0
   .rw[Yb hv];lia
   .rw[Za hv];exact Nat.min_le_right _ _
theorem clip_eq(v:Int)(n d:Nat):(if v<0 then max (v+(n:Int)) 0 else min v (n:Int))=((sIx n d (A? v):Nat):Int):=by
 show(if v<0 then max (v+(n:Int)) 0 else min v (n:Int))=(((if v<0 then(v+(n:Int)).toNat else min v.toNat n):Nat):Int);by_cases hv:v<0
 .simp only[Yb hv];lia
 .simp only[Za hv];lia
theorem adjust_gen(lo hi:Option Int)(n:Nat):U6 lo hi 1 (n:Int)=(((sIx n 0 lo:Nat):Int),((sIx n n hi:Nat):Int)):=by
 have h1:¬((1:Int)<0):=by lia
 unfold U6;simp only[h1,if_false];refine Wo ?_ ?_
 .cases lo with
  |none=>rfl
  |some v=>exact clip_eq v n 0
 .cases hi with
  |none=>rfl
  |some v=>exact clip_eq v n n
theorem places_gen(i j:Nat):T7 (i:Int) (j:Int) 1=j - i:=by
 unfold T7;have h1:(1:Int) > 0:=by lia
 simp only[h1,if_true,Int.ediv_one];split <;> lia
theorem slicePart_{v:Sq}{o:Option Int}{Q:Option Int->Sr->Prop}(p:Xq v o)(h:Q o s):SV (S7 prog w) A (Builtin.Slice.slicePartIndex v) Q E s:=by
 cases p with
 |none=>exact slicePart_none h
 |int i t=>exact slicePart_int h
theorem sliceApplied_gen{Q:Int×Int×Nat->Sr->Prop}(hs:s.1.IsSliceOf sl vl vu .none)(pl:Xq vl lo)(pu:Xq vu hi)
 (h:Q (((sIx n 0 lo:Nat):Int),1,sIx n n hi - sIx n 0 lo) s):SV (S7 prog w) A (VH (.ref sl) (pure (n:Int))) Q E s:=by
 obtain⟨os,yE,zX,za⟩:=id hs;unfold VH Builtin.Slice.sliceFields;refine Sm (Sm (Uo yE za (x:=vl) rfl (Sm (Uo yE za (x:=vu) rfl (Sm (Uo yE za (x:=.none) rfl (Sw ?_)))))));refine Sm (slicePart_none ?_);show SV _ _ (if((1:Int) == 0)=B? then _ else _) _ _ s;rw[Za (by decide)];refine Sm (slicePart_ pl (Sm (slicePart_ pu (Sm (Sw ?_)))));show SV _ _ (match U6 lo hi 1 (n:Int)with|(lo,hi)=>pure (lo,(1:Int),T7 lo hi 1)) _ _ s;rw[adjust_gen lo hi n];show SV _ _ (pure (((sIx n 0 lo:Nat):Int),(1:Int),T7 ((sIx n 0 lo:Nat):Int) ((sIx n n hi:Nat):Int) 1)) _ _ s;rw[places_gen];exact Sw h
theorem pick_gen(xs:Array Sq)(i k:Nat):((UE k).filterMap λ(m:Nat)=>xs[((i:Int)+(m:Int) * 1).toNat]?).toArray=((xs.toList.drop i).take k).toArray:=by
 have e:(λ(m:Nat)=>xs[((i:Int)+(m:Int) * 1).toNat]?)=λm=>xs[i+m]?:=by
  funext m;have:((i:Int)+(m:Int) * 1).toNat=i+m:=by lia
  rw[this]
 rw[e];have:=pick_run xs i k;rw[List.filterMap_map]at this;have e2:((λx=>xs[x]?) ∘ λx=>i+x)=λm=>xs[i+m]?:=rfl;rw[e2]at this;rw[this]
theorem getItem_tuple_cut{t:So}(ht:IsTup s.1 t items)(hs:s.1.IsSliceOf sl vl vu .none)(pl:Xq vl lo)(pu:Xq vu hi)
 (hw:¬(sIx items.size 0 lo=0/\sIx items.size items.size hi=items.size))
 (h:Q (.ref s.1.1.size) {s with heap:=s.1.push {cls:=.type "tuple",data:=.seq ((items.toList.drop (sIx items.size 0 lo)).take (sIx items.size items.size hi - sIx items.size 0 lo)).toArray}})
 (hsz:items.size<=SM):SV (S7 prog w) A (We (.ref t) (.ref sl)) Q E s:=by
 have y3:sizeOk (.seq ((items.toList.drop (sIx items.size 0 lo)).take (sIx items.size items.size hi - sIx items.size 0 lo)).toArray):=by
  show((items.toList.drop (sIx items.size 0 lo)).take (sIx items.size items.size hi - sIx items.size 0 lo)).toArray.size<=SM;rw[SF,S9,Tz,SX];lia
 have hj:sIx items.size items.size hi<=items.size:=sIx_le _ _ (Su _) hi;obtain⟨os,yE,zX,za⟩:=id hs;have GL:s.TypeIs (.ref sl) "slice":=⟨os,yE,zX⟩;unfold We
 try with_reducible refine UU ?_
 first|refine Sm (Sw ?_)|skip
 refine Sm (wpAny_sequenceKey ht.typeIs (by decide) ?_)
 refine Sm (Ue (name:=SE "__getitem__") ht.typeIs To
  (Up To ht.typeIs entry_tuple_getitem ?_ (args_tuple_getitem _ _)))
 show SV _ _ (VG (.ref t) >>= _) _ _ s;refine Sm (tupleItemsOf_ ht ?_);refine Sm (Wb GL ?_);rw[Yb (by decide)];refine Sm (sliceApplied_gen hs pl pu ?_)
 have BR:¬((((sIx items.size 0 lo:Nat):Int) == 0 && (1:Int) == 1 && (sIx items.size items.size hi - sIx items.size 0 lo) == items.size)=B?):=by
  intro q;rw[WR,WR]at q;have q1:((sIx items.size 0 lo:Nat):Int)=0:=eq_of_beq q.1.1;have q2:sIx items.size items.size hi - sIx items.size 0 lo=items.size:=eq_of_beq q.2;exact hw ⟨by lia,by lia⟩
 show SV _ _ (if(((sIx items.size 0 lo:Nat):Int) == 0 && (1:Int) == 1 && (sIx items.size items.size hi - sIx items.size 0 lo) == items.size)=B? then _ else _) _ _ s;rw[Za BR,pick_gen]
 first
  |exact Sm (m:=Ua _) (TV (Sw ⟨_,rfl,Sw h⟩) y3)
  |exact Sm (m:=Ua _) (TV (Sm (Sw (Sw ⟨_,rfl,Sw h⟩))) y3)
  |exact Sm (Sm (m:=Ua _) (TV (Sw (Sw ⟨_,rfl,Sw h⟩)) y3))
  |exact Sm (Sm (m:=Ua _) (TV (Sw ⟨_,rfl,Sw h⟩) y3))
end
end HT
open HT renaming sIx->Yj,sIx_nat->Zl,sIx_none->Zp
namespace L2
open PySem PySem.Spec PyProof.Rows
abbrev TO:=St->Hp->(Option Int->Hp->Prop)->Prop
def PO(X:Cx)(e:Option TN)(t:TO):Prop :=
 ∀(Z:List (So×UD))(s:Sr)(Y:St)(H:Hp)(Q:Option Int->Hp->Prop),Inv X Z Y H s->t Y H Q ->
   SV (S7 X.prog X.w) X.A (evalPart e X.env) (λu s'=>∃o H',Inv X Z Y H' s'/\Xq u o/\Q o H') X.xe s
def ut:TO:=λ_ H Q=>Q Am H
inductive uH(x:V)(Q:Option Int->Hp->Prop)(H1:Hp):Prop
 |mk (i:Int) (zu:x=.int i) (zv:Q (A? i) H1):uH x Q H1
def uV(t:TE):TO:=λY H Q=>t Y H λx H1=>uH x Q H1
theorem intsAre_of:∀{us:List Sq},Vals (ns.map Yh) us->IntsAre us ns:=by
 induction ns with
 |nil=>intro us r;rw[U3]at r;cases r;exact .nil
 | cons n ns ih =>
   intro us r;rw[Tb]at r;cases r with
   | cons r1 r2 =>
     obtain⟨t,e⟩:=r1;subst e;exact .cons n t (ih r2)
section
variable{X:Cx}{lo hi:Option TN}{tl th:TO}{p2:VX}
theorem bw:PO X Am ut:=by
 intro Z s Y H Q I h;rw[evalPart_none];exact Sw ⟨Am,H,I,.none,h⟩
theorem bq(h:PE X e te):PO X (A? e) (uV te):=by
 intro Z s Y H Q I hw;rw[evalPart_some];refine thn (h Z s Y H _ I hw) λu s1⟨x,H1,I1,r1,q1⟩=>?_;obtain⟨i,rfl,q⟩:=q1;obtain⟨t,rfl⟩:=r1;exact⟨A? i,H1,I1,.int i t,q⟩
def SlR(X:Cx)(r:V->Option Int->Option Int->Hp->VK->Prop):Prop :=
 ∀(Z:List (So×UD))(s:Sr)(Y:St)(H:Hp)(x:V)(v vl vu:Sq)(lo hi:Option Int)(sl:So)(Q:VK),Inv X Z Y H s->RelV x v->s.1.IsSliceOf sl vl vu .none->Xq vl lo->Xq vu hi->r x lo hi H Q ->
   ∃T id,typeLookup (.type T) "__getitem__"=pure (A? (.builtin id))/\s.TypeIs v T/\SV (S7 X.prog X.w) X.A (We v (.ref sl)) (EP X Z Y Q) X.xe s
def tSl(r:V->Option Int->Option Int->Hp->VK->Prop)(te:TE)(tl th:TO):TE:=λY H Q=>te Y H λx H1=>tl Y H1 λl H2=>th Y H2 λu H3=>r x l u H3 Q
theorem bd{r:V->Option Int->Option Int->Hp->VK->Prop}(hr:SlR X r)(he:PE X e te)(hl:PO X lo tl)(hu:PO X hi th):PE X (.Subscript e (.Slice lo hi Am p2) pos) (tSl r te tl th):=by
 intro Z s Y H Q I h;refine Subscript_ (thn (he Z s Y H _ I h) λv s1⟨x,H1,I1,r1,q1⟩=>?_);refine wpAny_Slice (thn (hl Z s1 Y H1 _ I1 q1) λvl s2⟨l,H2,I2,pl,q2⟩=>thn (hu Z s2 Y H2 _ I2 q2) λvu s3⟨u,H3,I3,pu,q3⟩=>?_);rw[evalPart_none];refine Sw ?_;have I4:Inv X Z Y H3 {s3 with heap:=s3.1.push {cls:=.type "slice",data:=.fields #[vl,vu,.none]}}:=I3.kept (t':=s3.toks) λb ob q=>Sy _ q;obtain⟨T,id,hT,ht,hg⟩:=hr Z {s3 with heap:=s3.1.push {cls:=.type "slice",data:=.fields #[vl,vu,.none]}} Y H3 x v vl vu l u s3.1.1.size Q I4 r1 (Heap.IsSliceOf.new ..) pl pu q3;show SV (S7 X.prog X.w) X.A (subscriptTail e (.Slice lo hi Am p2) v (.ref s3.1.1.size)) (EP X Z Y Q) X.xe {s3 with heap:=s3.1.push {cls:=.type "slice",data:=.fields #[vl,vu,.none]}};exact tail_any (ops:=[.ref s3.1.1.size,v]) ht hT hg (by with_unfolding_all rfl)
def cL(xs:List V)(lo hi:Option Int):List V:=(xs.drop (Yj xs.length 0 lo)).take (Yj xs.length xs.length hi - Yj xs.length 0 lo)
theorem fF(xs:List V)(lo hi:Option Int):(cL xs lo hi).length<=xs.length:=by
 unfold cL;rw[S9,Tz];lia
inductive uK(K:Ss)(x:V)(lo:Option Int)(hi:Option Int)(H:Hp)(Q:VK):Prop
 |mk (a:_) (xs:_) (zu:x=.ref a) (zv:SqT K H a xs) (An:¬(Yj xs.length 0 lo=0/\Yj xs.length xs.length hi=xs.length)) (CD:∀p,H p=Am->Q (.ref p) (upd H p (.tup (cL xs lo hi)))):uK K x lo hi H Q
def xN(K:Ss):V->Option Int->Option Int->Hp->VK->Prop:=uK K
theorem gI:SlR X (xN X.K):=by
 intro Z s Y H x v vl vu lo hi sl Q I rx hs pl pu h;obtain⟨a,xs,rfl,hx,hw,q⟩:=h;cases rx;obtain⟨its,r,ht,hz⟩:=I.tuple hx;have hlen:its.toArray.size=xs.length:=by rw[SF];exact r.length.symm
 refine⟨"tuple",_,To.lookup,ht.typeIs,?_⟩;refine HT.getItem_tuple_cut ht hs pl pu (by rw[hlen];exact hw) ?_ (by rw[hlen];exact hz);rw[hlen];refine⟨.ref s.1.1.size,_,I.laid (t':=s.toks) (o:=.tup (cL xs lo hi)) (λb ob q=>Sy _ q) (Su _) ?_,D?,q _ (I.hok.fresh (Su _))⟩;exact⟨Td (fF xs lo hi) hz,_,0,(r.drop (Yj xs.length 0 lo)).take (Yj xs.length xs.length hi - Yj xs.length 0 lo),SO _ rfl⟩
def wg(K:Ss):R2:=λx y H Q=>∃a b xs ys,x=.ref a/\y=.ref b/\SqT K H a xs/\SqT K H b ys/\xs≠[]/\xs.length+ys.length<=SM /\
 (ys=[]->Q (.ref a) H)/\(ys≠[]->∀p,H p=Am->Q (.ref p) (upd H p (.tup (xs++ys))))
theorem Vals.nil_iff(r:Vals xs us):us=[]↔xs=[]:=by
 cases r with
 |nil=>simp
 |cons _ _=>simp
theorem tF:OpR X (Vt .Add) (wg X.K):=by
 intro Z s Y H x y v u Q I rx ry h;obtain⟨a,b,xs,ys,rfl,rfl,ha,hb,hx,hz,q1,q2⟩:=h;cases rx;cases ry;obtain⟨its,r1,p1,_⟩:=I.tuple ha;obtain⟨xY,r2,p2,_⟩:=I.tuple hb;refine HT.cat_tup p1 p2 (λz=>hx (r1.nil_iff.mp z)) (λz=>⟨.ref a,H,I,rfl,q1 (r2.nil_iff.mp z)⟩) (λz=>?_) (by rw[<-r1.length,<-r2.length];exact hz);refine⟨.ref s.1.1.size,_,I.laid (t':=s.toks) (o:=.tup (xs++ys)) (λb ob q=>Sy _ q) (Su _) ?_,D?,q2 (λw=>z (r2.nil_iff.mpr w)) _ (I.hok.fresh (Su _))⟩;exact⟨by rw[SD];exact hz,_,0,r1.append r2,SO _ rfl⟩
end
def ixN(n:Nat)(i:Int):Option Nat:=if 0<=i then(if i<n then A? i.toNat else Am)else if -(n:Int)<=i then A? (i+n).toNat else Am
def atI{α:Type}(xs:List α)(i:Int):Option α:=(ixN xs.length i).bind λj=>xs[j]?
theorem mK{i:Int}(h:ixN n i=A? j):seqIndex? i n=A? j/\j<n/\-(n:Int)<=i/\i<n:=by
 unfold ixN at h;by_cases h0:0<=i
 .rw[Yb h0]at h;by_cases h1:i<n
  .rw[Yb h1]at h;have e:i.toNat=j:=Tq h;exact⟨by rw[seqIndex_of h0 h1,e],by lia,by lia,h1⟩
  .rw[Za h1]at h;cases h
 .rw[Za h0]at h;by_cases h1:-(n:Int)<=i
  .rw[Yb h1]at h;have e:(i+n).toNat=j:=Tq h;exact⟨by rw[seqIndex_neg (by lia) h1,e],by lia,h1,by lia⟩
  .rw[Za h1]at h;cases h
theorem mE{xs:List α}{i:Int}{v:α}(h:atI xs i=A? v):∃j,seqIndex? i xs.length=A? j/\xs[j]?=A? v/\j<xs.length/\-(xs.length:Int)<=i/\i<xs.length:=by
 unfold atI at h;cases e:ixN xs.length i with
 |none=>rw[e]at h;cases h
 | some j =>
   rw[e]at h;obtain⟨h1,h2,h3,h4⟩:=mK e;exact⟨j,h1,h,h2,h3,h4⟩
theorem bQ{xs:List α}{v:α}(h:xs[j]?=A? v):atI xs (j:Int)=A? v:=by
 have hj:j<xs.length:=(glE h)
 have e:ixN xs.length (j:Int)=A? j:=by
  unfold ixN;rw[Yb (by lia),Yb (by lia)];simp
 unfold atI;rw[e];exact h
def ub(b:TN):Prop:=∀o i,subscripted b C? o i=operate [o,i] (We o i)
def IxR(X:Cx)(r:R2):Prop :=
 ∀(value slice:TN)(Z:List (So×UD))(s:Sr)(Y:St)(H:Hp)(x y:V)(v u:Sq)(Q:VK),Inv X Z Y H s->RelV x v->RelV y u->r x y H Q ->
   subscripted slice C? v u=operate [v,u] (We v u)->SV (S7 X.prog X.w) X.A (subscriptTail value slice v u) (EP X Z Y Q) X.xe s
def MtR(X:Cx)(id:String)(r:V->List V->Hp->VK->Prop):Prop :=
 ∀(Z:List (So×UD))(s:Sr)(Y:St)(H:Hp)(x:V)(xs:List V)(v:Sq)(us:List Sq)(Q:VK),Inv X Z Y H s->RelV x v->Vals xs us->r x xs H Q ->
   SV (S7 X.prog X.w) X.A (call (.builtin id) (v::us)) (EP X Z Y Q) X.xe s
section
variable{X:Cx}{a b:TN}{ta tb:TE}
theorem au{r:R2}(hr:IxR X r)(ha:PE X a ta)(hb:PE X b tb)(hs:ub b):PE X (.Subscript a b pos) (tOp r ta tb):=by
 intro Z s Y H Q I h;exact Subscript_ (vk ha hb I h λv u s2 x y H2 I2 rx ry q=>hr a b Z s2 Y H2 x y v u Q I2 rx ry q (hs _ _))
inductive uQ(K:Ss)(x:V)(y:V)(H:Hp)(Q:VK):Prop
 |mk (p:_) (xs:_) (i:_) (v:_) (zu:x=.ref p) (zv:y=.int i) (An:SqL K H p xs) (CD:atI xs i=A? v) (DH:Q v H):uQ K x y H Q
def xA(K:Ss):R2:=uQ K
inductive uF(K:Ss)(x:V)(y:V)(H:Hp)(Q:VK):Prop
 |mk (p:_) (xs:_) (i:_) (v:_) (zu:x=.ref p) (zv:y=.int i) (An:SqT K H p xs) (CD:atI xs i=A? v) (DH:Q v H):uF K x y H Q
def iQ(K:Ss):R2:=uF K
inductive uG(x:V)(y:V)(H:Hp)(Q:VK):Prop
 |mk (z:_) (i:_) (c:_) (zu:x=.str z) (zv:y=.int i) (An:z.length<=SM) (CD:atI z.cps.toList i=A? c) (DH:Q (.str ⟨#[c]⟩) H):uG  x y H Q
def xK:R2:=uG
theorem cw:IxR X (xA X.K):=by
 intro value slice Z s Y H x y v u Q I rx ry h hs;obtain⟨p,xs,i,z,rfl,rfl,hq,he,q⟩:=h;cases rx;obtain⟨t,rfl⟩:=ry;obtain⟨its,r,pl,hz⟩:=I.list hq;obtain⟨j,h1,h2,h3,h4,h5⟩:=mE he;obtain⟨w,ew,BS⟩:=r.get h2;have hl:=r.length;have hn:=fv;have fin:EP X Z Y Q w s:=⟨z,H,I,BS,q⟩;by_cases h0:0<=i
 .have hj:i.toNat=j:=by
   rw[seqIndex_of h0 h5]at h1;exact Tq h1
  exact item_listR pl.isList h0 (by lia) (by rw[hj];simpa using ew) fin hs
 .have hj:(i+(its.toArray.size:Int)).toNat=j:=by
   rw[seqIndex_neg (by lia) h4]at h1;rw[SF,<-hl];exact Tq h1
  exact subscriptTail_builtinR (x:=w) pl.isList.typeIs slot_list_getitem.lookup
   (wpAny_getItem_list_neg (Q:=λr s'=>r=w/\EP X Z Y Q r s') pl.isList (by lia) (by rw[SF] <;> lia) (by lia) (by rw[hj];simpa using ew) ⟨rfl,fin⟩) hs
theorem aq:IxR X (iQ X.K):=by
 intro value slice Z s Y H x y v u Q I rx ry h hs;obtain⟨p,xs,i,z,rfl,rfl,hq,he,q⟩:=h;cases rx;obtain⟨t,rfl⟩:=ry;obtain⟨its,r,pl,hz⟩:=I.tuple hq;obtain⟨j,h1,h2,h3,h4,h5⟩:=mE he;obtain⟨w,ew,BS⟩:=r.get h2;have hl:=r.length;have hn:=fv;have fin:EP X Z Y Q w s:=⟨z,H,I,BS,q⟩
 exact subscriptTail_builtinR (x:=w) pl.typeIs slot_tuple_getitem.lookup
  (getItem_tuple (j:=j) (Q:=λr s'=>r=w/\EP X Z Y Q r s') pl (by lia) (by lia) (by rw[SF,<-hl];exact h1) (by simpa using ew) ⟨rfl,fin⟩) hs
theorem rs:IxR X xK:=by
 intro value slice Z s Y H x y v u Q I rx ry h hs;obtain⟨z,i,c,rfl,rfl,hz,he,q⟩:=h;obtain⟨t,rfl⟩:=rx;obtain⟨t',rfl⟩:=ry;obtain⟨j,h1,h2,h3,h4,h5⟩:=mE he;have hl:z.cps.toList.length=z.length:=by simp[Str.length]
 rw[hl]at h1 h4 h5;have hn:=fv
 exact tail_any (typeIs_str s z t) slot_str_getitem.lookup (getItem_str (c:=c) (by
  have e1:decide (i < -(2 ^ 63:Int))=false:=Zb (by lia);have e2:decide (i >= 2 ^ 63)=false:=Zb (by lia);rw[e1,e2,Bool.or_false]) (by rw[h1];simpa using h2) ⟨.str ⟨#[c]⟩,H,I.tok _,⟨_,rfl⟩,q⟩) hs
theorem oW(its:List Sq)(n j:Nat)(u:Sq):UO (·.setIfInBounds j u) {cls:=.type "list",data:=.seq its.toArray n}={cls:=.type "list",data:=.seq (its.set j u).toArray n}:=by
 simp[UO]
theorem Inv.lst{p:So}(I:Inv X Z Y H s)(h:H p=A? (.lst xs)) :
 ∃(its:List Sq)(n:Nat),Vals xs its/\s.1.get? p=A? {cls:=.type "list",data:=.seq its.toArray n}/\xs.length<=SM:=by
 obtain⟨z,its,n,r,e⟩:=I.hok p _ h;exact⟨its,n,r,e,z⟩
theorem Inv.lstUpd{p:So}{ys:List V}{its':List Sq}{n':Nat}{f:UD->UD}(I:Inv X Z Y H s)(h:H p=A? (.lst xs))
 (ho:s.1.get? p=A? {cls:=.type "list",data:=.seq its.toArray n}) (hf:f {cls:=.type "list",data:=.seq its.toArray n}={cls:=.type "list",data:=.seq its'.toArray n'}) (r:Vals ys its') (hz:ys.length<=SM) (t:Nat) :
 Inv X Z Y (upd H p (.lst ys)) {s with heap:=s.1.update p f,toks:=t}:=by
 have e:(s.1.update p f).get? p=A? {cls:=.type "list",data:=.seq its'.toArray n'}:=by
  rw[T6 f ho (by rw[hf] <;> rfl),hf]
 refine I.write (x:=p) (e:=p) (by rw[h];trivial) (.inl rfl) (λb u hb q=>(T4 _ _ (UA hb)).trans q) ⟨_,e⟩ ?_;exact⟨hz,its',n',r,e⟩
def wu:V->V->V->Hp->(Hp->Prop)->Prop:=λo i v H Q=>∃p xs k j,o=.ref p/\i=.int k/\H p=A? (.lst xs)/\ixN xs.length k=A? j/\Q (upd H p (.lst (xs.set j v)))
theorem set_list:wy X wu:=by
 intro Z s Y H o i v ov iv u Q I ro ri rv h;obtain⟨p,xs,k,j,rfl,rfl,hp,hj,q⟩:=h;cases ro;obtain⟨t,rfl⟩:=ri;obtain⟨its,n,r,ho,hz⟩:=I.lst hp;obtain⟨h1,h2,h3,h4⟩:=mK hj;have hl:=r.length;have hn:=fv
 have I':Inv X Z Y (upd H p (.lst (xs.set j v))) {s with heap:=s.1.update p (UO (·.setIfInBounds j u))} :=
  I.lstUpd hp ho (oW its n j u) (r.set rv j) (by rw[List.length_set];exact hz) s.toks
 by_cases h0:0<=k
 .have hk:k.toNat=j:=by
   rw[seqIndex_of h0 h4]at h1;exact Tq h1
  exact PySem.W.ki_setAt ho h0 (by lia) (by rw[SF,<-hl];exact h4) (by rw[hk];exact⟨_,I',q⟩)
 .have hk:(k+(its.toArray.size:Int)).toNat=j:=by
   rw[seqIndex_neg (by lia) h3]at h1;rw[SF,<-hl];exact Tq h1
  exact PySem.W.ki_setBack ho (by lia) (by rw[SF,<-hl];exact h3) (by lia) (by rw[hk];exact⟨_,I',q⟩)
theorem mD(lo hi:Option Int)(n:Nat):(Wm lo hi Am n).1=((Yj n 0 lo:Nat):Int)/\(Wm lo hi Am n).2.1=((Yj n n hi:Nat):Int)/\(Wm lo hi Am n).2.2=1:=by
 refine⟨?_,?_,D?⟩
 .cases lo with
  |none=>simp[Wm,Yj]
  | some i =>
    simp only[Wm,Yj,Option.getD_none,show(1:Int) > 0 by decide,if_true];by_cases h:i<0
    .simp only[h,if_true] <;> lia
    .simp only[h,if_false] <;> lia
 .cases hi with
  |none=>simp[Wm,Yj]
  | some i =>
    simp only[Wm,Yj,Option.getD_none,show(1:Int) > 0 by decide,if_true];by_cases h:i<0
    .simp only[h,if_true] <;> lia
    .simp only[h,if_false] <;> lia
theorem lp(its:List Sq)(lo hi:Option Int):slicePick its.toArray lo hi Am=((its.drop (Yj its.length 0 lo)).take (Yj its.length its.length hi - Yj its.length 0 lo)).toArray:=by
 obtain⟨h1,h2,h3⟩:=mD lo hi its.toArray.size;unfold slicePick;rw[h1,h2,h3];simp only[sliceRange_one,pick_run,SF] <;> rfl
inductive uT(K:Ss)(x:V)(lo:Option Int)(hi:Option Int)(H:Hp)(Q:VK):Prop
 |mk (a:_) (xs:_) (zu:x=.ref a) (zv:SqL K H a xs) (An:∀p,H p=Am->Q (.ref p) (upd H p (.lst (cL xs lo hi)))):uT K x lo hi H Q
def xj(K:Ss):V->Option Int->Option Int->Hp->VK->Prop:=uT K
theorem f8:SlR X (xj X.K):=by
 intro Z s Y H x v vl vu lo hi sl Q I rx hs pl pu h;obtain⟨a,xs,rfl,hx,q⟩:=h;cases rx;obtain⟨its,r,ht,hz⟩:=I.list hx;have hlen:=r.length;refine⟨"list",_,slot_list_getitem.lookup,ht.isList.typeIs,?_⟩;refine wpAny_getItem_list_slice ht.isList hs pl pu .none (by simp) ?_ (by rw[SF] <;> lia);rw[lp,<-hlen];refine⟨.ref s.1.1.size,_,I.laid (t':=s.toks) (o:=.lst (cL xs lo hi)) (λb ob q=>Sy _ q) (Su _) ?_,D?,q _ (I.hok.fresh (Su _))⟩;exact⟨Td (fF xs lo hi) hz,_,0,(r.drop (Yj xs.length 0 lo)).take (Yj xs.length xs.length hi - Yj xs.length 0 lo),SO _ rfl⟩
inductive uZ(K:Ss)(xs:List V)(H:Hp)(Q:VK):Prop
 |mk (p:So) (ys:List V) (zu:xs=[.ref p]) (zv:SqL K H p ys\/SqT K H p ys) (An:Q (.int ys.length) H):uZ K xs H Q
theorem ar:eK X (.builtin "len") (uZ X.K):=by
 intro Z s Y H xs us Q I r h;obtain⟨p,ys,rfl,hq,q⟩:=h;obtain⟨u,rfl,rx⟩:=vals1 r;cases rx;have hn:=fv;rcases hq with hq|hq
 .obtain⟨its,r',pl,hz⟩:=I.list hq;have hlen:=r'.length;exact Calls.call_len_list pl.isList (by simp only[SF] <;> lia) ⟨.int ys.length,H,I.tok _,⟨s.toks+1,by rw[SF,hlen]⟩,q⟩
 .obtain⟨its,r',pl,hz⟩:=I.tuple hq;have hlen:=r'.length;exact len_tuple pl (by simp only[SF] <;> lia) ⟨.int ys.length,H,I.tok _,⟨s.toks+1,by rw[SF,hlen]⟩,q⟩
theorem gP:eK X (.builtin "len") (λxs H Q=>∃z,xs=[.str z]/\z.length<=SM/\Q (.int z.length) H):=by
 intro Z s Y H xs us Q I r h;obtain⟨z,rfl,hz,q⟩:=h;obtain⟨u,rfl,t,rfl⟩:=vals1 r;have hn:=fv;exact len_str (by lia) ⟨.int z.length,H,I.tok _,⟨_,rfl⟩,q⟩
theorem aL:eK X (.type "tuple") (λxs H Q=>∃p ys,xs=[.ref p]/\((SqL X.K H p ys/\∀l,H l=Am->Q (.ref l) (upd H l (.tup ys)))\/(SqT X.K H p ys/\Q (.ref p) H))):=by
 intro Z s Y H xs us Q I r h;obtain⟨p,ys,rfl,h⟩:=h;obtain⟨u,rfl,rx⟩:=vals1 r;cases rx;rcases h with⟨hq,q⟩|⟨hq,q⟩
 .obtain⟨its,r',pl,hz⟩:=I.list hq;have hlen:=r'.length;refine call_tuple_list pl.isList (λh' kp=>?_) (by simp only[SF] <;> lia);have I1:Inv X Z Y H {s with heap:=h'}:=I.kept (t':=s.toks) kp
  have I2:Inv X Z Y (upd H h'.objs.size (.tup ys)) {s with heap:=h'.push {cls:=.type "tuple",data:=.seq its.toArray}} :=
   I1.laid (t':=s.toks) (λb o e=>Sy _ e) (Su _) (show ObjOk X.prog X.w _ _ _ (.tup ys)from⟨hz,its,0,r',SO _ rfl⟩)
  exact⟨.ref h'.objs.size,_,I2,D?,q _ (I1.hok.fresh (Su _))⟩
 .obtain⟨its,r',pl,hz⟩:=I.tuple hq;exact call_tuple_same pl ⟨.ref p,H,I,rfl,q⟩
def tyV(K:Ss)(T:String)(x:V)(H:Hp):Prop:=match x with
 |.str _=>T="str"
 |.int _=>T="int"
 |.ref p=>(T="list"/\∃xs,SqL K H p xs)\/(T="tuple"/\∃o,K.lookup p=A? o/\o.cls=.type "tuple"/\o.dict=Am) \/
  (T="dict"/\((∃xP,H p=A? (.dK xP))\/∃xP,H p=A? (.dT xP)))\/(T="set"/\∃S n,H p=A? (.set S n))
 |_=>False
theorem si{T:String}{x:V}{v:Sq}(I:Inv X Z Y H s)(r:RelV x v)(ty:tyV X.K T x H) :
 s.TypeIs v T/\∀a,v=.ref a->∃ob,s.1.get? a=A? ob/\ob.dict=none:=by
 cases x with
 | str z =>
   obtain⟨t,rfl⟩:=r;cases(show T="str" from ty);exact⟨typeIs_str s z t,λ_ e=>nomatch e⟩
 | int i =>
   obtain⟨t,rfl⟩:=r;cases(show T="int" from ty);exact⟨typeIs_int s i t,λ_ e=>nomatch e⟩
 | ref p =>
   cases r;rcases ty with⟨rfl,xs,hq⟩|⟨rfl,o,hk,hc,hd⟩|⟨rfl,hk⟩|⟨rfl,S,n,hk⟩
   .obtain⟨its,_,pl,_⟩:=I.list hq;refine⟨pl.isList.typeIs,λa e=>?_⟩;cases e;obtain⟨o,n,e,c,hd,_⟩:=pl;exact⟨o,e,hd⟩
   .refine⟨⟨o,I.kIn p o hk,hc⟩,λa e=>?_⟩;cases e;exact⟨o,I.kIn _ o hk,hd⟩
   .have z:∃o,s.1.get? p=A? o/\o.ExactDict:=by
     rcases hk with⟨xP,hk⟩|⟨xP,hk⟩
     .obtain⟨_,_,_,_,o,_,_,e,ex,_⟩:=I.hok p _ hk;exact⟨o,e,ex⟩
     .obtain⟨_,_,_,_,o,_,_,e,ex,_⟩:=I.hok p _ hk;exact⟨o,e,ex⟩
    obtain⟨o,e,ex⟩:=z;refine⟨⟨o,e,ex.1⟩,λa e2=>?_⟩;cases e2;exact⟨o,e,ex.2.1⟩
   .obtain⟨o,_,_,_,e,ex,_⟩:=I.hok p _ hk;refine⟨⟨o,e,ex.1⟩,λa e2=>?_⟩;cases e2;exact⟨o,e,ex.2.1⟩
 |_=>exact TH ty
def wN(K:Ss)(T:String)(r:V->List V->Hp->VK->Prop)(to:TE):TE:=λY H Q=>to Y H λx H1=>tyV K T x H1/\r x [] H1 Q
def tBM(K:Ss)(T:String)(r:V->List V->Hp->VK->Prop)(to:TE)(t:TA):TE:=λY H Q=>to Y H λx H1=>tyV K T x H1/\t Y H1 λxs H2=>r x xs H2 Q
variable{o:TN}{to:TE}{t:TA}{apos yR:VX}{T id:String}{r:V->List V->Hp->VK->Prop}
theorem mB(pa:PlainAttrs T)(slot:Slot T name id)(J4:typeOf (.builtin id)=pure (.type "method_descriptor"))(hm:MtR X id r)(ho:PE X o to)
 (zx:attributeBase o name X.env (UZ o X.env)=UZ o X.env:=by rfl) (BU:(apos.endLine == yR.line)=true:=by rfl):PE X (.Call (.Attribute o name apos) [] [] yR) (wN X.K T r to):=by
 intro Z s Y H Q I h;refine wpAny_Call_method0_late zx BU (thn (ho Z s Y H _ I h) λv s1⟨x,H1,I1,r1,ty,q1⟩=>?_);obtain⟨h1,h2⟩:=si I1 r1 ty;exact⟨T,id,pa,slot,J4,h1,h2,Calls.callWith_builtin rfl (PySem.evalArgs_none (hm Z s1 Y H1 x [] v [] Q I1 r1 .nil q1))⟩
theorem bN(pa:PlainAttrs T)(slot:Slot T name id)(J4:typeOf (.builtin id)=pure (.type "method_descriptor"))(hm:MtR X id r)(ho:PE X o to)(ha:PA X (e::es) t)
 (zx:attributeBase o name X.env (UZ o X.env)=UZ o X.env:=by rfl)
 (J5:((Vr yR (Tr (e::es) X.env)).all (λx=>!x.1) && (backToKw yR (keywordEach [] X.env)).all (λx=>x.1.isSome)
  && decide ((e::es).length+([]:List Keyword).length+(if([]:List Keyword).isEmpty then 0 else 1)<30))=true:=by rfl)
 (BU:(apos.endLine == yR.line)=true:=by rfl) (hs:Tr (e::es) X.env=(C?,UZ e X.env)::Tr es X.env:=by rfl) (AX:(Vr yR (Tr es X.env)).any (·.1)=false:=by rfl) :
 PE X (.Call (.Attribute o name apos) (e::es) [] yR) (tBM X.K T r to t):=by
 intro Z s Y H Q I h;refine wpAny_Call_method_late zx J5 BU rfl (thn (ho Z s Y H _ I h) λv s1⟨x,H1,I1,r1,ty,q1⟩=>?_);obtain⟨h1,h2⟩:=si I1 r1 ty;refine⟨T,id,pa,slot,J4,h1,h2,?_⟩;have hA:=ha yR Z s1 Y H1 _ I1 q1;rw[hs]at hA |-;refine Calls.callWith_builtin (by show(C? ||(Vr yR (Tr es X.env)).any (·.1))=C?;rw[AX] <;> rfl) (Calls.evalArgs_plain ?_);exact thn hA λus s2⟨vs,H2,I2,r2,q2⟩=>hm Z s2 Y H2 x vs v us Q I2 r1 r2 q2
end
def MtM(X:Cx)(id:String)(r:V->List V->Hp->VK->Prop):Prop :=
 ∀(Z:List (So×UD))(s:Sr)(Y:St)(H:Hp)(x:V)(xs:List V)(v:Sq)(us:List Sq)(Q:VK),Inv X Z Y H s->RelV x v->Vals xs us->r x xs H Q ->
   SV (S7 X.prog X.w) X.A (call (.builtin id) (v::us)) (EP X Z Y Q) X.xe s
theorem Vals.one:∀{x:V}{us:List Sq},Vals [x] us->∃u,us=[u]/\RelV x u
 |_,_,.cons r .nil=>⟨_,rfl,r⟩
theorem Vals.zero:∀{us:List Sq},Vals [] us->us=[]
 |_,.nil=>rfl
theorem Vals.dropLast(h:Vals xs us):Vals xs.dropLast us.dropLast:=by
 induction h with
 |nil=>exact .nil
 | cons r t ih =>
   cases t with
   |nil=>exact .nil
   |cons q t'=>exact .cons r ih
theorem Vals.rep(h:Vals xs us):∀k:Nat,Vals (TJ k xs).flatten (TJ k us).flatten
 |0=>.nil
 | k+1=>by
   rw[UL,UL,Wy,Wy];exact Vals.append h (Vals.rep h k)
theorem pA(l:List α):l.eraseIdx (l.length - 1)=l.dropLast:=by
 induction l with
 |nil=>rfl
 | cons a r ih =>
   cases r with
   |nil=>rfl
   | cons b r =>
     have e:(a::b::r).length - 1=((b::r).length - 1)+1:=by
      have h1:(a::b::r).length=r.length+2:=rfl;have h2:(b::r).length=r.length+1:=rfl;lia
     rw[e,List.eraseIdx_cons_succ,ih]
     all_goals rfl
theorem foldl_rep(its:List Sq):∀(k:Nat)(acc:List Sq),
 List.foldl (λx1 x2=>x1++x2) acc.toArray (TJ k its.toArray)=(acc++(TJ k its).flatten).toArray
 |0,acc=>by simp
 | k+1,acc=>by
   have e:acc.toArray++its.toArray=(acc++its).toArray:=by simp
   have e2:(acc++its)++(TJ k its).flatten=acc++(TJ (k+1) its).flatten:=by
    rw[UL,Wy,Vq]
   rw[<-e2,<-foldl_rep its k (acc++its),<-e,UL,List.foldl_cons]
section
variable{X:Cx}{ys zs:List V}
theorem Inv.lset{its':List Sq}{f:Array Sq->Array Sq}(I:Inv X Z Y H s)(hH:H l=A? (.lst xs))
 (e:s.1.get? l=A? {cls:=.type "list",data:=.seq its.toArray n}) (hf:f its.toArray=its'.toArray) (hv:Vals ys its') (hz:ys.length<=SM) :
 Inv X Z Y (upd H l (.lst ys)) {s with heap:=s.1.update l (UO f),toks:=t'}:=by
 have q:=PySem.IsL.update e f;rw[hf]at q;refine I.write (x:=l) (e:=l) (by rw[hH];exact trivial) (.inl rfl) (λb' u hb hu=>(T4 s.1 (UO f) (UA hb)).trans hu) ⟨_,q⟩ ?_;exact⟨hz,its',_,hv,q⟩
theorem Inv.lnew(I:Inv X Z Y H s)(hv:Vals ys its)(hz:ys.length<=SM) :
 Inv X Z Y (upd H s.1.1.size (.lst ys)) {s with heap:=s.1.push {cls:=.type "list",data:=.seq its.toArray},toks:=t'} :=
 I.laid (λ_ _ q=>Sy _ q) (Su _) ⟨hz,its,0,hv,SO _ rfl⟩
theorem Inv.fresh(I:Inv X Z Y H s):H s.1.1.size=none:=I.hok.fresh (Su _)
theorem Inv.lstM(I:Inv X Z Y H s)(hH:H l=A? (.lst xs)):xs.length<=SM/\∃(its:List Sq)(n:Nat),Vals xs its/\xs.length=its.length/\s.1.get? l=A? {cls:=.type "list",data:=.seq its.toArray n}:=by
 obtain⟨z,its,n,r,e⟩:=I.hok l _ hH;exact⟨z,its,n,r,r.length,e⟩
theorem kU(h:n<=SM):UK n=false:=by
 unfold UK;exact Zb (by lia)
end
section
variable{X:Cx}
inductive nO(x:V)(vs:List V)(H:Hp)(Q:VK):Prop
 |mk (l:_) (xs:_) (y:_) (zu:x=.ref l) (zv:vs=[y]) (An:H l=A? (.lst xs)) (CD:xs.length<SM) (DH:Q .non (upd H l (.lst (xs++[y])))):nO  x vs H Q
def pD:V->List V->Hp->VK->Prop:=nO
theorem aM:MtM X "list.append" pD:=by
 intro Z s Y H x vs v us Q I rx rv h;obtain⟨l,xs,y,rfl,rfl,hH,hz,q⟩:=h;cases rx;obtain⟨u,rfl,ru⟩:=rv.one;obtain⟨z,its,n,r,hl,e⟩:=I.lstM hH;refine WI F.slot_list_append ⟨_,e,rfl⟩ F.entry_list_append (F.args_list_append_2 _ _) (PySem.list_append l its.toArray n u (by rw[SF];lia)) ⟨e,?_⟩;refine⟨.non,_,I.lset (its':=its++[u]) hH e (by simp) (r.append (.cons ru .nil)) ?_,D?,q⟩;rw[SD,List.length_singleton];lia
inductive oz(x:V)(vs:List V)(H:Hp)(Q:VK):Prop
 |mk (l:_) (b:_) (xs:_) (zs:_) (zu:x=.ref l) (zv:vs=[.ref b]) (An:H l=A? (.lst xs)) (CD:H b=A? (.lst zs)) (DH:xs.length+zs.length<=SM) (J6:Q .non (upd H l (.lst (xs++zs)))):oz  x vs H Q
def uB:V->List V->Hp->VK->Prop:=oz
theorem l8:MtM X "list.extend" uB:=by
 intro Z s Y H x vs v us Q I rx rv h;obtain⟨l,b,xs,zs,rfl,rfl,hH,hB,hz,q⟩:=h;cases rx;obtain⟨u,rfl,ru⟩:=rv.one;cases ru;obtain⟨z,its,n,r,hl,e⟩:=I.lstM hH;obtain⟨z2,xY,n2,r2,Bj,e2⟩:=I.lstM hB;have hsz:its.toArray.size+xY.toArray.size<=SM:=by rw[SF,SF];lia
 have Ap:¬(!its.toArray.isEmpty && UK (its.toArray.size+xY.toArray.size))=true:=by
  rw[kU hsz,Bool.and_false];exact SW
 refine WI F.slot_list_extend ⟨_,e,rfl⟩ F.entry_list_extend (F.args_list_extend_2 _ _)
  (AutoSeq1.list_extend_list_list_0 l its.toArray n b xY.toArray n2 Ap (by rw[SF];lia) (by lia)) ⟨e,e2,?_⟩
 refine⟨.non,_,I.lset (its':=its++xY) hH e (by simp) (r.append r2) ?_,D?,q⟩;rw[SD];lia
inductive uY(x:V)(vs:List V)(H:Hp)(Q:VK):Prop
 |mk (l:_) (xs:_) (y:_) (zu:x=.ref l) (zv:vs=[]) (An:H l=A? (.lst xs)) (CD:xs[xs.length - 1]?=A? y) (DH:Q y (upd H l (.lst xs.dropLast))):uY  x vs H Q
def wV:V->List V->Hp->VK->Prop:=uY
theorem mM:MtM X "list.pop" wV:=by
 intro Z s Y H x vs v us Q I rx rv h;obtain⟨l,xs,y,rfl,rfl,hH,hy,q⟩:=h;cases rx;have Es:=rv.zero;subst Es;obtain⟨z,its,n,r,hl,e⟩:=I.lstM hH;obtain⟨u,hu,ru⟩:=r.get hy
 have Aq:its.toArray[its.toArray.size - 1]?=A? u:=by
  show its.toArray[its.length - 1]?=A? u;rw[<-Xa,<-hl];exact hu
 refine WI F.slot_list_pop ⟨_,e,rfl⟩ F.entry_list_pop (F.args_list_pop_1 _) (MeetsSeq.list_pop_last l its.toArray n u Aq (by rw[SF];lia)) ⟨e,?_⟩;refine⟨y,_,I.lset (its':=its.dropLast) hH e ?_ r.dropLast ?_,ru,q⟩
 .show its.toArray.eraseIdxIfInBounds (its.toArray.size - 1)=its.dropLast.toArray;rw[SF,List.eraseIdxIfInBounds_toArray,pA]
 .rw[List.length_dropLast];lia
inductive uP(x:V)(y:V)(H:Hp)(Q:VK):Prop
 |mk (l:_) (b:_) (xs:_) (zs:_) (zu:x=.ref l) (zv:y=.ref b) (An:H l=A? (.lst xs)) (CD:H b=A? (.lst zs)) (DH:xs.length+zs.length<=SM) (J6:∀p,H p=Am->Q (.ref p) (upd H p (.lst (xs++zs)))):uP  x y H Q
def xc:R2:=uP
theorem i6:OpR X (Vt .Add) xc:=by
 intro Z s Y H x y v u Q I rx ry h;obtain⟨l,b,xs,zs,rfl,rfl,hH,hB,hz,q⟩:=h;cases rx;cases ry;obtain⟨z,its,n,r,hl,e⟩:=I.lstM hH;obtain⟨z2,xY,n2,r2,Bj,e2⟩:=I.lstM hB;refine PySem.P.add_list e e2 ?_ (by rw[SF,SF];lia);have ea:its.toArray++xY.toArray=(its++xY).toArray:=by simp
 rw[ea];exact⟨.ref _,_,I.lnew (t':=s.toks) (r.append r2) (by rw[SD];lia),D?,q _ I.fresh⟩
def xC:R2:=λx y H Q=>∃l k xs,x=.ref l/\y=.int k/\H l=A? (.lst xs)/\-(2 ^ 63)<=k/\k<2 ^ 63/\xs.length * k.toNat<=SM /\
 ∀p,H p=Am->Q (.ref p) (upd H p (.lst (TJ k.toNat xs).flatten))
theorem len_rep(xs:List α)(k:Nat):(TJ k xs).flatten.length=k * xs.length:=by
 induction k with
 |zero=>simp
 |succ k ih=>rw[UL,Wy,SD,ih,Nat.succ_mul,Nat.add_comm]
theorem vK:OpR X (Vt .Mult) xC:=by
 intro Z s Y H x y v u Q I rx ry h;obtain⟨l,k,xs,rfl,rfl,hH,h1,h2,hz,q⟩:=h;cases rx;obtain⟨t,rfl⟩:=ry;obtain⟨z,its,n,r,hl,e⟩:=I.lstM hH;have hlen:its.toArray.size * k.toNat<=SM:=by rw[SF,<-hl];exact hz
 have J7:¬its.toArray.size * k.toNat > (2 ^ 63 - 1) / 8:=by
  have:(SM:Nat)<=(2 ^ 63 - 1) / 8:=by decide
  lia
 have xU:¬(!Builtin.List.listFitsIndex k)=true:=by
  rw[fitsIndex_both h1 h2];exact SW
 have Ap:¬UK (its.toArray.size * k.toNat)=true:=by
  rw[kU hlen];exact SW
 have Et:List.foldl (λx1 x2=>x1++x2) #[] (TJ (if its.toArray.isEmpty=B? then 0 else k.toNat) its.toArray)=(TJ k.toNat its).flatten.toArray:=by
  have f0:∀m:Nat,List.foldl (λx1 x2=>x1++x2) #[] (TJ m its.toArray)=(TJ m its).flatten.toArray:=λm=>by
   have:=foldl_rep its m [];rw[WZ]at this;exact this
  rw[f0];cases its with
  |nil=>simp
  |cons a r'=>rw[Za (by simp)]
 refine wpAny_binaryOp_repeat_ref (T:="list") (U:="int") (by decide) ⟨_,e,rfl⟩ (λs'=>typeIs_int s' k t) noFill_list_mul F.fills_int_mul F.slot_int_rmul repeat_list F.slot_int_index.lookup
  (WI F.slot_int_rmul (typeIs_int s k t) F.entry_int_rmul (F.args_int_rmul_2 _ _) (int___rmul___int_list k t l its.toArray n)
   ⟨e,rfl,⟨_,e,rfl⟩,WI F.slot_list_mul ⟨_,e,rfl⟩ F.entry_list_mul (F.args_list_mul_2 _ _) (AutoListH.list___mul___list_int_3 l its.toArray n k t xU J7 Ap) ⟨e,?_⟩⟩)
 rw[Et];exact⟨.ref _,_,I.lnew (t':=s.toks) (r.rep k.toNat) (by rw[len_rep,Nat.mul_comm];exact hz),D?,q _ I.fresh⟩
end
section
variable{w:S0}
end
section
variable{X:Cx}
end
end L2
namespace Att
open PySem PySem.W PySem.Calls PyProof.Rows
theorem ints_of_wellAll{P:Params}:∀(ns:List Int)(vs:List Sq),WellAll P h vs (ns.map WData.int)->IntsAre vs ns:=by
 intro ns;induction ns with
 | nil =>
   intro vs w;rw[U3]at w;cases w;exact .nil
 | cons n ns ih =>
   intro vs w;rw[Tb]at w;cases w with
   | cons a b =>
     cases a;exact .cons _ _ (ih _ b)
theorem script_of{l:OpenLaw}(hn:l.most=A? n){P:Params}{args:List WData}{vals:List Sq}
 (zj:l.row.toRowW.claim.pre args=B?) (BV:WellAll P h vals args) :
 ∃a vs ns,vals=[TF a]/\args=[WData.list (ns.map WData.int)]/\h.get? a=A? {cls:=.type "list",data:=.seq vs.toArray}/\IntsAre vs ns/\ns.length<=n:=by
 have O6:WShape.hasAll [] args [.list .int]=true:=(pre_splitW zj).1;have hc:l.pre.holds [] {args:=args}=true:=(pre_splitW zj).2;obtain⟨d,r,rfl,h1,h2⟩:=hasAllW_cons O6;obtain rfl:=hasAllW_nil h2;obtain⟨xs,rfl,h3⟩:=hasW_list h1;obtain⟨ns,rfl⟩:=items_int h3
 have hlen:ns.length<=n:=by
  unfold OpenLaw.pre at hc
  have h4:(WTm.not (.lt (.lit (.int (n:Int))) (.len (.arg 0)))).holds [] {args:=[.list (ns.map .int)]}=true:=by
   have h4:=(holds_andW hc).1;rw[hn]at h4;exact h4
  have h5:=condW_of h4 (w_not (w_lt w_lit (w_len_list (w_arg rfl))));rw[Sl]at h5;refine Nat.le_of_not_lt λq=>?_;have q':(n:Int)<((ns.length:Nat):Int):=by lia
  first
   |(rw[Yc q']at h5;exact Yd h5 (by decide))
   |(simp at h5;lia)
 cases BV with
 | cons w1 w2 =>
   cases w2;cases w1 with
   |list ho xV=>exact⟨_,_,ns,D?,D?,ho,ints_of_wellAll ns _ xV,hlen⟩
theorem post_true(l:OpenLaw)(args:List WData):l.row.toRowW.claim.post args (.bool B?) args=B? :=
 postW_of (r:=l.row.toRowW) (X:=(B? == B?))
  (show WShape.has [] (.bool B?) .bool=B? by first|rfl|decide|simp[WShape.has,WShape.arms,WShape.armsAll])
  (show(WTm.eq .res (.lit (.bool B?))).value [] {args:=args,res:=A? (.bool B?),after:=args}=A? (.bool (B? == B?))from w_eq_bool (w_res rfl) w_lit) rfl
theorem attach_call{l:OpenLaw}{q:SH}{d:DefRec}
 (hn:l.most=A? n) (hdf:d.params.defaults=[])
 (call:∀(w:S0)(s₀ xT:Sr)(mg mb:SG->Option Sq)(fa:So)(o:UD)(pm cd doc:Sq)(a:So)(vs:List Sq)(ns:List Int),
  Ground q loose [] XP w s₀ mg mb xT.heap->YP w xT.heap ->
  xT.heap.get? fa=A? o->o.data=.func (docDef d.name d.params d.body d.scope pm cd doc)->xT.heap.CodeRec cd d.name->mg d.name=A? (.ref fa) ->
  xT.heap.get? a=A? {cls:=.type "list",data:=.seq vs.toArray}->IntsAre vs ns->ns.length<=n->xT.gens=#[] ->
  VA (S7 l.prog w) callerA (.call (.ref fa) ⟨[.ref a],[]⟩) (λr s'=>r=.ok (.ret (.bool B?))/\OldK xT.heap s'.1/\s'.os=xT.os/\Xz s'.gens) xT) :
 WalkO q loose XP YP l.row.toRowW d [] (λf vs=>PySem.call f vs):=by
 intro w s₀ xT mg mb G Y fa o pm cd doc dV kV ho hd y9 hD J8 hg args vals as zj O7 Jl BV Nm;obtain rfl:dV=.none:=Dflts.none hD hdf;obtain rfl:kV=.none:=Dflts.noKw hD;obtain⟨a,vs,ns,rfl,rfl,Eu,hints,hlen⟩:=script_of hn zj BV;refine enter_call (VN (call w s₀ xT mg mb fa o pm cd doc a vs ns G Y ho (fd_plain hd) y9 J8 Eu hints hlen hg) λr s' hq=>?_);obtain⟨rfl,h2,h3,h4⟩:=hq;exact⟨.inl ⟨.bool B?,.bool B?,[],D?,λ_=>rfl,.bool B?,post_true l _,λ_=>⟨List.Pairwise.nil,λ_ hm=>(nomatch hm)⟩⟩,h2,h3,h4⟩
section
variable{w:S0}{K:Frag}
end
end Att
namespace L2
open PySem PySem.Spec PyProof.Rows
theorem ma:∀{vs:List Sq}{ns:List Int},IntsAre vs ns->Vals (ns.map Yh) vs
 |_,_,.nil=>.nil
 |_,_,.cons n t h=>.cons ⟨t,rfl⟩ (ma h)
def inClass(s:Vj)(j:Nat):Vj:=match s with
 |.ClassDef _ _ _ body _ _ _ _ _ _ _=>body.getD j (.Pass ⟨0,0,0,0⟩)
 |_=>.Pass ⟨0,0,0,0⟩
def bS(s:Vj):U9:=match s with
 |.FunctionDef _ a _ _ _ _ _ _ _ _=>a
 |_=>{posonlyargs:=[],args:=[],vararg:=Am,kwonlyargs:=[],kw_defaults:=[],kwarg:=Am,defaults:=[]}
def bj(s:Vj):List Vj:=match s with
 |.FunctionDef _ _ b _ _ _ _ _ _ _=>b
 |_=>[]
def ay(s:Vj):Ub:=match s with
 |.FunctionDef _ _ _ _ _ _ sc _ _ _=>sc
 |_=>{kind:=.function,names:=[],isGenerator:=C?,isCoroutine:=C?}
abbrev CX0:CXT:=λ_ _ _ _ _ _=>False
abbrev E0:XK:=λ_ _ _=>False
theorem dw{X:Cx}:Passes CX0 X E0:=λ_ _ _ _ _ _ _ h=>h.elim
structure Fun(K:Ss)(x qual:SG)(st:Vj)(f:So)(fd:Uu):Prop where
 ex:∃(oc:Sq)(od:Option So)(kV doc pm:Sq)(an:Option So)(xX ct:Sq)(BH:Array (Option Sq)),
  fd=Vy x qual (bS st) (bj st) (ay st) .none kV doc pm an xX ct/\K.lookup f=A? ⟨oc,od,.func fd,BH⟩/\PySem.W.codeIn K xX qual=B?
 kp:UQ K (.ref f)=B?
section
variable{w:S0}
theorem Fun.ok{k:Nat}(F:Fun K x qual st f fd)(S:cU N ps (ay st))(len:∀vs H Q E,sp vs H Q E->vs.length=ps.length)
 (yj:∀(xX:Sq)(A:Ta)(outer:List Wf)(s:Sr)(H:Hp)(vs:List V)(Q:VK)(E:XK),Room k (A.deeper (Vd qual (ay st) s.1.1.size f xX))->sp vs H Q E ->
  ∃t,PSs (iI CX0 P w K mg base N qual (ay st) f xX A outer s H E).nox (bj st) t/\t {nx:=λ_ H'=>Q .non H',rt:=Q} (start N vs) H):FnOk P w K mg base CX0 (k+1) f fd ps sp:=by
 obtain⟨oc,od,kV,doc,pm,an,xX,ct,BH,rfl,lk,y9⟩:=F.ex;refine qg lk y9 S len λA outer s H vs Q E hr zc=>?_;obtain⟨t,h,q⟩:=yj xX A outer s H vs Q E hr zc;exact⟨t,h.nox,q⟩
theorem Fun.okA{k:Nat}(F:Fun K x qual st f fd)(S:cU N ps (ay st))
 (yj:∀(xX:Sq)(A:Ta)(outer:List Wf)(s:Sr)(H:Hp)(vs:List V)(Q:VK)(E:XK),Room k (A.deeper (Vd qual (ay st) s.1.1.size f xX))->sp vs H Q E ->
  ∃t,PSs (iI CX0 P w K mg base N qual (ay st) f xX A outer s H E).nox (bj st) t/\t {nx:=λ_ H'=>Q .non H',rt:=Q} (start N vs) H) (len:∀vs H Q E,sp vs H Q E->vs.length=ps.length:=by intro _ _ _ _ h;cases h;subst_vars;rfl):FnOk P w K mg base CX0 (k+1) f fd ps sp:=F.ok S len yj
theorem pgN{X:Cx}(i:Nat)(hN:X.N.Nodup)(hi:X.N[i]?=A? x:=by rfl)(hx:Loc X.env.scope x:=by first|exact .inl rfl|exact .inr rfl)(hf:X.fn x=B?\/X.env.scope.names.lookup x=A? .local:=by first|exact .inl rfl|exact .inr rfl|assumption):PG X (.Name x pos) (aE i):=uv hN hi hx hf
theorem ak{X:Cx}(i:Nat){pos':VX}(hN:X.N.Nodup)(he:PE X e te)(hi:X.N[i]?=A? x:=by rfl)(hx:Loc X.env.scope x:=by first|exact .inl rfl|exact .inr rfl)(hs:Xc e (A? (.Name x pos')) pos.line X.env=pure false:=by rfl)(hf:X.fn x=B?\/X.env.scope.names.lookup x=A? .local:=by first|exact .inl rfl|exact .inr rfl|assumption):PS X (.Assign [.Name x pos'] e pos) (nU te (aE i)):=vC hN hi hx he hs hf
theorem Fun.binds(F:Fun K x qual st f fd)
 (h:∀(kV doc pm:Sq)(an:Option So)(xX ct:Sq)(us:List Sq),us.length=ps.length->VT (Vy x qual (bS st) (bj st) (ay st) .none kV doc pm an xX ct) ⟨us,[]⟩=pure (ps.zip us)):Binds K fd ps []:=by
 obtain⟨oc,od,kV,doc,pm,an,xX,ct,BH,rfl,lk,y9⟩:=F.ex;exact .all (h kV doc pm an xX ct)
theorem km{an:Option So}{BH:Array (Option Sq)}{kV doc pm xX ct:Sq}(l:K.lookup f=A? ⟨oc,od,.func (Vy x qual (bS st) (bj st) (ay st) .none kV doc pm an xX ct),BH⟩)
 (c:PySem.W.codeIn K xX qual=B?) (k:UQ K (.ref f)=B?):Fun K x qual st f (Vy x qual (bS st) (bj st) (ay st) .none kV doc pm an xX ct):=⟨⟨oc,od,kV,doc,pm,an,xX,ct,BH,rfl,l,c⟩,k⟩
end
theorem nD{k:Nat}(hr:Room k A):A.units+1<Vo:=Wq (Nat.add_le_add_left (by decide:1<=64) _) hr.units
section
variable{X:Cx}
theorem pv(i:Nat)(hN:X.N[i]?=A? x:=by rfl)(hv:Vis X.env.scope x:=by first|exact WT rfl|exact Or.inr (WT rfl)|exact Or.inr (Or.inr rfl))(hd:(x == ("__debug__":SG))=false:=by decide)
 (y9:(x == ("__classdict__":SG))=false:=by decide):PE X (.Name x pos) (bC i):=sJ hN hv hd y9
end
theorem kN{A:Prop}(h:B):if C?=B? then A else B:=by
 rw[Za SW];exact h
theorem nt{A:Prop}(h:A):if B?=B? then A else B:=by
 rw[Yb rfl];exact h
theorem cK{c A:Prop}[Decidable c](h1:c->A)(h2:¬c->B):if c then A else B:=by
 by_cases h:c
 .rw[Yb h];exact h1 h
 .rw[Za h];exact h2 h
def Same(H H':Hp):Prop:=∀b o,H b=A? o->H' b=A? o
theorem Same.refl(H:Hp):Same H H:=λ_ _ h=>h
theorem Same.trans(a:Same H H1)(b:Same H1 H2):Same H H2:=λc o h=>b c o (a c o h)
theorem Same.free(e:Same H H')(h:H' l=Option.none):H l=Option.none:=by
 cases q:H l with
 |none=>rfl
 | some o =>
   rw[e l o q]at h;cases h
theorem Same.seq(e:Same H H')(h:SqL K H a xs):SqL K H' a xs:=by
 rcases h with(h|⟨o,h⟩)|h
 .exact .inl (.inl (e _ _ h))
 .exact .inl (.inr ⟨o,e _ _ h⟩)
 .exact .inr h
theorem gJ(env:Wf):∀(ns:List (SG×UR))(acc:List (SG×So)),(∀n,(n,TZ)∈ns->∃c,env.cells.lookup n=A? c) ->
 (∀x c,acc.lookup x=A? c->env.cells.lookup x=A? c) ->
 ∃cl,(forIn ns acc λ(x:SG×UR)(cs:List (SG×So))=>(if(x.2 == TZ)=B? then(do let a <-cellOf env x.1;pure (Uz ((x.1,a)::cs)))else pure (Uz cs):Sem _))=pure cl /\
   (∀x c,cl.lookup x=A? c->env.cells.lookup x=A? c)/\(∀n,(n,TZ)∈ns->∃c,cl.lookup n=A? c)/\∀n c,acc.lookup n=A? c->cl.lookup n=A? c
 | [],acc,_,ha=>⟨acc,rfl,ha,λ_ h=>by simp at h,λ_ _ h=>h⟩
 | (n,k)::r,acc,hf,ha=>by
   by_cases hk:k=TZ
   .subst hk;obtain⟨c,hc⟩:=hf n SU
    have GN:∀x c',((n,c)::acc).lookup x=A? c'->env.cells.lookup x=A? c':=λx c' e=>by
     rw[T8]at e;cases hx:x == n with
     | true =>
       rw[hx]at e;have e1:x=n:=by simpa using hx
       cases e;rw[e1];exact hc
     |false=>rw[hx]at e;exact ha x c' e
    obtain⟨cl,h1,h2,h3,h4⟩:=gJ env r ((n,c)::acc) (λm hm=>hf m (SN _ hm)) GN;have up:∀m c',((n,c)::acc).lookup m=A? c'->cl.lookup m=A? c':=h4;refine⟨cl,?_,h2,?_,?_⟩
    .rw[List.forIn_cons];have e0:cellOf env n=pure c:=by unfold cellOf;rw[hc]
     simp only[beq_self_eq_true,if_true,e0,pure_bind];exact h1
    .intro m hm;rcases SR.mp hm with e|e
     .have:m=n:=by simpa using(Prod.mk.inj e).1
      subst this;exact⟨c,up m c (by rw[T8];simp)⟩
     .exact h3 m e
    .intro m c' e;by_cases hm:m=n
     .subst hm;have:=ha m c' e;rw[hc]at this;cases this;exact up m c (by rw[T8];simp)
     .have O8:(m == n)=false:=by simpa using hm
      exact up m c' (by rw[T8,O8];exact e)
   .have hb:(k == TZ)=false:=by simpa using hk
    obtain⟨cl,h1,h2,h3,h4⟩:=gJ env r acc (λm hm=>hf m (SN _ hm)) ha;refine⟨cl,?_,h2,?_,h4⟩
    .rw[List.forIn_cons];simp only[hb,T1,if_false,pure_bind];exact h1
    .intro m hm;rcases SR.mp hm with e|e
     .exact Yd (Prod.mk.inj e).2.symm hk
     .exact h3 m e
theorem gL(hf:∀n,(n,TZ)∈sc.names->∃c,env.cells.lookup n=A? c) :
 ∃cl,closureFor sc env=pure cl/\(∀x c,cl.lookup x=A? c->env.cells.lookup x=A? c)/\∀n,(n,TZ)∈sc.names->∃c,cl.lookup n=A? c:=by
 obtain⟨cl,h1,h2,h3,_⟩:=gJ env sc.names [] hf (λx c e=>by simp at e);refine⟨cl,?_,h2,h3⟩;unfold closureFor;have e:(forIn sc.names ([]:List (SG×So)) λ(x:SG×UR)(cs:List (SG×So))=>(do if(x.2 == TZ)=B? then(do let a <-cellOf env x.1;pure (Uz ((x.1,a)::cs)))else pure (Uz cs):Sem _))=pure cl:=h1
 first
  |(rw[show(forIn sc.names ([]:List (SG×So)) _:Sem _)=pure cl from h1];rfl)
  |(simp only[h1,pure_bind])
theorem ku{f:SG×UR->SG×UR}(hf:∀p,(f p).1=p.1):∀{l:List (SG×UR)}{x:SG}{k:UR},l.lookup x=A? k->(l.map f).lookup x=A? (f (x,k)).2
 | [],_,_,h=>by simp at h
 | (n,k0)::r,x,k,h=>by
   have ih:=@ku f hf r x k;rw[Tb];obtain⟨a,b,e⟩:∃a b,f (n,k0)=(a,b):=⟨_,_,rfl⟩;have ea:a=n:=by have:=hf (n,k0);rw[e]at this;exact this
   subst ea;rw[e,T8];cases hx:x == a with
   | true =>
     rw[T8,hx]at h;cases h;have:x=a:=by simpa using hx
     subst this;rw[e]
   |false=>rw[T8,hx]at h;exact ih h
theorem ej{f:SG×UR->SG×UR}(hf:∀p,(f p).1=p.1):∀{l:List (SG×UR)}{x:SG}{k:UR},(l.map f).lookup x=A? k->∃k0,(x,k0)∈l/\(f (x,k0)).2=k
 | [],_,_,h=>by simp at h
 | (n,k0)::r,x,k,h=>by
   have ih:=@ej f hf r x k;rw[Tb]at h;obtain⟨a,b,e⟩:∃a b,f (n,k0)=(a,b):=⟨_,_,rfl⟩;have ea:a=n:=by have:=hf (n,k0);rw[e]at this;exact this
   subst ea;rw[e,T8]at h;cases hx:x == a with
   | true =>
     rw[hx]at h;cases h;have:x=a:=by simpa using hx
     subst this;exact⟨k0,SU,by rw[e]⟩
   | false =>
     rw[hx]at h;obtain⟨k1,h1,h2⟩:=ih h;exact⟨k1,SN _ h1,h2⟩
def rlb(env:Wf)(p:SG×UR):SG×UR:=if(p.2 == TZ && env.scope.kind == .function && env.kindOf p.1 == A? .cell)then(p.1,VV)else(p.1,p.2)
theorem mF(env:Wf)(p:SG×UR):(rlb env p).1=p.1:=by unfold rlb;split <;> rfl
theorem gq(sc:Ub)(env:Wf):(relabel sc env).names=sc.names.map (rlb env):=rfl
theorem gY(h:sc.names.lookup x=A? .free):(relabel sc env).names.lookup x=A? .cell\/(relabel sc env).names.lookup x=A? .free:=by
 rw[gq,ku (mF env) h];unfold rlb;split
 .exact .inl rfl
 .exact .inr rfl
theorem kO(hn:∀y∈sc.names,y.2≠VV)(h:(relabel sc env).names.lookup x=A? .cell\/(relabel sc env).names.lookup x=A? .free):(x,TZ)∈sc.names:=by
 rw[gq]at h
 have:∃k0,(x,k0)∈sc.names/\((rlb env (x,k0)).2=.cell\/(rlb env (x,k0)).2=.free):=by
  rcases h with h|h
  .obtain⟨k0,a,b⟩:=ej (mF env) h;exact⟨k0,a,.inl b⟩
  .obtain⟨k0,a,b⟩:=ej (mF env) h;exact⟨k0,a,.inr b⟩
 obtain⟨k0,hm,hk⟩:=this;have nc:=hn _ hm;cases k0 with
 |free=>exact hm
 |cell=>exact Yd rfl nc
 |_=>simp[rlb]at hk
def aS(X:Cx)(N:List SG)(sc:Ub)(cl:List (SG×So))(C:So)(s:Sr)(H:Hp)(fp:List So)(Z:List (So×UD)):Cx :=
 {X with N:=N,s₀:=s,H₀:=H,env:=compEnvC sc cl C X.env,outer:=X.stack,ex:=fp,fn:=λ_=>C?,pn:=X.pn++Z,xe:=λ_ _=>False}
def cσ(js:List (Option Nat))(Y:St):St:=js.map λo=>o.bind λj=>(Y[j]?).join
structure df(X:Cx)(sc:Ub)(N:List SG)(js:List (Option Nat)):Prop where
 kind:sc.kind=.function
 nocell:∀y∈sc.names,y.2≠VV
 names:∀y∈sc.names,y.2=NameKind.local->sc.names.lookup y.1=A? .local
 frees:∀y∈sc.names,y.2=TZ->X.env.kindOf y.1=A? .cell\/X.env.kindOf y.1=A? .free
 len:js.length=N.length
 slots:∀(i j:Nat)(x:SG),js[i]?=A? (A? j)->N[i]?=A? x->X.N[j]?=A? x/\sc.names.lookup x=A? .free/\(X.env.kindOf x=A? .cell\/X.env.kindOf x=A? .free)
theorem cF{X:Cx}(k:sc.kind=.function)(nc:∀y∈sc.names,y.2≠VV)(nm:∀y∈sc.names,y.2=NameKind.local->sc.names.lookup y.1=A? .local)
 (fr:(sc.names.all λy=>y.2 != TZ ||X.env.kindOf y.1 == A? VV ||X.env.kindOf y.1 == A? TZ)=B?) (ln:js.length=N.length)
 (sl:((js.zip N).all λp=>match p.1 with|none=>B?|some j=>X.N[j]? == A? p.2 && sc.names.lookup p.2 == A? TZ && (X.env.kindOf p.2 == A? VV ||X.env.kindOf p.2 == A? TZ))=B?):df X sc N js:=by
 refine⟨k,nc,nm,λy hy hf=>?_,ln,λi j x e1 e2=>?_⟩
 .have h:=V8.mp fr y hy;rw[hf]at h;simpa using h
 .have hm:(A? j,x)∈js.zip N:=by
   have:(js.zip N)[i]?=A? (A? j,x):=by rw[UB];exact⟨e1,e2⟩
   exact Sv this
  have h:=V8.mp sl _ hm;simp at h;exact⟨h.1.1,h.1.2,h.2⟩
def PTs(X:Cx)(ifs:List TN)(t:TT):Prop :=
 ∀(Z:List (So×UD))(s:Sr)(Y:St)(H:Hp)(Q:Bool->Hp->Prop),Inv X Z Y H s->t Y H Q ->
   SV (S7 X.prog X.w) X.A (forIn ifs B? λc r=>if r=B? then do let ok <-isTrue c X.env (UZ c X.env);pure (Uz ok)else pure (Uz r)) (TP X Z Y Q) X.xe s
def bv:TT:=λ_ H Q=>Q B? H
theorem bH{X:Cx}:PTs X [] bv:=λ_ _ _ H _ I h=>wpAny_tests_nil ⟨H,I,h⟩
theorem jJ{X:Cx}{c:TN}{t:TT}(h:PT X c t):PTs X [c] t:=λZ s Y H Q I q=>wpAny_tests_one (h Z s Y H Q I q)
def Keep(Y xS:St):Prop:=Y.length=xS.length/\∀(i:Nat)(v:V),Y[i]?=A? (A? v)->xS[i]?=A? (A? v)
def lu(js:List (Option Nat))(g:TG):Prop:=∀(Y yt:St)(x:V)(H:Hp)(Q:St->Hp->Prop),Keep (cσ js Y) yt->g x yt H Q->g x yt H λyL H2=>Keep (cσ js Y) yL/\Q yL H2
theorem Keep.refl(Y:St):Keep Y Y:=⟨rfl,λ_ _ h=>h⟩
theorem tM{i:Nat}(h:js[i]?=A? Am):(cσ js Y)[i]?=A? none:=by
 unfold cσ;rw[Sx,h];rfl
theorem bf{i:Nat}(h:js[i]?=A? Am):lu js (aE i):=λY yt x H Q k q=>by
 refine⟨⟨by rw[List.length_set];exact k.1,λj v e=>?_⟩,q⟩;by_cases hj:i=j
 .subst hj;rw[tM h]at e;cases e
 .rw[Xi hj];exact k.2 j v e
def fC(js:List (Option Nat))(g:TG)(tt:TT)(te:TE)(Y:St)(J:It)(D:So)(n:Nat)(W:Nat->Hp->Prop)(fin:Hp->Prop):Prop :=
 ∀i H,W i H->(J.stop i H/\fin H)\/(i<n/\J.go i H/\∀x H1,J.yld i H x H1->g x (cσ js Y) H1 λyL H2=>tt yL H2 λb H3 =>
   if b=B? then te yL H3 λv H4=>∃ys,H4 D=A? (.lst ys)/\ys.length<SM/\W (i+1) (upd H4 D (.lst (ys++[v])))else W (i+1) H3)
def qS(js:List (Option Nat))(wi:TI)(g:TG)(tt:TT)(te:TE):TE:=λY H Q=>wi Y H λJ H1=>∀D,H1 D=Am ->
 ∃(n:Nat)(W:Nat->Hp->Prop),W 0 (upd H1 D (.lst []))/\fC js g tt te Y J D n W λH'=>Q (.ref D) H'
section
variable{X:Cx}
theorem nR(S:df X sc N js)(I:Inv X Z Y H s)
 (yw:∀x c,cl.lookup x=A? c->X.env.cells.lookup x=A? c) (Ar:∀n,(n,TZ)∈sc.names->∃c,cl.lookup n=A? c)
 (hf:∀b∈fp,gh X Z H b) (yb:∀b∈fp,b<s.1.1.size) (Bt:h1.Ns s.1.1.size λx=>U4 x ([]:List (SG×Sq)))
 (zO:∀b o,s.1.get? b=A? o->h1.get? b=A? o) :
 Inv (aS X N sc cl s.1.1.size s H fp Z) [] (cσ js Y) H {s with heap:=h1,toks:=t'}:=by
 have hok:(aS X N sc cl s.1.1.size s H fp Z).Ok :=
  { mod:=I.ok.mod
    kind:=S.kind
    glob:=I.ok.glob
    blt:=I.ok.blt
    above:=Su _
    inj:=λx y c a b=>I.ok.inj x y c (yw x c a) (yw y c b)
    has:=λx h=>Ar x (kO S.nocell h)
    cab:=λx c h=>by cases h
    hd:=I.ok.hd
    frames:=I.ok.frames
    stk:=.inl rfl
    exf:=λb hb=>⟨λe=>Yd (yb b hb) (by rw[e];exact Tx _),λx c e z=>(hf b hb).2.2.2.2.1 x c (yw x c e) z⟩
    bs:=I.bs
    bsz:=Td I.ok.bsz I.sz
    noex:=λb o e hb=>by
     rcases(hf b hb).2.2.2.1 with h|h
     .exact I.ok.noex b o e h
     .exact Yd (SY (SY (SS e) I.ok.bsz) h) (Tx _)
    exfs:=λb hb hm=>by
     rcases SR.mp (I.stkSub b hm)with e|e
     .exact(hf b hb).2.1 e
     .exact(hf b hb).2.2.1 e
    funs:=I.stack
    frf:=I.stkFree }
 have hC:H s.1.1.size=none:=I.hok.fresh (Su _);obtain⟨m0,RB,Jm⟩:=I.loc
 exact
  { ok:=hok
    os:=rfl
    bare:=I.bare
    base:=Un.kept zO
    loc:=⟨_,Bt,λi x v e1 e2 RC=>by
     have J9:∃j,js[i]?=A? (A? j)/\Y[j]?=A? (A? v):=by
      unfold cσ at e2;rw[Sx]at e2;cases q:js[i]? with
      |none=>rw[q]at e2;cases e2
      | some o =>
        rw[q]at e2;cases o with
        |none=>cases e2
        | some j =>
          refine⟨j,D?,?_⟩;have e3:(Y[j]?).join=A? v:=Tq e2;cases r:Y[j]? with
          |none=>rw[r]at e3;cases e3
          |some z=>rw[r]at e3;exact Zd A? e3
     obtain⟨j,q1,q2⟩:=J9;obtain⟨n1,n2,n3⟩:=S.slots i j x q1 e1;obtain⟨u,ru,look⟩:=Jm j x v n1 q2 (by rcases n3 with z|z;exact .inr (.inl z);exact .inr (.inr z));refine⟨u,ru,.inr ⟨gY n2,?_⟩⟩;have hm:(x,TZ)∈sc.names:=kO (env:=X.env) S.nocell (gY n2);obtain⟨c,hc⟩:=Ar x hm;refine⟨c,hc,?_⟩;rcases look with⟨k1,_⟩|⟨_,c',yC,ic⟩
     .rcases n3 with z|z <;> (rw[k1]at z;cases z)
     .have:=yw x c hc;rw[yC]at this;cases this;exact ic.keeps zO⟩
    cell:=λx c e=>by
     obtain⟨v,q⟩:=I.cell x c (yw x c e);exact⟨v,q.keeps zO⟩
    free:=hC
    freeC:=λx c e=>I.freeC x c (yw x c e)
    pin:=λp hp=>by
     have Bu:p∈X.pn++Z:=by simpa[aS]using hp
     obtain⟨a1,a2,a3,a4,a5⟩:=I.pin p Bu;refine⟨zO _ _ a1,a2,λe=>?_,λhm=>?_,a5⟩
     .have e':p.1=s.1.1.size:=e;exact Yd (SS a1) (by rw[e'];exact Tx _)
     .rcases SR.mp (I.stkSub p.1 hm)with e|e
      .exact a3 e
      .exact a4 e
    hok:=I.hok.kept zO
    len:=by
     show(cσ js Y).length=N.length;unfold cσ;rw[Sl];exact S.len }
theorem qz{w:S0}{R:Result->Sr->Prop}{target:TN}{it:Sq}(J:Nat->Sr->Prop)
 (turn:∀n s,J n s->SV (S7 prog w) A (Wv it) (λr xT=>(r=Am/\R (.ok .next) xT)\/∃v,r=A? v /\
  SV (S7 prog w) A (Ww target it v) (λ_ y2=>SV (S7 prog w) A (assign target env v) (λ_ zk =>
   SV (S7 prog w) A (forIn ifs B? λc r=>if r=B? then do let ok <-isTrue c env (UZ c env);pure (Uz ok)else pure (Uz r)) (λok zy =>
    (ok=C?/\∃m,m<n/\J m zy)\/(ok=B?/\SV (S7 prog w) A (UZ elt env) (λx BW=>SV (S7 prog w) A (call (.builtin "list.append") [acc,x]) (λ_ BX=>∃m,m<n/\J m BX) (λ_ _=>False) BW) (λ_ _=>False) zy))
    (λ_ _=>False) zk) (λ_ _=>False) y2) (λ_ _=>False) xT) (λ_ _=>False) s)
 (n:Nat) (h:J n s):VA (S7 prog w) A (.compLoop (.ListComp elt [⟨target,iter,ifs,0⟩] scope pos) 0 it acc env) R s:=by
 refine codeAny_loop rfl J (λn s hJ=>?_) n h;show SV _ A ((compTurn (.ListComp elt [⟨target,iter,ifs,0⟩] scope pos) 0 it acc env).onRaise _) _ _ s;refine wpAny_noted ?_;rw[compTurn_list];have up:∀{α:Type}{m:Sem α}{Q:α->Sr->Prop}{E:Sq->Sr->Prop}{s:Sr},SV (S7 prog w) A m Q (λ_ _=>False) s->SV (S7 prog w) A m Q E s:=λq=>TQ q (λ_ _ z=>z) λ_ _ z=>z.elim;refine Sm (wpAny_standAt (Sm (TQ (up (turn n s hJ)) (λr xT x9=>?_) λ_ _ z=>z)));rcases x9 with⟨rfl,x9⟩|⟨v,rfl,x9⟩
 .exact Sw x9
 .refine Sm (TQ (up x9) (λ_ y2 AY=>?_) λ_ _ z=>z);refine Sm (TQ (up AY) (λ_ zk BY=>?_) λ_ _ z=>z);refine Sm (TQ (up BY) (λok zy zz=>?_) λ_ _ z=>z);rcases zz with⟨rfl,zz⟩|⟨rfl,zz⟩
  .exact Sw ⟨rfl,zz⟩
  .exact Sm (Sm (TQ (up zz) (λx BW Ew=>Sm (TQ (up Ew) (λ_ BX Ex=>Sw (Sw ⟨rfl,Ex⟩)) λ_ _ z=>z)) λ_ _ z=>z))
theorem kY{g:TG}{tn:Nat->TL->Prop}{W:Nat->Hp->Prop}{fin:Hp->Prop}
 {R:Sq->So->Result->Sr->Prop} (hc:X.calm=B?) (S:df X sc N js) (I:Inv X Z Y H s) (T:Turn X.prog X.w X.K tg J fp it tn) (st:tn 0 s.1) (hf:∀b∈fp,gh X Z H b)
 (yw:∀x c,cl.lookup x=A? c->X.env.cells.lookup x=A? c) (Ar:∀n,(n,TZ)∈sc.names->∃c,cl.lookup n=A? c)
 (hg:∀cl C s H fp Z,PG (aS X N sc cl C s H fp Z) tg g) (gk:lu js g) (ht:∀cl C s H fp Z,PTs (aS X N sc cl C s H fp Z) ifs tt) (he:∀cl C s H fp Z,PE (aS X N sc cl C s H fp Z) elt te)
 (w0:W 0 (upd H s.1.1.size (.lst []))) (turn:fC js g tt te Y J s.1.1.size n W fin)
 (hR:∀C H' s',C≠X.env.locals->s.1.1.size<C->(∃m,s'.1.Ns C m)->H' C=Am->(∀h' t',Um C s'.1 h'->Inv X Z Y H' {s' with heap:=h',toks:=t'})->fin H'->R (.ref s.1.1.size) C (.ok .next) s') :
 SV (S7 X.prog X.w) X.A (newList []) (λacc zk=>SV (S7 X.prog X.w) X.A (XC sc X.env.globals cl [] X.env.qual Am .none (A? X.env)) (λzd zy =>
  VA (S7 X.prog X.w) X.A (.compStart (.ListComp elt [⟨tg,iter,ifs,0⟩] sc pos) 0 (.ref it) acc {zd with scope:=relabel sc X.env}) (R acc zd.locals) zy) E zk) E s:=by
 refine TV (XA S.nocell (by intro y hy;simp at hy) (λx9 yS yT=>?_) S.kind);dsimp only at yS yT |-;have I3:Inv X Z Y (upd H s.1.1.size (.lst [])) {s with heap:=s.1.push {cls:=.type "list",dict:=Am,data:=.seq ([]:List Sq).toArray}}:=I.lnew (t':=s.toks) (its:=[]) .nil (by decide)
 have yb:∀b∈fp,b<s.1.1.size:=λb hb=>by
  obtain⟨o,ho,_⟩:=T.obj _ _ st b hb;exact SS ho
 have Au:∀b o,s.1.get? b=A? o->(s.1.push {cls:=.type "list",dict:=Am,data:=.seq ([]:List Sq).toArray}).get? b=A? o:=λb o e=>Sy _ e;have hsz:(s.1.push {cls:=.type "list",dict:=Am,data:=.seq ([]:List Sq).toArray}).objs.size=s.1.1.size+1:=VF ..;generalize GO:({s with heap:=s.1.push {cls:=.type "list",dict:=Am,data:=.seq ([]:List Sq).toArray}}:Sr)=s3 at I3;have BZ:s.1.push {cls:=.type "list",dict:=Am,data:=.seq ([]:List Sq).toArray}=s3.1:=by rw[<-GO]
 rw[BZ]at yS yT Au hsz;rw[BZ];have J':∀t',({s with heap:=x9,toks:=t'}:Sr)={s3 with heap:=x9,toks:=t'}:=λt'=>by rw[<-GO]
 rw[J'];have zO:∀b o,s3.1.get? b=A? o->x9.get? b=A? o:=λb o e=>yT.extBut b o (Ti (SS e)) (Sy _ e);have CF:∀b∈fp,gh X Z (upd H s.1.1.size (.lst [])) b:=λb hb=>⟨by rw[aj (Ti (yb b hb))];exact(hf b hb).1,(hf b hb).2⟩;have I4:=nR (t':=s.toks+([]:List (SG×Sq)).length) S I3 yw Ar CF (λb hb=>by rw[hsz];exact Wx (yb b hb)) yS zO;generalize O9:upd H s.1.1.size (.lst [])=H3 at I3 I4 CF w0;have yy:tn 0 x9:=T.keep _ _ _ st λb hb o e=>zO _ _ (Au _ _ e)
 have zw:∀{H':Hp},(∀b∈fp,H' b=Am)->∀b∈fp,gh (aS X N sc cl s3.1.1.size s3 H3 fp Z) [] H' b:=λ{H'}hn b hb=>by
  obtain⟨f0,f1,f2,f3,f4,f5⟩:=hf b hb;refine⟨hn b hb,λe=>?_,λhm=>?_,.inl hb,λx c e=>f4 x c (yw x c e),λp hp=>f5 p (by simpa[aS]using hp)⟩
  .have e':b=s3.1.1.size:=e;have h9:b<s.1.1.size:=yb b hb;rw[e',hsz]at h9;exact Yd h9 (Nat.not_lt.mpr (Nat.le_succ _))
  .rcases SR.mp (I.stkSub b hm)with e|e
   .exact f1 e
   .exact f2 e
 have loop:VA (S7 X.prog X.w) X.A (.compLoop (.ListComp elt [⟨tg,iter,ifs,0⟩] sc pos) 0 (.ref it) (.ref s.1.1.size) (compEnvC sc cl s3.1.1.size X.env)) (R (.ref s.1.1.size) s3.1.1.size)
  {s3 with heap:=x9,toks:=s.toks+([]:List (SG×Sq)).length}:=by
  refine qz (λk s'=>∃i H',Inv (aS X N sc cl s3.1.1.size s3 H3 fp Z) [] (cσ js Y) H' s'/\tn i s'.1/\(∀b∈fp,H' b=Am)/\W i H'/\k=n - i) ?_ n ⟨0,H3,I4,yy,λb hb=>(CF b hb).1,w0,rfl⟩;rintro k s5 ⟨i,H5,I5,BP,Ep,w5,rfl⟩;rcases turn i H5 w5 with⟨stop,qn⟩|⟨Bl,go,step⟩
  .refine thn (T.done (aS X N sc cl s3.1.1.size s3 H3 fp Z) rfl rfl rfl hc i [] s5 (cσ js Y) H5 _ I5 (zw Ep) BP stop) λr s6⟨hr,I6⟩=>.inl ⟨hr,?_⟩;have I7:Inv X Z Y H5 s6:=I3.call' (ch:=fp) (I6.os.trans rfl) I6.base I6.hok I6.bare λb hb=>⟨(hf b hb).2.2.2.1,(hf b hb).2.1,(hf b hb).2.2.2.2.1,(hf b hb).2.2.2.2.2⟩;have GP:H5 s3.1.1.size=none:=I6.free;have GQ:s3.1.1.size≠X.env.locals:=WU I3.lt;obtain⟨m6,Ka,_⟩:=I6.loc;refine hR s3.1.1.size H5 s6 GQ (by lia) ⟨m6,Ka⟩ GP (λh' t' sb=>?_) qn;refine I7.turned (it:=s3.1.1.size) (λb o hb e=>sb.extBut b o hb e) GP GQ (.inr I3.sz) (λx c e z=>?_) λp hp z=>?_
   .obtain⟨v,q⟩:=I3.cell x c e;exact Yd q.lt (by rw[z];exact Tx _)
   .exact Yd (SS (I3.pin p hp).1) (by rw[z];exact Tx _)
  .refine thn (T.item (aS X N sc cl s3.1.1.size s3 H3 fp Z) rfl rfl rfl hc i [] s5 (cσ js Y) H5 _ I5 (zw Ep) BP go) λr s6⟨u,hr,h6⟩=>.inr ⟨u,hr,?_⟩;refine thn h6 λ_ s7⟨x,H7,I7,r7,y7,Ey,Kb⟩=>?_;have Kc:=I7.pinned (zw Kb) (T.obj _ _ Ey);refine thn (hg cl s3.1.1.size s3 H3 fp Z _ s7 (cσ js Y) H7 x u _ Kc r7 (gk Y (cσ js Y) x H7 _ (.refl _) (step x H7 y7))) λ_ s8⟨AZ,H8,I8,k8,q8⟩=>?_;refine thn (ht cl s3.1.1.size s3 H3 fp Z _ s8 AZ H8 _ I8 q8) λok s9⟨H9,I9,q9⟩=>?_
   have again:∀{s':Sr}{xS:St}{H':Hp},Keep (cσ js Y) xS->Inv (aS X N sc cl s3.1.1.size s3 H3 fp Z) ([]++iV fp s7.1) xS H' s'->W (i+1) H'->∃m,m<n - i/\∃i H',Inv (aS X N sc cl s3.1.1.size s3 H3 fp Z) [] (cσ js Y) H' s'/\tn i s'.1/\(∀b∈fp,H' b=Am)/\W i H'/\m=n - i:=λ{s' xS H'}kp I' w'=>by
    refine⟨n - (i+1),by lia,i+1,H',(I'.unpinned).weak kp.1 kp.2,T.keep _ _ _ Ey λb hb o e=>(I'.pin (b,o) (S3 _ (S3 _ (dj hb e)))).1,λb hb=>?_,w',D?⟩;obtain⟨o,e,d⟩:=T.obj _ _ Ey b hb;exact(I'.pin (b,o) (S3 _ (S3 _ (dj hb e)))).2.1
   cases ok with
   | false =>
     refine .inl ⟨rfl,again k8 I9 ?_⟩;have GR:if C?=B? then _ else W (i+1) H9:=q9
     rw[Za SW]at GR;exact GR
   | true =>
     refine .inr ⟨rfl,?_⟩;rw[Yb rfl]at q9;refine thn (he cl s3.1.1.size s3 H3 fp Z _ s9 AZ H9 _ I9 q9) λvv Bv⟨v,Ez,Kd,rv,ys,hD,Ke,Kf⟩=>?_;refine thn (aM _ Bv AZ Ez (.ref s.1.1.size) [v] (.ref s.1.1.size) [vv] (λ_ H'=>W (i+1) H') Kd rfl (.cons rv .nil) ⟨_,ys,v,rfl,rfl,hD,Ke,Kf⟩) λ_ GS⟨_,DI,Kg,_,Kh⟩=>?_;exact again k8 Kg Kh
 exact codeAny_compStart_list loop (T.self X.A 0 _ _ _ yy loop)
theorem cz{g:TG}(hc:X.calm=B?)(S:df X sc N js)(hi:PI X tg iter wi)
 (hg:∀cl C s H fp Z,PG (aS X N sc cl C s H fp Z) tg g) (gk:lu js g) (ht:∀cl C s H fp Z,PTs (aS X N sc cl C s H fp Z) ifs tt) (he:∀cl C s H fp Z,PE (aS X N sc cl C s H fp Z) elt te)
 (hs:∀x,WV iter X.env x=pure x:=by intro _;rfl):PE X (.ListComp elt [⟨tg,iter,ifs,0⟩] sc pos) (qS js wi g tt te):=by
 intro Z s Y H Q I h;obtain⟨cl,e1,e2,e3⟩:=gL (env:=X.env) (sc:=sc) λn hn=>I.ok.has n (S.frees _ hn rfl);rw[eval_ListComp];refine W5 (use:=Am) rfl hs e1 S.kind S.names (thn (hi Z s Y H _ I h) λv s1 h1=>thn h1 λGG s2 h2=>?_);obtain⟨it,fp,tn,J,H2,rfl,I2,T,En,f2,R2⟩:=h2;obtain⟨n,W,w0,turn⟩:=R2 s2.1.1.size I2.fresh;refine kY (R:=λacc C=>compPost (S7 X.prog X.w) X.A X.xe Am (EP X Z Y Q) acc C) hc S I2 T En f2 e2 e3 hg gk ht he w0 turn λC H' s' _ _ hn _ inv fi=>?_;obtain⟨m,hm⟩:=hn;exact⟨m,hm,λh' sb=>⟨.ref s2.1.1.size,H',inv h' s'.toks sb,D?,fi⟩⟩
theorem gf{i:Nat}{y:SG}{GU py:VX}{g:TG}(hN:X.N.Nodup)(hy:X.N[i]?=A? y)(Pa:Loc X.env.scope y)(hc:X.calm=B?)(S:df X sc N js)(hi:PI X tg iter wi)
 (hg:∀cl C s H fp Z,PG (aS X N sc cl C s H fp Z) tg g) (gk:lu js g) (ht:∀cl C s H fp Z,PTs (aS X N sc cl C s H fp Z) ifs tt) (he:∀cl C s H fp Z,PE (aS X N sc cl C s H fp Z) elt te)
 (Jn:Xc (.ListComp elt [⟨tg,iter,ifs,0⟩] sc pos) (A? (.Name y py)) GU.line X.env=pure true:=by rfl)
 (hs:∀x,WV iter X.env x=pure x:=by intro _;rfl) (hf:X.fn y=B?\/X.env.scope.names.lookup y=A? .local:=by first|exact .inl rfl|exact .inr rfl|assumption) :
 PS X (.Assign [.Name y py] (.ListComp elt [⟨tg,iter,ifs,0⟩] sc pos) GU) (nU (qS js wi g tt te) (aE i)):=by
 intro Z s Y H D I h;obtain⟨cl,e1,e2,e3⟩:=gL (env:=X.env) (sc:=sc) λn hn=>I.ok.has n (S.frees _ hn rfl);rw[exec_Assign_Name_used _ _ _ _ Jn];refine Sm (wpAny_standAt (Sm ?_));show SV _ X.A (do let _ <-comprehension (.ListComp elt [⟨tg,iter,ifs,0⟩] sc pos) sc X.env _ (newList []) C? (UZ iter X.env) (A? (assign (.Name y py) X.env))) _ _ s;refine Sm (TQ (W5 (use:=A? (assign (.Name y py) X.env)) (Q:=λ_ s'=>SP X Z D .next s') rfl hs e1 S.kind S.names (thn (hi Z s Y H _ I h) λv s1 h1=>thn h1 λGG s2 h2=>?_)) (λ_ s' hq=>Sw (Sw hq)) λ_ _ z=>z);obtain⟨it,fp,tn,J,H2,rfl,I2,T,En,f2,R2⟩:=h2;obtain⟨n,W,w0,turn⟩:=R2 s2.1.1.size I2.fresh;refine kY (R:=λacc C=>compPost (S7 X.prog X.w) X.A X.xe (A? (assign (.Name y py) X.env)) (λ_ s'=>SP X Z D .next s') acc C) hc S I2 T En f2 e2 e3 hg gk ht he w0 turn λC H' s' Nn hC hn Ki inv fi=>?_;obtain⟨m,hm⟩:=hn
 have I5:Inv X Z Y H' s':=by
  have q:=inv s'.1 s'.toks (.refl ..);exact q
 refine wpAny_assign_Name (lM (v:=.ref s2.1.1.size) I5 hN hy Pa rfl (λs6 I6⟨a,sb,ha⟩=>?_) hf)
 have Pb:C≠a:=by
  rcases ha with ha|ha
  .rw[ha];exact Nn
  .intro z;obtain⟨v,q⟩:=I2.cell y a ha;exact Yd (XI q.lt hC) (by rw[z];exact Tx _)
 refine⟨m,hm.sameBut sb Pb,λh' Pd=>⟨_,H',I6.turned (it:=C) (t':=s6.toks) (λb o hb e=>Pd.extBut b o hb e) Ki Nn (.inr (Td I2.sz (U1 hC))) (λx c e z=>?_) λp hp z=>?_,fi⟩⟩
 .obtain⟨v,q⟩:=I2.cell x c e;exact Yd (XI q.lt hC) (by rw[z];exact Tx _)
 .exact Yd (XI (SS (I2.pin p hp).1) hC) (by rw[z];exact Tx _)
end
def jC{α:Type}(xs:List α)(lo hi:Option Int):List α:=(xs.drop (Yj xs.length 0 lo)).take (Yj xs.length xs.length hi - Yj xs.length 0 lo)
def cM(z:SG)(lo hi:Option Int):SG:=⟨(jC z.cps.toList lo hi).toArray⟩
theorem rH(xs:List α)(a n:Nat):((UE n).map λ(k:Nat)=>a+k).filterMap (xs[·]?)=(xs.drop a).take n:=by
 induction n with
 |zero=>simp
 | succ n ih =>
   rw[List.range_succ,SI,V4,ih,Ui];congr 1;rw[List.getElem?_drop];cases h:xs[a+n]? <;> simp[h]
theorem qB(n d:Nat)(i:Int):max 0 (min (if i<0 then i+(n:Int)else i) (n:Int))=((Yj n d (A? i):Nat):Int):=by
 show max 0 (min (if i<0 then i+(n:Int)else i) (n:Int))=(((if i<0 then(i+(n:Int)).toNat else min i.toNat n):Nat):Int);by_cases h:i<0
 .rw[Yb h,Yb h];lia
 .rw[Za h,Za h];lia
theorem rL(A B:Int)(a b:Nat)(hA:A=(a:Int))(hB:B=(b:Int)):sliceRange A B 1=(UE (b - a)).map λ(k:Nat)=>a+k:=by
 subst hA;subst hB;unfold sliceRange;simp only[show(1:Int) > 0 by decide,if_true]
 have c:(if(a:Int)<(b:Int)then((b:Int) - a+1 - 1) / 1 else 0).toNat=b - a:=by
  split
  .rw[Int.ediv_one];lia
  .lia
 rw[c];refine Ux λk _=>?_;lia
theorem pR(lo hi:Option Int)(n:Nat):WG lo hi 1 n=(UE (Yj n n hi - Yj n 0 lo)).map λ(k:Nat)=>Yj n 0 lo+k:=by
 unfold WG;simp only[show(1:Int) > 0 by decide,if_true];cases lo <;> cases hi <;> refine rL _ _ _ _ ?_ ?_ <;> first|rfl|exact qB _ _ _
theorem fX(z:SG)(lo hi:Option Int):(cM z lo hi).length<=z.length:=by
 show(jC z.cps.toList lo hi).toArray.size<=z.cps.size;unfold jC;rw[SF,S9,Tz,SX];lia
theorem lm(x:SG)(t:Tok)(l u:Option (Int×Tok))(hz:x.length<=SM)(h:∀t' k,Q (.str (cM x (l.map (·.1)) (u.map (·.1))) t') {s with toks:=k}):(sliceMade x t l u Am).post Q s:=by
 have e:(XB x l u Am).filterMap (x.cps[·]?)=jC x.cps.toList (l.map (·.1)) (u.map (·.1)):=by
  unfold XB jC;show(WG (l.map (·.1)) (u.map (·.1)) 1 x.length).filterMap (x.cps[·]?)=_;rw[pR,show(x.cps[·]?)=(x.cps.toList[·]?)from funext λi=>(Xa ..).symm,rH,SX];rfl
 unfold sliceMade;split
 .rename_i hc
  have hl:(XB x l u Am).length=x.length:=by
   have:=(WR _ _ ▸ hc).2;simpa using this
  have hw:cM x (l.map (·.1)) (u.map (·.1))=x:=by
   have e2:(jC x.cps.toList (l.map (·.1)) (u.map (·.1)))=x.cps.toList:=by
    have hp:XB x l u Am=(UE (Yj x.length x.length (u.map (·.1)) - Yj x.length 0 (l.map (·.1)))).map λ(k:Nat)=>Yj x.length 0 (l.map (·.1))+k:=pR _ _ _;rw[hp,Sl,List.length_range]at hl;have b1:=HT.sIx_le x.length x.length (Su _) (u.map (·.1));have hx:x.cps.toList.length=x.length:=SX;unfold jC;rw[hx,hl];have EA:Yj x.length 0 (l.map (·.1))=0\/x.length=0:=by lia
    rcases EA with h0|h0
    .rw[h0,US,TC (by rw[hx];exact Su _)]
    .have:x.cps.toList=[]:=Uj.mp (by rw[hx];exact h0);rw[this];simp
   unfold cM;rw[e2]
  have:=h t s.toks;rw[hw]at this;exact this
 .show(⟨((XB x l u Am).filterMap (x.cps[·]?)).toArray⟩:SG).length<=SM/\Q _ _;rw[e];exact⟨Td (fX x _ _) hz,h s.toks (s.toks+1)⟩
section
variable{X:Cx}
inductive uM(x:V)(lo:Option Int)(hi:Option Int)(H:Hp)(Q:VK):Prop
 |mk (z:_) (zu:x=.str z) (zv:z.length<=SM) (An:Q (.str (cM z lo hi)) H):uM  x lo hi H Q
def xq:V->Option Int->Option Int->Hp->VK->Prop:=uM
theorem part_of{v:Sq}{o:Option Int}(h:Xq v o):∃l:Option (Int×Tok),v=partValue l/\l.map (·.1)=o:=by
 cases h with
 |none=>exact⟨Am,D?,D?⟩
 |int i t=>exact⟨A? (i,t),D?,D?⟩
theorem mw:SlR X xq:=by
 intro Z s Y H x v vl vu lo hi sl Q I rx hs pl pu h;obtain⟨z,rfl,hz,q⟩:=h;obtain⟨t,rfl⟩:=rx;obtain⟨l,rfl,rfl⟩:=part_of pl;obtain⟨u,rfl,rfl⟩:=part_of pu;refine⟨"str",_,F.slot_str_getitem.lookup,typeIs_str s z t,wpAny_getItem_str_slice (l:=l) (u:=u) (st:=Am) ?_ rfl (lm z t l u hz λt' k=>?_)⟩
 .obtain⟨o,ho,hc,hd⟩:=hs;exact⟨o,ho,hc,hd⟩
 .exact⟨.str (cM z (l.map (·.1)) (u.map (·.1))),H,I.tok k,⟨_,D?⟩,q⟩
theorem qZ(hc:X.calm=B?):eK X (.builtin "sum") (λxs H Q=>∃(p:So)(ns:List Int),xs=[.ref p]/\SqL X.K H p (ns.map Yh)/\Q (.int ns.sum) H):=by
 intro Z s Y H xs us Q I r h;obtain⟨p,ns,rfl,hl,q⟩:=h;obtain⟨u,rfl,rx⟩:=vals1 r;cases rx;obtain⟨its,rv,pl,_⟩:=I.list hl;have hi:=intsAre_of rv;obtain⟨ys,e⟩:=(hi.allInts).items;have zi:s.1.IsList p (intItems ys):=by rw[<-e];exact pl.isList
 refine sum_intListG (I.ok.hd hc) zi λh' tk t' hk=>?_
 have e3:preSum (numAt ys) ys.size=ns.sum:=by
  rw[preSum_eq,TC (by simp),<-nums_intItems,<-e];show(numsOf its).sum=_;rw[hi.numsOf]
 rw[e3];exact⟨.int ns.sum,H,I.kept hk,⟨_,D?⟩,q⟩
theorem lU(hc:X.calm=B?):eK X (.builtin "max") (λxs H Q=>∃(p:So)(ns:List Int),xs=[.ref p]/\SqL X.K H p (ns.map Yh)/\ns≠[]/\∀M,M∈ns->(∀a,a∈ns->a<=M)->Q (.int M) H):=by
 intro Z s Y H xs us Q I r h;obtain⟨p,ns,rfl,hl,yU,q⟩:=h;obtain⟨u,rfl,rx⟩:=vals1 r;cases rx;obtain⟨its,rv,pl,_⟩:=I.list hl;have hi:=intsAre_of rv;have hlen:=hi.length;obtain⟨ys,e⟩:=(hi.allInts).items;have zi:s.1.IsList p (intItems ys):=by rw[<-e];exact pl.isList
 have hn:ys.toList.map (·.1)=ns:=by rw[<-nums_intItems,<-e];exact hi.numsOf
 have hsz:0<ys.size:=by
  have:ns.length=ys.size:=by rw[<-hn];simp
  have:=List.length_pos_iff.mpr yU;lia
 refine max_intList (I.ok.hd hc) zi hsz λv h' tk hv hk=>?_;obtain⟨t,rfl⟩:=intItems_at hv;obtain⟨h1,h2⟩:=argBest_gt (numAt ys) (ys.size - 1);refine⟨.int _,H,I.kept hk,⟨_,D?⟩,q _ ?_ λa ha=>?_⟩
 .rw[numAt_eq,<-hn];exact getD_mem (by rw[Sl,SX];lia)
 .rw[<-hn]at ha;obtain⟨j,hj,rfl⟩:=mem_getD ha;rw[Sl,SX]at hj;rw[<-numAt_eq];exact h2 j (by lia)
end
end L2
open L2 renaming Same->Zf
namespace PySem
namespace F
theorem bb_owner_rev:Manifest.owners.lookup (String.ofList ['d','e','s','r','e','v','e','r'].reverse)=A? Manifest.sig_reversed:=by kernel_rfl
theorem bb_slot_rev_next:Slot "reversed" "__next__" "reversed.__next__" :=
 .of (owner:="reversed") (n:="__next__") (by rw[Xr,Wi];kernel_rfl) (by decide +kernel) (by decide +kernel) (by decide +kernel)
  (by first|exact .inl (by decide +kernel)|exact .inr (by decide +kernel)) (by rw[Wd];kernel_rfl)
theorem bb_entry_rev_next:entryFor table "reversed.__next__"=A? VY.«reversed.__next__»:=entryFor_of_tree (by kernel_rfl)
theorem bb_args_rev_next(a:Sq):argsOk "reversed.__next__" ⟨[a],[]⟩:=by
 unfold argsOk;rw[signature?_of (id:="reversed.__next__") (n:=['_','_','t','x','e','n','_','_']) (o:=['d','e','s','r','e','v','e','r']) (by kernel_rfl) bb_owner_rev];kernel_rfl
theorem bb_slot_rev_iter:Slot "reversed" "__iter__" "reversed.__iter__" :=
 .of (owner:="reversed") (n:="__iter__") (by rw[Xr,Wi];kernel_rfl) (by decide +kernel) (by decide +kernel) (by decide +kernel)
  (by first|exact .inl (by decide +kernel)|exact .inr (by decide +kernel)) (by rw[Wd];kernel_rfl)
theorem bb_args_rev_iter(a:Sq):argsOk "reversed.__iter__" ⟨[a],[]⟩:=by
 unfold argsOk;rw[signature?_of (id:="reversed.__iter__") (n:=['_','_','r','e','t','i','_','_']) (o:=['d','e','s','r','e','v','e','r']) (by kernel_rfl) bb_owner_rev];kernel_rfl
theorem bb_entry_rev_iter:entryFor table "reversed.__iter__"=A? VY.«dict_keyiterator.__iter__» :=
 entryFor_alias (id':="dict_keyiterator.__iter__") (by kernel_rfl) (by first|rfl|decide +kernel|(unfold String.splitOn;simp +decide [String.splitOnAux])) (by decide +kernel) (by kernel_rfl)
theorem bb_tuple_norev:typeLookup (.type "tuple") "__reversed__"=pure none:=by rw[Xr,Wi];kernel_rfl
theorem bb_sub_rev_rev:isSubtype (.type "reversed") (.type "reversed")=pure true:=by rw[Wd];kernel_rfl
theorem bb_sub_tuple_dict:isSubtype (.type "tuple") (.type "dict")=pure false:=by rw[Wd];kernel_rfl
end F
open Sem (wp)
section
variable{w:S0}
theorem bb_slot_rev_init:Slot "reversed" "__init__" "object.__init__" :=
 .of (owner:="object") (n:="__init__") (by rw[Xr,Wi];kernel_rfl) (by decide +kernel) (by decide +kernel) (by decide +kernel)
  (by first|exact .inl (by decide +kernel)|exact .inr (by decide +kernel)) (by rw[Wd];kernel_rfl)
theorem bb_called_rev:TypeCalled "reversed" "reversed.__new__" "object.__init__" :=
 ⟨by decide +kernel,by decide +kernel,⟨_,_,F.mro_reversed⟩,F.made_reversed,by decide +kernel,F.bb_sub_rev_rev,bb_slot_rev_init⟩
def revTup(t:So)(i:Int):UD:={cls:=.type "reversed",data:=.fields #[.ref t,Vi i]}
theorem bb_meets_rev_tuple(t:So)(items:Array Sq)(hz:(items.size:Int)<2 ^ 63) :
 Meets (VY.«reversed.__new__» ⟨[.type "reversed",.ref t],[]⟩) (λ_ R s=>Xw s.1 t items/\∀tk,R (.ok (.ret (.ref s.1.1.size))) {s with heap:=s.1.push (revTup t ((items.size:Int) - 1)),toks:=tk}):=by
 refine .of_wp λprog w A R s h=>?_;obtain⟨ht,h⟩:=h;unfold VY.«reversed.__new__»;refine Sm (Wl (newClass_reversed _) ?_)
 try dsimp only
 refine Sm (Wl (a:=()) (by first|rfl|kernel_rfl) ?_);refine Sm (Wl (a:=()) (by first|rfl|kernel_rfl) ?_)
 try dsimp only
 refine Sm (U7 ht.typeIs F.bb_tuple_norev ?_)
 try dsimp only
 have RD:=F.bb_sub_tuple_dict;have RE:=To.lookup;have hT:s.TypeIs (.ref t) "tuple":=ht.typeIs
 wp_walk using PyProof.Rows.len_tuple ht hz,Wb hT
 exact⟨_,D?,h _⟩
theorem bb_call_rev_tuple{t:So}(ht:Xw s.1 t items)(hz:(items.size:Int)<2 ^ 63)
 (h:∀tk,Q (.ref s.1.1.size) {s with heap:=s.1.push (revTup t ((items.size:Int) - 1)),toks:=tk}):SV (S7 prog w) A (call (.type "reversed") [.ref t]) Q E s :=
 callType_new bb_called_rev (by decide) (F.typeCall_reversed_1 _) (F.newCall_reversed_1 _) (λobj=>F.args_object_init_2 obj _) F.entry_reversed_new (bb_meets_rev_tuple t items hz)
  ⟨ht,λtk=>⟨⟨_,SO _ rfl,rfl⟩,h tk⟩⟩
def IsRevT(h:TL)(a t:So)(i:Int):Prop:=∃o,h.get? a=A? o/\o.cls=.type "reversed"/\o.data=.fields #[.ref t,Vi i]
theorem IsRevT.typeIs{t:So}{i:Int}(x:IsRevT s.1 a t i):s.TypeIs (.ref a) "reversed":=let⟨o,ho,hc,_⟩:=x;⟨o,ho,hc⟩
theorem IsRevT.at{t:So}{i:Int}(x:IsRevT h a t i)(e:∀o,h.get? a=A? o->h'.get? a=A? o):IsRevT h' a t i:=let⟨o,ho,r⟩:=x;⟨o,e _ ho,r⟩
theorem bb_rev_iter{t:So}{i:Int}(hit:IsRevT s.1 it t i)(h:Q (.ref it) s):SV (S7 prog w) A (pyIter (.ref it)) Q E s:=by
 refine wpAny_pyIter_slot hit.typeIs F.bb_slot_rev_iter (Up F.bb_slot_rev_iter hit.typeIs F.bb_entry_rev_iter ?_ (F.bb_args_rev_iter _));show SV _ _ (ret (.ref it)) _ _ s;exact Sw ⟨_,rfl,"reversed",_,hit.typeIs,F.bb_slot_rev_next.lookup,h⟩
theorem bb_rev_next{t:So}{i:Nat}{x:Sq}{Q:Option Sq->Sr->Prop}(hit:IsRevT s.1 it t (i:Int))(ht:Xw s.1 t items)(hx:items[i]?=A? x)(hz:(items.size:Int)<2 ^ 63)
 (hQ:∀h' tk,IsRevT h' it t ((i:Int) - 1)->Um it s.1 h'->Q (A? x) {s with heap:=h',toks:=tk}):SV (S7 prog w) A (Wv (.ref it)) Q E s:=by
 obtain⟨o,ho,hc,hd⟩:=id hit;have hi:i<items.size:=(Uv.mp hx).1;unfold Wv
 refine Sm (W6 (Ue (name:=SE "__next__") hit.typeIs F.bb_slot_rev_next
  (Up F.bb_slot_rev_next hit.typeIs F.bb_entry_rev_next ?_ (F.bb_args_rev_next _))))
 unfold VY.«reversed.__next__»;refine Sm (Wl (a:=(TF it,[])) rfl ?_)
 try dsimp only
 refine Sm (Uo ho hd (x:=.ref t) rfl ?_);refine Sm (Uo ho hd (x:=Vi (i:Int)) rfl ?_);show SV _ _ (if(i:Int)<0 then _ else _) _ _ s;rw[Za (by lia)];refine Sm (U7 ht.typeIs To.lookup ?_)
 try dsimp only
 rw[Za (by decide)];refine Sm (m:=mkInt (i:Int)) (wpAny_mkInt ?_);refine Sm (W6 (PyProof.Rows.getItem_tuple (j:=i) (x:=x) ht (by lia) (by lia) ?_ hx ?_))
 .refine(L2.mK (n:=items.size) (i:=(i:Int)) (j:=i) ?_).1;unfold L2.ixN;rw[Yb (by lia),Yb (by lia)];simp
 .try dsimp only
  refine Sm (Uo ho hd (x:=Vi (i:Int)) rfl ?_)
  try dsimp only
  refine Sm (VB ho hd (by simp) ?_);refine Sw ⟨x,rfl,Sw (hQ _ _ ?_ (Vh ..))⟩;exact⟨_,T6 _ ho (Wj (UJ hd _)),(Obj.cls_mapFields ..).trans hc,by rw[UJ hd];simp⟩
theorem bb_rev_end{t:So}{Q:Option Sq->Sr->Prop}(hh:A.handled=Am)(hit:IsRevT s.1 it t (-1))
 (hQ:∀h' tk,Heap.ExtBut it s.1 h'->Q Am {s with heap:=h',toks:=tk}):SV (S7 prog w) A (Wv (.ref it)) Q E s:=by
 obtain⟨o,ho,hc,hd⟩:=id hit;unfold Wv
 refine Sm (W6 (Ue (name:=SE "__next__") hit.typeIs F.bb_slot_rev_next
  (Up F.bb_slot_rev_next hit.typeIs F.bb_entry_rev_next ?_ (F.bb_args_rev_next _))))
 unfold VY.«reversed.__next__»;refine Sm (Wl (a:=(TF it,[])) rfl ?_)
 try dsimp only
 refine Sm (Uo ho hd (x:=.ref t) rfl ?_);refine Sm (Uo ho hd (x:=Vi (-1)) rfl ?_);show SV _ _ (if(-1:Int)<0 then _ else _) _ _ s;rw[Yb (by decide)];refine Sm (Xk ?_);refine Sm ?_
 wp_delta
 refine Sm (VB ho hd (by simp) ?_);have CW:=T6 (W8 (·.setIfInBounds 1 (Vi (-1)))) ho (Wj (UJ hd _));refine VB CW (UJ hd _) (by simp) ?_;refine Sm ?_
 wp_delta
 refine Sm ?_;simp only[newExc,newTuple];refine Sm (TV ?_ (by size_fits));refine Sm (m:=XD _ _) (Wl (a:=Ud) (by first|rfl|(simp only[XD];rfl)) ?_);refine TV ?_ (by size_fits);simp only[raiseNew];refine Sm (wpAny_handled ?_)
 first|rw[show A.in1.handled=Am from hh]|rw[hh]
 refine Sm (Sw (wpAny_throw ?_));refine Sm (Wk (T:="StopIteration") (b:=B?) ⟨_,SO _ rfl,rfl⟩ isSubtype_stop ?_);refine Sw (hQ _ _ ?_);refine Heap.ExtBut.push (Heap.ExtBut.push ?_ _) _;intro b o' hb e;rw[T4 _ _ (UA hb),T4 _ _ (UA hb)];exact e
end
end PySem
namespace L2
open PySem PySem.Spec PyProof.Rows
section
variable{X:Cx}{p p2 A9:VX}
def Itv(K:Ss)(a:So)(n:Nat):It:=⟨λi H=>i<n/\∃xs,SqL K H a xs/\xs.length=n,λi H x H'=>H'=H/\∀xs,SqL K H a xs->xs[n - 1 - i]?=A? x,λi _=>i=n⟩
theorem rW{w:S0}(a it:So)(n:Nat):Turn P w K tg (Itv K a n) [it] it (λi h=>h.IsRevIter it a ((n:Int) - 1 - (i:Nat))) where
 mem:=by simp
 obj:=λi h st b hb=>by
  have e:b=it:=by simpa using hb
  subst e;obtain⟨o,e,c,d⟩:=st;exact⟨o,e,λv z=>by rw[d]at z;cases z⟩
 keep:=λi h h' st k=>st.at λo e=>k it (by simp) o e
 item:=by
  intro X hP hw hK hc i Z s Y H E I hf st hg;subst hP hw hK;obtain⟨hi,xs,hq,hx⟩:=hg;obtain⟨its,rv,p,hz⟩:=I.list hq;have hl:=rv.length;obtain⟨x,yf⟩:∃x,xs[n - 1 - i]?=A? x:=⟨_,Sn (by lia)⟩;obtain⟨u,hu,ru⟩:=rv.get yf;obtain⟨f0,f1,f2,f3,f4,f5⟩:=hf it (by simp);have e1:(n:Int) - 1 - (i:Nat)=((n - 1 - i:Nat):Int):=by lia
  rw[e1]at st;refine wpAny_pyNext_rev_item st p.isList (x:=u) (by simpa using hu) λh' Ah sb=>?_;have I1:Inv X Z Y H {s with heap:=h'}:=I.turned (t':=s.toks) (λb o hb e=>(sb.2 b hb).trans e) f0 f1 f3 f4 f5;have e2:((n - 1 - i:Nat):Int) - 1=(n:Int) - 1 - ((i+1:Nat):Int):=by lia
  rw[e2]at Ah;obtain⟨o,e,c,d⟩:=id Ah;exact⟨u,D?,nw (s:={s with heap:=h'}) e c d (by decide) ⟨x,H,I1,ru,⟨D?,λys hy=>by rw[I.list_inj hy hq];exact yf⟩,Ah,λb hb=>(hf b hb).1⟩⟩
 done:=by
  intro X hP hw hK hc i Z s Y H E I hf st hg;subst hP hw hK;have Kj:i=n:=hg;subst Kj;obtain⟨f0,f1,f2,f3,f4,f5⟩:=hf it (by simp);rw[show(i:Int) - 1 - (i:Nat)=-1 by lia]at st;exact wpAny_pyNext_rev_end (I.ok.hd hc) st λh' eb=>⟨rfl,I.turned (t':=s.toks) (λb o hb e=>eb b o hb e) f0 f1 f3 f4 f5⟩
 self:=λ_ _ _ _ _ st h=>wpAny_pyIter_revIter st h
def xw(K:Ss)(tl:TE):TI:=λY H R=>tl Y H λx H1=>∃a xs,x=.ref a/\SqL K H1 a xs/\R (Itv K a xs.length) H1
theorem vo(g2:Gl X "reversed")(m2:X.mg "reversed"=Am)(he:PE X e te)(h2:Tr [e] X.env=[(C?,UZ e X.env)]:=by rfl):PI X tg (.Call (.Name "reversed" p2) [e] [] A9) (xw X.K te):=by
 intro Z s Y H R I h;refine Ug (kg I g2 m2 boot_reversed (Vp ?_ h2 rfl));rw[h2];show SV _ _ (spliced ((C?,UZ e X.env)::[])) _ _ s;refine WQ (thn (he Z s Y H _ I h) λu s1⟨x,H1,I1,r1,a,ys,ex,hq,q⟩=>W3 ?_);subst ex;cases r1;obtain⟨its,rv,p,hz⟩:=I1.list hq;have hl:=rv.length;refine call_reversed_list p.isList ?_
 have hit:(s1.1.push (revObj a ((its.toArray.size:Int) - 1))).IsRevIter s1.1.1.size a ((ys.length:Int) - 1 - ((0:Nat):Int)):=by
  rw[hl,show(its.length:Int) - 1 - ((0:Nat):Int)=(its.toArray.size:Int) - 1 by rw[SF];lia];exact⟨_,SO _ rfl,D?,D?⟩
 refine wpAny_pyIter_revIter (s:={s1 with heap:=s1.1.push (revObj a ((its.toArray.size:Int) - 1))}) hit ?_;refine⟨s1.1.1.size,[s1.1.1.size],_,_,H1,D?,I1.kept (t':=s1.toks) λb o e=>Sy _ e,rW a _ ys.length,hit,λb hb=>?_,q⟩;have e:b=s1.1.1.size:=by simpa using hb
 subst e;exact I1.fpOk (Su _) (I1.hok.fresh (Su _))
theorem tW{g:TG}(Pv:Nat->St->Hp->Prop)(h0:Pv 0 Y H)(hl:∀i Y H,i<=xs.length->Pv i Y H->SqL K H a xs)
 (hs:∀i x Y H,i<xs.length->xs[xs.length - 1 - i]?=A? x->Pv i Y H->g x Y H λyL H2=>tb {D with nx:=Pv (i+1),ct:=Pv (i+1),bk:=D.nx} yL H2) (hd:∀Y H,Pv xs.length Y H->D.nx Y H) :
 ∃W:Nat->Nat->St->Hp->Prop,(∃m,W 0 m Y H)/\∀i m Y H,W i m Y H ->
   ((Itv K a xs.length).stop i H/\D.nx Y H)\/((Itv K a xs.length).go i H/\∃N:St->Hp->Prop,(∀xS H',N xS H'->∃m',m'<m/\W (i+1) m' xS H')/\∀x H',(Itv K a xs.length).yld i H x H'->g x Y H' λyL H2=>tb {D with nx:=N,ct:=N,bk:=D.nx} yL H2):=by
 refine⟨λi m Y H=>i<=xs.length/\m=xs.length - i/\Pv i Y H,⟨xs.length,Tn _,D?,h0⟩,?_⟩;rintro i m Y H ⟨hi,rfl,p⟩;by_cases h:i=xs.length
 .left;exact⟨h,hd Y H (by rw[<-h];exact p)⟩
 .right;have zY:i<xs.length:=by lia
  refine⟨⟨zY,xs,hl i Y H hi p,D?⟩,Pv (i+1),λxS H' q=>⟨xs.length - (i+1),by lia,by lia,D?,q⟩,?_⟩;rintro x H' ⟨rfl,hx⟩;exact hs i x Y H' zY (hx xs (hl i Y H' hi p)) p
end
end L2
namespace BB
open PySem L2
set_option genInjectivity true in
inductive Th where
 |knot (n:SG) (ks:List Th)
 |call (s k:Int)
def q:SG:=SE "?"
def Th.kids:Th->List Th
 |.knot _ ks=>ks
 |.call _ _=>[]
mutual
def Th.size:Th->Nat
 |.knot _ ks=>am ks+1
 |.call _ _=>1
def am:List Th->Nat
 | []=>0
 |t::ts=>t.size+am ts
end
mutual
def Th.tall:Th->Nat
 |.knot _ ks=>aK ks+1
 |.call _ _=>1
def aK:List Th->Nat
 | []=>0
 |t::ts=>max t.tall (aK ts)
end
mutual
def Th.walk:Th->List Th
 |.knot n ks=>.knot n ks::walks ks
 |.call s k=>[.call s k]
def walks:List Th->List Th
 | []=>[]
 |t::ts=>t.walk++walks ts
end
theorem Th.walk_eq(t:Th):t.walk=t::walks t.kids:=by
 cases t with
 |knot n ks=>rw[Th.walk];rfl
 |call s k=>rw[Th.walk];simp[Th.kids,walks]
theorem Th.size_eq(t:Th):t.size=am t.kids+1:=by
 cases t with
 |knot n ks=>rw[Th.size];rfl
 |call s k=>rw[Th.size];simp[Th.kids,am]
theorem Th.tall_eq(t:Th):t.tall=aK t.kids+1:=by
 cases t with
 |knot n ks=>rw[Th.tall];rfl
 |call s k=>rw[Th.tall];simp[Th.kids,aK]
theorem dL:∀a b:List Th,walks (a++b)=walks a++walks b
 | [],b=>by simp[walks]
 |t::a,b=>by rw[V7,walks,walks,dL a b,Vq]
theorem aG:∀a b:List Th,am (a++b)=am a+am b
 | [],b=>by simp[am]
 |t::a,b=>by rw[V7,am,am,aG a b,Xu]
mutual
theorem Th.walk_len:∀t:Th,t.walk.length=t.size
 |.knot n ks=>by rw[Th.walk,Th.size,SQ,eY ks]
 |.call s k=>by rw[Th.walk,Th.size];rfl
theorem eY:∀ts:List Th,(walks ts).length=am ts
 | []=>rfl
 |t::ts=>by rw[walks,am,SD,t.walk_len,eY ts]
end
theorem Th.size_pos(t:Th):1<=t.size:=by rw[t.size_eq];lia
mutual
def At(H:Hp):Th->So->Prop
 |.knot n ks,a=>n≠q/\∃as:List So,H a=A? (.tup (.str n::as.map Ye))/\Ats H ks as
 |.call s k,a=>H a=A? (.tup [.str q,.int s,.int k])
def Ats(H:Hp):List Th->List So->Prop
 | [],as=>as=[]
 |t::ts,as=>∃a r,as=a::r/\At H t a/\Ats H ts r
end
def KT(H H':Hp):Prop:=∀b xs,H b=A? (.tup xs)->H' b=A? (.tup xs)
theorem KT.trans(a:KT H H1)(b:KT H1 H2):KT H H2:=λc o h=>b c o (a c o h)
theorem Same.kt(h:Zf H H'):KT H H':=λb xs e=>h b _ e
theorem fR{o:HO}(h:H l=Am):KT H (upd H l o):=λb xs e=>by rw[aj (ao e h)];exact e
theorem aU{o:HO}(h:H l=A? (.lst xs)):KT H (upd H l o):=λb ys e=>by rw[aj (de e h (by intro z;cases z))];exact e
mutual
theorem At.mono(k:KT H H'):∀{t:Th}{a:So},At H t a->At H' t a
 | .knot n ks,a,h=>by
   rw[At]at h |-;obtain⟨h0,as,h1,h2⟩:=h;exact⟨h0,as,k _ _ h1,Ats.mono k h2⟩
 | .call s c,a,h=>by
   rw[At]at h |-;exact k _ _ h
theorem Ats.mono(k:KT H H'):∀{ts:List Th}{as:List So},Ats H ts as->Ats H' ts as
 | [],as,h=>by rw[Ats]at h |-;exact h
 | t::ts,as,h=>by
   rw[Ats]at h |-;obtain⟨a,r,e,h1,h2⟩:=h;exact⟨a,r,e,At.mono k h1,Ats.mono k h2⟩
end
theorem Ats.nil:Ats H [] []:=by rw[Ats]
theorem Ats.cons{t:Th}{ts:List Th}(h1:At H t a)(h2:Ats H ts as):Ats H (t::ts) (a::as):=by rw[Ats];exact⟨a,as,D?,h1,h2⟩
theorem Ats.append:∀{ts us:List Th}{as bs:List So},Ats H ts as->Ats H us bs->Ats H (ts++us) (as++bs)
 | [],us,as,bs,h,g=>by rw[Ats]at h;subst h;exact g
 | t::ts,us,as,bs,h,g=>by
   rw[Ats]at h;obtain⟨a,r,rfl,h1,h2⟩:=h;exact .cons h1 (h2.append g)
theorem Ats.length:∀{ts:List Th}{as:List So},Ats H ts as->as.length=ts.length
 | [],as,h=>by rw[Ats]at h;subst h;rfl
 | t::ts,as,h=>by
   rw[Ats]at h;obtain⟨a,r,rfl,h1,h2⟩:=h;rw[SQ,SQ,h2.length]
theorem Ats.get:∀{ts:List Th}{as:List So}{i:Nat}{a:So},Ats H ts as->as[i]?=A? a->∃t,ts[i]?=A? t/\At H t a
 | [],as,i,a,h,e=>by rw[Ats]at h;subst h;simp at e
 | t::ts,as,i,a,h,e=>by
   rw[Ats]at h;obtain⟨b,r,rfl,h1,h2⟩:=h;cases i with
   |zero=>simp at e;subst e;exact⟨t,D?,h1⟩
   |succ i=>exact h2.get (i:=i) (by simpa using e)
theorem Ats.at:∀{ts:List Th}{as:List So}{i:Nat}{t:Th},Ats H ts as->ts[i]?=A? t->∃a,as[i]?=A? a/\At H t a
 | [],as,i,a,h,e=>by simp at e
 | t::ts,as,i,a,h,e=>by
   rw[Ats]at h;obtain⟨b,r,rfl,h1,h2⟩:=h;cases i with
   |zero=>simp at e;subst e;exact⟨b,D?,h1⟩
   |succ i=>exact h2.at (i:=i) (by simpa using e)
end BB
open BB.Same renaming kt->Ze
open BB.Th renaming tall->Yi,size->Zi,knot->Yk,call->Ym,walk_len->Zm
variable{p o:BB.Th}{R:Int->List BB.Th}{ts os:List BB.Th}{pat:Int->SG->BB.Th}
namespace BB
open PySem L2
theorem at_nonneg{xs:List α}{i:Int}{v:α}(h0:0<=i)(h:xs[i.toNat]?=A? v):atI xs i=A? v:=by
 have e:i=((i.toNat:Nat):Int):=by lia
 rw[e];exact bQ h
def Low(x:SG):Prop:=∀c∈x.cps.toList,97<=c/\c<=122
theorem my(h:Low x)(lo hi:Option Int):Low (cM x lo hi):=by
 intro c hc;have yC:c∈jC x.cps.toList lo hi:=by simpa[cM]using hc
 exact h c (Vw (U2 yC))
theorem qi{y:SG}(hx:Low x)(hy:Low y):Low (x++y):=by
 intro c hc;have yC:c∈(x.cps++y.cps).toList:=hc;rw[U8,S6]at yC;rcases yC with h|h
 .exact hx c h
 .exact hy c h
theorem tO{c:Nat}(h1:97<=c)(h2:c<=122):Low ⟨#[c]⟩:=by
 intro d hd;have:d=c:=by simpa using hd
 lia
theorem lz(h:Low x):x≠q:=by
 intro e;subst e;have:=h 63 (by decide +kernel);lia
end BB
namespace L2
open PySem PySem.Spec PyProof.Rows
theorem Same.seqT(e:Same H H')(h:SqT K H a xs):SqT K H' a xs:=by
 rcases h with(h|⟨o,h⟩)|h
 .exact .inl (.inl (e _ _ h))
 .exact .inl (.inr ⟨o,e _ _ h⟩)
 .exact .inr h
theorem ag{p:So}(h:H p=Am)(o:HO):Same H (upd H p o):=λb u q=>by rw[aj (ao q h)];exact q
@[elab_as_elim] theorem gU{G:Hp->Prop}{o:HO}(h:H a=Am)(k:∀H',Zf H H'->H' a=A? o->G H'):G (upd H a o):=k _ (ag h _) ad
theorem aJ{o:HO}(h:Same H H1)(n:H l=Am):Same H (upd H1 l o):=λb u e=>by rw[aj (ao e n)];exact h b u e
theorem tK(zs:List α)(p:α->Bool)(f:α->V)(hz:zs.length=xs.length)(hn:xs.length<=1000000)
 (EB:∀i H2,Same H H2->i<xs.length->J.go i H2) (zA:∀H2,Same H H2->J.stop xs.length H2) (A':∀(i:Nat)H2 x H3,Same H H2->i<xs.length->J.yld i H2 x H3->H3=H2/\xs[i]?=A? x)
 (EC:∀(i:Nat)x z H2(R:Bool->Hp->Prop),xs[i]?=A? x->zs[i]?=A? z->Same H H2->R (p z) H2->tt ((cσ js Y).set 0 (A? x)) H2 R)
 (ED:∀(i:Nat)x z H2(R:VK),xs[i]?=A? x->zs[i]?=A? z->p z=B?->Same H H2->R (f z) H2->te ((cσ js Y).set 0 (A? x)) H2 R)
 (q:∀D,H D=Am->fin D (upd H D (.lst ((zs.filter p).map f)))) :
 ∀D,H D=Am->∃(n:Nat)(W:Nat->Hp->Prop),W 0 (upd H D (.lst []))/\fC js (aE 0) tt te Y J D n W λH'=>fin D H':=by
 intro D hD;refine⟨xs.length,λi H2=>i<=xs.length/\H2=upd H D (.lst (((zs.take i).filter p).map f)),⟨Tn _,by simp⟩,?_⟩;rintro i H2 ⟨hi,rfl⟩;have sm:∀o,Same H (upd H D o):=λo=>ag hD o;by_cases h:i=xs.length
 .left;subst h;refine⟨zA _ (sm _),?_⟩;rw[<-hz,Vb];exact q D hD
 .right;have zY:i<xs.length:=by lia
  refine⟨zY,EB i _ (sm _) zY,λx H1 hy=>?_⟩;obtain⟨rfl,hx⟩:=A' i _ x H1 (sm _) zY hy;have Pe:i<zs.length:=by lia
  have e1:zs[i]?=A? zs[i]:=Sn Pe
  have e2:(zs.take (i+1)).filter p=(zs.take i).filter p++(if p zs[i]=B? then[zs[i]]else[]):=by
   rw[Ui,e1,List.filter_append];show _++List.filter p [zs[i]]=_;rw[List.filter_cons,List.filter_nil]
  refine EC i x zs[i] _ _ hx e1 (sm _) ?_
  have hlen:(((zs.take i).filter p).map f).length<=1000000:=by
   rw[Sl];have:=W9 p (zs.take i);rw[S9]at this;lia
  by_cases hp:p zs[i]=B?
  .rw[Yb hp];refine ED i x zs[i] _ _ hx e1 hp (sm _) ⟨_,ad,Wq hlen (by decide),zY,?_⟩;rw[tJ,e2,Yb hp,SI];rfl
  .rw[Za hp];refine⟨zY,?_⟩;rw[e2,Za hp,T3]
theorem jj(zs:List α)(p:α->Bool)(f:α->V)(hS:SqT K H a xs)(hz:zs.length=xs.length)(hn:xs.length<=1000000)
 (EC:∀(i:Nat)x z H2(R:Bool->Hp->Prop),xs[i]?=A? x->zs[i]?=A? z->Same H H2->R (p z) H2->tt ((cσ js Y).set 0 (A? x)) H2 R)
 (ED:∀(i:Nat)x z H2(R:VK),xs[i]?=A? x->zs[i]?=A? z->p z=B?->Same H H2->R (f z) H2->te ((cσ js Y).set 0 (A? x)) H2 R)
 (q:∀D,H D=Am->fin D (upd H D (.lst ((zs.filter p).map f)))) :
 ∀D,H D=Am->∃(n:Nat)(W:Nat->Hp->Prop),W 0 (upd H D (.lst []))/\fC js (aE 0) tt te Y (Itt K a) D n W λH'=>fin D H' :=
 tK zs p f hz hn (λi H2 s hi=>⟨xs,xs[i],s.seqT hS,Sn hi⟩) (λH2 s=>⟨xs,s.seqT hS,Su _⟩) (λi H2 x H3 s hi hy=>⟨hy.1,hy.2 xs (s.seqT hS)⟩) EC ED q
end L2
namespace BB
open PySem L2
theorem at0{x:α}{xs:List α}:atI (x::xs) 0=A? x:=bQ (j:=0) rfl
theorem at1{x y:α}{xs:List α}:atI (x::y::xs) 1=A? y:=bQ (j:=1) rfl
theorem at2{x y z:α}{xs:List α}:atI (x::y::z::xs) 2=A? z:=bQ (j:=2) rfl
theorem eL(x:V)(xs:List V):cL (x::xs) (A? 1) Am=xs:=by
 unfold cL;simp[Yj]
theorem eJ:∀ts:List Th,ts.length<=am ts
 | []=>Tn _
 | t::ts=>by
   have:=t.size_pos;have:=eJ ts;rw[SQ,am];lia
theorem lY(ts:List Th):am ts.reverse=am ts:=by
 induction ts with
 |nil=>rfl
 |cons x xs ih=>rw[TU,aG,ih,am,am,am];lia
theorem cI(h:n<=1000000):n<SM:=Wq h (by decide)
theorem bi(h:n<=1000000):n<=SM:=U1 (cI h)
theorem lnE(h:Nat.ble n 1000000=B?):n<=SM:=bi (Nat.le_of_ble_eq_true h)
theorem uAE:(upd H a (.lst (as.map Ye++[.ref b]))) a=A? (.lst ((as++[b]).map Ye)):=by rw[ad,SI];rfl
theorem lbE{f:α->β}{l:List α}(h:l.length<=1000000):(l.map f).length<SM:=cI (by rw[Sl];exact h)
theorem int_at{k:Int}(h0:0<=k)(h:k<(ns.length:Int)):atI (ns.map Yh) k=A? (.int (ns.getD k.toNat 0)):=by
 refine at_nonneg h0 ?_;have hk:k.toNat<ns.length:=by lia
 rw[Sx,Sn hk,List.getD_eq_getElem?_getD,Sn hk];rfl
section
variable{G:α->β->Prop}
theorem P2.append:∀{a c:List α}{b d:List β},Tc F a b->Tc F c d->Tc F (a++c) (b++d)
 |_,_,_,_,.nil,h=>h
 |_,_,_,_,.cons r t,h=>.cons r (P2.append t h)
theorem P2.get:∀{a:List α}{b:List β}{i:Nat}{x:α},Tc F a b->a[i]?=A? x->∃y,b[i]?=A? y/\F x y
 |_,_,_,_,.nil,e=>by simp at e
 |_,_,0,_,.cons r _,e=>by simp at e;subst e;exact⟨_,D?,r⟩
 | _,_,i+1,x,.cons _ t,e=>by
   obtain⟨u,h1,h2⟩:=P2.get (i:=i) (x:=x) t (by simpa using e);exact⟨u,by simpa using h1,h2⟩
theorem P2.get':∀{a:List α}{b:List β}{i:Nat}{y:β},Tc F a b->b[i]?=A? y->∃x,a[i]?=A? x/\F x y
 |_,_,_,_,.nil,e=>by simp at e
 |_,_,0,_,.cons r _,e=>by simp at e;subst e;exact⟨_,D?,r⟩
 | _,_,i+1,y,.cons _ t,e=>by
   obtain⟨u,h1,h2⟩:=P2.get' (i:=i) (y:=y) t (by simpa using e);exact⟨u,by simpa using h1,h2⟩
theorem P2.take:∀{a:List α}{b:List β}(n:Nat),Tc F a b->Tc F (a.take n) (b.take n)
 |_,_,0,_=>.nil
 |_,_,_+1,.nil=>.nil
 |_,_,n+1,.cons r t=>.cons r (P2.take n t)
theorem P2.drop:∀{a:List α}{b:List β}(n:Nat),Tc F a b->Tc F (a.drop n) (b.drop n)
 |_,_,0,r=>r
 |_,_,_+1,.nil=>.nil
 |_,_,n+1,.cons _ t=>P2.drop n t
theorem P2.mp(f:∀x y,F x y->G x y):∀{a:List α}{b:List β},Tc F a b->Tc G a b
 |_,_,.nil=>.nil
 |_,_,.cons r t=>.cons (f _ _ r) (P2.mp f t)
end
def KAt(H:Hp)(k:SG×Int)(a:So):Prop:=H a=A? (.tup [.str k.1,.int k.2])
def KsAt(H:Hp)(ks:List (SG×Int))(as:List So):Prop:=Tc (KAt H) ks as
theorem KsAt.mono(k:KT H H'){ks:List (SG×Int)}(h:KsAt H ks as):KsAt H' ks as:=P2.mp (λx y e=>k _ _ e) h
end BB
open BB.P2 renaming append->Zj,mp->Zk,get->Yo,get'->Zo
namespace L2
open PySem
theorem bX{t u:TS}(R:St->Hp->Prop)(h1:∀k:St->Hp->Prop,(∀xS H',R xS H'->k xS H')->t {D with nx:=k} Y H)(h2:∀xS H',R xS H'->u D xS H'):oh t u D Y H:=h1 _ h2
theorem cX{c:TT}{t u:TS}(R:Bool->Hp->Prop)(h1:∀k:Bool->Hp->Prop,(∀b H',R b H'->k b H')->c Y H k)(h2:∀H',R B? H'->t D Y H')(h3:∀H',R C? H'->u D Y H'):wf c t u D Y H :=
 h1 _ λb H' r=>by
  cases b with
  |true=>rw[Yb rfl];exact h2 H' r
  |false=>rw[Za SW];exact h3 H' r
end L2
namespace BB
open PySem L2
mutual
def Th.Fit(ks:List (SG×Int)):Th->Prop
 |.knot n ts=>(n,(ts.length:Int))∈ks/\Fits ks ts
 |.call _ _=>False
def Fits(ks:List (SG×Int)):List Th->Prop
 | []=>True
 |t::ts=>t.Fit ks/\Fits ks ts
end
theorem Fits.of{ks:List (SG×Int)}:∀{ts:List Th},(∀t∈ts,t.Fit ks)->Fits ks ts
 | [],_=>by rw[Fits];trivial
 | t::ts,h=>by
   rw[Fits];exact⟨h t (SU ..),Fits.of λu hu=>h u (SN _ hu)⟩
theorem Fits.mem{ks:List (SG×Int)}:∀{ts:List Th},Fits ks ts->∀t∈ts,t.Fit ks
 | [],_,t,h=>by cases h
 | u::ts,h,t,m=>by
   rw[Fits]at h;rcases SR.mp m with rfl|m
   .exact h.1
   .exact Fits.mem h.2 t m
section
variable{ext:Th->List V}{t:Th}{es:List So}
end
theorem bW:∀{ts:List Th}{t:Th},t∈ts->t.tall<=aK ts
 | u::ts,t,h=>by
   rw[aK];rcases SR.mp h with rfl|h
   .lia
   .have:=bW h;lia
theorem iJ:∀{ts:List Th},ts≠[]->∃t∈ts,t.tall=aK ts
 | [],h=>Yd rfl h
 | [u],_=>⟨u,SU ..,by rw[aK,aK];lia⟩
 | u::v::ts,_=>by
   obtain⟨t,h1,h2⟩:=iJ (ts:=v::ts) (by simp);rw[aK];by_cases c:aK (v::ts)<=u.tall
   .exact⟨u,SU ..,by lia⟩
   .exact⟨t,SN _ h1,by lia⟩
theorem lx:∀ts:List Th,(ts.map λt=>((t.size:Nat):Int)).sum=((am ts:Nat):Int)
 | []=>rfl
 | t::ts=>by
   rw[Tb,List.sum_cons,lx ts,am];lia
theorem ints_map(ts:List Th)(f:Th->Int):(ts.map λt=>Yh (f t))=(ts.map f).map Yh:=by rw[Ur];rfl
theorem lQ(h:n<=xs.length):cL xs (A? (n:Int)) Am=xs.drop n:=by
 unfold cL;rw[Zl,Zp,VI h];exact TC (by rw[Tz];exact Su _)
theorem take_snoc{xs:List α}{x:α}(h:xs[n]?=A? x):xs.take (n+1)=xs.take n++[x]:=by rw[Ui,h];rfl
theorem aT{xs:List So}{i:Nat}{x:V}(h:(xs.map Ye)[i]?=A? x):∃a,x=.ref a/\xs[i]?=A? a:=by
 rw[Sx]at h;obtain⟨a,h1,h2⟩:=TM.mp h;exact⟨a,h2.symm,h1⟩
end BB
open BB.Th renaming Fit->Zn
namespace PySem
open Sem (wp)
section
variable{w:S0}
end
section
variable{w:S0}
end
end PySem
namespace L2
open PySem PySem.Spec PyProof.Rows
section
variable{X:Cx}{p2 A9:VX}
inductive rT(K:Ss)(x:V)(y:V)(H:Hp)(Q:VK):Prop
 |mk (a:_) (b:_) (xs:_) (ys:_) (zu:x=.ref a) (zv:y=.ref b) (An:SqT K H a xs) (CD:SqT K H b ys) (DH:xs.length+ys.length<=SM) (J6:(xs=[]->Q (.ref b) H)) (RF:(xs≠[]->ys=[]->Q (.ref a) H)) (RG:(xs≠[]->ys≠[]->∀p,H p=Am->Q (.ref p) (upd H p (.tup (xs++ys))))):rT K x y H Q
def uR(K:Ss):R2:=rT K
theorem hW:OpR X (Vt .Add) (uR X.K):=by
 intro Z s Y H x y v u Q I rx ry h;obtain⟨a,b,xs,ys,e1,e2,ha,hb,hz,q0,q1,q2⟩:=h;by_cases hx:xs=[]
 .subst e1 e2;cases rx;cases ry;obtain⟨its,r1,p1,_⟩:=I.tuple ha;obtain⟨xY,r2,p2,_⟩:=I.tuple hb;have hi:its=[]:=r1.nil_iff.mpr hx;obtain⟨⟨cls,dd,data,sl⟩,ho,hc,n,hd⟩:=p1;obtain⟨⟨GK,FU,data2,FV⟩,CW,Ai,n2,hd2⟩:=p2;simp only at hc hd Ai hd2;subst hc hd Ai hd2;exact concat_meets ⟨_,ho,rfl⟩ ⟨_,CW,rfl⟩ noFill_tuple_add seq_tuple_add WS WL (WD _ _) (tuple_addW0 a b its.toArray xY.toArray n n2 dd FU sl FV (by simp[hi])) ⟨ho,CW,⟨.ref b,H,I,rfl,q0 hx⟩⟩
 .exact tF Z s Y H x y v u Q I rx ry ⟨a,b,xs,ys,e1,e2,ha,hb,hx,hz,q1 hx,q2 hx⟩
end
end L2
namespace PySem
open Sem (wp)
section
variable{w:S0}
end
open Sem (wp)
section
variable{w:S0}
end
open Sem (wp)
namespace F
end F
section
variable{w:S0}{R:Result->Sr->Prop}
end
section
variable{w:S0}
end
end PySem
namespace L2
open PySem PySem.Spec PyProof.Rows
section
variable{X:Cx}{e1 e2:TN}{t:TA}{p p2 A9:VX}
end
section
variable{κ:Type}[DecidableEq κ]
def bK(xP:List (κ×V))(k:κ):Option V:=(xP.find? λkv=>decide (kv.1=k)).map (·.2)
def putK(xP:List (κ×V))(k:κ)(v:V):List (κ×V) :=
 if(xP.any λkv=>decide (kv.1=k))=B? then xP.map (λkv=>if kv.1=k then(kv.1,v)else kv)else xP++[(k,v)]
theorem bI{p:κ×V}{r:List (κ×V)}{k:κ}(e:p.1=k):bK (p::r) k=A? p.2:=by simp[bK,UY,e]
theorem bF{p:κ×V}{r:List (κ×V)}{k:κ}(e:¬p.1=k):bK (p::r) k=bK r k:=by simp[bK,UY,e]
theorem eR(k:κ):∀xP:List (κ×V),(xP.any λkv=>decide (kv.1=k))=(bK xP k).isSome
 | []=>rfl
 | p::r=>by
   rw[List.any_cons];by_cases e:p.1=k
   .simp only[bI e,Yc e,Bool.true_or,Option.isSome_some]
   .rw[bF e,Zb e,Bool.false_or];exact eR k r
theorem nh(k j:κ)(y:V):∀xP:List (κ×V),bK (xP.map λkv=>if kv.1=k then(kv.1,y)else kv) j=(bK xP j).map λx=>if j=k then y else x
 | []=>rfl
 | p::r=>by
   have ih:=nh k j y r;rw[Tb];by_cases h:p.1=k
   .rw[Yb h];by_cases e:p.1=j
    .rw[bI (p:=(p.1,y)) e,bI e,WX,Yb (e.symm.trans h)]
    .rw[bF (p:=(p.1,y)) e,bF e,ih]
   .rw[Za h];by_cases e:p.1=j
    .rw[bI (p:=p) e,bI e,WX,Za (λz=>h (e.trans z))]
    .rw[bF (p:=p) e,bF e,ih]
theorem lO(k j:κ)(y:V):∀xP:List (κ×V),bK xP k=Am->bK (xP++[(k,y)]) j=if j=k then A? y else bK xP j
 | [],_=>by
   by_cases e:k=j
   .rw[Yb e.symm];exact bI (p:=(k,y)) e
   .rw[Za (λz=>e z.symm)];exact bF (p:=(k,y)) e
 | p::r,hn=>by
   rw[V7];have hk:¬p.1=k:=λz=>by rw[bI z]at hn;cases hn
   rw[bF hk]at hn;have ih:=lO k j y r hn;by_cases e:p.1=j
   .rw[bI e,bI e,Za (λz=>hk (e.trans z))]
   .rw[bF e,bF e,ih]
theorem m9(xP:List (κ×V))(k j:κ)(y:V):bK (putK xP k y) j=if j=k then A? y else bK xP j:=by
 unfold putK;by_cases a:(xP.any λkv=>decide (kv.1=k))=B?
 .rw[Yb a,nh];rw[eR]at a;by_cases e:j=k
  .obtain⟨x,hx⟩:=VC.mp a;rw[Yb e,e,hx,WX,Yb rfl]
  .rw[Za e];cases bK xP j with
   |none=>rfl
   |some x=>rw[WX,Za e]
 .rw[Za a];refine lO k j y xP ?_;rw[eR]at a;cases q:bK xP k with
  |none=>rfl
  |some x=>rw[q]at a;exact(a rfl).elim
theorem cg(xP:List (κ×V))(k:κ)(v:V):(putK xP k v).length<=xP.length+1:=by
 unfold putK;split
 .rw[Sl];lia
 .rw[SD,SQ,List.length_nil];lia
theorem j5{xP:List (κ×V)}{k:κ}(v:V)(h:bK xP k=Am):putK xP k v=xP++[(k,v)]:=by
 unfold putK;rw[eR,h];exact Za (by decide)
theorem RelO.isSome_eq{o:Option V}{u:Option Sq}(r:RelO o u):o.isSome=u.isSome:=by
 cases o with
 | none=>cases u with
   |none=>rfl
   |some _=>exact(show False from r).elim
 | some _=>cases u with
   |none=>exact(show False from r).elim
   |some _=>rfl
theorem KV.val{xP:List (κ×V)}{vs:List (κ×Sq)}(r:KV xP vs)(k:κ):RelO (bK xP k) (valueAt vs k):=by
 unfold KV at r;induction r with
 |nil=>exact Vu
 | @cons p q ps qs h t ih =>
   obtain⟨h1,h2⟩:=h;by_cases e:p.1=k
   .have e':q.1=k:=h1.symm.trans e;have b:valueAt (q::qs) k=A? q.2:=by simp[valueAt,UY,e']
    rw[bI e,b];exact h2
   .have e':¬q.1=k:=λz=>e (h1.trans z);have b:valueAt (q::qs) k=valueAt qs k:=by simp[valueAt,UY,e']
    rw[bF e,b];exact ih
theorem KV.any{xP:List (κ×V)}{vs:List (κ×Sq)}(r:KV xP vs)(k:κ):(xP.any λkv=>decide (kv.1=k))=vs.any λkv=>decide (kv.1=k):=by
 unfold KV at r;induction r with
 |nil=>rfl
 |cons h t ih=>rw[List.any_cons,List.any_cons,ih,h.1]
theorem KV.repl{xP:List (κ×V)}{vs:List (κ×Sq)}(r:KV xP vs)(k:κ)(ry:RelV y u) :
 KV (xP.map λkv=>if kv.1=k then(kv.1,y)else kv) (vs.map λkv=>if kv.1=k then(kv.1,u)else kv):=by
 unfold KV at r |-;induction r with
 |nil=>exact .nil
 | @cons p q ps qs h t ih =>
   rw[Tb,Tb];refine .cons ?_ ih;obtain⟨h1,h2⟩:=h;by_cases e:p.1=k
   .rw[Yb e,Yb (h1.symm.trans e)];exact⟨h1,ry⟩
   .rw[Za e,Za (λz=>e (h1.trans z))];exact⟨h1,h2⟩
theorem KV.put{xP:List (κ×V)}{vs:List (κ×Sq)}(r:KV xP vs)(k:κ)(ry:RelV y u):KV (putK xP k y) (stored vs k u):=by
 unfold putK stored;rw[r.any k];by_cases e:(vs.any λkv=>decide (kv.1=k))=B?
 .rw[Yb e,Yb e];exact r.repl k ry
 .rw[Za e,Za e];exact Paired.snoc r ⟨rfl,ry⟩
theorem KV.length{xP:List (κ×V)}{vs:List (κ×Sq)}(r:KV xP vs):xP.length=vs.length:=SJ r
end
theorem n4{w:S0}{k:Key}(r:RelV (kV k) u):(ax P w).is k u=true:=by
 cases k with
 |inl i=>obtain⟨t,e⟩:=(show∃t,u=Value.int i t from r);subst e;exact ni P w i t
 |inr x=>obtain⟨t,e⟩:=(show∃t,u=Value.str x t from r);subst e;exact ol P w x t
theorem lv{w:S0}:∀{ks:List Key}{us:List Sq},Vals (ks.map kV) us->ItemsAre (ax P w) ks us
 | [],_,r=>by rw[U3]at r;cases r;exact .nil
 | k::ks,_,r=>by
   rw[Tb]at r;cases r with
   |cons h t=>exact .cons (n4 h) (lv t)
abbrev KTd(H:Hp):List (List Key×V)->List (List Key×So×Sq)->Prop:=Tc λp q=>p.1=q.1/\H q.2.1=A? (.tup (p.1.map kV))/\RelV p.2 q.2.2
theorem KTd.val{xs:List (List Key×So×Sq)}(r:KTd H xP xs)(k:List Key):RelO (bK xP k) ((VP xs k).map (·.2)):=by
 induction r with
 |nil=>exact Vu
 | @cons p q ps qs h t ih =>
   obtain⟨h1,_,h2⟩:=h;by_cases e:p.1=k
   .have e':q.1=k:=h1.symm.trans e;have b:VP (q::qs) k=A? q.2:=by simp[VP,UY,e']
    rw[bI e,b];exact h2
   .have e':¬q.1=k:=λz=>e (h1.trans z);have b:VP (q::qs) k=VP qs k:=by simp[VP,UY,e']
    rw[bF e,b];exact ih
theorem KTd.repl{xs:List (List Key×So×Sq)}(r:KTd H xP xs)(k:List Key)(ry:RelV y u) :
 KTd H (xP.map λkv=>if kv.1=k then(kv.1,y)else kv) (xs.map (putAt k u)):=by
 induction r with
 |nil=>exact .nil
 | @cons p q ps qs h t ih =>
   rw[Tb,Tb];refine .cons ?_ ih;obtain⟨h1,h2,h3⟩:=h;unfold putAt;by_cases e:p.1=k
   .rw[Yb e,Yb (h1.symm.trans e)];exact⟨h1,h2,ry⟩
   .rw[Za e,Za (λz=>e (h1.trans z))];exact⟨h1,h2,h3⟩
theorem KTd.put{xs:List (List Key×So×Sq)}(r:KTd H xP xs)(k:List Key)(hb:H b=A? (.tup (k.map kV)))(ry:RelV y u) :
 KTd H (putK xP k y) (storedH xs k b u):=by
 have e:(xP.any λkv=>decide (kv.1=k))=(VP xs k).isSome:=by
  rw[eR,(r.val k).isSome_eq,Option.isSome_map]
 unfold putK storedH;rw[e];by_cases q:(VP xs k).isSome=B?
 .rw[Yb q,Yb q];exact r.repl k ry
 .rw[Za q,Za q];exact Paired.snoc r ⟨rfl,hb,ry⟩
theorem KTd.keeps{xs:List (List Key×So×Sq)}(r:KTd H xP xs)(ht:∀b ys,H b=A? (.tup ys)->H' b=A? (.tup ys)):KTd H' xP xs :=
 Tc.mapP r λ_ _ z=>⟨z.1,ht _ _ z.2.1,z.2.2⟩
section
variable{w:S0}
theorem uS{u:HO}(ok:HOk P w H h)(e:Rd H a u):ObjOk P w H h a u:=e.ok ok
theorem pU{xP:List (Key×V)}(ok:HOk P w H h)(e:Rd H a (.dK xP)):xP.length<=SM/\(a == Uh)=C?/\∃vs,KV xP vs/\h.DictOf (ax P w) a vs :=
 show ObjOk P w H h a (.dK xP)from uS ok e
theorem rX{xP:List (Key×V)}(ok:HOk P w H h)(e:H a=A? (.dK xP)):xP.length<=SM/\(a == Uh)=C?/\∃vs,KV xP vs/\h.DictOf (ax P w) a vs:=pU ok (.inl e)
theorem kQ{ks:List Key}(ok:HOk P w H h)(e:H a=A? (.tup (ks.map kV))):(tupleKind (ax P w)).is h ks a:=by
 obtain⟨_,its,n,r,h1⟩:=(show ObjOk P w H h a (.tup (ks.map kV))from ok a _ e);exact⟨_,its.toArray,n,h1,D?,D?,by simpa using lv r⟩
theorem qY(ok:HOk P w H h)(e:Rd H a (.dT xP)):xP.length<=SM/\(a == Uh)=C? /\
 ∃xs,KTd H xP xs/\h.DictOfH (tupleKind (ax P w)) a xs:=by
 obtain⟨z,y,xs,r,o,es,ep,h1,h2,h3,h4,h5⟩:=(show ObjOk P w H h a (.dT xP)from uS ok e);refine⟨z,y,xs,r,o,es,ep,h1,h2,h3,h4,λx hx=>?_,h5⟩
 have all:∀{l:List (List Key×V)}{m:List (List Key×So×Sq)},KTd H l m->∀x∈m,(tupleKind (ax P w)).is h x.1 x.2.1:=by
  intro l m q;induction q with
  |nil=>intro x hx;exact nomatch hx
  | @cons p q ps qs hq t ih =>
    intro x hx;rcases SR.mp hx with e|hx
    .subst e;exact kQ ok (by rw[<-hq.1];exact hq.2.1)
    .exact ih x hx
 exact all r x hx
theorem pK(ok:HOk P w H h)(e:H a=A? (.dT xP)):xP.length<=SM/\(a == Uh)=C? /\
 ∃xs,KTd H xP xs/\h.DictOfH (tupleKind (ax P w)) a xs:=qY ok (.inl e)
end
def vd(H:Hp)(a:So)(y:V)(r:Option V):Prop :=
 (∃xP k,Rd H a (.dK xP)/\y=kV k/\r=bK xP k)\/∃xP k b,Rd H a (.dT xP)/\y=.ref b/\H b=A? (.tup (k.map kV))/\r=bK xP k
def DPut(H:Hp)(a:So)(y v:V)(H':Hp):Prop :=
 (∃xP k,H a=A? (.dK xP)/\y=kV k/\xP.length<SM/\H'=upd H a (.dK (putK xP k v))) \/
 ∃xP k b,H a=A? (.dT xP)/\y=.ref b/\H b=A? (.tup (k.map kV))/\xP.length<SM/\H'=upd H a (.dT (putK xP k v))
theorem DPut.t{k:List Key}(e:H a=A? (.dT xP))(eb:H b=A? (.tup (k.map kV)))(hl:xP.length<SM) :
 DPut H a (.ref b) v (upd H a (.dT (putK xP k v))):=.inr ⟨xP,k,b,e,rfl,eb,hl,rfl⟩
section
variable{X:Cx}{r:Sq}{o:Option V}
theorem Inv.big(I:Inv X Z Y H s):Uh<s.1.1.size:=by
 have h:TR<s.1.1.size:=(I.mod.glob.keeps I.bk).lt;exact XI (by decide) h
theorem qx(hu:A.units+1<Vo)(I:Inv X Z Y H s)(g:vd H a y (A? v))(ry:RelV y u)(h:∀w' s',Inv X Z Y H s'->RelV v w'->Q w' s') :
 SV (S7 X.prog X.w) A (We (.ref a) u) Q E s:=by
 rcases g with⟨xP,k,e,ey,l⟩|⟨xP,k,b,e,ey,eb,l⟩
 .subst ey;obtain⟨z,hd,vs,rel,dd⟩:=pU I.hok e;obtain⟨w',hw,BS⟩:=RelO.some_of (v:=v) (o:=valueAt vs k) (by rw[l];exact rel.val k);exact wpAny_getItem_of (n4 ry) dd.mapOf hw (h w' _ (I.tok _) BS)
 .subst ey;cases(show u=TF b from ry);obtain⟨z,hd,xs,rel,dd⟩:=qY I.hok e;obtain⟨w',hw,BS⟩:=RelO.some_of (v:=v) (o:=(VP xs k).map (·.2)) (by rw[l];exact rel.val k);obtain⟨p,hp,Av⟩:=TM.mp hw;refine wpAny_getItem_heap (tupleKind_room_in1 hu) (kQ I.hok eb) dd hp ?_;rw[Av];exact h w' _ (I.tok _) BS
theorem ip{ob:HO}(I:Inv X Z Y H s)(mu:Mut (H a))(hs:Um a s.1 h')(he:∃q,h'.get? a=A? q)(new:ObjOk X.prog X.w (upd H a ob) h' a ob) :
 Inv X Z Y (upd H a ob) {s with heap:=h',toks:=t'} :=
 I.write (x:=a) (e:=a) mu (.inl rfl) (λb q hb z=>(hs.2 b hb).trans z) he new
theorem vh{w:S0}{xP:List (Key×V)}{vs:List (Key×Sq)}(z:xP.length<=SM)(hd:(a == Uh)=C?)(rel:KV xP vs)(dd:h'.DictOf (ax P w) a vs) :
 ObjOk P w H' h' a (.dK xP):=⟨z,hd,vs,rel,dd⟩
theorem qH{Q:Unit->Sr->Prop}(hu:A.units+1<Vo)(I:Inv X Z Y H s)(g:DPut H a y v H')(ry:RelV y u)(rv:RelV v r)(h:∀s',Inv X Z Y H' s'->Q () s') :
 SV (S7 X.prog X.w) A (setItem (.ref a) u r) Q E s:=by
 rcases g with⟨xP,k,e,ey,l,eH⟩|⟨xP,k,b,e,ey,eb,l,eH⟩
 .subst ey eH;obtain⟨z,hd,vs,rel,dd⟩:=rX I.hok e;have hz:vs.length<=SM:=by rw[<-rel.length];exact z
  have hl:(putK xP k v).length<=SM:=by have:=cg xP k v;lia
  refine wpAny_setItem_pairs (hsz:=hz) (n4 ry) dd λh' B0 hs=>h _ ?_;have he:∃q,h'.get? a=A? q:=let⟨q,_,_,hq,_⟩:=B0;⟨q,hq⟩
  exact ip I (by rw[e];exact Vu) hs he (vh hl hd (rel.put k rv) B0)
 .subst ey eH;cases(show u=TF b from ry);obtain⟨z,hd,xs,rel,dd⟩:=pK I.hok e;have hz:xs.length<=SM:=by rw[<-SJ rel];exact z
  have hl:(putK xP k v).length<=SM:=by have:=cg xP k v;lia
  refine wpAny_setItem_heap (hsz:=hz) (tupleKind_room_in1 hu) (kQ I.hok eb) dd λh' B0 hs=>h _ ?_;obtain⟨q,es,ep,hq,h2,h3,h4,_,h5⟩:=B0;refine ip I (by rw[e];exact Vu) hs ⟨q,hq⟩ ⟨hl,hd,_,(rel.put k eb rv).keeps λc ys ec=>?_,q,es,ep,hq,h2,h3,h4,h5⟩;rw[aj (de ec e (λz=>nomatch z))];exact ec
end
section
variable{X:Cx}{xP:List (Key×V)}{k:Key}
theorem wK(I:Inv X Z Y H s)(e:Rd H a (.dK xP))(h:∀t s',Inv X Z Y H s'->Q (.int xP.length t) s'):SV (S7 X.prog X.w) A (call (.builtin "len") [.ref a]) Q E s:=by
 obtain⟨z,hd,vs,rel,dd⟩:=pU I.hok e;refine call_len_dict hd dd (by rw[<-rel.length];rw[Vn]at z;lia) ?_;rw[<-rel.length];exact h _ _ (I.tok _)
end
def vM(i:TN):Prop:=∀ov iv,subscripted i C? ov iv=operate [ov,iv] (We ov iv)
theorem pC{w:S0}{value slice:TN}{T id:String}
 (hl:typeLookup (.type T) "__getitem__"=pure (A? (.builtin id))) (hs:vM slice)
 (h:SV (S7 prog w) A (UZ value env) (λo xT=>SV (S7 prog w) A (UZ slice env) (λi y2=>y2.TypeIs o T/\SV (S7 prog w) A (We o i) Q E y2) E xT) E s) :
 SV (S7 prog w) A (UZ (.Subscript value slice pos) env) Q E s:=by
 refine Subscript_ (TQ h (λo xT x9=>TQ x9 (λi y2 AY=>?_) λ_ _ x=>x) λ_ _ x=>x);obtain⟨hT,AY⟩:=AY;unfold subscriptTail;refine Sm ?_;rw[getitemInPython_of_ne hT.not_modules];refine Sm (U7 hT hl ?_)
 have fin:SV (S7 prog w) A (subscripted slice C? o i) (λr zk=>SV (S7 prog w) A (letTemporaryGo value o r >>= λ_=>pure r) Q E zk) E y2:=by
  rw[hs o i];exact wpAny_operating (TQ AY (λr zk BY=>Sm (wpAny_letTemporaryGo (Sw BY))) λ_ _ x=>x)
 first
  |exact Sw (Sm fin)
  |exact Sm (Sw (Sm fin))
  |exact Sm fin
theorem mZ{X:Cx}{o:Option V}(I:Inv X Z Y H s)(g:vd H a y o):s.TypeIs (.ref a) "dict":=by
 rcases g with⟨xP,k,e,_,_⟩|⟨xP,k,b,e,_,_,_⟩
 .obtain⟨_,_,vs,_,dd⟩:=pU I.hok e;exact dd.typeIs
 .obtain⟨_,_,xs,_,dd⟩:=qY I.hok e;exact dd.typeIs
def ww(td ty:TE):TE:=λY H Q=>td Y H λx H1=>ty Y H1 λy H2=>∃a v,x=.ref a/\vd H2 a y (A? v)/\Q v H2
def v5(td ty tv:TE):TS:=λD Y H=>tv Y H λv H1=>td Y H1 λx H2=>ty Y H2 λy H3=>∃a H4,x=.ref a/\DPut H3 a y v H4/\D.nx Y H4
section
variable{X:Cx}{o i value:TN}{pos' GH:VX}{td ty tv:TE}
theorem mO(hu:X.A.units+1<Vo)(ho:PE X o td)(hi:PE X i ty)(hs:vM i):PE X (.Subscript o i pos) (ww td ty):=by
 intro Z s Y H Q I h;refine pC PySem.F.slot_dict_getitem.lookup hs (thn (ho Z s Y H _ I h) λu s1⟨x,H1,I1,rx,q1⟩=>thn (hi Z s1 Y H1 _ I1 q1) λiv s2⟨y,H2,I2,ry,a,v,ex,g,q2⟩=>?_);subst ex;obtain rfl:u=TF a:=rx;exact⟨mZ I2 g,qx hu I2 g ry λw' s3 I3 BS=>⟨v,H2,I3,BS,q2⟩⟩
theorem uu(hu:X.A.units+1<Vo)(ho:PE X o td)(hi:PE X i ty)(hv:PE X value tv)(hs:Xc value (A? (.Subscript o i pos')) pos.line X.env=pure C?) :
 PS X (.Assign [.Subscript o i pos'] value pos) (v5 td ty tv):=by
 intro Z s Y H D I h;refine wpAny_Assign_Subscript (thn (hv Z s Y H _ I h) λr s1⟨v,H1,I1,rv,q1⟩=>thn (ho Z s1 Y H1 _ I1 q1) λu s2⟨x,H2,I2,rx,q2⟩=>thn (hi Z s2 Y H2 _ I2 q2) λiv s3⟨y,H3,I3,ry,a,H4,ex,g,q3⟩=>?_) hs;subst ex;obtain rfl:u=TF a:=rx;exact qH hu I3 g ry rv λs4 I4=>⟨Y,H4,I4,q3⟩
end
theorem r6{w:S0}(h:TL)(hb:Uh<h.objs.size):ObjOk P w H (h.push {cls:=.type "dict",data:=.dict #[]}) h.objs.size (.dK []) :=
 ⟨Tn _,beq_eq_false_iff_ne.mpr (UA (Ti hb)),[],.nil,Heap.DictOf.new h⟩
theorem rj{w:S0}(h:TL)(hb:Uh<h.objs.size):ObjOk P w H (h.push {cls:=.type "dict",data:=.dict #[]}) h.objs.size (.dT []) :=
 ⟨Tn _,beq_eq_false_iff_ne.mpr (UA (Ti hb)),[],.nil,_,#[],0,SO _ rfl,⟨rfl,rfl,rfl⟩,rfl,rfl,Xh⟩
def vU:TE:=λ_ H Q=>∀p,H p=Am->Q (.ref p) (upd H p (.dK []))
def vD:TE:=λ_ H Q=>∀p,H p=Am->Q (.ref p) (upd H p (.dT []))
section
variable{X:Cx}
theorem sf:PE X (.Dict [] [] pos) vU:=λZ s Y H Q I h =>
 wpAny_Dict_empty ⟨.ref s.1.1.size,_,I.laid (a:=s.1.1.size) (o:=.dK []) (t':=s.toks) (λ_ _ q=>Sy _ q) (Su _) (r6 s.1 I.big),rfl,h _ (I.hok.fresh (Su _))⟩
theorem nZ:PE X (.Dict [] [] pos) vD:=λZ s Y H Q I h =>
 wpAny_Dict_empty ⟨.ref s.1.1.size,_,I.laid (a:=s.1.1.size) (o:=.dT []) (t':=s.toks) (λ_ _ q=>Sy _ q) (Su _) (rj s.1 I.big),rfl,h _ (I.hok.fresh (Su _))⟩
end
section
variable{X:Cx}{d:V}{r:Sq}{o:Option V}
end
section
variable{X:Cx}{o f:TN}{apos yR:VX}{td ty tx:TE}
end
section
variable{X:Cx}{xP:List (Key×V)}
end
section
variable{X:Cx}
end
end L2
namespace BB
open PySem L2
set_option genInjectivity true in
inductive Dv where
 |int (i:Int)
 |str (x:SG)
 |tup (ds:List Dv)
mutual
def Dv.deep:Dv->Nat
 |.int _=>0
 |.str _=>0
 |.tup ds=>b7 ds+1
def b7:List Dv->Nat
 | []=>0
 |d::ds=>max d.deep (b7 ds)
end
mutual
def Dv.tot:Dv->Nat
 |.int _=>1
 |.str _=>1
 |.tup ds=>tU ds+1
def tU:List Dv->Nat
 | []=>0
 |d::ds=>d.tot+tU ds
end
mutual
def DAt(H:Hp):Dv->V->Prop
 |.int i,v=>v=.int i
 |.str x,v=>v=.str x
 |.tup ds,v=>∃a vs,v=.ref a/\H a=A? (.tup vs)/\DAts H ds vs
def DAts(H:Hp):List Dv->List V->Prop
 | [],vs=>vs=[]
 |d::ds,vs=>∃v r,vs=v::r/\DAt H d v/\DAts H ds r
end
theorem DAts.nil:DAts H [] []:=by rw[DAts]
theorem DAts.cons{d:Dv}{ds:List Dv}{vs:List V}(h1:DAt H d v)(h2:DAts H ds vs):DAts H (d::ds) (v::vs):=by rw[DAts];exact⟨v,vs,D?,h1,h2⟩
theorem DAts.length:∀{ds:List Dv}{vs:List V},DAts H ds vs->vs.length=ds.length
 | [],vs,h=>by rw[DAts]at h;subst h;rfl
 | d::ds,vs,h=>by
   rw[DAts]at h;obtain⟨v,r,rfl,h1,h2⟩:=h;rw[SQ,SQ,h2.length]
theorem DAts.at:∀{ds:List Dv}{vs:List V}{i:Nat}{d:Dv},DAts H ds vs->ds[i]?=A? d->∃v,vs[i]?=A? v/\DAt H d v
 | [],vs,i,d,h,e=>by simp at e
 | d0::ds,vs,i,d,h,e=>by
   rw[DAts]at h;obtain⟨v,r,rfl,h1,h2⟩:=h;cases i with
   |zero=>simp at e;subst e;exact⟨v,D?,h1⟩
   | succ i =>
     obtain⟨u,g1,g2⟩:=h2.at (i:=i) (by simpa using e);exact⟨u,by simpa using g1,g2⟩
theorem kB:∀{ds:List Dv}{i:Nat}{d:Dv},ds[i]?=A? d->d.deep<=b7 ds
 | [],i,d,e=>by simp at e
 | d0::ds,i,d,e=>by
   rw[b7];cases i with
   |zero=>simp at e;subst e;lia
   | succ i =>
     have:=kB (ds:=ds) (i:=i) (by simpa using e);lia
theorem pZ:∀{ds:List Dv}{i:Nat}{d:Dv},ds[i]?=A? d->d.tot<=tU ds
 | [],i,d,e=>by simp at e
 | d0::ds,i,d,e=>by
   rw[tU];cases i with
   |zero=>simp at e;subst e;lia
   | succ i =>
     have:=pZ (ds:=ds) (i:=i) (by simpa using e);lia
theorem Dv.tot_pos(d:Dv):1<=d.tot:=by
 cases d with
 |int i=>rw[Dv.tot];lia
 |str x=>rw[Dv.tot];lia
 |tup ds=>rw[Dv.tot];lia
mutual
def Th.dv:Th->Dv
 |.knot n ks=>.tup (.str n::dvs ks)
 |.call s k=>.tup [.str q,.int s,.int k]
def dvs:List Th->List Dv
 | []=>[]
 |t::ts=>t.dv::dvs ts
end
mutual
theorem At.dv:∀{t:Th}{a:So},At H t a->DAt H t.dv (.ref a)
 | .knot n ks,a,h=>by
   rw[At]at h;obtain⟨_,as,h1,h2⟩:=h;rw[Th.dv,DAt];exact⟨a,_,D?,h1,.cons (by rw[DAt]) (Ats.dvs h2)⟩
 | .call s k,a,h=>by
   rw[At]at h;rw[Th.dv,DAt];exact⟨a,_,D?,h,.cons (by rw[DAt]) (.cons (by rw[DAt]) (.cons (by rw[DAt]) .nil))⟩
theorem Ats.dvs:∀{ts:List Th}{as:List So},Ats H ts as->DAts H (dvs ts) (as.map Ye)
 | [],as,h=>by rw[Ats]at h;subst h;rw[BB.dvs];exact .nil
 | t::ts,as,h=>by
   rw[Ats]at h;obtain⟨a,r,rfl,h1,h2⟩:=h;rw[BB.dvs,Tb];exact .cons (At.dv h1) (Ats.dvs h2)
end
mutual
theorem Th.dv_deep:∀t:Th,t.dv.deep<=t.tall
 | .knot n ks=>by
   have:=g8 ks;rw[Th.dv,Dv.deep,b7,Dv.deep,Yi];lia
 |.call s k=>by rw[Th.dv,Yi];simp[Dv.deep,b7]
theorem g8:∀ts:List Th,b7 (dvs ts)<=aK ts
 | []=>by rw[dvs,b7];exact Tn _
 | t::ts=>by
   have:=t.dv_deep;have:=g8 ts;rw[dvs,b7,aK];lia
end
theorem rh{ys:List V}{Q:VK}(ha:H a=A? (.tup xs))(hb:H b=A? (.tup ys))(hz:xs.length+ys.length<=1000000)(q:∀p H',Zf H H'->H' p=A? (.tup (xs++ys))->Q (.ref p) H'):uR K (.ref a) (.ref b) H Q:=by
 refine⟨a,b,xs,ys,D?,D?,Yg ha,Yg hb,bi hz,λe=>?_,λ_ e=>?_,λ_ _ p hp=>?_⟩
 .exact q b H (.refl _) (by rw[e];exact hb)
 .exact q a H (.refl _) (by rw[e,T3];exact ha)
 .exact q p _ (ag hp _) ad
theorem P2.reverse:∀{a:List α}{b:List β},Tc F a b->Tc F a.reverse b.reverse
 |_,_,.nil=>.nil
 | _,_,.cons r t=>by
   rw[TU,TU];exact Zj (P2.reverse t) (.cons r .nil)
theorem P2.snoc_inv{a:List α}{b:List β}{y:β}(h:Tc F a (b++[y])):∃us x,a=us++[x]/\Tc F us b/\F x y:=by
 have r:=P2.reverse h;rw[Uw,List.reverse_singleton,List.singleton_append]at r;cases e:a.reverse with
 |nil=>rw[e]at r;cases r
 | cons x us =>
   rw[e]at r;cases r with
   | cons h1 h2 =>
     refine⟨us.reverse,x,?_,?_,h1⟩
     .rw[<-TU,<-e,UI]
     .have:=P2.reverse h2;rw[UI]at this;exact this
theorem l7:∀{ts:List Th}{t:Th},t∈ts->t.size<=am ts
 | u::ts,t,h=>by
   rw[am];rcases SR.mp h with rfl|h
   .lia
   .have:=l7 h;lia
end BB
variable{ds:List BB.Dv}
namespace BB
open PySem L2
mutual
def Th.kn:Th->Nat
 |.knot _ ks=>kns ks+1
 |.call _ _=>0
def kns:List Th->Nat
 | []=>0
 |t::ts=>t.kn+kns ts
end
section
variable{ext:Th->List V}{t:Th}{es:List So}
end
def Th.isCall:Th->Bool
 |.knot _ _=>C?
 |.call _ _=>B?
def TK(K:Ss)(H:Hp)(a:So)(xs:List V):Prop:=H a=A? (.tup xs)\/(xs=[.str (SE "*")]/\∃(o:UD)(its:Array Sq)(n:Nat),K.lookup a=A? o/\o.cls=.type "tuple"/\o.data=.seq its n/\its.size<=SM/\Vals xs its.toList)
theorem TK.of(h:H a=A? (.tup xs)):TK K H a xs:=.inl h
theorem TK.sq(h:TK K H a xs):SqT K H a xs:=by
 rcases h with h|h
 .exact Yg h
 .exact .inr h.2
mutual
def DAtK(K:Ss)(H:Hp):Dv->V->Prop
 |.int i,v=>v=.int i
 |.str x,v=>v=.str x
 |.tup ds,v=>∃a vs,v=.ref a/\TK K H a vs/\DAtsK K H ds vs
def DAtsK(K:Ss)(H:Hp):List Dv->List V->Prop
 | [],vs=>vs=[]
 |d::ds,vs=>∃v r,vs=v::r/\DAtK K H d v/\DAtsK K H ds r
end
theorem DAtsK.length:∀{ds:List Dv}{vs:List V},DAtsK K H ds vs->vs.length=ds.length
 | [],vs,h=>by rw[DAtsK]at h;subst h;rfl
 | d::ds,vs,h=>by
   rw[DAtsK]at h;obtain⟨v,r,rfl,h1,h2⟩:=h;rw[SQ,SQ,h2.length]
theorem DAtsK.at:∀{ds:List Dv}{vs:List V}{i:Nat}{d:Dv},DAtsK K H ds vs->ds[i]?=A? d->∃v,vs[i]?=A? v/\DAtK K H d v
 | [],vs,i,d,h,e=>by simp at e
 | d0::ds,vs,i,d,h,e=>by
   rw[DAtsK]at h;obtain⟨v,r,rfl,h1,h2⟩:=h;cases i with
   |zero=>simp at e;subst e;exact⟨v,D?,h1⟩
   | succ i =>
     obtain⟨u,g1,g2⟩:=h2.at (i:=i) (by simpa using e);exact⟨u,by simpa using g1,g2⟩
mutual
theorem DAt.k:∀{d:Dv}{v:V},DAt H d v->DAtK K H d v
 |.int i,v,h=>by rw[DAt]at h;rw[DAtK];exact h
 |.str x,v,h=>by rw[DAt]at h;rw[DAtK];exact h
 | .tup ds,v,h=>by
   rw[DAt]at h;rw[DAtK];obtain⟨a,vs,e,h1,h2⟩:=h;exact⟨a,vs,e,.of h1,DAts.k h2⟩
theorem DAts.k:∀{ds:List Dv}{vs:List V},DAts H ds vs->DAtsK K H ds vs
 | [],vs,h=>by rw[DAts]at h;rw[DAtsK];exact h
 | d::ds,vs,h=>by
   rw[DAts]at h;rw[DAtsK];obtain⟨v,r,e,h1,h2⟩:=h;exact⟨v,r,e,DAt.k h1,DAts.k h2⟩
end
mutual
theorem DAtK.inj{X:Cx}(I:Inv X Z Y H s):∀{d e:Dv}{v:V},DAtK X.K H d v->DAtK X.K H e v->d=e
 |.int i,.int j,v,h,g=>by rw[DAtK]at h;rw[DAtK]at g;rw[h]at g;cases g;rfl
 |.int i,.str y,v,h,g=>by rw[DAtK]at h;rw[DAtK]at g;rw[h]at g;cases g
 |.int i,.tup es,v,h,g=>by rw[DAtK]at h;rw[DAtK]at g;obtain⟨a,vs,e,_⟩:=g;rw[h]at e;cases e
 |.str x,.int j,v,h,g=>by rw[DAtK]at h;rw[DAtK]at g;rw[h]at g;cases g
 |.str x,.str y,v,h,g=>by rw[DAtK]at h;rw[DAtK]at g;rw[h]at g;cases g;rfl
 |.str x,.tup es,v,h,g=>by rw[DAtK]at h;rw[DAtK]at g;obtain⟨a,vs,e,_⟩:=g;rw[h]at e;cases e
 |.tup ds,.int j,v,h,g=>by rw[DAtK]at h;rw[DAtK]at g;obtain⟨a,vs,e,_⟩:=h;rw[e]at g;cases g
 |.tup ds,.str y,v,h,g=>by rw[DAtK]at h;rw[DAtK]at g;obtain⟨a,vs,e,_⟩:=h;rw[e]at g;cases g
 | .tup ds,.tup es,v,h,g=>by
   rw[DAtK]at h;rw[DAtK]at g;obtain⟨a,vs,e1,h1,h2⟩:=h;obtain⟨b,ws,e2,g1,g2⟩:=g;rw[e1]at e2;cases e2;have e3:=I.tuple_inj h1.sq g1.sq;subst e3;rw[DAtsK.inj I h2 g2]
theorem DAtsK.inj{X:Cx}(I:Inv X Z Y H s):∀{ds es:List Dv}{vs:List V},DAtsK X.K H ds vs->DAtsK X.K H es vs->ds=es
 | [],[],vs,h,g=>rfl
 | [],e::es,vs,h,g=>by rw[DAtsK]at h;rw[DAtsK]at g;obtain⟨v,r,z,_⟩:=g;rw[h]at z;cases z
 |d::ds,[],vs,h,g=>by rw[DAtsK]at h;rw[DAtsK]at g;obtain⟨v,r,z,_⟩:=h;rw[g]at z;cases z
 | d::ds,e::es,vs,h,g=>by
   rw[DAtsK]at h;rw[DAtsK]at g;obtain⟨v,r,z,h1,h2⟩:=h;obtain⟨v',r',z',g1,g2⟩:=g;rw[z]at z';cases z';rw[DAtK.inj I h1 g1,DAtsK.inj I h2 g2]
end
end BB
namespace L2
open PySem PySem.Spec PySem.SeqAt PyProof.Rows BB
open Classical in
theorem gF[DecidableEq α]{xY:List Sq}{ds es:List α}(p1:s.1.IsTuple a its.toArray)(p2:s.1.IsTuple b xY.toArray)(l1:its.length=ds.length)(l2:xY.length=es.length)(hu:A.units<Vo)
 (ih:∀(j:Nat)(d e:α)(u v:Sq),ds[j]?=A? d->es[j]?=A? e->its[j]?=A? u->xY[j]?=A? v->EqAt A.in1 s u v (decide (d=e))):RcAt A s (.ref a) (.ref b) (decide (ds=es)):=by
 have Kk:RcAt A s (.ref a) (.ref b) ((UE (min its.toArray.size xY.toArray.size)).all (λj=>decide (ds[j]?=es[j]?)) && its.toArray.size == xY.toArray.size):=by
  refine RcAt.tuples p1 p2 hu λj h1 h2=>?_;have GV:j<ds.length:=by rw[<-l1];simpa using h1
  have GW:j<es.length:=by rw[<-l2];simpa using h2
  have e1:ds[j]?=A? ds[j]:=Sn GV;have e2:es[j]?=A? es[j]:=Sn GW;have e3:decide (ds[j]?=es[j]?)=decide (ds[j]=es[j]):=by rw[e1,e2];simp
  have g1:its[j]?=A? its[j]:=Sn (by rw[l1];exact GV);have g2:xY[j]?=A? xY[j]:=Sn (by rw[l2];exact GW);rw[e3];exact ih j ds[j] es[j] its[j] xY[j] e1 e2 g1 g2
 have e:decide (ds=es)=((UE (min its.toArray.size xY.toArray.size)).all (λj=>decide (ds[j]?=es[j]?)) && its.toArray.size == xY.toArray.size):=by
  rw[SF,SF,l1,l2];by_cases h:ds=es
  .subst h;rw[Yc rfl];symm;simp
  .rw[Zb h];symm;by_cases hl:ds.length=es.length
   .rw[hl,Nat.min_self]
    have:¬((UE es.length).all (λj=>decide (ds[j]?=es[j]?)))=true:=by
     intro z;apply h;apply Wz;intro j;by_cases hj:j<es.length
     .exact Zc (V8.mp z j (Wr.mpr hj))
     .rw[T9 (by lia),T9 (by lia)]
    rw[WA.mpr this];rfl
   .have:(ds.length == es.length)=false:=by simpa using hl
    rw[this,Bool.and_false]
 rw[e];exact Kk
open Classical in
theorem qJ{X:Cx}(I:Inv X Z Y H s){es:List Dv}{vs ws:List V}(ha:SqT X.K H a vs)(hb:SqT X.K H b ws)(CH:DAtsK X.K H ds vs)(AO:DAtsK X.K H es ws)(hu:A.units<Vo)
 (ih:∀(j:Nat)(d e:Dv)(x y:V)(u v:Sq),ds[j]?=A? d->DAtK X.K H d x->DAtK X.K H e y->RelV x u->RelV y v->EqAt A.in1 s u v (decide (d=e))):RcAt A s (.ref a) (.ref b) (decide (Dv.tup ds=Dv.tup es)):=by
 obtain⟨its,r1,p1,_⟩:=I.tuple ha;obtain⟨xY,r2,p2,_⟩:=I.tuple hb;rw[show decide (Dv.tup ds=Dv.tup es)=decide (ds=es)from decide_eq_decide.mpr ⟨λz=>Dv.tup.inj z,λz=>Zd _ z⟩];refine gF (show s.1.IsTuple a its.toArray from p1) (show s.1.IsTuple b xY.toArray from p2) (by rw[<-r1.length,CH.length]) (by rw[<-r2.length,AO.length]) hu λj d e u v e1 e2 e3 e4=>?_;obtain⟨x',yf,dx⟩:=CH.at e1;obtain⟨y',Aq,dy⟩:=AO.at e2;obtain⟨u',Aw,GX⟩:=r1.get yf;obtain⟨v',AN,GY⟩:=r2.get Aq;rw[Aw]at e3;rw[AN]at e4;cases e3;cases e4;exact ih j d e x' y' _ _ e1 dx dy GX GY
open Classical in
theorem ny{X:Cx}(I:Inv X Z Y H s):∀(n:Nat)(d e:Dv),d.tot<=n->∀(x y:V)(u v:Sq)(A:Ta),DAtK X.K H d x->DAtK X.K H e y->RelV x u->RelV y v->A.units+d.deep<Vo->EqAt A s u v (decide (d=e))
 |0,d,e,hn,x,y,u,v,A,hd,he,ru,rv,hu=>by have:=d.tot_pos;lia
 | n+1,.int i,.int j,hn,x,y,u,v,A,hd,he,ru,rv,hu=>by
   rw[DAtK]at hd;rw[DAtK]at he;subst hd he;obtain⟨t,rfl⟩:=ru;obtain⟨t',rfl⟩:=rv
   have e:decide (Dv.int i=Dv.int j)=(i == j):=by
    by_cases h:i=j
    .subst h;simp
    .rw[Zb (λz=>h (Dv.int.inj z))];simp[h]
   rw[e];exact EqAt.int_int i t j t'
 | n+1,.int i,.str b,hn,x,y,u,v,A,hd,he,ru,rv,hu=>by
   rw[DAtK]at hd;rw[DAtK]at he;subst hd he;obtain⟨t,rfl⟩:=ru;obtain⟨t',rfl⟩:=rv;rw[Zb (λz=>by cases z)];exact EqAt.int_str i t b t'
 | n+1,.int i,.tup es,hn,x,y,u,v,A,hd,he,ru,rv,hu=>by
   rw[DAtK]at hd;rw[DAtK]at he;obtain⟨a,vs,rfl,ha,_⟩:=he;subst hd;obtain⟨t,rfl⟩:=ru;cases rv;obtain⟨its,_,p,_⟩:=I.tuple (ha.sq);rw[Zb (λz=>by cases z)];exact EqAt.int_tuple i t (show s.1.IsTuple a its.toArray from p) (by lia)
 | n+1,.str b,.int j,hn,x,y,u,v,A,hd,he,ru,rv,hu=>by
   rw[DAtK]at hd;rw[DAtK]at he;subst hd he;obtain⟨t,rfl⟩:=ru;obtain⟨t',rfl⟩:=rv;rw[Zb (λz=>by cases z)];exact EqAt.str_int b t j t'
 | n+1,.str b,.str c,hn,x,y,u,v,A,hd,he,ru,rv,hu=>by
   rw[DAtK]at hd;rw[DAtK]at he;subst hd he;obtain⟨t,rfl⟩:=ru;obtain⟨t',rfl⟩:=rv
   have e:decide (Dv.str b=Dv.str c)=(b == c):=by
    by_cases h:b=c
    .subst h;simp
    .rw[Zb (λz=>h (Dv.str.inj z))];simp[h]
   rw[e];exact EqAt.str_str b t c t'
 | n+1,.str b,.tup es,hn,x,y,u,v,A,hd,he,ru,rv,hu=>by
   rw[DAtK]at hd;rw[DAtK]at he;obtain⟨a,vs,rfl,ha,_⟩:=he;subst hd;obtain⟨t,rfl⟩:=ru;cases rv;obtain⟨its,_,p,_⟩:=I.tuple (ha.sq);rw[Zb (λz=>by cases z)];exact EqAt.str_tuple b t (show s.1.IsTuple a its.toArray from p) (by lia)
 | n+1,.tup ds,.int j,hn,x,y,u,v,A,hd,he,ru,rv,hu=>by
   rw[DAtK]at hd;rw[DAtK]at he;obtain⟨a,vs,rfl,ha,_⟩:=hd;subst he;cases ru;obtain⟨t,rfl⟩:=rv;obtain⟨its,_,p,_⟩:=I.tuple (ha.sq);rw[Zb (λz=>by cases z)];exact EqAt.tuple_int j t (show s.1.IsTuple a its.toArray from p) (by lia)
 | n+1,.tup ds,.str b,hn,x,y,u,v,A,hd,he,ru,rv,hu=>by
   rw[DAtK]at hd;rw[DAtK]at he;obtain⟨a,vs,rfl,ha,_⟩:=hd;subst he;cases ru;obtain⟨t,rfl⟩:=rv;obtain⟨its,_,p,_⟩:=I.tuple (ha.sq);rw[Zb (λz=>by cases z)];exact EqAt.tuple_str b t (show s.1.IsTuple a its.toArray from p) (by lia)
 | n+1,.tup ds,.tup es,hn,x,y,u,v,A,hd,he,ru,rv,hu=>by
   have GZ:=hd;have FY:=he;rw[DAtK]at hd;rw[DAtK]at he;obtain⟨a,vs,rfl,ha,CH⟩:=hd;obtain⟨b,ws,rfl,hb,AO⟩:=he;cases ru;cases rv;by_cases Aa:a=b
   .subst Aa;rw[Yc (DAtK.inj I GZ FY)];exact EqAt.same _
   rw[Dv.tot]at hn;rw[Dv.deep]at hu;refine EqAt.of_refs Aa (qJ I ha.sq hb.sq CH AO (by lia) λj d e x' y' u' v' e1 dx dy GX GY=>?_);have q1:=pZ e1;have q2:=kB e1;refine ny I n d e (by lia) x' y' u' v' A.in1 dx dy GX GY ?_;show A.units+1+_<Vo;lia
end L2
namespace BB
open PySem PySem.Spec PyProof.Rows L2
end BB
namespace L2
open PySem PySem.Spec PySem.SeqAt PyProof.Rows BB
open Classical in
theorem tQ{X:Cx}(I:Inv X Z Y H s):∀(n:Nat)(d e:Dv),d.tot<=n->∀(x y:V)(u v:Sq)(A:Ta),DAt H d x->DAt H e y->RelV x u->RelV y v->A.units+d.deep<Vo->EqAt A s u v (decide (d=e)):=λn d e hn x y u v A hd he=>ny I n d e hn x y u v A hd.k he.k
end L2
namespace BB
open PySem L2
end BB
namespace PySem
theorem bb_extendT(l:So)(items:Array Sq)(n:Nat)(b:So)(zB:Array Sq)(n2:Nat)(dd:Option So)(sl:Array (Option Sq))(g0:¬(!items.isEmpty && UK (items.size+zB.size))=B?)(g1:items.size<=SM)(g2:items.size+zB.size<=SM+1) :
 Meets (VY.«list.extend» ⟨[.ref l,.ref b],[]⟩) (λ_ R s=>s.1.get? l=A? {cls:=.type "list",dict:=Am,data:=.seq items n,slots:=#[]}/\s.1.get? b=A? {cls:=.type "tuple",dict:=dd,data:=.seq zB n2,slots:=sl}/\R (.ok (.ret Ud)) {s with heap:=s.1.update l (UO λx=>x++zB),toks:=s.toks}) :=
 .of_wp λprog w A R s h=>by
  obtain⟨hp,g,d,tk,os⟩:=s;obtain⟨hl,hb,h⟩:=h;have f1:=AutoSeq1.idx_int;have f2:=AutoSeq1.sub_tuple_tuple;have f3:=AutoSeq1.sub_list_list;have f4:=AutoSeq1.sub_tuple_list;have f5:=AutoSeq1.sub_list_tuple;have z2:(items++zB).size<=SM+1:=by rw[Array.size_append];exact g2
  wp_walk using(Wt hl rfl (hz:=g1) (_hz':=z2)),AutoSeq1.wpAny_loadPart' hl,AutoSeq1.wpAny_loadPart' hb
  exact⟨_,D?,h⟩
end PySem
namespace L2
open PySem PySem.Spec PyProof.Rows
section
variable{X:Cx}
def sN(K:Ss):V->List V->Hp->VK->Prop:=λx vs H Q=>∃l b xs zs,x=.ref l/\vs=[.ref b]/\H l=A? (.lst xs)/\SqT K H b zs/\xs.length+zs.length<=SM/\Q .non (upd H l (.lst (xs++zs)))
theorem oM:MtM X "list.extend" (sN X.K):=by
 intro Z s Y H x vs v us Q I rx rv h;obtain⟨l,b,xs,zs,rfl,rfl,hH,hB,hz,q⟩:=h;cases rx;obtain⟨u,rfl,ru⟩:=rv.one;cases ru;obtain⟨z,its,n,r,hl,e⟩:=I.lstM hH;obtain⟨xY,r2,p2,_⟩:=I.tuple hB;have Bj:=r2.length;obtain⟨⟨GK,FU,data2,FV⟩,e2,Ai,n2,hd2⟩:=p2;simp only at Ai hd2;subst Ai hd2;have hsz:its.toArray.size+xY.toArray.size<=SM:=by rw[SF,SF];lia
 have Ap:¬(!its.toArray.isEmpty && UK (its.toArray.size+xY.toArray.size))=true:=by
  rw[kU hsz,Bool.and_false];exact SW
 refine WI F.slot_list_extend ⟨_,e,rfl⟩ F.entry_list_extend (F.args_list_extend_2 _ _)
  (bb_extendT l its.toArray n b xY.toArray n2 FU FV Ap (by rw[SF];lia) (by lia)) ⟨e,e2,?_⟩
 refine⟨.non,_,I.lset (its':=its++xY) hH e (by simp) (r.append r2) ?_,D?,q⟩;rw[SD];lia
end
end L2
namespace BB
open PySem L2
def kDv(k:SG×Int):Dv:=.tup [.str k.1,.int k.2]
theorem n6:∀{ks:List (SG×Int)}{as:List So},Tc (KAt H) ks as->DAts H (ks.map kDv) (as.map Ye)
 |_,_,.nil=>.nil
 | _,_,.cons r h=>by
   rw[Tb,Tb];refine .cons ?_ (n6 h);rw[kDv,DAt];exact⟨_,_,D?,r,.cons (by rw[DAt]) (.cons (by rw[DAt]) .nil)⟩
theorem g9:∀ks:List (SG×Int),b7 (ks.map kDv)<=1
 | []=>by rw[U3,b7];exact Tn _
 | k::ks=>by
   have:=g9 ks;rw[Tb,b7,kDv];simp only[Dv.deep,b7];lia
end BB
namespace PySem
open Sem (wp)
namespace F
end F
section
variable{w:S0}{xs:Array Sq}{k:Nat}
end
end PySem
namespace L2
open PySem PySem.Spec PyProof.Rows BB
section
variable{X:Cx}
end
end L2
namespace BB
open PySem L2
end BB
namespace HT
open PySem PySem.Spec PyProof.Rows
section
variable{w:S0}
theorem getItem_tuple_whole{t:So}(ht:IsTup s.1 t items)(hs:s.1.IsSliceOf sl vl vu .none)(pl:Xq vl lo)(pu:Xq vu hi)
 (hw:sIx items.size 0 lo=0/\sIx items.size items.size hi=items.size) (h:Q (.ref t) s):SV (S7 prog w) A (We (.ref t) (.ref sl)) Q E s:=by
 obtain⟨os,yE,zX,za⟩:=id hs;have GL:s.TypeIs (.ref sl) "slice":=⟨os,yE,zX⟩;have hT:s.TypeIs (.ref t) "tuple":=ht.typeIs;unfold We
 try with_reducible refine UU ?_
 first|refine Sm (Sw ?_)|skip
 refine Sm (wpAny_sequenceKey ht.typeIs (by decide) ?_)
 refine Sm (Ue (name:=SE "__getitem__") ht.typeIs To
  (Up To ht.typeIs entry_tuple_getitem ?_ (args_tuple_getitem _ _)))
 show SV _ _ (VG (.ref t) >>= _) _ _ s;refine Sm (tupleItemsOf_ ht ?_);refine Sm (Wb GL ?_);rw[Yb (by decide)];refine Sm (sliceApplied_gen hs pl pu ?_)
 have Kl:(((sIx items.size 0 lo:Nat):Int) == 0 && (1:Int) == 1 && (sIx items.size items.size hi - sIx items.size 0 lo) == items.size)=true:=by
  rw[hw.1,hw.2];simp
 show SV _ _ (if(((sIx items.size 0 lo:Nat):Int) == 0 && (1:Int) == 1 && (sIx items.size items.size hi - sIx items.size 0 lo) == items.size)=B? then _ else _) _ _ s;rw[Yb Kl];refine Sm (m:=Builtin.Tuple.tupleIsExact _) ?_;unfold Builtin.Tuple.tupleIsExact;refine Sm (Wb hT (Sw ?_));rw[Yb (by decide)];exact Sm (Xk (Sw ⟨_,rfl,Sw h⟩))
end
end HT
namespace L2
open PySem PySem.Spec PyProof.Rows
inductive uU(x:V)(lo:Option Int)(hi:Option Int)(H:Hp)(Q:VK):Prop
 |mk (a:_) (xs:_) (zu:x=.ref a) (zv:H a=A? (.tup xs)) (An:∀p H',Same H H'->H' p=A? (.tup (cL xs lo hi))->Q (.ref p) H'):uU  x lo hi H Q
def xL:V->Option Int->Option Int->Hp->VK->Prop:=uU
theorem pM{X:Cx}:SlR X xL:=by
 intro Z s Y H x v vl vu lo hi sl Q I rx hs pl pu h;obtain⟨a,xs,rfl,ha,q⟩:=h;by_cases hw:Yj xs.length 0 lo=0/\Yj xs.length xs.length hi=xs.length
 .obtain⟨its,r,p1,hz⟩:=I.tuple (Yg (K:=X.K) ha);have hl:=r.length;cases rx
  have e:cL xs lo hi=xs:=by
   unfold cL;rw[hw.1,hw.2,US,XH,Vb]
  refine⟨"tuple",_,To.lookup,p1.typeIs,HT.getItem_tuple_whole p1 hs pl pu (by rw[SF,<-hl];exact hw) ⟨.ref a,H,I,D?,q a H (.refl _) (by rw[e];exact ha)⟩⟩
 .exact gI Z s Y H _ v vl vu lo hi sl Q I rx hs pl pu ⟨a,xs,rfl,Yg ha,hw,λp hp=>q p _ (ag hp _) ad⟩
end L2
namespace PySem
open Sem (wp)
section
variable{w:S0}{d:So}{i ep:Nat}{od:UD}{es:Array DictEntry}
theorem bb_keyNext{en:DictEntry}{Q:Option Sq->Sr->Prop}(g:s.1.IsKeyIter it d i es.size ep)(g1:s.1.get? d=A? od)(g2:od.data=.dict es ep)(hx:es[i]?=A? en)
 (fin:∀h',h'.IsKeyIter it d (i+1) es.size ep->Um it s.1 h'->Q (A? en.key) {s with heap:=h'}):SV (S7 prog w) A (Wv (.ref it)) Q E s:=by
 obtain⟨o,q1,q2,q3⟩:=id g;unfold Wv;refine Sm (W6 (Ue (name:=SE "__next__") g.typeIs UP (Up UP g.typeIs F.entry_dict_keyiterator_next ?_ (F.args_dict_keyiterator_next_1 _))));refine Sm (Sw ?_);refine Sm ?_;refine Sm ?_
 first|refine Sm (Vm g.typeIs (Sw ?_))|refine Sm (VS g.typeIs (Sw ?_))
 refine Sm (wpAny_fieldsOf q1 q3 ?_);have own:Builtin.Dict_items.ownsTuple "dict_keyiterator"=false:=by decide
 simp only[own,T1,if_false];show SV _ _ (if(TF d == Ud)=B? then _ else _) _ _ s;rw[Za (show¬((TF d == Ud)=B?)from SW)];refine Sm (Sw ?_);refine Sm (Wc g1 g2 ?_);rw[Za (by simp)];refine Sm (Sw ?_);refine Sm (wpAny_dictEpoch g1 g2 ?_);rw[Za (by simp)];refine Sw ?_;have lt:i<es.size:=(Uv.mp hx).1;have ee:es[i]=en:=(Uv.mp hx).2;simp only[show¬((i:Int)<0)from by lia,if_false,Ut,Array.getElem?_eq_getElem lt];refine Sm ?_
 first|refine Sm (Vm g.typeIs (Sw ?_))|refine Sm (VS g.typeIs (Sw ?_))
 refine Sm (wpAny_isOneOf_keyiter g.typeIs ?_);show SV _ _ (setField (.ref it) 1 (Vi ((i:Int)+1)) >>= _) _ _ s;refine Sm (VB q1 q3 (by simp) ?_);have g':(s.1.update it (W8 (·.setIfInBounds 1 (Vi ((i:Int)+1))))).IsKeyIter it d (i+1) es.size ep:=⟨_,T6 _ q1 (Wj (UJ q3 _)),(Obj.cls_mapFields ..).trans q2,by rw[UJ q3];simp[Vi]⟩;refine Sm (UU ?_);refine Sm (wpAny_isOneOf_keyiter (s:={s with heap:=s.1.update it (W8 (·.setIfInBounds 1 (Vi ((i:Int)+1))))}) g'.typeIs ?_);show SV _ _ (pure es[i].key) _ _ _;rw[ee];exact Sw (Sw ⟨_,rfl,Sw (fin _ g' (Vh ..))⟩)
theorem bb_keyEnd{Q:Option Sq->Sr->Prop}(calm:A.handled=Am)(g:s.1.IsKeyIter it d i es.size ep)(g1:s.1.get? d=A? od)(g2:od.data=.dict es ep)(hx:es.size<=i)
 (fin:∀h',Heap.ExtBut it s.1 h'->Q Am {s with heap:=h'}):SV (S7 prog w) A (Wv (.ref it)) Q E s:=by
 obtain⟨o,q1,q2,q3⟩:=id g;unfold Wv;refine Sm (W6 (Ue (name:=SE "__next__") g.typeIs UP (Up UP g.typeIs F.entry_dict_keyiterator_next ?_ (F.args_dict_keyiterator_next_1 _))));refine Sm (Sw ?_);refine Sm ?_;refine Sm ?_
 first|refine Sm (Vm g.typeIs (Sw ?_))|refine Sm (VS g.typeIs (Sw ?_))
 refine Sm (wpAny_fieldsOf q1 q3 ?_);have own:Builtin.Dict_items.ownsTuple "dict_keyiterator"=false:=by decide
 simp only[own,T1,if_false];show SV _ _ (if(TF d == Ud)=B? then _ else _) _ _ s;rw[Za (show¬((TF d == Ud)=B?)from SW)];refine Sm (Sw ?_);refine Sm (Wc g1 g2 ?_);rw[Za (by simp)];refine Sm (Sw ?_);refine Sm (wpAny_dictEpoch g1 g2 ?_);rw[Za (by simp)];refine Sw ?_;simp only[show¬((i:Int)<0)from by lia,if_false,Ut,Array.getElem?_eq_none hx];refine Sm ?_
 first|refine Sm (Vm g.typeIs (Sw ?_))|refine Sm (VS g.typeIs (Sw ?_))
 show SV _ _ (setField (.ref it) 0 .none >>= _) _ _ s;refine Sm (VB q1 q3 (by simp) ?_);show SV _ _ (newExc (.type "StopIteration") [] >>= _) _ _ _;refine Sm ?_;simp only[newExc,newTuple];refine Sm (TV ?_ (by size_fits));refine Sm (m:=XD _ _) (Wl (a:=Ud) (by first|rfl|(simp only[XD];rfl)) ?_);refine TV ?_ (by size_fits);simp only[raiseNew];refine Sm (wpAny_handled ?_)
 first|rw[show A.in1.handled=Am from calm]|rw[calm]
 refine Sm (Sw (wpAny_throw ?_));refine Sm (Wk (T:="StopIteration") (b:=B?) ⟨_,SO _ rfl,rfl⟩ isSubtype_stop ?_);exact Sw (fin _ (((Vh ..).extBut.push _).push _))
theorem bb_keyIter(ns:(d == Uh)=C?)(g1:s.1.get? d=A? od)(gc:od.cls=.type "dict")(g2:od.data=.dict es ep)
 (fin:Q (.ref s.1.1.size) {s with heap:=s.1.push {cls:=.type "dict_keyiterator",data:=.fields #[.ref d,.int 0 0,.int es.size 0,.int ep 0]}}):SV (S7 prog w) A (pyIter (.ref d)) Q E s:=by
 have gT:s.TypeIs (.ref d) "dict":=⟨_,g1,gc⟩;refine wpAny_pyIter_slot gT F.slot_dict_iter (Up F.slot_dict_iter gT F.entry_dict_iter ?_ (F.args_dict_iter_1 _));unfold VY.«dict.__iter__»;refine Sm ?_;unfold Builtin.Dict.dictSlotNone;refine Sm (wpAny_notOrdered_dict gT ?_);show SV _ _ (pure (TF d)) _ _ s;refine Sw ?_;show SV _ _ (Builtin.Dict.showsAll d >>= _) _ _ s;unfold Builtin.Dict.showsAll;rw[Za (by rw[ns];exact SW)];refine Sm (Sw ?_);refine Sm (Wc g1 g2 ?_);refine Sm (wpAny_dictEpoch g1 g2 ?_);refine Sm (TV (Sw ⟨_,rfl,"dict_keyiterator",_,⟨_,SO _ rfl,rfl⟩,UP.lookup,?_⟩));simpa[Vi]using fin
end
end PySem
namespace L2
open PySem PySem.Spec PyProof.Rows
section
variable{X:Cx}
end
end L2
namespace BB
open PySem L2
inductive Top where
 |nm (n:SG) (m:Nat)
 |th (t:Th)
def bl:List Top->List Th
 | []=>[]
 |.nm n m::S=>.knot n ((bl S).take m)::(bl S).drop m
 |.th t::S=>t::bl S
def TopsOk:List Top->Prop
 | []=>True
 |.nm _ m::S=>m<=(bl S).length/\TopsOk S
 |.th _::S=>TopsOk S
theorem TopsOk.drop:∀{l:List Top}(i:Nat),TopsOk l->TopsOk (l.drop i)
 |l,0,h=>by rw[US];exact h
 | [],i+1,h=>by rw[List.drop_nil];exact h
 | .nm n m::S,i+1,h=>by
   rw[TopsOk]at h;rw[List.drop_succ_cons];exact TopsOk.drop i h.2
 | .th t::S,i+1,h=>by
   rw[TopsOk]at h;rw[List.drop_succ_cons];exact TopsOk.drop i h
theorem pf:∀l:List Top,(bl l).length<=l.length
 | []=>Su _
 | .nm n m::S=>by
   have:=pf S;rw[bl,SQ,SQ,Tz];lia
 | .th t::S=>by
   have:=pf S;rw[bl,SQ,SQ];lia
def TopAt(H:Hp):Top->So->Prop
 |.nm n m,a=>∃ta,H a=A? (.tup [.ref ta,.int (m:Nat)])/\n≠q/\H ta=A? (.tup [.str n])
 |.th t,a=>∃ta,H a=A? (.tup [.ref ta,.int 0])/\At H t ta
theorem TopAt.mono(k:KT H H'):∀{x:Top}{a:So},TopAt H x a->TopAt H' x a
 | .nm n m,a,h=>by
   obtain⟨ta,h1,h2,h3⟩:=h;exact⟨ta,k _ _ h1,h2,k _ _ h3⟩
 | .th t,a,h=>by
   obtain⟨ta,h1,h2⟩:=h;exact⟨ta,k _ _ h1,h2.mono k⟩
theorem i0(k:KT H H'){l:List Top}(h:Tc (TopAt H) l as):Tc (TopAt H') l as:=Zk (λ_ _ e=>TopAt.mono k e) h
mutual
def Th.fill(f:Int->Int->Th):Th->Th
 |.knot n ks=>.knot n (fills f ks)
 |.call s k=>f s k
def fills(f:Int->Int->Th):List Th->List Th
 | []=>[]
 |t::ts=>t.fill f::fills f ts
end
theorem i5(f:Int->Int->Th):∀ts:List Th,(fills f ts).length=ts.length
 | []=>by rw[fills]
 |t::ts=>by rw[fills,SQ,SQ,i5 f ts]
mutual
theorem dP(f g:Int->Int->Th):∀t:Th,(t.fill f).fill g=t.fill λs k=>(f s k).fill g
 |.knot n ks=>by rw[Th.fill,Th.fill,Th.fill,jq f g ks]
 |.call s k=>by rw[Th.fill,Th.fill]
theorem jq(f g:Int->Int->Th):∀ts:List Th,fills g (fills f ts)=fills (λs k=>(f s k).fill g) ts
 | []=>by rw[fills,fills,fills]
 |t::ts=>by rw[fills,fills,fills,dP f g t,jq f g ts]
end
mutual
theorem mj:∀t:Th,t.fill Ym=t
 |.knot n ks=>by rw[Th.fill,nN ks]
 |.call s k=>by rw[Th.fill]
theorem nN:∀ts:List Th,fills Ym ts=ts
 | []=>by rw[fills]
 |t::ts=>by rw[fills,mj t,nN ts]
end
def cC(f:Int->Int->Th):Th->Top
 |.knot n ks=>.nm n ks.length
 |.call s k=>.th (f s k)
theorem j6(f:Int->Int->Th):∀(n:Nat)(ts:List Th),am ts<=n->∀S,bl ((walks ts).map (cC f)++S)=fills f ts++bl S/\(TopsOk S->TopsOk ((walks ts).map (cC f)++S))
 |_,[],_,S=>by rw[walks,fills];exact⟨D?,λh=>h⟩
 | 0,t::ts,hn,S=>by
   have:=t.size_pos;rw[am]at hn;lia
 | n+1,t::ts,hn,S=>by
   have hs:=t.size_eq;rw[am]at hn;have h2:=j6 f n ts (by lia) S;have e:(walks (t::ts)).map (cC f)++S=cC f t::((walks t.kids).map (cC f)++((walks ts).map (cC f)++S)):=by rw[walks,t.walk_eq];simp
   have h1:=j6 f n t.kids (by lia) ((walks ts).map (cC f)++S);rw[e];cases t with
   | knot nm ks =>
     simp only[Th.kids]at h1 |-;refine⟨?_,λhS=>?_⟩
     .show bl (.nm nm ks.length::_)=_;rw[bl,h1.1,h2.1,<-i5 f ks,List.take_left,List.drop_left,fills,Th.fill];rfl
     .show TopsOk (.nm nm ks.length::_);rw[TopsOk];refine⟨?_,h1.2 (h2.2 hS)⟩;rw[h1.1,SD,i5];exact Nat.le_add_right _ _
   | call s k =>
     simp only[Th.kids,walks,U3,WZ]at h1 |-;refine⟨?_,λhS=>?_⟩
     .show bl (.th (f s k)::_)=_;rw[bl,h2.1,fills,Th.fill];rfl
     .show TopsOk (.th (f s k)::_);rw[TopsOk];exact h2.2 hS
theorem jK(f:Int->Int->Th)(t:Th):bl (t.walk.map (cC f))=[t.fill f]/\TopsOk (t.walk.map (cC f)):=by
 have h:=j6 f _ [t] (Su _) [];have e:walks [t]=t.walk:=by simp[walks]
 rw[e,T3]at h;refine⟨?_,h.2 (by rw[TopsOk];trivial)⟩;rw[h.1,fills,fills,bl];rfl
theorem qa(x:V)(xs:List V):cL (x::xs) Am (A? 1)=[x]:=by
 unfold cL;rw[show(A? (1:Int))=A? ((1:Nat):Int)from rfl,Zl,Zp,SQ,VI (by lia)];rfl
end BB
open BB.Th renaming fill->Yl
namespace PySem
open Sem (wp)
end PySem
namespace L2
open PySem PySem.Spec PyProof.Rows BB
end L2
namespace BB
open PySem L2
theorem j9{k:Nat}(hr:L2.Room k A):A.units+150+2<Vo:=by
 have:=hr.un;lia
end BB
namespace L2
open PySem PySem.Spec PySem.SeqAt PyProof.Rows BB
open Classical in
theorem sr{X:Cx}(I:Inv X Z Y H s){es:List Dv}{vs ws:List V}{xY:List Sq}(r1:Vals vs its)(r2:Vals ws xY)(CH:DAts H ds vs)(AO:DAts H es ws)(hu:A.units+b7 ds+2<Vo) :
 ∀j(h1:j<its.toArray.size)(h2:j<xY.toArray.size),EqAt A.in1 s its.toArray[j] xY.toArray[j] (decide (ds[j]?=es[j]?)):=by
 intro j h1 h2;have l1:its.length=ds.length:=by rw[<-r1.length,CH.length]
 have l2:xY.length=es.length:=by rw[<-r2.length,AO.length]
 have GV:j<ds.length:=by rw[<-l1];simpa using h1
 have GW:j<es.length:=by rw[<-l2];simpa using h2
 have e1:ds[j]?=A? ds[j]:=Sn GV;have e2:es[j]?=A? es[j]:=Sn GW;obtain⟨x',yf,dx⟩:=CH.at e1;obtain⟨y',Aq,dy⟩:=AO.at e2;obtain⟨u',Aw,GX⟩:=r1.get yf;obtain⟨v',AN,GY⟩:=r2.get Aq;have e3:decide (ds[j]?=es[j]?)=decide (ds[j]=es[j]):=by rw[e1,e2];simp
 have e4:its.toArray[j]=u':=by
  rw[Sn (by rw[l1];exact GV)]at Aw;simpa using Aw
 have e5:xY.toArray[j]=v':=by
  rw[Sn (by rw[l2];exact GW)]at AN;simpa using AN
 rw[e3,e4,e5];have q2:=kB e1;refine tQ I _ ds[j] es[j] (Su _) x' y' u' v' A.in1 dx dy GX GY ?_;show A.units+1+_<Vo;lia
open Classical in
theorem oV{es:List Dv}(hl:ds.length=es.length):(UE ds.length).all (λj=>decide (ds[j]?=es[j]?))=decide (ds=es):=by
 by_cases h:ds=es
 .subst h;rw[Yc rfl];simp
 .rw[Zb h];refine WA.mpr λz=>h (Wz λj=>?_);by_cases hj:j<ds.length
  .exact Zc (V8.mp z j (Wr.mpr hj))
  .rw[T9 (by lia),T9 (by lia)]
def xn(K:Ss)(B:Nat):R2:=λx y H Q=>∃a b vs ws ds es,x=.ref a/\y=.ref b/\SqT K H a vs/\SqT K H b ws/\DAts H ds vs/\DAts H es ws/\b7 ds<=B/\∀b:Bool,(b=B?↔ds≠es)->Q (.bl b) H
open Classical in
theorem o8{X:Cx}{B:Nat}(hu:X.A.units+B+2<Vo):OpR X (V0 .NotEq) (xn X.K B):=by
 intro Z s Y H x y v u Q I rx ry h;obtain⟨a,b,vs,ws,ds,es,rfl,rfl,ha,hb,CH,AO,hB,q⟩:=h;cases rx;cases ry;obtain⟨its,r1,p1,_⟩:=I.tuple ha;obtain⟨xY,r2,p2,_⟩:=I.tuple hb;have l1:its.length=ds.length:=by rw[<-r1.length,CH.length]
 have l2:xY.length=es.length:=by rw[<-r2.length,AO.length]
 refine RcNeAt.tuples (show s.1.IsTuple a its.toArray from p1) (show s.1.IsTuple b xY.toArray from p2) (by lia) (sr I r1 r2 CH AO (by lia)) X.prog X.w X.xe _ ?_
 have e:((UE (min its.toArray.size xY.toArray.size)).all (λj=>decide (ds[j]?=es[j]?)) && its.toArray.size == xY.toArray.size)=decide (ds=es):=by
  rw[SF,SF,l1,l2];by_cases hl:ds.length=es.length
  .rw[<-hl,Nat.min_self,oV hl];simp
  .rw[Zb (λz=>hl (by rw[z]))];simp[hl]
 refine⟨.bl (!decide (ds=es)),H,I,by rw[e];rfl,q _ ?_⟩;simp
end L2
namespace BB
open PySem L2
theorem sM:∀{ts:List Th}{as:List So},Tc (At H) ts as->Ats H ts as
 |_,_,.nil=>.nil
 |_,_,.cons r h=>.cons r (sM h)
inductive Rep where
 |i
 |p
def enc(s l:Int):Int:=1000 * s+l
def StV(r:Rep)(H:Hp)(s:Int)(v:V):Prop:=match r with
 |.i=>v=.int s
 |.p=>∃(a:So)(x y:Int),v=.ref a/\H a=A? (.tup [.int x,.int y])/\s=enc x y/\0<=x/\0<=y/\y<1000
theorem StV.mono{r:Rep}(k:KT H H'){s:Int}(h:StV r H s v):StV r H' s v:=by
 cases r with
 |i=>exact h
 | p =>
   obtain⟨a,x,y,e,h1,h2⟩:=h;exact⟨a,x,y,e,k _ _ h1,h2⟩
theorem tY{x y x' y':Int}(h:enc x y=enc x' y')(h1:0<=y)(h2:y<1000)(h3:0<=y')(h4:y'<1000):x=x'/\y=y':=by
 unfold enc at h;lia
end BB
variable{r:BB.Rep}
namespace L2
open PySem PySem.Spec PySem.SeqAt PyProof.Rows BB
end L2
namespace BB
open PySem L2
end BB
namespace L2
open PySem PySem.Spec PyProof.Rows BB
end L2
namespace BB
open PySem L2
theorem jF(h:n<=xs.length):cL xs Am (A? (n:Int))=xs.take n:=by
 unfold cL;rw[Zp,Zl,VI h,US,XH]
end BB
namespace L2
open PySem PySem.Spec PySem.Calls PyProof.Rows PySem.W
structure tE(K:Frag)(C:So):Prop where
 exc:excIn K C [.type "ValueError",.type "Exception",.type "BaseException",.type "object"] "ValueError.__new__"=B?
 ga:findIn K (.ref C) "__getattribute__"=A? (A? (.builtin "BaseException.__getattribute__"))
 gt:findIn K (.ref C) "__getattr__"=A? Am
 cl:findIn K (.ref C) "__class__"=A? (A? (.builtin "object.__class__"))
 mo:mroIn K C (.type "object")=A? B?
 mb:mroIn K C (.type "BaseException")=A? B?
section
variable{w:S0}{g:Array GenState}{d:Drawn}{t:Nat}{os:WE}{C:So}{o:UD}{K:Frag}
end
theorem ObjOk.there{w:S0}{o:HO}(x:ObjOk P w H h a o):∃ob,h.get? a=A? ob:=by
 cases o with
 |lst xs=>obtain⟨_,_,_,_,e⟩:=x;exact⟨_,e⟩
 |tup xs=>obtain⟨_,_,_,_,e⟩:=x;exact⟨_,e⟩
 |dK xP=>obtain⟨_,_,_,_,o,_,_,e,_⟩:=x;exact⟨_,e⟩
 |dT xP=>obtain⟨_,_,_,_,o,_,_,e,_⟩:=x;exact⟨_,e⟩
 |set S n=>obtain⟨o,_,_,_,e,_⟩:=x;exact⟨_,e⟩
 |ins C dx fs=>obtain⟨_,_,_,e,_⟩:=x;exact⟨_,e⟩
 |own y=>obtain⟨_,e⟩:=x;exact⟨_,e⟩
 |xd fs=>obtain⟨_,⟨_,_,_,e,_⟩,_⟩:=x;exact⟨_,e⟩
 |rng lo hi=>obtain⟨_,_,_,e⟩:=x;exact⟨_,e⟩
 |frz ob u=>obtain⟨e,_⟩:=x;exact⟨_,e⟩
 |tbl ps=>exact⟨_,(show h.get? a=A? _ from x)⟩
 |met f y=>exact⟨_,(show h.get? a=A? _ from x)⟩
 |ext φ=>obtain⟨_,⟨_,e⟩,_⟩:=x;exact⟨_,e⟩
def CX1(P:SH)(w:S0):CXT:=λouter H s E e s'=>∃(ea C:So)(a0:Sq)(B:TL)(H':Hp),
 e=.ref ea/\s'.os=s.os/\Xz s'.gens/\Un (frs outer) [] H H' s.1 s'.1/\HOk P w H' s'.1/\Heap.FlyingW B outer ea (.ref C) a0 s'.1 /\
 (∀b o,s.1.get? b=A? o->b∉frs outer->∃o',B.get? b=A? o'/\(H b=Am->o'=o))/\(∀b u,H' b=A? u->∃o',B.get? b=A? o')/\E (.ref C) Am H'
theorem jE{w:S0}{B:TL}(hok:HOk P w H' h)(k1:B.StaysIn h)(k2:B.StaysIn h')(b2:∀b u,H' b=A? u->∃o',B.get? b=A? o'):HOk P w H' h':=λa o e =>
 (hok a o e).stay (λb u hb q=>by
  have ht:∃v,H' b=A? v:=by
   rcases hb with rfl|hb
   .exact⟨_,e⟩
   .exact⟨_,hb⟩
  obtain⟨v,hv⟩:=ht;obtain⟨o',yD⟩:=b2 b v hv;have:=k1 b o' yD;rw[q]at this;cases this;exact k2 b _ yD) (λ_ q=>q) λ_ _ q=>q
theorem oS{fs:List So}{h2:TL}{l:List So}{B:TL}(u1:Un fs [] H H1 h h1)(u2:Un l [] H1 H' h1 h2)(hl:∀b o,h.get? b=A? o->b∈l->b∈fs)
 (b1:∀b o,h1.get? b=A? o->b∉l->∃o',B.get? b=A? o'/\(H1 b=Am->o'=o)) (st:B.StaysIn h') (up:h2.UpToSlots h')
 (hf:∀b∈fs,H b=Am/\∃o,h.get? b=A? o/\∀vs,o.data≠.fields vs) :
 Un fs [] H H' h h'/\∀b o,h.get? b=A? o->b∉fs->∃o',B.get? b=A? o'/\(H b=Am->o'=o):=by
 have nx:∀b:So,b∉([]:List So):=λb=>by simp
 have bb:∀b o,h.get? b=A? o->b∉fs->∃o',B.get? b=A? o'/\(H b=Am->o'=o):=λb o q nf=>by
  obtain⟨o1,e1⟩:=u1.there b o q (nx b);obtain⟨o',e',g⟩:=b1 b o1 e1 λz=>nf (hl b o q z);refine⟨o',e',λn=>?_⟩;have:=u1.keep b o q n nf (nx b);rw[e1]at this;cases this;exact g (u1.free b _ q n (nx b))
 have sl:∀b o,h.get? b=A? o->H b=Am->b∈fs->∃sl,h'.get? b=A? {o with slots:=sl}:=λb o q n m=>by
  obtain⟨s1,e1⟩:=u1.slot b o q n m (nx b);obtain⟨s2,e2⟩:=u2.any e1 (u1.free b o q n (nx b)) (nx b);obtain⟨_,o0,q0,nf⟩:=hf b m;rw[q]at q0;cases q0;obtain⟨s3,e3⟩:=up b _ e2 nf;exact⟨s3,e3⟩
 refine⟨⟨λb o q n nf _=>?_,λb o q n m _=>sl b o q n m,λb o q n _=>?_,λb o q _=>?_,λb xs q=>u2.tups b xs (u1.tups b xs q),λb o u q=>u2.frzs b o u (u1.frzs b o u q),λb ps q=>?_⟩,bb⟩
 .obtain⟨o',e',g⟩:=bb b o q nf;rw[<-g n];exact st b o' e'
 .obtain⟨o1,e1⟩:=u1.there b o q (nx b);exact u2.free b o1 e1 (u1.free b o q n (nx b)) (nx b)
 .by_cases m:b∈fs
  .obtain⟨n,_⟩:=hf b m;obtain⟨s3,e3⟩:=sl b o q n m;exact⟨_,e3⟩
  .obtain⟨o',e',_⟩:=bb b o q m;exact⟨o',st b o' e'⟩
 .obtain⟨m1,e1⟩:=u1.tbls b ps q;obtain⟨m2,e2⟩:=u2.tbls b _ e1;exact⟨m1++m2,by rw[e2,Ws]⟩
section
variable{w:S0}{E:XK}
theorem lb{l:List Wf}{L:So}(hf:env.frame=A? L):frs (env::l)=L::frs l:=by unfold frs;rw[UM,hf]
def vc(te:TE)(C:So)(E:XK):TS:=λ_ Y H=>te Y H λ_ H1=>E (.ref C) Am H1
theorem uo{C:So}(X:K.In h)(F:tE K C)(hm:mg x=A? (.ref C)):OwnCls x C [.type "ValueError",.type "Exception",.type "BaseException",.type "object"] "ValueError.__new__" mg h:=by
 have q:=F.exc;refine⟨hm,?_⟩;unfold excIn at q;split at q
 .rename_i dd cd sl ho
  split at q
  .rename_i C' bm k0 k1 k2 k3 n k5 hm hs
   simp only[WR,beq_iff_eq,Bool.not_eq_true']at q;obtain⟨⟨⟨⟨⟨rfl,rfl⟩,G0⟩,ht⟩,hok⟩,Jo⟩:=q;obtain⟨nm,bs,mro,ns,qn,hd,sn,sub,ab,col,del⟩:=cd;dsimp only at hm G0 hok Jo;subst hm G0
   have EE:sl=#[k0,k1,k2,k3,A? (.builtin "ValueError.__new__"),k5]:=by
    obtain⟨l⟩:=sl;simp only at hs;rw[hs]
   subst EE;exact⟨bm,ns,nm,qn,bs,hd,sn,sub,ab,col,dd,k0,k1,k2,k3,k5,_,X _ _ ho,.of_isNs (isNs_of_in X hok),nsMap_none_of_in X hok Jo,tail_of_in X ht⟩
  .cases q
 .cases q
theorem kR{C:So}{e0:TN}{np yR:VX}(F:tE K C)(hm:mg x=A? (.ref C))(he:PE (iI (CX1 P w) P w K mg base N qual scope f cd A outer s H E) e0 te)
 (hx:(Vd qual scope s.1.1.size f cd).kindOf x=A? .globalImplicit:=by rfl)
 (yy:Tr [e0] (Vd qual scope s.1.1.size f cd)=[(C?,UZ e0 (Vd qual scope s.1.1.size f cd))]:=by rfl) (hd:(x == ("__debug__":SG))=false:=by decide) :
 PS (iI (CX1 P w) P w K mg base N qual scope f cd A outer s H E) (.Raise (A? (.Call (.Name x np) [e0] [] yR)) Am pos) (vc te C E):=by
 intro Z s1 Y H1 D I h;obtain⟨tl,N',nm,q,bs,hdct,sn,sub,ab,col,dd,k0,k1,k2,k3,k5,mN,hC,hN,Jo,T⟩:=(uo I.mod.kin F hm).obj
 refine wpAny_Raise_call_subT (C:=C) (nm:=nm) (q:=q) (N:=N') (bs:=bs) (bm:=tl) (hdct:=hdct) (sn:=sn) (sub:=sub) (ab:=ab) (col:=col) (dd:=dd) (k0:=k0) (k1:=k1) (k2:=k2) (k3:=k3) (k5:=k5)
  PySem.F.excBase_ValueError (mN:=mN) (T.hasType PySem.F.excBase_ValueError.hasBase) (I.ok.hd rfl) (by show(Vr yR (Tr [e0] (Vd qual scope s.1.1.size f cd))).any (·.1)=C?;rw[yy];rfl) Jo (fq I hx hm ⟨rfl,?_⟩ hd)
 show SV _ _ (evalArgs _ B? (Vr yR (Tr [e0] (Vd qual scope s.1.1.size f cd))) []) _ _ _;rw[yy];refine Calls.evalArgs_plain (WQ (thn (he Z s1 Y H1 _ I h) λv s2⟨y,H2,I2,r2,q2⟩=>W3 ⟨rfl,by show 1<=SM;decide,I2.bk _ _ hC,hN.keeps I2.bk,T.keeps I2.bk,λh' e hx=>?_⟩));show SV _ _ (leaving _ _) _ _ _;have FF:=I2.stack;have hl:∀env∈Vd qual scope s.1.1.size f cd::outer,∀a,env.frame=A? a->a∈frs (Vd qual scope s.1.1.size f cd::outer):=λenv he a ha=>Vg.mpr ⟨env,he,ha⟩;refine wpAny_leaves_madeW (base:=VZ s2.1 (frs (Vd qual scope s.1.1.size f cd::outer))) (h:=s2.1) I.ok.frames rfl (λb o z=>of_hideAll _ z) (funFrames_hide FF hl) hx λh2 t zP tup tn up=>?_;have nf:∀b u,H2 b=A? u->b∉frs (Vd qual scope s.1.1.size f cd::outer):=λb u e z=>by rw[I2.stkFree b z]at e;cases e
 obtain⟨U,DJ⟩:=oS (fs:=frs outer) (H:=H) (H1:=H2) (H':=H2) (h:=s.1) (h1:=s2.1) (h2:=h') (l:=frs (Vd qual scope s.1.1.size f cd::outer)) (B:=VZ s2.1 (frs (Vd qual scope s.1.1.size f cd::outer))) (h':=h2) I2.base (Un.kept hx.keeps) (λb o hb z=>by
  rw[lb (L:=s.1.1.size) rfl]at z;rcases SR.mp z with rfl|z
  .exact Yd (SS hb) (Tx _)
  .exact z) (λb o hb z=>⟨o,hideAll_get _ hb z,λ_=>rfl⟩) zP.1 up (λb hb=>⟨I.ok.frf b hb,(I.ok.funs.mem hb).2⟩)
 have b2:∀b u,H2 b=A? u->∃o',(VZ s2.1 (frs (Vd qual scope s.1.1.size f cd::outer))).get? b=A? o':=λb u e=>by
  obtain⟨o,ho⟩:=(I2.hok b u e).there;exact⟨o,hideAll_get _ ho (nf b u e)⟩
 exact⟨e,C,.ref t,_,H2,D?,I2.os,I2.bare,U,jE I2.hok (λb o z=>of_hideAll _ z) zP.1 b2,zP,DJ,b2,q2⟩
end
section
variable{X:Cx}
def Cx.tryB(X:Cx)(Z:List (So×UD))(R:St->Sq->Hp->Prop):Cx:={ X with
 pn:=X.pn++Z
 xe:=λe s'=>∃yt H1 s1,Inv X Z yt H1 s1/\CX1 X.prog X.w X.stack H1 s1 (λc _ H'=>R yt c H') e s' }
def Cx.suite(X:Cx)(ea:So)(oe:UD):Cx:={ X with
 A:=X.A.mark (A? (.ref ea))
 calm:=C?
 pn:=X.pn++[(ea,oe)]
 xe:=λ_ _=>False }
theorem Inv.tryB(I:Inv X Z Y H s)(R:St->Sq->Hp->Prop):Inv (X.tryB Z R) [] Y H s :=
 ⟨⟨I.ok.mod,I.ok.kind,I.ok.glob,I.ok.blt,I.ok.above,I.ok.inj,I.ok.has,I.ok.cab,I.ok.hd,I.ok.frames,I.ok.stk,I.ok.exf,I.ok.bs,I.ok.bsz,I.ok.noex,I.ok.exfs,I.ok.funs,I.ok.frf⟩,
   I.os,I.bare,I.base,I.loc,I.cell,I.free,I.freeC,λp hp=>I.pin p (by simpa[Cx.tryB]using hp),I.hok,I.len⟩
theorem Inv.untryB{R:St->Sq->Hp->Prop}(I:Inv (X.tryB Z R) yg Y H s):Inv X Z Y H s :=
 ⟨⟨I.ok.mod,I.ok.kind,I.ok.glob,I.ok.blt,I.ok.above,I.ok.inj,I.ok.has,I.ok.cab,I.ok.hd,I.ok.frames,I.ok.stk,I.ok.exf,I.ok.bs,I.ok.bsz,I.ok.noex,I.ok.exfs,I.ok.funs,I.ok.frf⟩,
   I.os,I.bare,I.base,I.loc,I.cell,I.free,I.freeC,λp hp=>I.pin p (Tp _ hp),I.hok,I.len⟩
theorem Inv.suite{ea:So}{oe:UD}(I:Inv X Z Y H s)(h:s.1.get? ea=A? oe/\H ea=Am/\ea≠X.env.locals/\ea∉X.fs/\∀v,oe.data≠.cell v):Inv (X.suite ea oe) Z Y H s :=
 ⟨⟨I.ok.mod,I.ok.kind,I.ok.glob,I.ok.blt,I.ok.above,I.ok.inj,I.ok.has,I.ok.cab,(λz=>nomatch z),I.ok.frames,I.ok.stk,I.ok.exf,I.ok.bs,I.ok.bsz,I.ok.noex,I.ok.exfs,I.ok.funs,I.ok.frf⟩,
   I.os,I.bare,I.base,I.loc,I.cell,I.free,I.freeC,λp hp=>by
    have hp:p∈(X.pn++[(ea,oe)])++Z:=hp;rcases S6.mp hp with hp|hp
    .rcases S6.mp hp with hp|hp
     .exact I.pin p (Tp _ hp)
     .obtain rfl:=Sz.mp hp;exact h
    .exact I.pin p (S3 _ hp),I.hok,I.len⟩
theorem Inv.unsuite{ea:So}{oe:UD}(I:Inv (X.suite ea oe) Z Y H s)(hd:X.calm=B?->X.A.handled=Am):Inv X Z Y H s :=
 ⟨⟨I.ok.mod,I.ok.kind,I.ok.glob,I.ok.blt,I.ok.above,I.ok.inj,I.ok.has,I.ok.cab,hd,I.ok.frames,I.ok.stk,I.ok.exf,I.ok.bs,I.ok.bsz,I.ok.noex,I.ok.exfs,I.ok.funs,I.ok.frf⟩,
   I.os,I.bare,I.base,I.loc,I.cell,I.free,I.freeC,λp hp=>I.pin p (by
    show p∈(X.pn++[(ea,oe)])++Z;rcases S6.mp hp with hp|hp
    .exact Tp _ (Tp _ hp)
    .exact S3 _ hp),I.hok,I.len⟩
end
theorem SP.untryB{X:Cx}{R:St->Sq->Hp->Prop}{f:Flow}(h:SP (X.tryB Z R) [] D f s'):SP X Z D f s':=by
 cases f with
 |next=>obtain⟨xS,H',I,q⟩:=h;exact⟨xS,H',I.untryB,q⟩
 |brk=>obtain⟨xS,H',I,q⟩:=h;exact⟨xS,H',I.untryB,q⟩
 |cont=>obtain⟨xS,H',I,q⟩:=h;exact⟨xS,H',I.untryB,q⟩
 |ret u=>obtain⟨v,xS,H',I,r,q⟩:=h;exact⟨v,xS,H',I.untryB,r,q⟩
section
variable{w:S0}
theorem Fun.ok1{k:Nat}(F:Fun K x qual st f fd)(S:cU N ps (ay st))(len:∀vs H Q E,sp vs H Q E->vs.length=ps.length)
 (yj:∀(xX:Sq)(A:Ta)(outer:List Wf)(s:Sr)(H:Hp)(vs:List V)(Q:VK)(E:XK),Room k (A.deeper (Vd qual (ay st) s.1.1.size f xX))->sp vs H Q E ->
  ∃t,PSs (iI (CX1 P w) P w K mg base N qual (ay st) f xX A outer s H E) (bj st) t/\t {nx:=λ_ H'=>Q .non H',rt:=Q} (start N vs) H):FnOk P w K mg base (CX1 P w) (k+1) f fd ps sp:=by
 obtain⟨oc,od,kV,doc,pm,an,xX,ct,BH,rfl,lk,y9⟩:=F.ex;exact qg lk y9 S len λA outer s H vs Q E hr zc=>yj xX A outer s H vs Q E hr zc
end
def sd(sp:Sp)(dvs:List V)(R:St->Sq->Hp->Prop)(t:TA):TE:=λY H Q=>t Y H λvs H1=>sp (vs++dvs) H1 Q λc _ H'=>R Y c H'
theorem sy{X:Cx}{R:St->Sq->Hp->Prop}{k:Nat}{dvs:List V}{ds:List Sq}{p:VX}{t:TA}
 (F:FnOk X.prog X.w X.K X.mg X.base (CX1 X.prog X.w) k f fd ps sp) (hr:Room k X.A) (hg:Gl X x) (hm:X.mg x=A? (.ref f)) (hk:UQ X.K (.ref f)=B?) (hb:Binds X.K fd ps ds) (hd:Vals dvs ds)
 (ha:PA (X.tryB Z R) (e::es) t) (Ao:(x == ("__debug__":SG))=false:=by decide) (he:Tr (e::es) X.env=(C?,UZ e X.env)::Tr es X.env:=by rfl) (yN:(Vr pos (Tr es X.env)).any (·.1)=false:=by rfl) :
 PE (X.tryB Z R) (.Call (.Name x p) (e::es) [] pos) (sd sp dvs R t):=by
 intro yg s Y H Q I h;refine Ug (fq I hg hm ?_ Ao);refine VO (h₀:=X.base) I.ok.mod.kin hk (thn (ha pos yg s Y H _ I h) λus s1⟨vs,H1,I1,r,q⟩=>⟨I1.kIn,?_⟩) he yN;have r2:Vals (vs++dvs) (us++ds):=r.append hd;have hl:(us++ds).length=ps.length:=by rw[<-r2.length];exact F.len _ _ _ _ q
 refine Xl (VN (F.run X.A X.stack s1 H1 ⟨us,[]⟩ (us++ds) (vs++dvs) Q _ hr I1.env0 (hb s1 us I1.kIn hl) r2 q) λr s' hq=>?_);cases r with
 |error e=>exact⟨Y,H1,s1,I1.untryB,hq⟩
 | ok fl =>
   cases fl with
   |ret u=>exact I1.after hq
   |next=>exact TH hq
   |brk=>exact TH hq
   |cont=>exact TH hq
open PySem.SeqAt
theorem sK{k:Nat}(hr:Room k A):A.units+2<Vo:=by
 have:=hr.units;lia
end L2
namespace BB
open PySem
end BB
namespace L2
open PySem PySem.Spec PySem.Calls PyProof.Rows BB
section
variable{w:S0}{R:Result->Sr->Prop}
end
end L2
namespace PySem
section
variable{w:S0}
end
end PySem
namespace L2
open PySem PySem.Spec PySem.Calls PyProof.Rows BB
section
variable{X:Cx}
def xz(K:Ss)(tl:TE):TI:=λY H R=>tl Y H λx H1=>∃a,x=.ref a/\(((∃xs,SqL K H1 a xs)/\R (Itl K a) H1)\/((∃xs,SqT K H1 a xs)/\R (Itt K a) H1))
theorem rV{l:TN}(hl:PE X l tl):PI X tg l (xz X.K tl):=by
 intro Z s Y H R I h;refine thn (hl Z s Y H _ I h) λv s1⟨x,H1,I1,r1,q1⟩=>?_;obtain⟨a,e,q⟩:=q1;subst e;cases r1
 have fp:∀b∈[s1.1.1.size],gh X Z H1 b:=λb hb=>by
  have e:b=s1.1.1.size:=by simpa using hb
  subst e;exact I1.fpOk (Su _) (I1.hok.fresh (Su _))
 rcases q with⟨⟨xs,hq⟩,q⟩|⟨⟨xs,hq⟩,q⟩
 .obtain⟨its,rv,p,hz⟩:=I1.list hq;refine wpAny_pyIter_list p.isList ?_;exact⟨s1.1.1.size,[s1.1.1.size],_,_,H1,D?,I1.kept (t':=s1.toks) λb o e=>Sy _ e,lX a _,⟨_,SO _ rfl,D?,D?⟩,fp,q⟩
 .obtain⟨its,rv,p,hz⟩:=I1.tuple hq;refine wpAny_pyIter_tuple (show s1.1.IsTuple a its.toArray from p) ?_;exact⟨s1.1.1.size,[s1.1.1.size],_,_,H1,D?,I1.kept (t':=s1.toks) λb o e=>Sy _ e,kb a _,⟨_,SO _ rfl,D?,D?⟩,fp,q⟩
end
end L2
namespace BB
open PySem L2
theorem qd{g:TG}(zs:List α)(f:α->V)(hz:zs.length=xs.length)(hn:xs.length<=1000000)
 (EB:∀i H2,Zf H H2->i<xs.length->J.go i H2) (zA:∀H2,Zf H H2->J.stop xs.length H2) (A':∀(i:Nat)H2 x H3,Zf H H2->i<xs.length->J.yld i H2 x H3->H3=H2/\xs[i]?=A? x)
 (hb:∀(i:Nat)x z H2(R:VK)(W':Hp->Prop),xs[i]?=A? x->zs[i]?=A? z->Zf H H2->(∀H3,Zf H2 H3->R (f z) H3)->g x (cσ js Y) H2 λyL H3=>tt yL H3 λb H4=>if b=B? then te yL H4 R else W' H4)
 (zm:∀D H',H D=Am->Zf H H'->H' D=A? (.lst (zs.map f))->fin D H') :
 ∀D,H D=Am->∃(n:Nat)(W:Nat->Hp->Prop),W 0 (upd H D (.lst []))/\fC js g tt te Y J D n W λH'=>fin D H':=by
 intro D hD;refine⟨xs.length,λi H'=>i<=xs.length/\Zf H H'/\H' D=A? (.lst ((zs.take i).map f)),⟨Tn _,ag hD _,by rw[ad];rfl⟩,?_⟩;rintro i H' ⟨hi,s1,e1⟩;by_cases yb:i<xs.length
 .refine .inr ⟨yb,EB i H' s1 yb,λv H1 hy=>?_⟩;obtain⟨e,hx⟩:=A' i H' v H1 s1 yb hy;subst e;obtain⟨z,Ax⟩:∃z,zs[i]?=A? z:=⟨_,Sn (by lia)⟩;refine hb i v z _ _ _ hx Ax s1 λH3 s3=>⟨_,s3 _ _ e1,?_,yb,aJ (s1.trans s3) hD,?_⟩
  .rw[Sl,S9];have:SM=16777216:=Vn;lia
  .rw[ad,take_snoc Ax,SI];rfl
 .have zY:i=xs.length:=by lia
  subst zY;refine .inl ⟨zA _ s1,zm D H' hD s1 ?_⟩;rw[e1,TC (by lia)]
theorem fN{g:TG}(zs:List α)(f:α->V)(hS:SqT K H a xs)(hz:zs.length=xs.length)(hn:xs.length<=1000000)
 (hb:∀(i:Nat)x z H2(R:VK)(W':Hp->Prop),xs[i]?=A? x->zs[i]?=A? z->Zf H H2->(∀H3,Zf H2 H3->R (f z) H3)->g x (cσ js Y) H2 λyL H3=>tt yL H3 λb H4=>if b=B? then te yL H4 R else W' H4)
 (zm:∀D H',H D=Am->Zf H H'->H' D=A? (.lst (zs.map f))->fin D H') :
 ∀D,H D=Am->∃(n:Nat)(W:Nat->Hp->Prop),W 0 (upd H D (.lst []))/\fC js g tt te Y (Itt K a) D n W λH'=>fin D H' :=
 qd zs f hz hn (λi H2 s hi=>⟨xs,xs[i],s.seqT hS,Sn hi⟩) (λH2 s=>⟨xs,s.seqT hS,Su _⟩) (λi H2 x H3 s hi hy=>⟨hy.1,hy.2 xs (s.seqT hS)⟩) hb zm
theorem dM{g:TG}(zs:List α)(f:α->V)(hS:SqL K H a xs)(hz:zs.length=xs.length)(hn:xs.length<=1000000)
 (hb:∀(i:Nat)x z H2(R:VK)(W':Hp->Prop),xs[i]?=A? x->zs[i]?=A? z->Zf H H2->(∀H3,Zf H2 H3->R (f z) H3)->g x (cσ js Y) H2 λyL H3=>tt yL H3 λb H4=>if b=B? then te yL H4 R else W' H4)
 (zm:∀D H',H D=Am->Zf H H'->H' D=A? (.lst (zs.map f))->fin D H') :
 ∀D,H D=Am->∃(n:Nat)(W:Nat->Hp->Prop),W 0 (upd H D (.lst []))/\fC js g tt te Y (Itl K a) D n W λH'=>fin D H' :=
 qd zs f hz hn (λi H2 s hi=>⟨xs,xs[i],s.seq hS,Sn hi⟩) (λH2 s=>⟨xs,s.seq hS,Su _⟩) (λi H2 x H3 s hi hy=>⟨hy.1,hy.2 xs (s.seq hS)⟩) hb zm
end BB
namespace HT
open PySem PySem.Spec PyProof.Rows
section
variable{w:S0}
theorem adjust_back(n:Nat):U6 Am Am (-1) (n:Int)=((n:Int) - 1,-1):=rfl
theorem places_back(n:Nat):T7 ((n:Int) - 1) (-1) (-1)=n:=by
 unfold T7;have h1:¬((-1:Int) > 0):=by lia
 simp only[h1,if_false];by_cases h:n=0
 .subst h;decide
 .have h2:((n:Int) - 1) > -1:=by lia
  simp only[h2,if_true];rw[show(- -1:Int)=1 by decide,Int.ediv_one];lia
theorem pick_back(xs:Array Sq):((UE xs.size).filterMap λ(m:Nat)=>xs[(((xs.size:Nat):Int) - 1+(m:Int) * (-1)).toNat]?).toArray=xs.toList.reverse.toArray:=by
 congr 1
 have e:∀m∈UE xs.size,xs[(((xs.size:Nat):Int) - 1+(m:Int) * (-1)).toNat]?=xs.toList.reverse[m]?:=by
  intro m hm;have Km:=Wr.mp hm;rw[UC (by rw[SX];exact Km),Xa,SX];congr 1;lia
 have f:∀(l:List Nat)(f g:Nat->Option Sq),(∀m∈l,f m=g m)->l.filterMap f=l.filterMap g:=by
  intro l f g;induction l with
  |nil=>intro _;rfl
  | cons y ys ih =>
    intro h;rw[UM,UM,h y (by simp),ih (λm hm=>h m (by simp[hm]))]
 rw[f _ _ _ e]
 have gl:∀(ys:List Sq),(UE ys.length).filterMap (λm=>ys[m]?)=ys:=by
  intro ys;have:=pick_run ys.toArray 0 ys.length;simp only[List.filterMap_map]at this
  have e3:((λx=>ys.toArray[x]?) ∘ λx=>0+x)=λm=>ys[m]?:=by
   funext m;simp
  rw[e3]at this;rw[this];simp
 have:=gl xs.toList.reverse;rw[Te,SX]at this;exact this
theorem sliceApplied_back{t:Tok}{Q:Int×Int×Nat->Sr->Prop}(hs:s.1.IsSliceOf sl .none .none (.int (-1) t))
 (h:Q ((n:Int) - 1,-1,n) s):SV (S7 prog w) A (VH (.ref sl) (pure (n:Int))) Q E s:=by
 obtain⟨os,yE,zX,za⟩:=id hs;unfold VH Builtin.Slice.sliceFields;refine Sm (Sm (Uo yE za (x:=.none) rfl (Sm (Uo yE za (x:=.none) rfl (Sm (Uo yE za (x:=.int (-1) t) rfl (Sw ?_)))))));refine Sm (slicePart_int ?_);show SV _ _ (if((-1:Int) == 0)=B? then _ else _) _ _ s;rw[Za (by decide)];refine Sm (slicePart_none (Sm (slicePart_none (Sm (Sw ?_)))));show SV _ _ (match U6 Am Am (-1) (n:Int)with|(lo,hi)=>pure (lo,(-1:Int),T7 lo hi (-1))) _ _ s;rw[adjust_back n];show SV _ _ (pure ((n:Int) - 1,(-1:Int),T7 ((n:Int) - 1) (-1) (-1))) _ _ s;rw[places_back];exact Sw h
theorem getItem_tuple_back{t:So}{tk:Tok}(ht:IsTup s.1 t items)(hs:s.1.IsSliceOf sl .none .none (.int (-1) tk))
 (h:Q (.ref s.1.1.size) {s with heap:=s.1.push {cls:=.type "tuple",data:=.seq items.toList.reverse.toArray}})
 (hsz:items.size<=SM):SV (S7 prog w) A (We (.ref t) (.ref sl)) Q E s:=by
 have y3:sizeOk (.seq items.toList.reverse.toArray):=by
  show items.toList.reverse.toArray.size<=SM;rw[SF,Te,SX];exact hsz
 obtain⟨os,yE,zX,za⟩:=id hs;have GL:s.TypeIs (.ref sl) "slice":=⟨os,yE,zX⟩;unfold We
 try with_reducible refine UU ?_
 first|refine Sm (Sw ?_)|skip
 refine Sm (wpAny_sequenceKey ht.typeIs (by decide) ?_)
 refine Sm (Ue (name:=SE "__getitem__") ht.typeIs To
  (Up To ht.typeIs entry_tuple_getitem ?_ (args_tuple_getitem _ _)))
 show SV _ _ (VG (.ref t) >>= _) _ _ s;refine Sm (tupleItemsOf_ ht ?_);refine Sm (Wb GL ?_);rw[Yb (by decide)];refine Sm (sliceApplied_back hs ?_)
 have BR:¬((((items.size:Nat):Int) - 1 == 0 && (-1:Int) == 1 && items.size == items.size)=B?):=by
  simp
 show SV _ _ (if(((items.size:Nat):Int) - 1 == 0 && (-1:Int) == 1 && items.size == items.size)=B? then _ else _) _ _ s;rw[Za BR,pick_back]
 first
  |exact Sm (m:=Ua _) (TV (Sw ⟨_,rfl,Sw h⟩) y3)
  |exact Sm (m:=Ua _) (TV (Sm (Sw (Sw ⟨_,rfl,Sw h⟩))) y3)
  |exact Sm (Sm (m:=Ua _) (TV (Sw (Sw ⟨_,rfl,Sw h⟩)) y3))
  |exact Sm (Sm (m:=Ua _) (TV (Sw ⟨_,rfl,Sw h⟩) y3))
end
end HT
namespace L2
open PySem PySem.Spec PyProof.Rows
section
variable{X:Cx}{p2 p3 p4:VX}
def BkR(X:Cx)(r:V->Hp->VK->Prop):Prop :=
 ∀(Z:List (So×UD))(s:Sr)(Y:St)(H:Hp)(x:V)(v:Sq)(t:Tok)(sl:So)(Q:VK),Inv X Z Y H s->RelV x v->s.1.IsSliceOf sl .none .none (.int (-1) t)->r x H Q ->
   ∃T id,typeLookup (.type T) "__getitem__"=pure (A? (.builtin id))/\s.TypeIs v T/\SV (S7 X.prog X.w) X.A (We v (.ref sl)) (EP X Z Y Q) X.xe s
def tBk(r:V->Hp->VK->Prop)(te:TE):TE:=λY H Q=>te Y H λx H1=>r x H1 Q
theorem tS{r:V->Hp->VK->Prop}(hr:BkR X r)(he:PE X e te):PE X (.Subscript e (.Slice Am Am (A? (.UnaryOp .USub (.Constant (.int 1) 0 p3) p4)) p2) pos) (tBk r te):=by
 intro Z s Y H Q I h;refine Subscript_ (thn (he Z s Y H _ I h) λv s1⟨x,H1,I1,r1,q1⟩=>?_);refine wpAny_Slice ?_;rw[evalPart_none];refine Sw ?_;refine Sw ?_;have DK:PO X (A? (.UnaryOp .USub (.Constant (.int 1) 0 p3) p4)) (uV (tUn (rU λi=>.int (-i)) (tC (.int 1)))):=bq (v8 vz af);refine thn (DK Z s1 Y H1 (λo H'=>o=A? (-1)/\r x H' Q) I1 ⟨1,rfl,_,rfl,rfl,q1⟩) λvs s2⟨o,H2,I2,ps,ho,q2⟩=>?_;subst ho;cases ps with
 | int i t =>
   have I4:Inv X Z Y H2 {s2 with heap:=s2.1.push {cls:=.type "slice",data:=.fields #[.none,.none,.int (-1) t]}}:=I2.kept (t':=s2.toks) λb ob q=>Sy _ q;obtain⟨T,id,hT,ht,hg⟩:=hr Z {s2 with heap:=s2.1.push {cls:=.type "slice",data:=.fields #[.none,.none,.int (-1) t]}} Y H2 x v t s2.1.1.size Q I4 r1 (Heap.IsSliceOf.new ..) q2;show SV (S7 X.prog X.w) X.A (subscriptTail e (.Slice Am Am (A? (.UnaryOp .USub (.Constant (.int 1) 0 p3) p4)) p2) v (.ref s2.1.1.size)) (EP X Z Y Q) X.xe {s2 with heap:=s2.1.push {cls:=.type "slice",data:=.fields #[.none,.none,.int (-1) t]}};exact tail_any (ops:=[v,.ref s2.1.1.size]) ht hT hg (by with_unfolding_all rfl)
def xf(K:Ss):V->Hp->VK->Prop:=λx H Q=>∃a xs,x=.ref a/\SqT K H a xs/\∀p,H p=Am->Q (.ref p) (upd H p (.tup xs.reverse))
theorem Vals.rev(r:Vals xs us):Vals xs.reverse us.reverse:=by
 induction r with
 |nil=>exact .nil
 |cons r1 r2 ih=>rw[TU,TU];exact ih.append (.cons r1 .nil)
theorem vI:BkR X (xf X.K):=by
 intro Z s Y H x v t sl Q I rx hs h;obtain⟨a,xs,rfl,hx,q⟩:=h;cases rx;obtain⟨its,r,ht,hz⟩:=I.tuple hx;have hlen:its.toArray.size=xs.length:=by rw[SF];exact r.length.symm
 refine⟨"tuple",_,To.lookup,ht.typeIs,?_⟩;refine HT.getItem_tuple_back ht hs ?_ (by rw[hlen];exact hz);refine⟨.ref s.1.1.size,_,I.laid (t':=s.toks) (o:=.tup xs.reverse) (λb ob q=>Sy _ q) (Su _) ?_,D?,q _ (I.hok.fresh (Su _))⟩;exact⟨by rw[Te];exact hz,_,0,r.rev,SO _ rfl⟩
end
open PySem.Calls
section
variable{X:Cx}
end
def m8(z:SG)(n:Nat):SG:=⟨(TJ n z.cps).foldl (·++·) #[]⟩
theorem om(c:Nat):∀(n:Nat)(a:Array Nat),(TJ n #[c]).foldl (·++·) a=a++(TJ n c).toArray
 |0,a=>by simp
 | n+1,a=>by
   rw[UL,List.foldl_cons,om c n,UL,Ws];congr 1;simp
theorem jX(c n:Nat):m8 ⟨#[c]⟩ n=⟨(TJ n c).toArray⟩:=by
 unfold m8;rw[om];simp
theorem iC(c n:Nat):(m8 ⟨#[c]⟩ n).length=n:=by
 rw[jX];show(TJ n c).toArray.size=n;simp
section
variable{X:Cx}
def vZ:R2:=λx y H Q=>∃(c:Nat)(n:Int),x=.str ⟨#[c]⟩/\y=.int n/\1<=n/\n<=1000/\Q (.str (m8 ⟨#[c]⟩ n.toNat)) H
theorem uj:OpR X (Vt .Mult) vZ:=by
 intro Z s Y H x y v u Q I rx ry h;obtain⟨c,n,rfl,rfl,h1,h2,q⟩:=h;obtain⟨t,rfl⟩:=rx;obtain⟨t',rfl⟩:=ry;have hlen:(⟨#[c]⟩:SG).length=1:=rfl;refine PySem.P.mul_str ?_ ?_ ?_ ?_
 .rw[Zb (by lia),Zb (by lia)];rfl
 .intro _ _;rw[hlen]
  have:(1:Int)<=(2 ^ 63 - 1) / n:=by
   rw[Int.le_ediv_iff_mul_le (by lia)];lia
  show¬((1:Nat):Int) > (2 ^ 63 - 1) / n;lia
 .intro _ _;rw[hlen,Nat.one_mul];have:SM=16777216:=Vn;exact Zb (by lia)
 .rw[Za (by lia)];by_cases hn:n=1
  .subst hn;rw[Yb (by rfl)];exact⟨.str ⟨#[c]⟩,H,I,⟨_,D?⟩,by rw[show m8 ⟨#[c]⟩ (1:Int).toNat=⟨#[c]⟩from jX c 1]at q;exact q⟩
  .rw[Za (by rw[hlen];simp;lia)];refine⟨?_,⟨.str (m8 ⟨#[c]⟩ n.toNat),H,I.tok _,⟨_,D?⟩,q⟩⟩;show(m8 ⟨#[c]⟩ n.toNat).length<=SM;have:SM=16777216:=Vn;rw[iC];lia
def wv(i j:Int):Prop:=0<j/\j<2 ^ 62
theorem sj:OpR X (Vt .FloorDiv) (rI wv λi j=>.int (i / j)):=opI λi j _ _ _ _ _ hc q=>by
 have h1:(0:Int)<j:=hc.1;have h2:j<2 ^ 62:=hc.2;refine floordiv_int (by lia) (by rw[Int.fdiv_eq_ediv_of_nonneg i (by lia)];exact q) (.inl (PyProof.noPylong_of_log2 ?_));have:j.natAbs.log2<62:=(Nat.log2_lt (by lia)).mpr (by lia);lia
def isStr(z:SG):Sq->Bool
 |.str y _=>y == z
 |_=>C?
def pG(K:Ss):V->List V->Hp->VK->Prop:=λx vs H Q=>∃(l:So)(zs:List SG)(z:SG)(j:Nat),x=.ref l/\vs=[.str z]/\SqL K H l (zs.map Yp)/\zs[j]?=A? z/\(∀i,i<j->zs[i]?≠A? z)/\zs.length<=100000/\Q (.int (j:Nat)) H
theorem iL:MtM X "list.index" (pG X.K):=by
 intro Z s Y H x vs v us Q I rx rv h;obtain⟨l,zs,z,j,rfl,rfl,hS,hj,BR,hz,q⟩:=h;cases rx;obtain⟨u,rfl,t,rfl⟩:=rv.one;obtain⟨its,r,pl,_⟩:=I.list hS;have hlen:=r.length;rw[Sl]at hlen;obtain⟨⟨cls,dd,data,sl⟩,ho,hc,n,hd⟩:=pl.isList;simp only at hc hd;subst hc hd;have zb:j<zs.length:=(glE hj)
 have get:∀m,m<zs.length->∃y t',its[m]?=A? (.str y t')/\zs[m]?=A? y:=λm hm=>by
  obtain⟨v,hv,rv⟩:=r.get (i:=m) (x:=.str zs[m]) (by rw[Sx,Sn hm];rfl);obtain⟨t',rfl⟩:=rv;exact⟨_,t',hv,Sn hm⟩
 refine WI VQ ⟨_,ho,rfl⟩ PySem.F.entry_list_index (PySem.F.args_list_index_2 _ _)
  (SeqAt.list_indexAt l its.toArray n dd sl (.str z t) (isStr z) j (by rw[SF];lia) (by lia) ?_ ?_) ⟨ho,λy hy=>?_,⟨.int (j:Nat),H,I.tok _,⟨_,rfl⟩,q⟩⟩
 .obtain⟨y,t',h1,h2⟩:=get j zb;rw[hj]at h2;cases h2
  have h3:its.toArray[j]'(by rw[SF];lia)=.str z t':=by
   rw[Sn (by lia)]at h1;simpa using h1
  rw[h3];show(z == z)=B?;simp
 .intro m hm yb;obtain⟨y,t',h1,h2⟩:=get m (by lia)
  have h3:its.toArray[m]'hm=.str y t':=by
   rw[Sn (by lia)]at h1;simpa using h1
  rw[h3];show(y == z)=C?;refine WA.mpr λe=>BR m yb ?_;rw[h2,beq_iff_eq.mp e]
 .have Aq:y∈its:=by simpa using hy
  obtain⟨m,hm,rfl⟩:=List.getElem_of_mem Aq;obtain⟨y,t',h1,h2⟩:=get m (by lia);rw[Sn hm]at h1;have h3:=Tq h1;rw[h3];exact SeqAt.EqAt.str_str _ _ _ _
end
end L2
namespace BB
open PySem L2
structure aB(ks:List (SG×Int)):Prop where
 ne:1<=ks.length
 le:ks.length<=8
 low:∀k∈ks,Low k.1/\k.1.length<=8
 num:∀k∈ks,0<=k.2/\k.2<=3
 zero:∃k∈ks,k.2=0
 nd:∀(i j:Nat)(k l:SG×Int),ks[i]?=A? k->ks[j]?=A? l->k.1=l.1->i=j
mutual
def Th.FitS(ks:List (SG×Int))(S C:Int):Th->Prop
 |.knot n ts=>(n,(ts.length:Int))∈ks/\FitSs ks S C ts
 |.call s k=>0<=s/\s<S/\0<=k/\k<C
def FitSs(ks:List (SG×Int))(S C:Int):List Th->Prop
 | []=>True
 |t::ts=>t.FitS ks S C/\FitSs ks S C ts
end
theorem FitSs.of{ks:List (SG×Int)}:∀{ts:List Th},(∀t∈ts,t.FitS ks S C)->FitSs ks S C ts
 | [],_=>by rw[FitSs];trivial
 | t::ts,h=>by
   rw[FitSs];exact⟨h t (SU ..),FitSs.of λu hu=>h u (SN _ hu)⟩
theorem je(h:∀t∈ts,t.tall<=n):aK ts<=n:=by
 induction ts with
 |nil=>rw[aK];exact Tn _
 | cons t ts ih =>
   rw[aK];have h1:=h t (SU ..);have h2:=ih λu hu=>h u (SN _ hu);lia
def SameB(l:So)(H H':Hp):Prop:=∀b o,b≠l->H b=A? o->H' b=A? o
theorem SameB.refl:SameB l H H:=λ_ _ _ e=>e
theorem SameB.trans{A B C:Hp}(h:SameB l A B)(k:SameB l B C):SameB l A C:=λb o hb e=>k b o hb (h b o hb e)
theorem SameB.of(h:Zf H H'):SameB l H H':=λb o _ e=>h b o e
theorem SameB.set{o:HO}:SameB l H (upd H l o):=λb o hb e=>by rw[aj hb];exact e
theorem SameB.kt(h:SameB l H H')(e:H l=A? (.lst xs)):KT H H':=λb ys eb=>h b _ (de eb e (by intro z;cases z)) eb
theorem SameB.free{p:So}{o:HO}(h:SameB l H H')(e:H' l=A? o)(hp:H' p=Am):H p=none:=by
 cases hh:H p with
 |none=>rfl
 | some o' =>
   by_cases z:p=l
   .rw[z,e]at hp;cases hp
   .rw[h p o' z hh]at hp;cases hp
def RowAt(H:Hp)(row:List Th)(a:So):Prop:=∃as:List So,H a=A? (.tup (as.map Ye))/\Ats H row as
theorem RowAt.mono(k:KT H H'){row:List Th}(h:RowAt H row a):RowAt H' row a:=by
 obtain⟨as,h1,h2⟩:=h;exact⟨as,k _ _ h1,h2.mono k⟩
structure rO(ins outs:List (SG×Int))(S:Int)(deep:Nat)(row:List Th):Prop where
 len:row.length=ins.length
 fit:∀(j:Nat)(t:Th)(k:SG×Int),row[j]?=A? t->ins[j]?=A? k->t.FitS outs S k.2/\t.tall<=deep+1
structure BookAt(H:Hp)(ins outs:List (SG×Int))(head:Th)(rows:List (List Th))(r ia oa ha ra:So)(yc yl ya:List So):Prop where
 bk:H r=A? (.tup [.ref ia,.ref oa,.ref ha,.ref ra])
 inE:H ia=A? (.tup (yc.map Ye))
 inK:KsAt H ins yc
 outE:H oa=A? (.tup (yl.map Ye))
 outK:KsAt H outs yl
 hd:At H head ha
 rl:H ra=A? (.tup (ya.map Ye))
 rw:Tc (RowAt H) rows ya
theorem BookAt.mono(k:KT H H'){head:Th}{rows:List (List Th)}{r ia oa ha ra:So}{yc yl ya:List So}(b:BookAt H ins outs head rows r ia oa ha ra yc yl ya):BookAt H' ins outs head rows r ia oa ha ra yc yl ya :=
 ⟨k _ _ b.bk,k _ _ b.inE,b.inK.mono k,k _ _ b.outE,b.outK.mono k,b.hd.mono k,k _ _ b.rl,Zk (λ_ _ e=>e.mono k) b.rw⟩
structure BookOk(ins outs:List (SG×Int))(S:Int)(deep:Nat)(head:Th)(rows:List (List Th)):Prop where
 len:(rows.length:Int)=S
 row:∀row∈rows,rO ins outs S deep row
 hdf:head.FitS outs S 1
 hdt:head.tall<=2
def dO:SG:=SE "aeio"
def gum:SG:=SE "gumleafs"
theorem uD:Low gum:=by unfold Low;decide +kernel
theorem iR{z:SG}(h:n<=z.length):(cM z Am (A? (n:Int))).cps.toList=z.cps.toList.take n/\(cM z Am (A? (n:Int))).length=n:=by
 have hz:z.cps.toList.length=z.length:=SX
 have e:(cM z Am (A? (n:Int))).cps.toList=z.cps.toList.take n:=by
  show(jC z.cps.toList Am (A? (n:Int))).toArray.toList=_;rw[List.toList_toArray];unfold jC;rw[Zl,Zp,hz,VI h];simp
 refine⟨e,?_⟩;show(cM z Am (A? (n:Int))).cps.size=n;rw[<-SX,e,S9,hz];lia
def jT(begun:Bool)(c0:Nat)(stem:SG)(at':Int)(L:List Nat)(p:Nat):SG :=
 if begun then m8 ⟨#[c0]⟩ (1+p)else cM stem Am (A? at')++⟨#[L.getD p 0]⟩++cM stem (A? at') Am
theorem vT{at':Int}(hL:∀(p r:Nat)(c:Nat),L[p]?=A? c->L[r]?=A? c->p=r){p r:Nat}(hp:p<L.length)(hr:r<L.length)(h:jT begun c0 stem at' L p=jT begun c0 stem at' L r):p=r:=by
 unfold jT at h;cases begun with
 | true =>
   simp only[if_true]at h;have:=Zd Str.length h;rw[iC,iC]at this;lia
 | false =>
   simp only[T1,if_false]at h;have h2:=Zd (λz:SG=>z.cps.toList) h;have h3:((cM stem Am (A? at')).cps++#[L.getD p 0]++(cM stem (A? at') Am).cps).toList=((cM stem Am (A? at')).cps++#[L.getD r 0]++(cM stem (A? at') Am).cps).toList:=h2;rw[U8,U8,U8,U8]at h3;have h4:=List.append_cancel_right h3;have h5:=List.append_cancel_left h4;have h6:L.getD p 0=L.getD r 0:=by simpa using h5
   refine hL p r (L.getD r 0) ?_ ?_
   .rw[<-h6,Ul,Sn hp];rfl
   .rw[Ul,Sn hr];rfl
theorem vW{at':Int}(hc:97<=c0/\c0<=122)(hs:Low stem)(hL:∀c∈L,97<=c/\c<=122){p:Nat}(hp:p<L.length):Low (jT begun c0 stem at' L p):=by
 unfold jT;cases begun with
 | true =>
   simp only[if_true];rw[jX];intro c yC;have Kn:c∈TJ (1+p) c0:=by simpa using yC
   rw[List.eq_of_mem_replicate Kn];exact hc
 | false =>
   simp only[T1,if_false];have h1:L.getD p 0∈L:=by rw[Ul,Sn hp];exact Uk hp
   have h2:=hL _ h1;exact qi (qi (my hs _ _) (tO h2.1 h2.2)) (my hs _ _)
structure rZ(letters:SG):Prop where
 len:letters.length=4
 low:Low (letters++dO)
 inj:∀(p r c:Nat),(letters++dO).cps.toList[p]?=A? c->(letters++dO).cps.toList[r]?=A? c->p=r
theorem qU{letters:SG}(h1:letters.length=4)(h2:((letters++dO).cps.toList.all λc=>decide (97<=c/\c<=122))=B?)(h3:(letters++dO).cps.toList.Nodup):rZ letters:=by
 refine⟨h1,λc hc=>Zc (V8.mp h2 c hc),λp r c hp hr=>?_⟩;obtain⟨p1,p2⟩:=T2.mp hp;obtain⟨r1,r2⟩:=T2.mp hr;exact(List.getElem_inj h3).mp (p2.trans r2.symm)
theorem tV:rZ (SE "bdhk"):=qU (by decide +kernel) (by decide +kernel) (by decide +kernel)
def Step(ins:List (SG×Int))(rows:List (List Th))(s k:Int)(ks:List Th)(p h:Th):Prop :=
 0<=s/\0<=k/\ks[k.toNat]?=A? h/\∃(m:SG)(hs:List Th)(c:Int)(j:Nat)(row:List Th),h=.knot m hs/\ins[j]?=A? (m,c)/\rows[s.toNat]?=A? row/\row[j]?=A? p
inductive Res(ins:List (SG×Int))(rows:List (List Th)):Th->Th->Th->Th->Prop
 |stop (n:SG) (ts:List Th) (k:Th):Res ins rows (.knot n ts) k (.knot n ts) k
 |step {s c:Int} {n:SG} {ks:List Th} {p h p' k':Th}:Step ins rows s c ks p h->Res ins rows p h p' k'->Res ins rows (.call s c) (.knot n ks) p' k'
theorem fV{ks:List (SG×Int)}:∀{ts:List Th},Fits ks ts->∀t∈ts,t.Fit ks
 | [],_,t,ht=>by cases ht
 | a::ts,h,t,ht=>by
   rw[Fits]at h;rcases SR.mp ht with rfl|ht
   .exact h.1
   .exact fV h.2 t ht
theorem lG{ks:List (SG×Int)}:∀{ts:List Th},FitSs ks S C ts->∀t∈ts,t.FitS ks S C
 | [],_,t,ht=>by cases ht
 | a::ts,h,t,ht=>by
   rw[FitSs]at h;rcases SR.mp ht with rfl|ht
   .exact h.1
   .exact lG h.2 t ht
theorem uw{head:Th}{rows:List (List Th)}(ok:BookOk ins outs S d head rows){s:Int}{ks:List Th}(hf:(Ym s c).FitS outs S (ks.length:Int))(hk:∀h∈ks,h.Fit ins) :
 ∃p m hs,Step ins rows s c ks p (.knot m hs)/\p.FitS outs S (hs.length:Int)/\(∀h∈hs,h.Fit ins)/\(Yk m hs)∈ks:=by
 rw[Th.FitS]at hf;obtain⟨s0,s1,c0,c1⟩:=hf;have hlen:=ok.len;obtain⟨h,hh⟩:∃h,ks[c.toNat]?=A? h:=⟨_,Sn (by lia)⟩;have hm:=Sv hh;have xU:=hk h hm;cases h with
 |call a b=>rw[Zn]at xU;exact xU.elim
 | knot m hs =>
   rw[Zn]at xU;obtain⟨j,hj⟩:=Tg.mp xU.1;obtain⟨row,xZ⟩:∃row,rows[s.toNat]?=A? row:=⟨_,Sn (by lia)⟩;have G1:=ok.row row (Sv xZ);have zb:=(glE hj);obtain⟨p,hp⟩:∃p,row[j]?=A? p:=⟨_,Sn (by rw[G1.len];exact zb)⟩;exact⟨p,m,hs,⟨s0,c0,hh,m,hs,_,j,row,D?,hj,xZ,hp⟩,(G1.fit j p _ hp hj).1,fV xU.2,hm⟩
def Bk(H:Hp)(ins outs:List (SG×Int))(head:Th)(rows:List (List Th))(r:So):Prop:=∃ia oa ha ra yc yl ya,BookAt H ins outs head rows r ia oa ha ra yc yl ya
theorem Bk.mono(k:KT H H'){head:Th}{rows:List (List Th)}{r:So}(b:Bk H ins outs head rows r):Bk H' ins outs head rows r:=by
 obtain⟨ia,oa,ha,ra,yc,yl,ya,b⟩:=b;exact⟨ia,oa,ha,ra,yc,yl,ya,b.mono k⟩
end BB
open BB.Th renaming FitS->Zh
open BB.RowAt renaming mono->Yn
namespace L2
open PySem PySem.Spec PySem.Calls PyProof.Rows PySem.SeqAt
end L2
namespace BB
open PySem L2
mutual
inductive Out(ins:List (SG×Int))(rows:List (List Th)):Th->Th->Th->Prop
 |mk {p k:Th} {n:SG} {ts:List Th} {k':Th} {os:List Th}:Res ins rows p k (.knot n ts) k'->Outs ins rows ts k' os->Out ins rows p k (.knot n os)
inductive Outs(ins:List (SG×Int))(rows:List (List Th)):List Th->Th->List Th->Prop
 |nil (k:Th):Outs ins rows [] k []
 |cons {t k o:Th} {ts os:List Th}:Out ins rows t k o->Outs ins rows ts k os->Outs ins rows (t::ts) k (o::os)
end
theorem Out.step{rows:List (List Th)}{s:Int}{n:SG}{ks:List Th}{h:Th}(st:Step ins rows s c ks p h)(g:Out ins rows p h o):Out ins rows (.call s c) (.knot n ks) o:=by
 cases g with
 |mk r os=>exact .mk (.step st r) os
theorem Out.unstep{rows:List (List Th)}{s:Int}{n:SG}{ks:List Th}(g:Out ins rows (.call s c) (.knot n ks) o):∃p h,Step ins rows s c ks p h/\Out ins rows p h o:=by
 cases g with
 | mk r os =>
   cases r with
   |step st r=>exact⟨_,_,st,.mk r os⟩
theorem Out.unknot{rows:List (List Th)}{n:SG}{k:Th}(g:Out ins rows (.knot n ts) k o):∃os,o=.knot n os/\Outs ins rows ts k os:=by
 cases g with
 | mk r os =>
   cases r with
   |stop=>exact⟨_,D?,os⟩
theorem Outs.length{rows:List (List Th)}:∀{ts:List Th}{k:Th}{os:List Th},Outs ins rows ts k os->os.length=ts.length
 |_,_,_,.nil _=>rfl
 |_,_,_,.cons _ h=>by rw[SQ,SQ,Outs.length h]
theorem Outs.get{rows:List (List Th)}:∀{ts:List Th}{k:Th}{os:List Th}(i:Nat){t o:Th},Outs ins rows ts k os->ts[i]?=A? t->os[i]?=A? o->Out ins rows t k o
 |_,_,_,i,t,o,.nil _,h1,h2=>by simp at h1
 | _,_,_,0,t,o,.cons g _,h1,h2=>by
   simp at h1 h2;subst h1;subst h2;exact g
 |_,_,_,i+1,t,o,.cons _ g,h1,h2=>Outs.get i g (by simpa using h1) (by simpa using h2)
theorem tz(g:aB ins){rows:List (List Th)}{s:Int}{ks:List Th}{h p' h':Th}(a:Step ins rows s c ks p h)(b:Step ins rows s c ks p' h'):p=p'/\h=h':=by
 obtain⟨_,_,a1,m,hs,c1,j,row,a2,a3,a4,a5⟩:=a;obtain⟨_,_,b1,m',AQ,Ko,j',Pf,b2,b3,b4,b5⟩:=b;rw[a1]at b1;cases b1;rw[a2]at b2;cases b2;rw[a4]at b4;cases b4;have:=g.nd j j' _ _ a3 b3 rfl;subst this;rw[a5]at b5;cases b5;exact⟨D?,D?⟩
theorem uz(g:aB ins){rows:List (List Th)}{k p1 k1:Th}(a:Res ins rows p k p1 k1):∀{p2 k2:Th},Res ins rows p k p2 k2->p1=p2/\k1=k2:=by
 induction a with
 |stop n ts k=>intro p2 k2 b;cases b;exact⟨D?,D?⟩
 | step st r ih =>
   intro p2 k2 b;cases b with
   | step Ah r' =>
     obtain⟨rfl,rfl⟩:=tz g st Ah;exact ih r'
theorem qP(g:aB ins){rows:List (List Th)}:∀(N:Nat),(∀(p k o o':Th),o.size<=N->Out ins rows p k o->Out ins rows p k o'->o=o')/\(∀(ts:List Th)(k:Th)(os CV:List Th),am os<=N->Outs ins rows ts k os->Outs ins rows ts k CV->os=CV):=by
 intro N;induction N with
 | zero =>
   refine⟨λp k o o' h=>?_,λts k os CV h a b=>?_⟩
   .have:=o.size_pos;lia
   .cases a with
    |nil=>cases b;rfl
    | cons x y =>
      rename_i o _ _
      have:=o.size_pos;rw[am]at h;lia
 | succ N ih =>
   have h1:∀(p k o o':Th),o.size<=N+1->Out ins rows p k o->Out ins rows p k o'->o=o':=by
    intro p k o o' h a b;cases a with
    | mk r os =>
      cases b with
      | mk r' CV =>
        obtain⟨e1,e2⟩:=uz g r r';cases e1;subst e2;rw[Zi]at h;rw[ih.2 _ _ _ _ (by lia) os CV]
   refine⟨h1,λts=>?_⟩;induction ts with
   |nil=>intro k os CV h a b;cases a;cases b;rfl
   | cons t ts Pg =>
     intro k os CV h a b;cases a with
     | cons x y =>
       cases b with
       | cons x' y' =>
         rw[am]at h;rw[h1 _ _ _ _ (by lia) x x',Pg _ _ _ (by lia) y y']
theorem jM(g:aB ins){rows:List (List Th)}{k o':Th}(a:Out ins rows p k o)(b:Out ins rows p k o'):o=o':=(qP g o.size).1 p k o o' (Su _) a b
theorem rf{head:Th}{rows:List (List Th)}(ok:BookOk ins outs S d head rows):∀(N:Nat)(n:SG)(ks:List Th),(Yk n ks).tall<=N->(∀h∈ks,h.Fit ins) ->
 ∀(M:Nat)(p:Th),p.size<=M->p.FitS outs S (ks.length:Int)->∃o,Out ins rows p (.knot n ks) o/\o.Fit outs:=by
 intro N;induction N with
 |zero=>intro n ks h;rw[Yi]at h;lia
 | succ N ih =>
   intro n ks hN hk M;induction M with
   |zero=>intro p h;have:=p.size_pos;lia
   | succ M Kp =>
     intro p hM hf;cases p with
     | call s c =>
       obtain⟨p',m,hs,st,CI,hh,hm⟩:=uw ok hf hk;have:=bW hm;rw[Yi]at hN;obtain⟨o,h1,h2⟩:=ih m hs (by lia) hh _ p' (Su _) CI;exact⟨o,.step st h1,h2⟩
     | knot m ts =>
       rw[Zh]at hf;rw[Zi]at hM
       have all:∀us:List Th,am us<=M->FitSs outs S (ks.length:Int) us->∃os,Outs ins rows us (.knot n ks) os/\Fits outs os:=by
        intro us;induction us with
        |nil=>intro _ _;exact⟨[],.nil _,by rw[Fits];trivial⟩
        | cons u us Kq =>
          intro h1 h2;rw[am]at h1;rw[FitSs]at h2;obtain⟨o,g1,g2⟩:=Kp u (by lia) h2.1;obtain⟨os,g3,g4⟩:=Kq (by lia) h2.2;exact⟨o::os,.cons g1 g3,by rw[Fits];exact⟨g2,g4⟩⟩
       obtain⟨os,g1,g2⟩:=all ts (by lia) hf.2;refine⟨.knot m os,.mk (.stop m ts _) g1,?_⟩;rw[Zn,g1.length];exact⟨hf.1,g2⟩
structure Job where
 p:Th
 k:Th
 r:Nat
 o:Th
def JAt(H:Hp)(ins:List (SG×Int))(rows:List (List Th))(j:Job)(a:So):Prop:=∃pa ka,H a=A? (.tup [.ref pa,.ref ka,.int (j.r:Nat)])/\At H j.p pa/\At H j.k ka/\Out ins rows j.p j.k j.o
theorem JAt.mono(kt:KT H H'){rows:List (List Th)}{j:Job}(h:JAt H ins rows j a):JAt H' ins rows j a:=by
 obtain⟨pa,ka,h1,h2,h3,h4⟩:=h;exact⟨pa,ka,kt _ _ h1,h2.mono kt,h3.mono kt,h4⟩
def jos(js:List Job):List Th:=js.map (·.o)
structure JInv(outs:List (SG×Int))(o:Th)(done:List Th)(js:List Job):Prop where
 wk:done++walks (jos js).reverse=o.walk
 fit:∀j∈js,j.o.Fit outs
 low:∀j∈js,1<=j.r/\j.r - 1+j.o.tall<=o.tall
 top:o.tall<=150\/∃j∈js,o.tall=j.r - 1+j.o.tall
 dn:done.length<=2000
 len:js.length<=1+3 * done.length
theorem fg(l:List Th):am l.reverse=am l:=by
 induction l with
 |nil=>rfl
 |cons t l ih=>rw[TU,aG,ih,am,am,am];lia
theorem JInv.size{done:List Th}{js:List Job}(h:JInv outs o done js):done.length+am (jos js)=o.size:=by
 have:=Zd Vf h.wk;rw[SD,eY,fg,Zm]at this;exact this
theorem JInv.start{k:Th}(h:o.Fit outs):JInv outs o [] [⟨p,k,1,o⟩]:=by
 have ht:=o.tall_eq;refine⟨by simp[jos,walks],λj hj=>?_,λj hj=>?_,.inr ⟨_,Uc _,by show o.tall=1 - 1+o.tall;lia⟩,by simp,by simp⟩
 .rw[Sz.mp hj];exact h
 .rw[Sz.mp hj];exact⟨Su _,by show 1 - 1+o.tall<=o.tall;lia⟩
def cu(k:Th)(r:Nat)(ts os:List Th):List Job:=(ts.zip os).map λz=>⟨z.1,k,r,z.2⟩
theorem iY(k:Th)(r:Nat):∀(ts os:List Th),ts.length=os.length->jos (cu k r ts os)=os
 | [],[],_=>rfl
 | t::ts,o::os,h=>by
   show o::jos (cu k r ts os)=o::os;rw[iY k r ts os (by simpa using h)]
theorem jx{k:Th}{r:Nat}{j:Job}(h:j∈cu k r ts os):j.r=r/\j.o∈os:=by
 obtain⟨z,hz,rfl⟩:=Tj.mp h;exact⟨D?,(VJ hz).2⟩
theorem j7{k:Th}{r:Nat}:∀{ts os:List Th},ts.length=os.length->∀{u:Th},u∈os->∃j∈cu k r ts os,j.r=r/\j.o=u
 | [],[],_,u,h=>by cases h
 | t::ts,o::os,hl,u,h=>by
   rcases SR.mp h with rfl|h
   .exact⟨_,SU ..,D?,D?⟩
   .obtain⟨j,h1,h2⟩:=j7 (k:=k) (r:=r) (ts:=ts) (os:=os) (by simpa using hl) h;exact⟨j,SN _ h1,h2⟩
theorem cN{k:Th}{r:Nat}(h:ts.length=os.length):(cu k r ts os).length=os.length:=by
 unfold cu;rw[Sl,VL];lia
theorem lH(g:aB outs){n:SG}(h:(Yk n os).Fit outs):os.length<=3:=by
 rw[Zn]at h;have:=(g.num _ h.1).2;have h2:((os.length:Nat):Int)<=3:=this;lia
theorem JInv.turn(g:aB outs){done:List Th}{js:List Job}{k k':Th}{r:Nat}{n:SG}(h:JInv outs o done (js++[⟨p,k,r,.knot n os⟩]))(hr:r<=150)(hd:done.length<2000)(hl:ts.length=os.length) :
 JInv outs o (done++[.knot n os]) (js++(cu k' (r+1) ts os).reverse):=by
 have xU:=h.fit ⟨p,k,r,.knot n os⟩ (by simp);have Ay:=h.low ⟨p,k,r,.knot n os⟩ (by simp);dsimp only at xU Ay;have hw:=lH g xU;have Ab:=cN (k:=k') (r:=r+1) hl;refine⟨?_,λj hj=>?_,λj hj=>?_,?_,?_,?_⟩
 .have:=h.wk;rw[<-this]
  have e1:(jos (js++[⟨p,k,r,.knot n os⟩])).reverse=.knot n os::(jos js).reverse:=by
   unfold jos;rw[SI,Uw];rfl
  have e2:(jos (js++(cu k' (r+1) ts os).reverse)).reverse=os++(jos js).reverse:=by
   have:=iY k' (r+1) ts os hl;unfold jos at this |-;rw[SI,V6,this,Uw,UI]
  rw[e1,e2,dL,Vq];show done++([Yk n os]++_)=done++walks (Yk n os::(jos js).reverse);rw[walks,Th.walk_eq];rfl
 .rcases S6.mp hj with hj|hj
  .exact h.fit j (Tp _ hj)
  .rw[Zn]at xU;exact xU.2.mem _ (jx (Vz.mp hj)).2
 .rcases S6.mp hj with hj|hj
  .exact h.low j (Tp _ hj)
  .obtain⟨h1,h2⟩:=jx (Vz.mp hj);have:=bW h2;rw[Yi]at Ay;rw[h1];lia
 .rcases h.top with ht|⟨j,hj,ht⟩
  .exact .inl ht
  .rcases S6.mp hj with hj|hj
   .exact .inr ⟨j,Tp _ hj,ht⟩
   .rw[Sz.mp hj]at ht;dsimp only at ht;rw[Yi]at ht;by_cases hz:os=[]
    .subst hz;rw[aK]at ht;left;lia
    .obtain⟨u,hu,RH⟩:=iJ hz;obtain⟨j',h1,h2,h3⟩:=j7 (k:=k') (r:=r+1) hl hu;right;refine⟨j',S3 _ (Vz.mpr h1),?_⟩;rw[h2,h3];lia
 .rw[SD];show done.length+1<=2000;lia
 .have:=h.len;rw[SD]at this;rw[SD,SD,Te,Ab];have h1:([⟨p,k,r,.knot n os⟩]:List Job).length=1:=rfl;have h2:([Yk n os]:List Th).length=1:=rfl;lia
theorem JInv.great{done:List Th}{js:List Job}{j:Job}(h:JInv outs o done (js++[j]))(hb:done.length=2000\/150<j.r):¬(o.size<=2000/\o.tall<=150):=by
 rintro⟨h1,h2⟩;rcases hb with hb|hb
 .have:=h.size;unfold jos at this;rw[SI,aG]at this;have h3:=j.o.size_pos
  have:am ([j].map (·.o))=j.o.size:=by
   show am [j.o]=_;rw[am,am];rfl
  lia
 .have:=(h.low j (by simp)).2;have h3:=j.o.tall_eq;lia
theorem JInv.done{done:List Th}(h:JInv outs o done []):(o.size<=2000/\o.tall<=150)/\done=o.walk:=by
 have h1:=h.size;have h2:=h.dn;have h3:=h.wk;refine⟨⟨?_,?_⟩,?_⟩
 .have:am (jos [])=0:=rfl;lia
 .rcases h.top with h|⟨j,hj,_⟩
  .exact h
  .cases hj
 .simpa[jos,walks]using h3
def SzAt(H:Hp)(ins:List (SG×Int))(rows:List (List Th))(h:Th)(a:So):Prop:=∃es:List So,H a=A? (.lst (es.map Ye))/\es.length=rows.length/\∀(s:Int)(o:Th),Out ins rows (.call s 0) (.knot Str.empty [h]) o->∃e,es[s.toNat]?=A? e/\H e=A? (.tup [.int (o.size:Nat),.int (o.tall:Nat)])
theorem SzAt.same(s:Zf H H'){rows:List (List Th)}{h:Th}(g:SzAt H ins rows h a):SzAt H' ins rows h a:=by
 obtain⟨es,h1,h2,h3⟩:=g;refine⟨es,s _ _ h1,h2,λst o ho=>?_⟩;obtain⟨e,g1,g2⟩:=h3 st o ho;exact⟨e,g1,s _ _ g2⟩
theorem su{rows:List (List Th)}{s:Int}{ks:List Th}{h:Th}(st:Step ins rows s c ks p h):Step ins rows s 0 [h] p h:=by
 obtain⟨a1,a2,a3,r⟩:=st;exact⟨a1,Int.le_refl _,D?,r⟩
theorem SzAt.keep(k:KT H H'){rows:List (List Th)}{h:Th}(ha:∀o,H a=A? o->H' a=A? o)(g:SzAt H ins rows h a):SzAt H' ins rows h a:=by
 obtain⟨es,h1,h2,h3⟩:=g;refine⟨es,ha _ h1,h2,λst o ho=>?_⟩;obtain⟨e,g1,g2⟩:=h3 st o ho;exact⟨e,g1,k _ _ g2⟩
theorem p8{R:α->β->Prop}:∀(xs:List α),(∀x∈xs,∃y,R x y)->∃ys:List β,ys.length=xs.length/\∀(i:Nat)(x:α)(y:β),xs[i]?=A? x->ys[i]?=A? y->R x y
 | [],_=>⟨[],rfl,λi x y h=>by simp at h⟩
 | x::xs,h=>by
   obtain⟨y,hy⟩:=h x (SU ..);obtain⟨ys,h1,h2⟩:=p8 xs λz hz=>h z (SN _ hz);refine⟨y::ys,by rw[SQ,SQ,h1],λi a b ha hb=>?_⟩;cases i with
   | zero =>
     simp at ha hb;subst ha;subst hb;exact hy
   |succ i=>exact h2 i a b (by simpa using ha) (by simpa using hb)
end BB
namespace L2
open PySem PySem.Spec PyProof.Rows
section
variable{X:Cx}{p p2 A9:VX}
def wz(K:Ss)(a:So)(n:Nat):It:=⟨λi H=>i<n/\∃xs,SqT K H a xs/\xs.length=n,λi H x H'=>H'=H/\∀xs,SqT K H a xs->xs[n - 1 - i]?=A? x,λi _=>i=n⟩
theorem qA{w:S0}(a it:So)(n:Nat):Turn P w K tg (wz K a n) [it] it (λi h=>IsRevT h it a ((n:Int) - 1 - (i:Nat))) where
 mem:=by simp
 obj:=λi h st b hb=>by
  have e:b=it:=by simpa using hb
  subst e;obtain⟨o,e,c,d⟩:=st;exact⟨o,e,λv z=>by rw[d]at z;cases z⟩
 keep:=λi h h' st k=>st.at λo e=>k it (by simp) o e
 item:=by
  intro X hP hw hK hc i Z s Y H E I hf st hg;subst hP hw hK;obtain⟨hi,xs,hq,hx⟩:=hg;obtain⟨its,rv,p,hz⟩:=I.tuple hq;have hl:=rv.length;have hn:=fv;obtain⟨x,yf⟩:∃x,xs[n - 1 - i]?=A? x:=⟨_,Sn (by lia)⟩;obtain⟨u,hu,ru⟩:=rv.get yf;obtain⟨f0,f1,f2,f3,f4,f5⟩:=hf it (by simp);have e1:(n:Int) - 1 - (i:Nat)=((n - 1 - i:Nat):Int):=by lia
  rw[e1]at st;refine bb_rev_next st p (x:=u) (by simpa using hu) (by rw[SF];lia) λh' tk Ah sb=>?_;have I1:Inv X Z Y H {s with heap:=h',toks:=tk}:=I.turned (t':=tk) (λb o hb e=>(sb.2 b hb).trans e) f0 f1 f3 f4 f5;have e2:((n - 1 - i:Nat):Int) - 1=(n:Int) - 1 - ((i+1:Nat):Int):=by lia
  rw[e2]at Ah;obtain⟨o,e,c,d⟩:=id Ah;exact⟨u,D?,nw (s:={s with heap:=h',toks:=tk}) e c d (by decide) ⟨x,H,I1,ru,⟨D?,λys hy=>by rw[I.tuple_inj hy hq];exact yf⟩,Ah,λb hb=>(hf b hb).1⟩⟩
 done:=by
  intro X hP hw hK hc i Z s Y H E I hf st hg;subst hP hw hK;have Kj:i=n:=hg;subst Kj;obtain⟨f0,f1,f2,f3,f4,f5⟩:=hf it (by simp);rw[show(i:Int) - 1 - (i:Nat)=-1 by lia]at st;exact bb_rev_end (I.ok.hd hc) st λh' tk eb=>⟨rfl,I.turned (t':=tk) (λb o hb e=>eb b o hb e) f0 f1 f3 f4 f5⟩
 self:=λ_ _ _ _ _ st h=>bb_rev_iter st h
def wD(K:Ss)(tl:TE):TI:=λY H R=>tl Y H λx H1=>∃a xs,x=.ref a/\SqT K H1 a xs/\R (wz K a xs.length) H1
theorem pT(g2:Gl X "reversed")(m2:X.mg "reversed"=Am)(he:PE X e te)(h2:Tr [e] X.env=[(C?,UZ e X.env)]:=by rfl):PI X tg (.Call (.Name "reversed" p2) [e] [] A9) (wD X.K te):=by
 intro Z s Y H R I h;refine Ug (kg I g2 m2 boot_reversed (Vp ?_ h2 rfl));rw[h2];show SV _ _ (spliced ((C?,UZ e X.env)::[])) _ _ s;refine WQ (thn (he Z s Y H _ I h) λu s1⟨x,H1,I1,r1,a,ys,ex,hq,q⟩=>W3 ?_);subst ex;cases r1;obtain⟨its,rv,p,hz⟩:=I1.tuple hq;have hl:=rv.length;have hn:=fv;refine bb_call_rev_tuple p (by rw[SF];lia) λtk=>?_
 have hit:IsRevT (s1.1.push (revTup a ((its.toArray.size:Int) - 1))) s1.1.1.size a ((ys.length:Int) - 1 - ((0:Nat):Int)):=by
  rw[hl,show(its.length:Int) - 1 - ((0:Nat):Int)=(its.toArray.size:Int) - 1 by rw[SF];lia];exact⟨_,SO _ rfl,D?,D?⟩
 refine bb_rev_iter (s:={s1 with heap:=s1.1.push (revTup a ((its.toArray.size:Int) - 1)),toks:=tk}) hit ?_;refine⟨s1.1.1.size,[s1.1.1.size],_,_,H1,D?,I1.kept (t':=tk) λb o e=>Sy _ e,qA a _ ys.length,hit,λb hb=>?_,q⟩;have e:b=s1.1.1.size:=by simpa using hb
 subst e;exact I1.fpOk (Su _) (I1.hok.fresh (Su _))
end
end L2
namespace BB
open PySem L2
theorem gd{F:Hp->α->So->Prop}{g:TG}(zs:List α)(hF:∀H1 H2 z p,KT H1 H2->F H1 z p->F H2 z p)(hz:zs.length=xs.length)(hn:xs.length<=1000000)
 (EB:∀i H2,Zf H H2->i<xs.length->J.go i H2) (zA:∀H2,Zf H H2->J.stop xs.length H2) (A':∀(i:Nat)H2 x H3,Zf H H2->i<xs.length->J.yld i H2 x H3->H3=H2/\xs[i]?=A? x)
 (hb:∀(i:Nat)x z H2(R:VK)(W':Hp->Prop),xs[i]?=A? x->zs[i]?=A? z->Zf H H2->(∀H3 p,Zf H2 H3->F H3 z p->R (.ref p) H3)->g x (cσ js Y) H2 λyL H3=>tt yL H3 λb H4=>if b=B? then te yL H4 R else W' H4)
 (zm:∀D H' as,H D=Am->Zf H H'->H' D=A? (.lst (as.map Ye))->Tc (F H') zs as->fin D H') :
 ∀D,H D=Am->∃(n:Nat)(W:Nat->Hp->Prop),W 0 (upd H D (.lst []))/\fC js g tt te Y J D n W λH'=>fin D H':=by
 intro D hD;refine⟨xs.length,λi H'=>i<=xs.length/\Zf H H'/\∃as:List So,H' D=A? (.lst (as.map Ye))/\Tc (F H') (zs.take i) as,⟨Tn _,ag hD _,[],by rw[ad];rfl,.nil⟩,?_⟩;rintro i H' ⟨hi,s1,as,e1,hp⟩;by_cases yb:i<xs.length
 .refine .inr ⟨yb,EB i H' s1 yb,λv H1 hy=>?_⟩;obtain⟨e,hx⟩:=A' i H' v H1 s1 yb hy;subst e;obtain⟨z,Ax⟩:∃z,zs[i]?=A? z:=⟨_,Sn (by lia)⟩;have hl:(zs.take i).length=as.length:=SJ hp;rw[S9]at hl;refine hb i v z _ _ _ hx Ax s1 λH3 p s3 Kr=>⟨_,s3 _ _ e1,?_,yb,aJ (s1.trans s3) hD,as++[p],?_,?_⟩
  .rw[Sl];have:SM=16777216:=Vn;lia
  .rw[ad,SI];rfl
  .have kt:KT H3 (upd H3 D (.lst (as.map Ye++[.ref p]))):=aU (s3 _ _ e1);rw[take_snoc Ax];exact Zj (Zk (λx y e=>hF _ _ _ _ ((Ze s3).trans kt) e) hp) (.cons (hF _ _ _ _ kt Kr) .nil)
 .have zY:i=xs.length:=by lia
  subst zY;refine .inl ⟨zA _ s1,zm D H' as hD s1 e1 ?_⟩;rw[TC (by lia)]at hp;exact hp
theorem tL{F:Hp->α->So->Prop}{g:TG}(zs:List α)(hF:∀H1 H2 z p,KT H1 H2->(∀o,H1 p=A? o->H2 p=A? o)->F H1 z p->F H2 z p)(hz:zs.length=xs.length)(hn:xs.length<=1000000)
 (EB:∀i H2,Zf H H2->i<xs.length->J.go i H2) (zA:∀H2,Zf H H2->J.stop xs.length H2) (A':∀(i:Nat)H2 x H3,Zf H H2->i<xs.length->J.yld i H2 x H3->H3=H2/\xs[i]?=A? x)
 (hb:∀(i:Nat)x z H2(R:VK)(W':Hp->Prop),xs[i]?=A? x->zs[i]?=A? z->Zf H H2->(∀H3 p,Zf H2 H3->H2 p=Am->F H3 z p->R (.ref p) H3)->g x (cσ js Y) H2 λyL H3=>tt yL H3 λb H4=>if b=B? then te yL H4 R else W' H4)
 (zm:∀D H' as,H D=Am->Zf H H'->H' D=A? (.lst (as.map Ye))->Tc (F H') zs as->fin D H') :
 ∀D,H D=Am->∃(n:Nat)(W:Nat->Hp->Prop),W 0 (upd H D (.lst []))/\fC js g tt te Y J D n W λH'=>fin D H':=by
 intro D hD;refine⟨xs.length,λi H'=>i<=xs.length/\Zf H H'/\∃as:List So,H' D=A? (.lst (as.map Ye))/\Tc (λz a=>F H' z a/\a≠D) (zs.take i) as,⟨Tn _,ag hD _,[],by rw[ad];rfl,.nil⟩,?_⟩;rintro i H' ⟨hi,s1,as,e1,hp⟩;by_cases yb:i<xs.length
 .refine .inr ⟨yb,EB i H' s1 yb,λv H1 hy=>?_⟩;obtain⟨e,hx⟩:=A' i H' v H1 s1 yb hy;subst e;obtain⟨z,Ax⟩:∃z,zs[i]?=A? z:=⟨_,Sn (by lia)⟩;have hl:(zs.take i).length=as.length:=SJ hp;rw[S9]at hl;refine hb i v z _ _ _ hx Ax s1 λH3 p s3 np Kr=>⟨_,s3 _ _ e1,?_,yb,aJ (s1.trans s3) hD,as++[p],?_,?_⟩
  .rw[Sl];have:SM=16777216:=Vn;lia
  .rw[ad,SI];rfl
  .have kt:KT H3 (upd H3 D (.lst (as.map Ye++[.ref p]))):=aU (s3 _ _ e1);have Ac:p≠D:=λz=>by rw[z,e1]at np;cases np
   rw[take_snoc Ax];exact Zj (Zk (λx y e=>⟨hF _ _ _ _ ((Ze s3).trans kt) (λo ho=>by rw[aj e.2];exact s3 _ _ ho) e.1,e.2⟩) hp) (.cons ⟨hF _ _ _ _ kt (λo ho=>by rw[aj Ac];exact ho) Kr,Ac⟩ .nil)
 .have zY:i=xs.length:=by lia
  subst zY;refine .inl ⟨zA _ s1,zm D H' as hD s1 e1 ?_⟩;rw[TC (by lia)]at hp;exact Zk (λ_ _ e=>e.1) hp
end BB
namespace L2
open PySem PySem.Spec PyProof.Rows
theorem us1:∀{us:List α},us.length=1->∃a,us=[a]
 | [a],_=>⟨a,rfl⟩
theorem us2:∀{us:List α},us.length=2->∃a b,us=[a,b]
 | [a,b],_=>⟨a,b,rfl⟩
theorem us3:∀{us:List α},us.length=3->∃a b c,us=[a,b,c]
 | [a,b,c],_=>⟨a,b,c,rfl⟩
theorem us4:∀{us:List α},us.length=4->∃a b c d,us=[a,b,c,d]
 | [a,b,c,d],_=>⟨a,b,c,d,rfl⟩
theorem us5:∀{us:List α},us.length=5->∃a b c d e,us=[a,b,c,d,e]
 | [a,b,c,d,e],_=>⟨a,b,c,d,e,rfl⟩
end L2
namespace PySem
open Sem (wp)
section
variable{w:S0}{K:Type}[DecidableEq K]{knd:HeapKind prog w K}
end
end PySem
namespace L2
open PySem PySem.Spec PyProof.Rows BB
end L2
namespace BB
open PySem L2
end BB
namespace PySem
open Sem (wp)
section
variable{w:S0}{I:So}{wr:List So}{G:Array GenState->Array GenState->Prop}{P:Nat->Sq->Prop}{St:Nat->Sr->Prop}
end
end PySem
namespace L2
open PySem PySem.Spec PyProof.Rows
section
variable{X:Cx}{o:TN}{to:TE}{p2 A9 apos yR:VX}
end
end L2
namespace PySem
open Sem (wp)
namespace F
end F
section
variable{w:S0}{xs:Array Sq}{k:Nat}
end
end PySem
namespace L2
open PySem PySem.Spec PyProof.Rows
section
variable{X:Cx}
end
end L2
namespace BB
open PySem L2
end BB
namespace PySem
section
variable{w:S0}
end
end PySem
namespace L2
open PySem PySem.Spec PyProof.Rows
section
variable{X:Cx}{e1 e2:TN}{t:TA}{p2 A9:VX}
end
end L2
namespace BB
open PySem L2
noncomputable section
local instance:DecidableEq Th:=λ_ _=>Classical.propDecidable _
end
end BB
namespace PySem
open Sem (wp)
section
variable{w:S0}{K:Type}[DecidableEq K]{knd:HeapKind prog w K}
theorem bb_setDefault_heap{d:So}{xs:List (K×So×Sq)}{k:K}{v:Sq}(hu:knd.room A)(AW:knd.is s.1 k a)(hm:s.1.DictOfH knd d xs)
 (EF:∀p,VP xs k=A? p->Q p.2 {s with toks:=s.toks+knd.draws k})
 (Et:VP xs k=Am->∀h',h'.DictOfH knd d (storedH xs k a v)->Um d s.1 h'->Q v {s with heap:=h',toks:=s.toks+knd.draws k})
 (hsz:xs.length<=SM):SV (S7 prog w) A (dictSetDefault d (.ref a) v) Q E s:=by
 obtain⟨o,es,ep,ho,hc,hd,he,Jp,hn⟩:=hm;unfold dictSetDefault
 try with_reducible refine UU ?_
 refine Sm (knd.pyHash hu AW ?_);refine Sm (wpAny_dictFind_heap (s:={s with toks:=s.toks+knd.draws k}) hu AW ho hd he Jp hn ?_ ?_)
 .intro BR;have Ks:k∉xs.map (·.1):=not_mem_keys_of_get BR
  refine Sm (Xk (Sm (wpAny_updateDictKeys (hz:=by have e:=size_of_entries he;lia) (s:={s with toks:=s.toks+knd.draws k}) ho hd (Sw (Et (WW BR) _ ⟨_,_,ep+1,T6 _ ho (Obj.isFreed_of_dict (Obj.data_mapDictKeys hd _)),
   hc.mapDictKeys _,Obj.data_mapDictKeys hd _,?_,?_,?_⟩ (Vh ..))))))
  .rw[storedH_new (WW BR)];simp[he,entryOfKey]
  .rw[storedH_new (WW BR)];intro x hx;rcases S6.mp hx with hx|hx
   .exact knd.keeps (Jp x hx) ho hd (Vh ..)
   .simp only[Sz]at hx;subst hx;exact knd.keeps AW ho hd (Vh ..)
  .rw[storedH_new (WW BR)];rw[SI,XM];refine⟨hn,by simp,?_⟩;intro x hx y hy;simp only[Tb,U3,Sz]at hy;subst hy;exactλe=>Ks (e ▸ hx)
 .intro j p hj;have h1:=EF _ (atKey_of_get hn hj);refine Sm (Wc (s:={s with toks:=s.toks+knd.draws k}) ho hd ?_);rw[entry_at he j,hj];exact Sm (Xk (Sw h1))
theorem bb_meets_setdefault(knd:HeapKind prog w K)(d a:So)(dflt:Sq)(hd:(d == Uh)=C?) :
 MeetsIn prog w (VY.«dict.setdefault» ⟨[.ref d,.ref a,dflt],[]⟩) (λA R s=>knd.room A.in1/\∃k xs,knd.is s.1 k a/\s.1.DictOfH knd d xs/\xs.length<=SM /\
  (∀p,VP xs k=A? p->R (.ok (.ret p.2)) {s with toks:=s.toks+knd.draws k}) /\
  (VP xs k=Am->∀h',h'.DictOfH knd d (storedH xs k a dflt)->Um d s.1 h'->R (.ok (.ret dflt)) {s with heap:=h',toks:=s.toks+knd.draws k})) :=
 .of_wp λA R s⟨hu,k,xs,AW,hm,hz,h1,h2⟩=>by
  unfold VY.«dict.setdefault»;refine Sm ?_;unfold Builtin.Dict.keyAndDefault;have hT:s.TypeIs (.ref d) "dict":=hm.typeIs;refine Sm (wpAny_notOrdered_dict hT ?_);show SV _ _ (pure (d,TF a,A? dflt)) _ _ s;refine Sw ?_;show SV _ _ (if(d == Uh)=B? then _ else(dictSetDefault d (.ref a) dflt >>= _)) _ _ s;rw[Za (by rw[hd];exact SW)];exact Sm (bb_setDefault_heap hu AW hm (λp hp=>Sw ⟨_,rfl,h1 p hp⟩) (λhn h' Km AQ=>Sw ⟨_,rfl,h2 hn h' Km AQ⟩) hz)
end
end PySem
namespace L2
open PySem PySem.Spec PyProof.Rows
def uk:V->List V->Hp->VK->Prop:=λx vs H Q=>∃(a b:So)(v:V)(k:List Key)(xP:List (List Key×V)),x=.ref a/\vs=[.ref b,v]/\H a=A? (.dT xP)/\H b=A? (.tup (k.map kV))/\xP.length<SM /\
 (∀u,bK xP k=A? u->Q u H)/\(bK xP k=Am->Q v (upd H a (.dT (putK xP k v))))
theorem lj{X:Cx}(hu:X.A.units+1<Vo):MtM X "dict.setdefault" uk:=by
 intro Z s Y H x vs v us Q I rx rv h;obtain⟨a,b,y,k,xP,rfl,rfl,e,eb,l,q1,q2⟩:=h;cases rx;cases rv with
 |cons r1 rv =>
 cases rv with
 |cons r2 rv =>
 cases rv;cases r1;obtain⟨z,hd,xs,rel,dd⟩:=pK I.hok e;have hz:xs.length<=SM:=by rw[<-SJ rel];exact z
 have hl:(putK xP k y).length<=SM:=by have:=cg xP k y;lia
 have hT:s.TypeIs (.ref a) "dict":=dd.typeIs;refine call_meetsIn Vk hT PySem.F.entry_dict_setdefault (PySem.F.args_dict_setdefault_3 _ _ _) (bb_meets_setdefault (tupleKind (ax X.prog X.w)) a b _ hd) ⟨tupleKind_room_in1 hu,k,xs,kQ I.hok eb,dd,hz,λp hp=>?_,λhn h' B0 hs=>?_⟩
 .have hr:=rel.val k;rw[hp]at hr;cases hv:bK xP k with
  |none=>rw[hv]at hr;exact hr.elim
  | some u =>
    rw[hv]at hr;exact⟨u,H,I.tok _,hr,q1 u hv⟩
 .have hr:=rel.val k;rw[hn]at hr;cases hv:bK xP k with
  |some u=>rw[hv]at hr;exact hr.elim
  | none =>
    refine⟨y,_,?_,r2,q2 hv⟩;obtain⟨q,es,ep,hq,h2,h3,h4,_,h5⟩:=B0;refine ip I (by rw[e];exact Vu) hs ⟨q,hq⟩ ⟨hl,hd,_,(rel.put k eb r2).keeps λc ys ec=>?_,q,es,ep,hq,h2,h3,h4,h5⟩;rw[aj (de ec e (λz=>nomatch z))];exact ec
end L2
namespace PySem
open Sem (wp)
section
variable{w:S0}{R:Result->Sr->Prop}
theorem bb_key_loop{S d:So}{es:Array DictEntry}{ep:Nat}{od:UD}(hh:A.in1.handled=Am)(hz:es.size<=SM)(EG:S≠it)(G2:S≠d)(Ph:d≠it)(g2:od.data=.dict es ep)(res:Sq) :
 ∀(k i:Nat)(s:Sr)(acc:Array Sq)(c:Nat),es.size - i=k->i<=es.size->s.1.IsKeyIter it d i es.size ep->s.1.get? d=A? od->s.1.get? S=A? {cls:=.type "list",dict:=Am,data:=.seq acc c,slots:=#[]}->acc.toList=(es.toList.take i).map (·.key) ->
 (∀h' Bw c',(∀b o,b≠S->b≠it->s.1.get? b=A? o->h'.get? b=A? o)->h'.get? S=A? {cls:=.type "list",dict:=Am,data:=.seq Bw c',slots:=#[]}->Bw.toList=es.toList.map (·.key)->R (.ok (.ret res)) {s with heap:=h'}) ->
 VA (S7 prog w) A (.builtin "list.extend.loop" ⟨[.ref S,.ref it,res],[]⟩) R s:=by
 intro k;induction k with
 | zero =>
   intro i s acc c hk hi hit hd hS zC hR;have Bl:i=es.size:=by lia
   subst Bl;refine codeAny_builtin F.entry_extend_loop ?_;rw[Around.under_plainId VR _];show SV _ A.in1 (Wv (.ref it) >>= _) _ _ s;refine Sm (bb_keyEnd hh hit hd g2 (Su _) λh' yp=>Sw ?_);refine hR h' acc c (λb o _ hb e=>yp b o hb e) (yp _ _ EG hS) ?_;rw[zC,TC (by rw[SX];lia)]
 | succ k ih =>
   intro i s acc c hk hi hit hd hS zC hR;have yb:i<es.size:=by lia
   refine codeAny_builtin F.entry_extend_loop ?_;rw[Around.under_plainId VR _];show SV _ A.in1 (Wv (.ref it) >>= _) _ _ s;have hx:es[i]?=A? es[i]:=Array.getElem?_eq_getElem yb
   have zQ:acc.size=i:=by
    have:=Zd Vf zC;rw[SX,Sl,S9,SX]at this;lia
   refine Sm (bb_keyNext hit hd g2 hx λh' Kt yp=>?_);have Jq:=(yp.2 S EG).trans hS;have Ag:=(yp.2 d Ph).trans hd;show SV _ A.in1 (updateSeq S (·.push es[i].key) >>= _) _ _ _;refine Sm ?_;have FZ:∀b o,b≠S->h'.get? b=A? o->(h'.update S (UO (·.push es[i].key))).get? b=A? o:=λb o hb e=>(T4 _ _ (UA hb)).trans e
   refine Wt Jq rfl (Sw ⟨plainId_quiet VR _,ih (i+1) _ (acc.push es[i].key) _ (by lia) yb (Kt.at λo e=>FZ _ _ (UA EG) e) (FZ _ _ (UA G2) Ag) (T6 _ Jq rfl) ?_ λKu Bw c' Kv Kw G3=>?_⟩)
    (by rw[zQ];lia) (by show(acc.push _).size<=SM+1;rw[Array.size_push,zQ];lia)
   .rw[Array.toList_push,zC,Ui,Sn (by rw[SX];exact yb),SI];simp
   .exact hR Ku Bw c' (λb o hb hb2 e=>Kv b o hb hb2 (FZ b o hb ((yp.2 b hb2).trans e))) Kw G3
end
section
variable{w:S0}
theorem bb_list_keys{d:So}{es:Array DictEntry}{ep:Nat}{od:UD}(hh:A.in1.in1.handled=Am)(ns:(d == Uh)=C?)(hd:s.1.get? d=A? od)(gc:od.cls=.type "dict")(g2:od.data=.dict es ep)(hz:es.size<=SM)
 (hQ:∀h' acc c,(∀b o,s.1.get? b=A? o->h'.get? b=A? o)->h'.get? s.1.1.size=A? {cls:=.type "list",dict:=Am,data:=.seq acc c,slots:=#[]}->acc.toList=es.toList.map (·.key)->Q (.ref s.1.1.size) {s with heap:=h'}) :
 SV (S7 prog w) A (call (.type "list") [.ref d]) Q E s:=by
 have B1:=SS hd;have G2:s.1.1.size≠d:=WU B1
 refine callType_codes (Q₁:=λobj xT=>obj=.ref s.1.1.size/\xT={s with heap:=s.1.push {cls:=.type "list",data:=.seq #[]}}) F.called_list (F.typeCall_list_1 _) F.entry_list_init
  (code_list_new _ ⟨rfl,rfl⟩) λobj xT x9=>?_
 obtain⟨rfl,rfl⟩:=x9;have hS:(s.1.push {cls:=.type "list",data:=.seq #[]}).get? s.1.1.size=A? {cls:=.type "list",data:=.seq #[]}:=SO _ rfl;refine⟨⟨_,hS,D?⟩,F.args_list_init_2 _ _,?_⟩;show SV _ A.in1.in1 (do let old <-Builtin.List.listItems (.ref s.1.1.size);Builtin.List.listUpdate (.ref s.1.1.size) (λ_=>#[]);letGo old.toList.reverse;Builtin.List.listExtendWith (.ref s.1.1.size) (.ref d) .none) _ _ _;refine Sm ?_;unfold Builtin.List.listItems;refine Sm (wpAny_seqItems hS rfl (Sw ?_));refine Sm (Wt hS rfl ?_);have DL:=T6 (UO (λ_=>(#[]:Array Sq))) hS rfl;refine Sm (wpAny_letGo ?_);have B2:((s.1.push {cls:=.type "list",data:=.seq #[]}).update s.1.1.size (UO (λ_=>(#[]:Array Sq)))).objs.size=s.1.1.size+1:=by rw[Heap.size_update,VF]
 generalize hH:(s.1.push {cls:=.type "list",data:=.seq #[]}).update s.1.1.size (UO (λ_=>(#[]:Array Sq)))=H2 at DL B2 |-
 have old:∀b o,s.1.get? b=A? o->H2.get? b=A? o:=λb o e=>by
  rw[<-hH,T4 _ _ (UA (Ti (SS e)))];exact Sy _ e
 obtain⟨c2,Kx⟩:∃c,H2.get? s.1.1.size=A? {cls:=.type "list",data:=.seq #[] c}:=⟨_,DL⟩;have hd2:=old _ _ hd;have Pj:({s with heap:=H2}:Sr).TypeIs (.ref d) "dict":=⟨_,hd2,gc⟩;unfold Builtin.List.listExtendWith;refine Sm (Wb Pj ?_);have h1:Builtin.List.listSameRef (.ref s.1.1.size) (.ref d)=false:=by simp[Builtin.List.listSameRef,G2]
 have h2:(Xo "dict" == Xo "list")=false:=by decide
 have h3:(Xo "dict" == Xo "tuple")=false:=by decide
 simp only[h1,h2,h3,Bool.or_false,T1,if_false];refine Sm (bb_keyIter (s:={s with heap:=H2}) ns hd2 gc g2 ?_);refine Sm (UU ?_);have EI:(H2.push {cls:=.type "dict_keyiterator",data:=.fields #[.ref d,.int 0 0,.int es.size 0,.int ep 0]}).IsKeyIter H2.objs.size d 0 es.size ep:=⟨_,SO _ rfl,rfl,rfl⟩;have F0:∀b o,H2.get? b=A? o->(H2.push {cls:=.type "dict_keyiterator",data:=.fields #[.ref d,.int 0 0,.int es.size 0,.int ep 0]}).get? b=A? o:=λb o e=>Sy _ e;have G4:s.1.1.size≠H2.objs.size:=by rw[B2];lia
 have EJ:d≠H2.objs.size:=by rw[B2];exact Ti (Wx B1)
 show SV _ _ _ _ _ ({s with heap:=H2.push {cls:=.type "dict_keyiterator",data:=.fields #[.ref d,.int 0 0,.int es.size 0,.int ep 0]}}:Sr);generalize H2.push {cls:=.type "dict_keyiterator",data:=.fields #[.ref d,.int 0 0,.int es.size 0,.int ep 0]}=H3 at EI F0 |-;have Np:=F0 _ _ hd2;have Ky:=F0 _ _ Kx;have Kz:({s with heap:=H3}:Sr).TypeIs (.ref d) "dict":=⟨_,Np,gc⟩
 have key:∀(h:TL)(c₁:Nat),h.IsKeyIter H2.objs.size d 0 es.size ep->(∀b o,b≠s.1.1.size->H3.get? b=A? o->h.get? b=A? o)->h.get? s.1.1.size=A? {cls:=.type "list",data:=.seq #[] c₁} ->
  VA (S7 prog w) A.in1 (.builtin "list.extend.loop" ⟨[.ref s.1.1.size,.ref H2.objs.size,.none],[]⟩) (wants (λr y2=>r=.none/\Q (.ref s.1.1.size) y2) E) {s with heap:=h}:=by
  intro h c₁ hit hk G5;refine bb_key_loop hh hz G4 G2 EJ g2 .none es.size 0 _ #[] c₁ rfl (Tn _) hit (hk _ _ (UA G2) Np) G5 rfl λh' Bw c' hm Jq zC=>?_;refine⟨D?,hQ h' Bw c' (λb o e=>?_) Jq zC⟩;have hb:=Ti (SS e);exact hm b o hb (by rw[B2];exact Ti (Wx (SS e))) (hk b o hb (F0 b o (old b o e)))
 unfold Builtin.List.listLengthHint;refine Sm (U7 Kz F.slot_dict_len.lookup ?_);generalize hid:("dict.__len__":String)=Pk
 wp_delta
 rw[show splitId Pk=A? ("dict","__len__")from by subst hid;decide +kernel];subst hid;refine Sm (Wk (T:="dict") (b:=B?) Kz (by rw[Wd];kernel_rfl) ?_);refine wpAny_ite_split (λAa=>Yd Aa (by decide)) (λ_=>?_);refine wpAny_ite_split (λ_=>?_) (λAa=>Yd (by decide +kernel) Aa);refine Sm (Wb Kz ?_);refine Sw ?_;refine wpAny_ite_split (λ_=>?_) (λ_=>Sw ⟨plainId_quiet VR _,key _ c2 EI (λb o _ e=>e) Ky⟩);refine Sm (Xk ?_);refine Sm ?_;show SV _ _ (updateSeq s.1.1.size (·.push .none) >>= λ_=>updateSeq s.1.1.size (·.pop)) _ _ _;refine Sm (Wt Ky rfl ?_);have DM:=T6 (UO (·.push Ud)) Ky rfl;refine Wt (hz:=by seq_fits) DM rfl ?_;have G6:=T6 (UO (·.pop)) DM rfl
 have FZ:∀b o,b≠s.1.1.size->H3.get? b=A? o->((H3.update s.1.1.size (UO (·.push Ud))).update s.1.1.size (UO (·.pop))).get? b=A? o :=
  λb o hb e=>(T4 _ _ (UA hb)).trans ((T4 _ _ (UA hb)).trans e)
 exact Sw ⟨plainId_quiet VR _,key _ _ (EI.at λo e=>FZ _ _ (UA G4) e) FZ G6⟩
end
end PySem
namespace L2
open PySem PySem.Spec PyProof.Rows
def u7:List V->Hp->VK->Prop:=λxs H Q=>∃(a:So)(xP:List (List Key×V)),xs=[.ref a]/\H a=A? (.dT xP)/\∀(l:So)(bs:List So),H l=Am->Tc (λkv b=>H b=A? (.tup (kv.1.map kV))) xP bs->Q (.ref l) (upd H l (.lst (bs.map Ye)))
theorem sY{ys:List (List Key×So×Sq)}(rel:KTd H xP ys):Tc (λkv b=>H b=A? (.tup (kv.1.map kV))) xP (ys.map λy=>y.2.1):=by
 induction rel with
 |nil=>exact .nil
 |cons h t ih=>exact .cons h.2.1 ih
theorem jZ{X:Cx}(hc:X.calm=B?):eK X (.type "list") u7:=by
 intro Z s Y H xs us Q I r h;obtain⟨a,xP,rfl,e,q⟩:=h;obtain⟨u,rfl,rx⟩:=vals1 r;cases rx;obtain⟨z,hd,ys,rel,dd⟩:=pK I.hok e;have hT:=dd.typeIs;obtain⟨o,es,ep,ho,Pl,hdt,he,Jp,hn⟩:=dd;obtain⟨o',yD,yw⟩:=hT;have eo:o'=o:=Tq (yD.symm.trans ho);subst eo;have hl:xP.length=ys.length:=SJ rel
 have zL:es.toList.map (·.key)=ys.map λy=>TF y.2.1:=by
  rw[he,Ur];rfl
 have hsz:es.size<=SM:=by
  have:=Zd Vf zL;rw[Sl,Sl,SX]at this;lia
 have hh:X.A.in1.in1.handled=none:=I.ok.hd hc;refine bb_list_keys hh hd yD yw hdt hsz λh' acc c hk hS zC=>?_;have hp:Tc (λkv b=>H b=A? (.tup (kv.1.map kV))) xP (ys.map λy=>y.2.1):=sY rel;refine⟨.ref s.1.1.size,upd H s.1.1.size (.lst ((ys.map λy=>y.2.1).map Ye)),?_,D?,q _ _ I.fresh hp⟩;refine I.laid (t':=s.toks) hk (Su _) ⟨by rw[Sl,Sl];lia,acc.toList,c,?_,hS⟩;rw[zC,zL];clear hn Jp he zL zC hS hl z rel hp q;induction ys with
 |nil=>exact .nil
 |cons y ys ih=>exact .cons rfl ih
open BB
end L2
namespace PySem
open Sem (wp)
section
variable{w:S0}{K:Type}[DecidableEq K](knd:HeapKind prog w K)(d:So)
theorem bb_meets_len(hd:(d == Uh)=C?) :
 MeetsIn prog w (VY.«dict.__len__» ⟨[.ref d],[]⟩) (λ_ R s=>∃xs,s.1.DictOfH knd d xs/\R (.ok (.ret (.int xs.length s.toks))) {s with toks:=s.toks+1}) :=
 .of_wp λA R s⟨xs,hm,h⟩=>by
  obtain⟨o,es,ep,ho,hc,KA,he,hp,hn⟩:=hm;show SV _ _ (dictSize d >>= _) _ _ s;unfold dictSize;refine Sm (Sm (Wc ho KA (Sw ?_)));show SV _ _ (Builtin.Dict.pendingCount d >>= _) _ _ s;refine Sm (wpAny_pendingCount_other hd ?_);refine wpAny_ret_mkInt ?_
  have:es.size=xs.length:=by
   have:=Zd Vf he;rw[Sl,SX]at this;exact this
  rw[Nat.add_zero,this];exact h
end
section
variable{w:S0}{K:Type}[DecidableEq K]{knd:HeapKind prog w K}
theorem bb_call_len{d:So}{xs:List (K×So×Sq)}(hd:(d == Uh)=C?)(hm:s.1.DictOfH knd d xs)(xU:(xs.length:Int)<2 ^ 63)
 (h:Q (.int xs.length (s.toks+1)) {s with toks:=s.toks+1+1}):SV (S7 prog w) A (call (.builtin "len") [.ref d]) Q E s:=by
 refine Calls.call_function_entry kind_len plain_len entry_len (args_len1 _) ?_;unfold VY.«len»;refine Sm (m:=oneArg "len" _) (Sw ?_)
 refine Sm (m:=callSpecial? (.ref d) (SE "__len__")) (Ue (name:=SE "__len__") hm.typeIs F.slot_dict_len
  (call_meetsIn F.slot_dict_len hm.typeIs F.entry_dict_len (F.args_dict_len_1 _) (bb_meets_len knd d hd) ⟨xs,hm,?_⟩))
 show SV _ _ _ _ _ {s with toks:=s.toks+1};refine Sm (UU (Sw ?_));refine Sm (wpAny_letGo ?_);show SV _ _ (if((xs.length:Nat):Int)<0 then _ else _) _ _ _;rw[Za (by lia)];show SV _ _ (if((xs.length:Nat):Int) >= 2 ^ 63 then _ else _) _ _ _;rw[Za (by lia)];exact Sm (wpAny_mkInt (Sw ⟨_,rfl,h⟩))
end
end PySem
namespace L2
open PySem PySem.Spec PyProof.Rows
def wG:List V->Hp->VK->Prop:=λxs H Q=>∃(a:So)(xP:List (List Key×V)),xs=[.ref a]/\H a=A? (.dT xP)/\Q (.int xP.length) H
theorem iU{X:Cx}:eK X (.builtin "len") wG:=by
 intro Z s Y H xs us Q I r h;obtain⟨a,xP,rfl,e,q⟩:=h;obtain⟨u,rfl,rx⟩:=vals1 r;cases rx;obtain⟨z,hd,ys,rel,dd⟩:=pK I.hok e;have hl:xP.length=ys.length:=SJ rel;refine bb_call_len hd dd (by rw[Vn]at z;lia) ?_;rw[<-hl];exact⟨.int xP.length,H,I.tok _,⟨_,D?⟩,q⟩
end L2
namespace BB
open PySem L2
open PySem.Builtin PySem.Builtin.Str
end BB
namespace L2
open PySem PySem.Spec PySem.Calls PyProof.Rows BB
section
variable{X:Cx}{Y:List (Option V)}
end
open PySem.Builtin PySem.Builtin.Str
variable{X:Cx}
end L2
namespace BB
open PySem L2
section
variable{t:Th}{es:List So}
end
end BB
namespace L2
open PySem PySem.Spec PyProof.Rows BB
variable{X:Cx}
end L2
namespace L2
open PySem PySem.Spec PyProof.Rows PySem.W
open BB
variable{X:Cx}
end L2
namespace L2
open PySem PySem.Spec PySem.Calls PyProof.Rows PySem.W
end L2
namespace BB
open PySem L2 PySem.Builtin PySem.Builtin.Str
end BB
namespace L2
open PySem PySem.Spec PySem.Calls PyProof.Rows PySem.Builtin PySem.Builtin.Str BB
variable{X:Cx}
end L2
namespace L2
open PySem PySem.Spec PyProof.Rows
end L2
namespace BB
open PySem L2
theorem ji{ks:List (SG×Int)}(g:aB ks):(ks.map (·.1)).Nodup:=by
 refine List.pairwise_iff_getElem.mpr λi j hi hj RI e=>?_;rw[Sl]at hi hj;rw[List.getElem_map,List.getElem_map]at e;have:=g.nd i j _ _ (Sn hi) (Sn hj) e;lia
def lh(rows:List (List Th)):List Dv:=rows.map λrow=>.tup (dvs row)
def pq(ins outs:List (SG×Int))(head:Th)(rows:List (List Th)):List Dv:=[.tup (ins.map kDv),.tup (outs.map kDv),head.dv,.tup (lh rows)]
theorem pB:∀{rows:List (List Th)}{ya:List So},Tc (RowAt H) rows ya->DAts H (lh rows) (ya.map Ye)
 |_,_,.nil=>.nil
 | _,_,.cons (a:=row) (b:=a) r h=>by
   obtain⟨as,e,h1⟩:=r;show DAts H (Dv.tup (dvs row)::lh _) (Ye a::_);refine .cons ?_ (pB h);rw[DAt];exact⟨a,_,D?,e,h1.dvs⟩
theorem pP{head:Th}{rows:List (List Th)}{r ia oa ha ra:So}{yc yl ya:List So}(b:BookAt H ins outs head rows r ia oa ha ra yc yl ya):DAts H (pq ins outs head rows) [.ref ia,.ref oa,.ref ha,.ref ra]:=by
 refine .cons ?_ (.cons ?_ (.cons b.hd.dv (.cons ?_ .nil)))
 .rw[DAt];exact⟨ia,_,D?,b.inE,n6 b.inK⟩
 .rw[DAt];exact⟨oa,_,D?,b.outE,n6 b.outK⟩
 .rw[DAt];exact⟨ra,_,D?,b.rl,pB b.rw⟩
theorem jh{m:Nat}:∀{rows:List (List Th)},(∀row∈rows,∀t∈row,t.tall<=m)->b7 (lh rows)<=m+1
 | [],_=>by show b7 []<=_;rw[b7];exact Tn _
 | row::rows,h=>by
   have h1:=jh (rows:=rows) λr hr=>h r (SN _ hr);have h2:=g8 row
   have h3:aK row<=m:=by
    have:=h row (SU ..);clear h h1 h2;induction row with
    |nil=>rw[aK];exact Tn _
    | cons t ts ih =>
      rw[aK];have a:=this t (SU ..);have b:=ih λu hu=>this u (SN _ hu);lia
   show b7 (Dv.tup (dvs row)::lh rows)<=_;rw[b7,Dv.deep];lia
theorem oy{head:Th}{rows:List (List Th)}{m:Nat}(hm:1<=m)(h1:head.tall<=m)(h2:∀row∈rows,∀t∈row,t.tall<=m):b7 (pq ins outs head rows)<=m+2:=by
 have a1:=g9 ins;have a2:=g9 outs;have a3:=head.dv_deep;have a4:=jh h2;unfold pq;simp only[b7,Dv.deep];lia
end BB
namespace L2
open PySem PySem.Spec PyProof.Rows
open PySem.Calls
structure oO(P:SH)(w:S0)(K:Ss)(mg:SG->Option Sq)(base:TL)(CX:CXT)(k:Nat)(f:So)(sp:Sp):Prop where
 fn:∀(A:Ta)(outer:List Wf)(s:Sr)(H:Hp)(vs:List V)(Q:VK)(E:XK),Env0 P w K mg base A outer s H->sp vs H Q E->PySem.W.FnAt f s.1
 run:∀(A:Ta)(outer:List Wf)(s:Sr)(H:Hp)(us:List Sq)(vs:List V)(Q:VK)(E:XK),Room k A->Env0 P w K mg base A outer s H->Vals vs us->sp vs H Q E ->
  VA (S7 P w) A (.call (.ref f) ⟨us,[]⟩) (CR CX outer P w H s Q E) s
section
variable{X:Cx}{k i:Nat}{E:XK}{p:VX}{t:TA}
def vf(P:SH)(w:S0)(K:Ss)(mg:SG->Option Sq)(base:TL)(CX:CXT)(k i:Nat)(E:XK)(t:TA):TE:=λY H Q=>∃f sp,Y[i]?=A? (A? (.ref f))/\oO P w K mg base CX k f sp/\t Y H λvs H1=>sp vs H1 Q E
theorem pe{E:Sq->Sr->Prop}{q:So}{rest:List TN}(h:SV M A (spliced (Vr pos (Tr (e::rest) env))) (λvs xT=>PySem.W.FnAt q xT.heap/\SV M A (call (.ref q) ([]++vs)) Q E xT) E s)
 (he:Tr (e::rest) env=(C?,UZ e env)::Tr rest env) (AX:(Vr pos (Tr rest env)).any (·.1)=C?) :
 SV M A (callWith pos (.ref q) [] (Vr pos (Tr (e::rest) env)) []) Q E s:=by
 rw[he]at h |-;exact PySem.W.callWith_of (by show((C? ||(Vr pos (Tr rest env)).any (·.1)) ||false)=C?;rw[AX];rfl) PySem.W.keeps_F (evalArgs_plain h)
theorem nX(hN:X.N[i]?=A? x)(hv:Vis X.env.scope x)(hr:Room k X.A)(hx:Passes CX X E)(ha:PA X (e::es) t)(Ao:(x == ("__debug__":SG))=false:=by decide)(y9:(x == ("__classdict__":SG))=false:=by decide)
 (he:Tr (e::es) X.env=(C?,UZ e X.env)::Tr es X.env:=by rfl) (yN:(Vr pos (Tr es X.env)).any (·.1)=false:=by rfl) :
 PE X (.Call (.Name x p) (e::es) [] pos) (vf X.prog X.w X.K X.mg X.base CX k i E t):=by
 intro Z s Y H Q I h;obtain⟨f,sp,G7,F,q⟩:=h;refine Ug (thn (sJ (X:=X) hN hv Ao y9 Z s Y H (λv H1=>v=.ref f/\t Y H1 λvs H2=>sp vs H2 Q E) I ⟨_,G7,rfl,q⟩) λu s1⟨v,H1,I1,r,e1,q1⟩=>?_);subst e1;obtain rfl:u=TF f:=r;refine pe (thn (ha pos Z s1 Y H1 _ I1 q1) λus s2⟨vs,H2,I2,r2,q2⟩=>⟨F.fn X.A X.stack s2 H2 vs Q E I2.env0 q2,?_⟩) he yN;refine Xl (VN (F.run X.A X.stack s2 H2 ([]++us) vs Q E hr I2.env0 r2 q2) λr s' hq=>?_);cases r with
 |error e=>exact hx Z Y H2 s2 e s' I2 hq
 | ok fl =>
   cases fl with
   |ret u=>exact I2.after hq
   |next=>exact TH hq
   |brk=>exact TH hq
   |cont=>exact TH hq
end
def fgt(S:List So)(H:Hp):Hp:=λb=>if b∈S then Am else H b
def rst(S:List So)(H H':Hp):Hp:=λb=>if b∈S then H b else H' b
theorem dG{S:List So}(h:b∈S):fgt S H b=none:=Yb h
theorem aQ{S:List So}(h:b∉S):fgt S H b=H b:=Za h
theorem oX{S:List So}(h:b∈S):rst S H H' b=H b:=Yb h
theorem bR{S:List So}(h:b∉S):rst S H H' b=H' b:=Za h
theorem uf(S:List So)(H:Hp):rst S H (fgt S H)=H:=by
 funext b;by_cases h:b∈S
 .exact oX h
 .rw[bR h,aQ h]
theorem rA{S:List So}{o:HO}(h:fgt S H b=A? o):b∉S/\H b=A? o:=by
 by_cases hb:b∈S
 .rw[dG hb]at h;cases h
 .exact⟨hb,by rw[aQ hb]at h;exact h⟩
def Exts(S:List So)(H:Hp):Prop:=∀b∈S,∃φ,H b=A? (.ext φ)
theorem Exts.out{S:List So}(x:Exts S H){o:HO}(e:H b=A? o)(n:∀φ,o≠.ext φ):b∉S:=λz=>by
 obtain⟨φ,h⟩:=x b z;rw[e]at h;exact n φ (Tq h)
theorem HOk.fgt{w:S0}{S:List So}(x:HOk P w H h)(hS:Exts S H):HOk P w (fgt S H) h:=λa o e=>by
 obtain⟨ha,e'⟩:=rA e;exact(x a o e').stay (λ_ _ _ q=>q) (λb q=>by rw[aQ (hS.out q (by intro φ z;cases z))];exact q) λb xs q=>by rw[aQ (hS.out q (by intro φ z;cases z))];exact q
theorem HOk.rst{w:S0}{S:List So}(x:HOk P w H h)(x':HOk P w H' h')(hS:Exts S H)(hk:∀b∈S,∀o,h.get? b=A? o->h'.get? b=A? o)(hn:∀b∈S,H' b=Am):HOk P w (rst S H H') h':=λa o e=>by
 by_cases ha:a∈S
 .rw[oX ha]at e;obtain⟨φ,Pm⟩:=hS a ha;have e2:=Pm;rw[e]at e2;cases e2;obtain⟨p,⟨ob,q⟩,st⟩:=x a _ e;exact⟨st _ _ p (λo z=>hk a ha o z),⟨ob,hk a ha ob q⟩,st⟩
 .rw[bR ha]at e;have out:∀b u,H' b=A? u->b∉S:=λb u q z=>by rw[hn b z]at q;cases q
  exact(x' a o e).stay (λ_ _ _ q=>q) (λb q=>by rw[bR (out b _ q)];exact q) λb xs q=>by rw[bR (out b _ q)];exact q
def CellAt(H:Hp)(c:So)(v:V):Prop:=∃φ,H c=A? (.ext φ)/\∀h:TL,φ h->∃u,RelV v u/\h.IsCell c (A? u)
def CodeAt(H:Hp)(c:So)(qual:SG):Prop:=∃φ,H c=A? (.ext φ)/\∀h:TL,φ h->h.CodeRec (.ref c) qual
def pW(H:Hp)(cl:List (SG×So))(ns:List SG)(ws:List V):Prop:=Tc (λ(x:SG)(v:V)=>∃c,cl.lookup x=A? c/\CellAt H c v) ns ws
def LamAt(H:Hp)(f c':So)(name qual:SG)(params:U9)(body:TN)(scope:Ub)(cl:List (SG×So)):Prop:=∃φ,H f=A? (.ext φ)/\∀h:TL,φ h->∃pm yV,h.get? f=A? (UW name qual params body scope cl pm c' yV)
theorem CellAt.mono(s:Same H H'){c:So}(h:CellAt H c v):CellAt H' c v:=by
 obtain⟨φ,h1,h2⟩:=h;exact⟨φ,s _ _ h1,h2⟩
theorem CodeAt.mono(s:Same H H'){c:So}{q:SG}(h:CodeAt H c q):CodeAt H' c q:=by
 obtain⟨φ,h1,h2⟩:=h;exact⟨φ,s _ _ h1,h2⟩
theorem LamAt.mono(s:Same H H'){body:TN}(h:LamAt H f c' name qual params body scope cl):LamAt H' f c' name qual params body scope cl:=by
 obtain⟨φ,h1,h2⟩:=h;exact⟨φ,s _ _ h1,h2⟩
theorem CellAt.now{w:S0}{c:So}(x:HOk P w H h)(z:CellAt H c v):∃u,RelV v u/\h.IsCell c (A? u):=by
 obtain⟨φ,h1,h2⟩:=z;exact h2 h (x c _ h1).1
def cxL(P:SH)(w:S0)(K:Ss)(mg:SG->Option Sq)(base:TL)(N:List SG)(qual:SG)(scope:Ub)(f:So)(cd:Sq)(cl:List (SG×So))(A:Ta)(outer:List Wf)(s:Sr)(H:Hp):Cx where
 prog:=P
 w:=w
 K:=K
 mg:=mg
 base:=base
 A:=A.deeper (UN qual scope s.1.1.size f cd cl)
 N:=N
 s₀:=s
 H₀:=fgt (cl.map (·.2)) H
 env:=UN qual scope s.1.1.size f cd cl
 outer:=outer
 stack:=UN qual scope s.1.1.size f cd cl::outer
 ex:=[]
 calm:=B?
 fn:=λ_=>C?
 pn:=[]
 xe:=λ_ _=>False
structure n9(N ps:List SG)(cl:List (SG×So))(sc:Ub):Prop where
 kind:sc.kind=.function
 co:sc.isCoroutine=C?
 gen:sc.isGenerator=C?
 nocell:∀x∈sc.names,x.2≠.cell
 nd:N.Nodup
 pre:N.take ps.length=ps
 par:∀x∈ps,sc.names.lookup x=A? .local
 fre:∀x∈N.drop ps.length,sc.names.lookup x=A? .free
 has:∀x,sc.names.lookup x=A? .free->∃c,cl.lookup x=A? c
 inj:∀x y c,cl.lookup x=A? c->cl.lookup y=A? c->x=y
theorem d6{c:So}(h:cl.lookup x=A? c):c∈cl.map (·.2):=Tj.mpr ⟨(x,c),Tf h,rfl⟩
theorem lZ:∀{l:List (SG×Sq)}{x:SG}{u:Sq},(l.map (·.1)).Nodup->(x,u)∈l->l.lookup x=A? u
 | [],_,_,_,h=>by cases h
 | (y,v)::l,x,u,nd,h=>by
   rw[Tb,Wg]at nd;rw[T8];rcases SR.mp h with e|e
   .cases e;rw[beq_self_eq_true]
   .have yU:(x == y)=false:=by
     rw[beq_eq_false_iff_ne];intro z;subst z;exact nd.1 (Tj.mpr ⟨_,e,rfl⟩)
    rw[yU];exact lZ nd.2 e
theorem jn{i:Nat}(nd:ps.Nodup)(hl:us.length=ps.length)(h1:ps[i]?=A? x)(h2:us[i]?=A? u):(ps.zip us).reverse.lookup x=A? u:=by
 refine lZ ?_ ?_
 .rw[V6,List.map_fst_zip (by lia)];exact(List.pairwise_reverse.mpr (nd.imp λh z=>h z.symm))
 .rw[Vz];exact Sv (UB.mpr ⟨h1,h2⟩)
theorem vH{w:S0}{k:Nat}{body:TN}
 (S:n9 N ps cl scope) (bind:∀(pm yV:Sq)(us:List Sq),us.length=ps.length->VT (PySem.W.kla_fn name qual params body scope cl pm (.ref c') yV) ⟨us,[]⟩=pure (ps.zip us))
 (zc:∀vs H Q E,sp vs H Q E->vs.length=ps.length/\LamAt H f c' name qual params body scope cl/\CodeAt H c' qual/\Exts (cl.map (·.2)) H/\∀x c,cl.lookup x=A? c->∃v,CellAt H c v)
 (yj:∀(A:Ta)(outer:List Wf)(s:Sr)(H:Hp)(vs:List V)(Q:VK)(E:XK),Room k (A.deeper (UN qual scope s.1.1.size f (.ref c') cl))->sp vs H Q E ->
  ∃t ws,pW H cl (N.drop ps.length) ws/\PE (cxL P w K mg base N qual scope f (.ref c') cl A outer s H) body t/\t (vs.map A?++ws.map A?) (fgt (cl.map (·.2)) H) λv H'=>Q v (rst (cl.map (·.2)) H H')) :
 oO P w K mg base CX0 (k+1) f sp where
 fn:=λA outer s H vs Q E e0 h=>by
  obtain⟨_,⟨φ,h1,h2⟩,_⟩:=zc _ _ _ _ h;obtain⟨pm,yV,e⟩:=h2 _ (e0.hok f _ h1).1;exact⟨_,_,_,_,e⟩
 run:=λA outer s H us vs Q E hr e0 r h=>by
  obtain⟨hl,⟨φ,h1,h2⟩,⟨ψ,g1,g2⟩,hx,EK⟩:=zc _ _ _ _ h;obtain⟨pm,yV,ef⟩:=h2 _ (e0.hok f _ h1).1;have G8:=g2 _ (e0.hok c' _ g1).1;have Es:us.length=ps.length:=by rw[<-r.length];exact hl
  have EL:∀y∈ps.zip us,scope.names.lookup y.1=A? .local:=λ⟨n,v⟩hy=>S.par n (VJ hy).1;refine PySem.W.kla_callFunE hr.depth ef rfl S.co S.gen rfl G8 ?_;rw[show VT _ _=_ from bind pm yV us Es];refine Sw (XA S.nocell EL (λx9 Bt zO=>?_) S.kind);have yF:∀b o,s.1.get? b=A? o->x9.get? b=A? o:=λb o e=>zO.extBut b o (Ti (SS e)) (Sy _ e);refine⟨e0.mod.nolimit.keeps λb o e=>yF b o (e0.bs b o e).1,?_⟩;show VA _ _ (.expr body (UN qual scope s.1.1.size f (.ref c') cl)) _ _;obtain⟨t,ws,AO,ht,hq⟩:=yj A outer s H vs Q E (hr.deeper _) h;have BV:(N.drop ps.length).length=ws.length:=SJ AO;have yN:ps.length<=N.length:=by have:=Zd Vf S.pre;rw[S9]at this;lia
  have yw:∀x c,cl.lookup x=A? c->c∈cl.map (·.2):=λx c e=>d6 e
  have yb:∀c∈cl.map (·.2),c<s.1.1.size:=λc hc=>by
   obtain⟨Bm,e⟩:=hx c hc;exact e0.hok.lt e
  have Ba:∀x c,cl.lookup x=A? c->∃v,x9.IsCell c v:=λx c e=>by
   obtain⟨v,hv⟩:=EK x c e;obtain⟨u,_,o,ho,hd⟩:=hv.now e0.hok;exact⟨_,o,yF _ _ ho,hd⟩
  have Bb:∀b,H b=Am->fgt (cl.map (·.2)) H b=none:=λb e=>by
   by_cases hb:b∈cl.map (·.2)
   .exact dG hb
   .rw[aQ hb];exact e
  have ndP:ps.Nodup:=by rw[<-S.pre];exact S.nd.sublist (XJ _ _)
  have I:Inv (cxL P w K mg base N qual scope f (.ref c') cl A outer s H) [] (vs.map A?++ws.map A?) (fgt (cl.map (·.2)) H) {s with heap:=x9,toks:=s.toks+(ps.zip us).length}:=by
   refine⟨⟨e0.mod,S.kind,D?,D?,Su _,S.inj,λx hx=>?_,λx c hf _=>(by cases hf),λ_=>hr.hd,XN e0.frames,.inr ⟨rfl,rfl⟩,λb z=>(by cases z),λb o e=>⟨(e0.bs b o e).1,?_⟩,e0.bsz,λb _ _ z=>(by cases z),λb z=>(by cases z),e0.funs,λb hb=>?_⟩,
    rfl,e0.bare,Un.kept yF,⟨_,Bt,λi x v e1 e2 e3=>?_⟩,Ba,?_,λx c e=>dG (yw x c e),λp hp=>(by cases hp),?_,?_⟩
   .have yf:scope.names.lookup x=A? .cell\/scope.names.lookup x=A? .free:=hx;rcases yf with z|z
    .exact Yd rfl (S.nocell _ (Tf z))
    .exact S.has x z
   .exact Bb b (e0.bs b o e).2
   .exact Bb b (e0.frf b hb)
   .by_cases hi:i<vs.length
    .rw[Ts (by rw[Sl];exact hi),Sx]at e2;obtain⟨v',AN,e4⟩:=TM.mp e2;cases e4;obtain⟨u,hu,rv⟩:=r.get AN
     have hp:ps[i]?=A? x:=by
      rw[<-S.pre,VE (by lia)];exact e1
     exact⟨u,rv,.inl ⟨S.par x (Sv hp),jn ndP Es hp hu⟩⟩
    .rw[T5 (by rw[Sl];lia),Sx,Sl]at e2;obtain⟨v',AN,e4⟩:=TM.mp e2;cases e4
     have hd:(N.drop ps.length)[i - vs.length]?=A? x:=by
      rw[List.getElem?_drop,hl,show ps.length+(i - ps.length)=i by lia];exact e1
     obtain⟨w',EM,c,hc,yd⟩:=Yo AO hd;rw[AN]at EM;cases EM;obtain⟨u,ru,o,ho,KC⟩:=yd.now e0.hok;exact⟨u,ru,.inr ⟨.inr (S.fre x (Sv hd)),c,hc,o,yF _ _ ho,KC⟩⟩
   .exact Bb _ (e0.hok.fresh (Su _))
   .exact(e0.hok.fgt hx).kept yF
   .show(vs.map A?++ws.map A?).length=N.length;rw[SD,Sl,Sl,<-BV,Tz];lia
  refine PySem.W.kla_codeExpr (TQ (ht [] _ _ _ _ I hq) (λu s' zi=>?_) λe s' z=>z.elim);obtain⟨v,H',I',rv,q'⟩:=zi;have un:Un (frs outer) [] (fgt (cl.map (·.2)) H) H' s.1 s'.1:=I'.base
  have kS:∀b∈cl.map (·.2),∀o,s.1.get? b=A? o->s'.1.get? b=A? o:=λb hb o e=>un.keep b o e (dG hb) (λz=>by
   obtain⟨Bm,e'⟩:=hx b hb;rw[e0.frf b z]at e';cases e') (by simp)
  have DO:∀b∈cl.map (·.2),H' b=none:=λb hb=>by
   obtain⟨Bm,e'⟩:=hx b hb;obtain⟨_,⟨o,ho⟩,_⟩:=e0.hok b _ e';exact un.free b o ho (dG hb) (by simp)
  have nS:∀b,H b=Am->b∉cl.map (·.2):=λb e hb=>by
   obtain⟨Bm,e'⟩:=hx b hb;rw[e]at e';cases e'
  refine⟨v,rst (cl.map (·.2)) H H',I'.os,I'.bare,⟨λb o e n hb yf=>un.keep b o e (Bb b n) hb yf,λb o e n hb yf=>un.slot b o e (Bb b n) hb yf,λb o e n yf=>?_,λb o e yf=>un.there b o e yf,λb xs e=>?_,λb o u' e=>?_,λb pp e=>?_⟩,HOk.rst e0.hok I'.hok hx kS DO,rv,q'⟩
  .rw[bR (nS b n)];exact un.free b o e (Bb b n) yf
  .have hb:=hx.out e (by intro Bm z;cases z);rw[bR hb];exact un.tups b xs (by rw[aQ hb];exact e)
  .have hb:=hx.out e (by intro Bm z;cases z);rw[bR hb];exact un.frzs b o u' (by rw[aQ hb];exact e)
  .have hb:=hx.out e (by intro Bm z;cases z);rw[bR hb];exact un.tbls b pp (by rw[aQ hb];exact e)
structure Lam(mg:SG->Option Sq)(base:TL)(c P:So):Prop where
 hd:Wn base c P
 bl:base.BuiltinsAt mg P
def SameT(P:So)(H H':Hp):Prop:=∀b o,b≠P->H b=A? o->H' b=A? o
def tabOf(pos:VX)(c':So):Array Sq:=#[Vi pos.line,Vi pos.col,.ref c']
def TabSt(H:Hp)(P:So)(pos:VX)(qual:SG):Prop:=H P=A? (.tbl #[])\/∃c',H P=A? (.tbl (tabOf pos c'))/\CodeAt H c' qual
theorem TabSt.mono(s:Same H H'){P:So}(h:TabSt H P pos qual):TabSt H' P pos qual:=by
 rcases h with h|⟨c',h1,h2⟩
 .exact .inl (s _ _ h)
 .exact .inr ⟨c',s _ _ h1,h2.mono s⟩
theorem SameT.trans{P:So}(a:SameT P H H1)(b:SameT P H1 H2):SameT P H H2:=λc o n e=>b c o n (a c o n e)
theorem Same.t(s:Same H H')(P:So):SameT P H H':=λb o _ e=>s b o e
theorem SameT.kt{P:So}(s:SameT P H H'){pp:Array Sq}(hP:H P=A? (.tbl pp)):BB.KT H H':=λb xs e=>s b _ (λz=>by rw[z,hP]at e;cases e) e
theorem TabSt.kt{P:So}(t:TabSt H P pos qual)(s:SameT P H H'):BB.KT H H':=by
 rcases t with h|⟨_,h,_⟩
 .exact s.kt h
 .exact s.kt h
theorem nG(pos:VX)(c':So):TriplesOk (tabOf pos c').toList:=trivial
theorem lB(pos:VX)(c':So):codeAmong pos (tabOf pos c').toList=A? (.ref c'):=by
 show codeAmong pos [Vi pos.line,Vi pos.col,.ref c']=_;simp[codeAmong,Vi]
def xu(X:Cx)(P:So)(pos:VX)(params:U9)(body:TN)(scope:Ub)(cl:List (SG×So)):TE:=λ_ H Q=>TabSt H P pos (X.env.qual++"<lambda>") /\
 ∀f c' H',SameT P H H'->H' P=A? (.tbl (tabOf pos c'))->CodeAt H' c' (X.env.qual++"<lambda>")->LamAt H' f c' "<lambda>" (X.env.qual++"<lambda>") params body scope cl->H f=Am->Q (.ref f) H'
theorem u8{X:Cx}{c P:So}{body:TN}(L:Lam X.mg X.base c P)(hc:X.env.code=.ref c)(yw:closureFor scope X.env=pure cl)(KD:defaultsOf params X.env=([],[]):=by rfl) :
 PE X (.Lambda params body scope pos) (xu X P pos params body scope cl):=by
 intro Z s Y H Q I h;obtain⟨tab,q⟩:=h;have EN:s.1.Ns TR X.mg:=I.mod.glob.keeps I.bk;have C:Wn s.1 c P:=L.hd.keeps I.bk
 have hb:s.1.BuiltinsAt X.mg P:=by
  obtain⟨bm,o,h1,h2,h3,h4,h5,h6⟩:=L.bl;exact⟨bm,o,h1,h2,h3,h4,I.bk _ _ h5,h6⟩
 refine PySem.W.kla_eval KD ?_;rcases tab with hP|⟨c',hP,zK⟩
 .have BI:s.1.get? P=A? (Vv #[]):=I.hok P _ hP
  have KG:TR≠P:=λz=>by
   obtain⟨o,es,ep,e,d,_⟩:=EN;rw[z,BI]at e;cases e;cases d
  refine PySem.W.kla_makeFunction yw I.ok.glob EN hc C BI trivial rfl KG hb λc' yV h' tk hx CY yb B3 G9=>?_;have hsz:s.1.1.size<=h'.objs.size:=Td CY (U1 yb);have G':H c'=none:=I.hok.fresh CY;have nf:H h'.objs.size=none:=I.hok.fresh hsz;have KH:c'≠h'.objs.size:=Ti yb;have KI:P≠c':=λz=>by rw[z,G']at hP;cases hP
  have KJ:P≠h'.objs.size:=λz=>by rw[z,nf]at hP;cases hP
  have kp:∀b o,b≠P->s.1.get? b=A? o->(h'.push (UW "<lambda>" (X.env.qual++"<lambda>") params body scope cl ((X.mg "__name__").getD .none) c' yV)).get? b=A? o:=λb o n e=>Sy _ (hx b o n e);obtain⟨H',CZ⟩:∃H',H'=upd (upd (upd H P (.tbl (tabOf pos c'))) c' (.ext λh=>h.CodeRec (.ref c') (X.env.qual++"<lambda>"))) h'.objs.size (.ext λh=>h.get? h'.objs.size=A? (UW "<lambda>" (X.env.qual++"<lambda>") params body scope cl ((X.mg "__name__").getD .none) c' yV)):=⟨_,rfl⟩;have eP:H' P=A? (.tbl (tabOf pos c')):=by rw[CZ,aj KJ,aj KI,ad]
  have ec:H' c'=A? (.ext λh=>h.CodeRec (.ref c') (X.env.qual++"<lambda>")):=by rw[CZ,aj KH,ad]
  have ef:H' h'.objs.size=A? (.ext λh=>h.get? h'.objs.size=A? (UW "<lambda>" (X.env.qual++"<lambda>") params body scope cl ((X.mg "__name__").getD .none) c' yV)):=by rw[CZ,ad]
  have eo:∀b,b≠P->b≠c'->b≠h'.objs.size->H' b=H b:=λb n1 n2 n3=>by rw[CZ,aj n3,aj n2,aj n1]
  have es:∀b o,H b=A? o->b≠P->H' b=A? o:=λb o e n=>by rw[eo b n (λz=>by rw[z,G']at e;cases e) (λz=>by rw[z,nf]at e;cases e)];exact e
  have un:Un X.fs [] H H' s.1 (h'.push (UW "<lambda>" (X.env.qual++"<lambda>") params body scope cl ((X.mg "__name__").getD .none) c' yV)):=by
   have nP:∀b,H b=Am->b≠P:=λb n z=>by rw[z,hP]at n;cases n
   refine⟨λb o e n _ _=>kp b o (nP b n) e,λb o e n _ _=>⟨o.slots,kp b o (nP b n) e⟩,λb o e n _=>?_,λb o e _=>?_,λb xs e=>es b _ e (λz=>by rw[z,hP]at e;cases e),λb o u e=>es b _ e (λz=>by rw[z,hP]at e;cases e),λb pp e=>?_⟩
   .rw[eo b (nP b n) (Ti (SY (SS e) CY)) (Ti (SY (SS e) hsz))];exact n
   .by_cases hb:b=P
    .exact⟨_,by rw[hb];exact Sy _ G9⟩
    .exact⟨o,kp b o hb e⟩
   .by_cases hb:b=P
    .subst hb;rw[hP]at e;cases e;exact⟨tabOf pos c',by rw[eP];simp⟩
    .exact⟨#[],by rw[es b _ e hb];simp⟩
  have hok:HOk X.prog X.w H' (h'.push (UW "<lambda>" (X.env.qual++"<lambda>") params body scope cl ((X.mg "__name__").getD .none) c' yV)):=λa o e=>by
   by_cases ha:a=P
   .subst ha;rw[eP]at e;cases e;exact Sy _ G9
   by_cases yC:a=c'
   .subst yC;rw[ec]at e;cases e;refine⟨B3.push _,?_,λh1 h2 z k=>?_⟩
    .obtain⟨_,oc,_,_,e1,e2,_⟩:=B3;cases e1;exact⟨oc,Sy _ e2⟩
    .obtain⟨_,oc,vs,t,e1,e2,e3⟩:=z;cases e1;exact⟨_,oc,vs,t,D?,k _ e2,e3⟩
   by_cases CI:a=h'.objs.size
   .subst CI;rw[ef]at e;cases e;exact⟨SO _ rfl,⟨_,SO _ rfl⟩,λh1 h2 z k=>k _ z⟩
   rw[eo a ha yC CI]at e;refine(I.hok a o e).stay (λb u hb z=>kp b u ?_ z) (λb z=>es b _ z (λy=>by rw[y,hP]at z;cases z)) λb xs z=>es b _ z (λy=>by rw[y,hP]at z;cases z);rcases hb with hb|hb
   .rw[hb];exact ha
   .exactλy=>by rw[y,hP]at hb;cases hb
  refine⟨.ref h'.objs.size,H',I.un un hok,D?,q _ c' H' (λb o n e=>es b o e n) eP ⟨_,ec,λ_ z=>z⟩ ⟨_,ef,λ_ z=>⟨_,_,z⟩⟩ nf⟩
 .have BI:s.1.get? P=A? (Vv (tabOf pos c')):=I.hok P _ hP;refine PySem.W.kla_makeFunctionHit yw I.ok.glob EN hc C BI (nG pos c') (lB pos c') hb λyV h' tk hk hsz=>?_;have nf:H h'.objs.size=none:=I.hok.fresh hsz
  have I':=I.laid (h':=h'.push {cls:=.type "function",data:=.func (PySem.W.kla_fn "<lambda>" (X.env.qual++"<lambda>") params body scope cl ((X.mg "__name__").getD .none) (.ref c') yV)}) (a:=h'.objs.size) (t':=tk)
   (o:=.ext λh=>h.get? h'.objs.size=A? (UW "<lambda>" (X.env.qual++"<lambda>") params body scope cl ((X.mg "__name__").getD .none) c' yV)) (λb u e=>Sy _ (hk b u e)) hsz ⟨SO _ rfl,⟨_,SO _ rfl⟩,λh1 h2 z k=>k _ z⟩
  have sm:Same H (upd H h'.objs.size (.ext λh=>h.get? h'.objs.size=A? (UW "<lambda>" (X.env.qual++"<lambda>") params body scope cl ((X.mg "__name__").getD .none) c' yV))):=ag nf _;exact⟨.ref h'.objs.size,_,I',D?,q _ c' _ (sm.t P) (sm _ _ hP) (zK.mono sm) ⟨_,ad,λ_ z=>⟨_,_,z⟩⟩ nf⟩
section
variable{X:Cx}{k:Nat}{p:VX}{t:TA}
def Trk(X:Cx)(Y:St)(cl:List (SG×So))(H H':Hp):Prop:=(∀b∈cl.map (·.2),H b=Am)/\(∀b,b∉cl.map (·.2)->H' b=H b)/\Exts (cl.map (·.2)) H'/\∀(i:Nat)(y:SG)(v:V)(c:So),X.N[i]?=A? y->Y[i]?=A? (A? v)->cl.lookup y=A? c->CellAt H' c v
def vX(X:Cx)(cl:List (SG×So))(sp:Sp)(t:TA):TE:=λY H Q=>t Y H λvs H1=>∀H2,Trk X Y cl H1 H2->sp vs H2 (λv H3=>(∀b∈cl.map (·.2),H3 b=H2 b)/\Q v (fgt (cl.map (·.2)) H3)) E0
theorem Trk.same{X:Cx}(t:Trk X Y cl H H'):Same H H':=λb o e=>by
 rw[t.2.1 b (λz=>by rw[t.1 b z]at e;cases e)];exact e
theorem Trk.back{X:Cx}(t:Trk X Y cl H H')(s:Same H' H3):Same H (fgt (cl.map (·.2)) H3):=λb o e=>by
 rw[aQ (λz=>by rw[t.1 b z]at e;cases e)];exact s _ _ (t.same _ _ e)
theorem Trk.kt{X:Cx}(t:Trk X Y cl H H')(s:Same H' H3):BB.KT H3 (fgt (cl.map (·.2)) H3):=λb xs e=>by
 rw[aQ λz=>?_]
 .exact e
 obtain⟨φ,h⟩:=t.2.2.1 b z;rw[s _ _ h]at e;cases e
structure g6(X:Cx)(cl:List (SG×So)):Prop where
 look:∀y c,(y,c)∈cl->X.env.cells.lookup y=A? c
 fn:∀y c,(y,c)∈cl->X.fn y=B?
 kind:∀y c,(y,c)∈cl->X.env.kindOf y=A? .cell
theorem xI{y:SG}{c:So}(h1:X.env.cells.lookup y=A? c)(h2:X.fn y=B?)(h3:X.env.kindOf y=A? .cell):g6 X [(y,c)] :=
 ⟨λ_ _ h=>by cases Sz.mp h;exact h1,λ_ _ h=>by cases Sz.mp h;exact h2,λ_ _ h=>by cases Sz.mp h;exact h3⟩
theorem rk(F:FnOk X.prog X.w X.K X.mg X.base CX0 k f fd ps sp)(hr:Room k X.A)(hg:Gl X x)(hm:X.mg x=A? (.ref f))(hk:UQ X.K (.ref f)=B?)(hb:Binds X.K fd ps [])(oc:g6 X cl)
 (ha:PA X (e::es) t) (Ao:(x == ("__debug__":SG))=false:=by decide) (he:Tr (e::es) X.env=(C?,UZ e X.env)::Tr es X.env:=by rfl) (yN:(Vr pos (Tr es X.env)).any (·.1)=false:=by rfl) :
 PE X (.Call (.Name x p) (e::es) [] pos) (vX X cl sp t):=by
 intro Z s Y H Q I h;refine Ug (fq I hg hm ?_ Ao);refine VO (h₀:=X.base) I.ok.mod.kin hk (thn (ha pos Z s Y H _ I h) λus s1⟨vs,H1,I1,r,q⟩=>⟨I1.kIn,?_⟩) he yN
 have yB:∀b∈cl.map (·.2),∃y,(y,b)∈cl:=λb hb=>by
  obtain⟨⟨y,c⟩,h1,h2⟩:=Tj.mp hb;cases h2;exact⟨y,h1⟩
 have yd:∀b∈cl.map (·.2),∃v o,s1.1.get? b=A? o/\o.data=.cell v:=λb hb=>by
  obtain⟨y,hy⟩:=yB b hb;obtain⟨v,o,h1,h2⟩:=I1.cell y b (oc.look y b hy);exact⟨v,o,h1,h2⟩
 have zf:∀b∈cl.map (·.2),H1 b=none:=λb hb=>by
  obtain⟨y,hy⟩:=yB b hb;exact I1.freeC y b (oc.look y b hy)
 obtain⟨H2,Ha⟩:∃H2:Hp,H2=λb=>if b∈cl.map (·.2)then A? (.ext λh=>h.get? b=s1.1.get? b/\(h.get? b).isSome=B?)else H1 b:=⟨_,rfl⟩
 have B4:∀b∈cl.map (·.2),H2 b=A? (.ext λh=>h.get? b=s1.1.get? b/\(h.get? b).isSome=B?):=λb hb=>by rw[Ha];exact Yb hb
 have yk:∀b,b∉cl.map (·.2)->H2 b=H1 b:=λb hb=>by rw[Ha];exact Za hb
 have KL:Exts (cl.map (·.2)) H2:=λb hb=>⟨_,B4 b hb⟩;have B5:∀b u,H1 b=A? u->b∉cl.map (·.2):=λb u z hb=>by rw[zf b hb]at z;cases z
 have EO:HOk X.prog X.w H2 s1.1:=λa o ea=>by
  by_cases hb:a∈cl.map (·.2)
  .rw[B4 a hb]at ea;cases ea;obtain⟨v,o,h1,h2⟩:=yd a hb
   exact⟨⟨D?,by rw[h1];rfl⟩,⟨o,h1⟩,λg1 g2 z y=>by
    obtain⟨ob,C3⟩:=VC.mp z.2;have:=y ob C3;exact⟨by rw[this,<-C3];exact z.1,by rw[this];rfl⟩⟩
  .rw[yk a hb]at ea;exact(I1.hok a o ea).stay (λ_ _ _ z=>z) (λb z=>by rw[yk b (B5 b _ z)];exact z) λb xs z=>by rw[yk b (B5 b _ z)];exact z
 have zx:∀b o,X.base.get? b=A? o->b∉cl.map (·.2):=λb o z hb=>by
  obtain⟨y,hy⟩:=yB b hb;have h1:=I1.ok.cab y b (oc.fn y b hy) (oc.look y b hy);exact Yd (SY (SS z) (Td I1.ok.bsz h1)) (Tx _)
 have B6:∀b∈frs X.stack,b∉cl.map (·.2):=λb hb hc=>by
  obtain⟨y,hy⟩:=yB b hc;rcases SR.mp (I1.stkSub b hb)with z|z
  .exact I1.cne y b (oc.look y b hy) z
  .obtain⟨_,o,ho,_⟩:=I1.ok.funs.mem z;have h1:=I1.ok.cab y b (oc.fn y b hy) (oc.look y b hy);exact Yd (SY (SS ho) h1) (Tx _)
 have e0:=I1.env0;have e2:Env0 X.prog X.w X.K X.mg X.base X.A X.stack s1 H2:=⟨e0.frames,e0.mod,λb o z=>⟨(e0.bs b o z).1,by rw[yk b (zx b o z)];exact(e0.bs b o z).2⟩,e0.bsz,e0.funs,λb hb=>by rw[yk b (B6 b hb)];exact e0.frf b hb,EO,e0.bare⟩
 have ER:Trk X Y cl H1 H2:=by
  refine⟨zf,yk,KL,λi y v c hN G7 hc=>?_⟩;have Hb:(y,c)∈cl:=Tf hc;have KN:=oc.look y c Hb;have DP:=oc.kind y c Hb;obtain⟨m,hn,hl⟩:=I1.loc;obtain⟨u,ru,l⟩:=hl i y v hN G7 (.inr (.inl DP));rcases l with⟨z,_⟩|⟨_,c2,Ai,z⟩
  .rw[DP]at z;cases z
  .rw[KN]at Ai;cases Ai;refine⟨_,B4 c (d6 hc),λh z'=>⟨u,ru,?_⟩⟩;obtain⟨o,ho,hd⟩:=z;exact⟨o,by rw[z'.1];exact ho,hd⟩
 have zc:=q H2 ER;have hl:us.length=ps.length:=by rw[<-r.length];exact F.len _ _ _ _ zc
 have zg:=hb s1 us I1.kIn (by rw[T3];exact hl);rw[T3]at zg;refine Xl (VN (F.run X.A X.stack s1 H2 ⟨us,[]⟩ us vs _ _ hr e2 zg r zc) λrr s' hq=>?_);cases rr with
 |error e=>exact TH hq
 | ok fl =>
   cases fl with
   |next=>exact TH hq
   |brk=>exact TH hq
   |cont=>exact TH hq
   | ret u =>
     obtain⟨v,H3,os,bare,un,zR,rv,hS,q3⟩:=hq;have ES:Exts (cl.map (·.2)) H3:=λb hb=>⟨_,(hS b hb).trans (B4 b hb)⟩;have kS:∀b∈cl.map (·.2),s'.1.get? b=s1.1.get? b:=λb hb=>((zR b _ ((hS b hb).trans (B4 b hb))).1).1;refine⟨v,fgt (cl.map (·.2)) H3,I1.call' (ch:=[]) os ⟨λb o z n hb yf=>?_,λb o z n hb yf=>?_,λb o z n yf=>?_,λb o z yf=>un.there b o z yf,λb xs z=>?_,λb o u' z=>?_,λb pp z=>?_⟩ (zR.fgt ES) bare (λb z=>by cases z),rv,q3⟩
     .by_cases hc:b∈cl.map (·.2)
      .rw[kS b hc];exact z
      .exact un.keep b o z (by rw[yk b hc];exact n) hb yf
     .exact un.slot b o z (by rw[yk b (B6 b hb)];exact n) hb yf
     .by_cases hc:b∈cl.map (·.2)
      .exact dG hc
      .rw[aQ hc];exact un.free b o z (by rw[yk b hc];exact n) yf
     .have hc:=B5 b _ z;rw[aQ hc];exact un.tups b xs (by rw[yk b hc];exact z)
     .have hc:=B5 b _ z;rw[aQ hc];exact un.frzs b o u' (by rw[yk b hc];exact z)
     .have hc:=B5 b _ z;rw[aQ hc];exact un.tbls b pp (by rw[yk b hc];exact z)
end
theorem Fun.okT{w:S0}{c:So}{k:Nat}(F:Fun K x qual st f fd)(hc:fd.code=.ref c)(S:cU N ps (ay st))(len:∀vs H Q E,sp vs H Q E->vs.length=ps.length)
 (yj:∀(A:Ta)(outer:List Wf)(s:Sr)(H:Hp)(vs:List V)(Q:VK)(E:XK),Room k (A.deeper (Vd qual (ay st) s.1.1.size f (.ref c)))->sp vs H Q E ->
  ∃t,PSs (iI CX0 P w K mg base N qual (ay st) f (.ref c) A outer s H E).nox (bj st) t/\t {nx:=λ_ H'=>Q .non H',rt:=Q} (start N vs) H):FnOk P w K mg base CX0 (k+1) f fd ps sp:=by
 obtain⟨oc,od,kV,doc,pm,an,xX,ct,BH,rfl,lk,y9⟩:=F.ex;have yC:xX=.ref c:=hc;subst yC;refine qg lk y9 S len λA outer s H vs Q E hr zc=>?_;obtain⟨t,h,q⟩:=yj A outer s H vs Q E hr zc;exact⟨t,h.nox,q⟩
theorem tG{c P:So}(F:Fun K x qual st f fd)(hn:PySem.W.nsIn K TR x=A? (A? (.ref f)))(ht:V9 K x=A? (c,P)):fd.code=.ref c:=by
 obtain⟨oc,od,kV,doc,pm,an,xX,ct,BH,rfl,lk,y9⟩:=F.ex;unfold V9 at ht;rw[hn]at ht;simp only[lk]at ht;show xX=.ref c;cases xX with
 | ref c2 =>
   simp only[Vy]at ht;split at ht
   .split at ht
    .cases ht;rfl
    .cases ht
   .cases ht
 |_=>simp[Vy]at ht
def tabAt(o:UD):Option So:=match o.data with
 | .fields vs=>(match(vs[11]?:Option Sq)with
   |some (.ref P)=>A? P
   |_=>Am)
 |_=>Am
theorem vg{c T:So}{sl:Array (Option Sq)}{ot:UD}(hn:PySem.W.nsIn K TR x=A? (A? (.ref f)))(hl:K.lookup f=A? ⟨oc,od,.func fd,sl⟩)(hc:fd.code=.ref c)(ho:K.lookup c=A? ot)(ht:tabAt ot=A? T):V9 K x=A? (c,T):=by
 unfold V9;rw[hn];simp only[hl,hc,ho];obtain⟨o1,o2,o3,o4⟩:=ot;unfold tabAt at ht;cases o3 with
 | fields vs =>
   simp only at ht |-;split at ht
   .rename_i e
    cases ht;simp only[e]
   .cases ht
 |_=>cases ht
inductive lP(x:V)(vs:List V)(H:Hp)(Q:VK):Prop
 |mk (a:So) (v:V) (k:Key) (xP:List (Key×V)) (zu:x=.ref a) (zv:vs=[kV k,v]) (An:H a=A? (.dK xP)) (CD:xP.length<SM) (DH:(∀u,bK xP k=A? u->Q u H)) (J6:(bK xP k=Am->Q v (upd H a (.dK (putK xP k v))))):lP  x vs H Q
def ss:V->List V->Hp->VK->Prop:=lP
theorem lg{X:Cx}:MtM X "dict.setdefault" ss:=by
 intro Z s Y H x vs v us Q I rx rv h;obtain⟨a,y,k,xP,rfl,rfl,e,l,q1,q2⟩:=h;cases rx;cases rv with
 |cons r1 rv =>
 cases rv with
 |cons r2 rv =>
 cases rv;obtain⟨z,hd,xs,rel,dd⟩:=rX I.hok e;have hz:xs.length<=SM:=by rw[<-rel.length];exact z
 have hl:(putK xP k y).length<=SM:=by have:=cg xP k y;lia
 have hT:s.TypeIs (.ref a) "dict":=dd.typeIs;refine call_meetsIn Vk hT PySem.F.entry_dict_setdefault (PySem.F.args_dict_setdefault_3 _ _ _) (kt_meets_setdefault (ax X.prog X.w) a (n4 r1) hd _) ⟨xs,dd,hz,λp hp=>?_,λhn h' B0 hs=>?_⟩
 .have hr:=rel.val k;rw[hp]at hr;cases hv:bK xP k with
  |none=>rw[hv]at hr;exact hr.elim
  | some u =>
    rw[hv]at hr;exact⟨u,H,I.tok _,hr,q1 u hv⟩
 .have hr:=rel.val k;rw[hn]at hr;cases hv:bK xP k with
  |some u=>rw[hv]at hr;exact hr.elim
  | none =>
    refine⟨y,_,?_,r2,q2 hv⟩;obtain⟨q,es,ep,hq,rest⟩:=id B0;exact ip I (by rw[e];exact Vu) hs ⟨q,hq⟩ ⟨hl,hd,_,rel.put k r2,B0⟩
inductive sS(xs:List V)(H:Hp)(Q:VK):Prop
 |mk (a:So) (xP:List (Key×V)) (zu:xs=[.ref a]) (zv:H a=A? (.dK xP)) (An:Q (.int xP.length) H):sS  xs H Q
def wA:List V->Hp->VK->Prop:=sS
theorem iM{X:Cx}:eK X (.builtin "len") wA:=by
 intro Z s Y H xs us Q I r h;obtain⟨a,xP,rfl,e,q⟩:=h;obtain⟨u,rfl,rx⟩:=vals1 r;cases rx;exact wK I (.inl e) λt s' I'=>⟨.int xP.length,H,I',⟨_,rfl⟩,q⟩
inductive nH(xs:List V)(H:Hp)(Q:VK):Prop
 |mk (a:So) (xP:List (Key×V)) (zu:xs=[.ref a]) (zv:H a=A? (.dK xP)) (An:∀l,H l=Am->Q (.ref l) (upd H l (.lst (xP.map λkv=>kV kv.1)))):nH  xs H Q
def tH:List V->Hp->VK->Prop:=nH
theorem kC{w:S0}:∀{es:List DictEntry}{xP:List (Key×V)}{xs:List (Key×Sq)},Pairs (ax P w) es xs->KV xP xs->Vals (xP.map λkv=>kV kv.1) (es.map (·.key))
 |_,_,_,.nil,.nil=>.nil
 | _,_,_,.cons hk _ ht,.cons h t=>by
   refine .cons ?_ (kC ht t);dsimp only;rw[h.1];rcases aX hk with⟨i,tk,e1,e2⟩|⟨x,tk,e1,e2⟩
   .rw[e1];exact⟨tk,e2⟩
   .rw[e1];exact⟨tk,e2⟩
theorem nF{X:Cx}(hc:X.calm=B?):eK X (.type "list") tH:=by
 intro Z s Y H xs us Q I r h;obtain⟨a,xP,rfl,e,q⟩:=h;obtain⟨u,rfl,rx⟩:=vals1 r;cases rx;obtain⟨z,hd,ys,rel,dd⟩:=rX I.hok e;have hT:=dd.typeIs;obtain⟨o,es,ep,ho,Pl,hdt,hk,hp,hn⟩:=dd;obtain⟨o',yD,yw⟩:=hT;have eo:o'=o:=Tq (yD.symm.trans ho);subst eo;have hv:=kC hp rel
 have hsz:es.size<=SM:=by
  have h1:=hv.length;simp only[Sl]at h1;have h2:es.toList.length=es.size:=by simp
  lia
 have hh:X.A.in1.in1.handled=none:=I.ok.hd hc;refine bb_list_keys hh hd yD yw hdt hsz λh' acc c yp hS zC=>?_;refine⟨.ref s.1.1.size,upd H s.1.1.size (.lst (xP.map λkv=>kV kv.1)),?_,D?,q _ I.fresh⟩;exact I.laid (t':=s.toks) yp (Su _) ⟨by rw[Sl];lia,acc.toList,c,by rw[zC];exact hv,hS⟩
end L2
namespace BB
open PySem L2
def kH:Th->Option (Int×Int)
 |.knot _ _=>Am
 |.call s k=>A? (s,k)
def bu(t:Th):List (Int×Int):=t.walk.filterMap kH
def stT(t:Th):List Int:=(bu t).map (·.1)
def aN(ts:List Th):List Int:=ts.flatMap stT
theorem cj(s k:Int):stT (.call s k)=[s]:=rfl
theorem bM(n:SG)(ks:List Th):stT (.knot n ks)=aN ks:=by
 unfold stT bu aN;rw[Th.walk,UM];show((walks ks).filterMap kH).map (·.1)=_;induction ks with
 |nil=>rfl
 | cons t ts ih =>
   rw[walks,V4,SI,ih];rfl
def dk(m:List Int)(s:Int):List Int:=if s∈m then m else m++[s]
def aC(m l:List Int):List Int:=l.foldl dk m
theorem cf(m a b:List Int):aC m (a++b)=aC (aC m a) b:=List.foldl_append
theorem la(m:List Int)(s:Int):m <+: dk m s:=by
 unfold dk;split
 .exact WO _
 .exact List.prefix_append _ _
theorem dA(l:List Int):∀m:List Int,m <+: aC m l:=by
 induction l with
 |nil=>exactλm=>WO _
 |cons s l ih=>exactλm=>(la m s).trans (ih _)
theorem nu{s x:Int}:x∈dk m s↔x∈m\/x=s:=by
 unfold dk;split
 .rename_i h
  exact⟨.inl,λz=>z.elim id λy=>y ▸ h⟩
 .rw[S6,Sz]
theorem be{l:List Int}:∀{m:List Int}{x:Int},x∈aC m l↔x∈m\/x∈l:=by
 induction l with
 |nil=>intro m x;simp[aC]
 | cons s l ih =>
   intro m x;show x∈aC (dk m s) l↔_;rw[ih,nu,SR,or_assoc]
theorem uq{s:Int}(h:m.Nodup):(dk m s).Nodup:=by
 unfold dk;split
 .exact h
 .rename_i hs
  refine XM.mpr ⟨h,by simp,λa ha b hb e=>?_⟩;rw[Sz.mp hb]at e;exact hs (e ▸ ha)
theorem mX{l:List Int}:∀{m:List Int},m.Nodup->(aC m l).Nodup:=by
 induction l with
 |nil=>exactλh=>h
 |cons s l ih=>exactλh=>ih (uq h)
def bfs(R:Int->List Th):Nat->List Int->Nat->List Int
 |0,m,_=>m
 | n+1,m,i=>match m[i]? with
   |none=>m
   |some s=>bfs R n (aC m (aN (R s))) (i+1)
theorem dJ(R:Int->List Th):∀(n:Nat)(m:List Int)(i:Nat),m <+: bfs R n m i
 |0,m,i=>WO _
 | n+1,m,i=>by
   rw[bfs];split
   .exact WO _
   .exact(dA _ _).trans (dJ R n _ _)
theorem oP(R:Int->List Th):∀(n:Nat)(m:List Int)(i:Nat),m.Nodup->(bfs R n m i).Nodup
 |0,m,i,h=>h
 | n+1,m,i,h=>by
   rw[bfs];split
   .exact h
   .exact oP R n _ _ (mX h)
theorem jc(R:Int->List Th)(p:Int->Prop)(hR:∀s,p s->∀x∈aN (R s),p x):∀(n:Nat)(m:List Int)(i:Nat),(∀x∈m,p x)->∀x∈bfs R n m i,p x
 |0,m,i,h=>h
 | n+1,m,i,h=>by
   rw[bfs];split
   .exact h
   .rename_i s hs
    refine jc R p hR n _ _ λx hx=>?_;rcases be.mp hx with z|z
    .exact h x z
    .exact hR s (h s (Sv hs)) x z
theorem pE(R:Int->List Th)(n:Nat)(m:List Int)(i:Nat)(h:m.length<=i):bfs R n m i=m:=by
 cases n with
 |zero=>rfl
 |succ n=>rw[bfs,T9 h]
theorem jV:∀(n:Nat)(l:List Nat),l.Nodup->(∀x∈l,x<n)->l.length<=n
 | 0,l,_,h=>by
   cases l with
   |nil=>exact Su _
   |cons x l=>exact Yd (h x (SU ..)) (WY _)
 | n+1,l,nd,h=>by
   by_cases hn:n∈l
   .have h1:=jV n (l.erase n) (nd.sublist (List.erase_sublist ..)) λx hx=>by
     have h2:=h x (List.mem_of_mem_erase hx)
     have h3:x≠n:=λz=>by
      rw[z]at hx;exact(List.Nodup.not_mem_erase nd) hx
     lia
    rw[List.length_erase_of_mem hn]at h1;lia
   .have h1:=jV n l nd λx hx=>by
     have h2:=h x hx;have h3:x≠n:=λz=>hn (z ▸ hx);lia
    lia
theorem i8{S:Nat}(nd:m.Nodup)(h:∀x∈m,0<=x/\x<(S:Int)):m.length<=S:=by
 have h1:=jV S (m.map Int.toNat) (List.pairwise_map.mpr (nd.imp_of_mem λ{a b}ha hb yU z=>yU (by
  have:=h a ha;have:=h b hb
  lia))) λx hx=>by
   obtain⟨y,hy,rfl⟩:=Tj.mp hx;have:=h y hy;lia
 rw[Sl]at h1;exact h1
def idx(M:List Int)(s:Int):Int:=(M.idxOf s:Nat)
theorem jL{M:List Int}(h:m <+: M){s:Int}(hs:s∈m):idx M s=idx m s:=by
 obtain⟨r,rfl⟩:=h;unfold idx;rw[List.idxOf_append,Yb hs]
theorem pj{M:List Int}{s:Int}(hs:s∈M):0<=idx M s/\idx M s<(M.length:Int):=by
 have:=List.idxOf_lt_length_of_mem hs;unfold idx;lia
theorem mU{M:List Int}{s:Int}(hs:s∈M):M[(idx M s).toNat]?=A? s:=by
 have h:=List.idxOf_lt_length_of_mem hs;unfold idx;rw[Ut,Sn h,List.getElem_idxOf h]
theorem pY{M:List Int}{a b:Int}(ha:a∈M)(hb:b∈M)(h:idx M a=idx M b):a=b:=by
 have h1:=mU ha;rw[h,mU hb]at h1;exact(Tq h1).symm
def ren(g:Int->Int)(t:Th):Th:=t.fill λs k=>.call (g s) k
theorem bT(g:Int->Int)(s k:Int):ren g (.call s k)=.call (g s) k:=by unfold ren;rw[Yl]
theorem dS(f:Int->Int->Th):∀ts:List Th,fills f ts=ts.map (·.fill f)
 | []=>rfl
 |t::ts=>by rw[fills,dS f ts];rfl
theorem cG(g:Int->Int)(n:SG)(ks:List Th):ren g (.knot n ks)=.knot n (ks.map (ren g)):=by
 unfold ren;rw[Yl,dS]
mutual
theorem qj(g:Int->Int):∀t:Th,stT (ren g t)=(stT t).map g
 |.call s k=>by rw[bT,cj,cj];rfl
 |.knot n ks=>by rw[cG,bM,bM,kh g ks]
theorem kh(g:Int->Int):∀ts:List Th,aN (ts.map (ren g))=(aN ts).map g
 | []=>rfl
 | t::ts=>by
   show stT (ren g t)++aN (ts.map (ren g))=(stT t++aN ts).map g;rw[qj g t,kh g ts,SI]
end
theorem du{t:Th}{x:Int}(ht:t∈ts)(hx:x∈stT t):x∈aN ts:=Vc.mpr ⟨t,ht,hx⟩
mutual
theorem i3{g h:Int->Int}:∀t:Th,(∀s∈stT t,g s=h s)->ren g t=ren h t
 |.call s k,e=>by rw[bT,bT,e s (by rw[cj];exact Sz.mpr rfl)]
 | .knot n ks,e=>by
   rw[cG,cG,pS ks λs hs=>e s (by rw[bM];exact hs)]
theorem pS{g h:Int->Int}:∀ts:List Th,(∀s∈aN ts,g s=h s)->ts.map (ren g)=ts.map (ren h)
 | [],_=>rfl
 | t::ts,e=>by
   rw[Tb,Tb,i3 t λs hs=>e s (Tp _ hs),pS ts λs hs=>e s (S3 _ hs)]
end
mutual
theorem qh(g h:Int->Int):∀t:Th,ren h (ren g t)=ren (λs=>h (g s)) t
 |.call s k=>by rw[bT,bT,bT]
 |.knot n ks=>by rw[cG,cG,cG,lA g h ks]
theorem lA(g h:Int->Int):∀ts:List Th,(ts.map (ren g)).map (ren h)=ts.map (ren λs=>h (g s))
 | []=>rfl
 | t::ts=>by
   rw[Tb,Tb,Tb,qh g h t,lA g h ts]
end
mutual
theorem g5(g:Int->Int):∀t:Th,(ren g t).size=t.size/\(ren g t).tall=t.tall
 |.call s k=>by rw[bT,Zi,Zi,Yi,Yi];exact⟨D?,D?⟩
 | .knot n ks=>by
   have:=ly g ks;rw[cG,Zi,Zi,Yi,Yi,this.1,this.2];exact⟨D?,D?⟩
theorem ly(g:Int->Int):∀ts:List Th,am (ts.map (ren g))=am ts/\aK (ts.map (ren g))=aK ts
 | []=>⟨rfl,rfl⟩
 | t::ts=>by
   have h1:=g5 g t;have h2:=ly g ts;rw[Tb,am,am,aK,aK,h1.1,h1.2,h2.1,h2.2];exact⟨D?,D?⟩
end
theorem sX{g:Int->Int}{s:Int}(h:∀x∈m,g x=g s->x=s):dk (m.map g) (g s)=(dk m s).map g:=by
 unfold dk;by_cases hs:s∈m
 .rw[Yb hs,Yb (Tj.mpr ⟨s,hs,rfl⟩)]
 .rw[Za hs,Za,SI]
  .rfl
  .intro z;obtain⟨x,hx,e⟩:=Tj.mp z;exact hs (h x hx e ▸ hx)
theorem nK{g:Int->Int}{M:List Int}(hg:∀x∈M,∀y∈M,g x=g y->x=y):∀{l m:List Int},(∀x∈m,x∈M)->(∀x∈l,x∈M)->aC (m.map g) (l.map g)=(aC m l).map g:=by
 intro l;induction l with
 |nil=>exactλ_ _=>rfl
 | cons s l ih =>
   intro m hm hl;have hs:=hl s (SU ..);show aC (dk (m.map g) (g s)) (l.map g)=(aC (dk m s) l).map g;rw[sX λx hx e=>hg x (hm x hx) s hs e];exact ih (λx hx=>(nu.mp hx).elim (hm x) λz=>z ▸ hs) λx hx=>hl x (SN _ hx)
theorem p7{R':Int->List Th}{g:Int->Int}{M:List Int}(hg:∀x∈M,∀y∈M,g x=g y->x=y)(hR:∀s∈M,R' (g s)=(R s).map (ren g)) :
 ∀(n:Nat)(m:List Int)(i:Nat),(∀x∈bfs R n m i,x∈M)->bfs R' n (m.map g) i=(bfs R n m i).map g
 |0,m,i,_=>rfl
 | n+1,m,i,h=>by
   rw[bfs]at h |-;rw[bfs];rw[Sx];cases hi:m[i]? with
   |none=>rfl
   | some s =>
     rw[hi]at h;have h':∀x∈bfs R n (aC m (aN (R s))) (i+1),x∈M:=h;have zj:=(dJ R n (aC m (aN (R s))) (i+1)).subset;have hm:∀x∈aC m (aN (R s)),x∈M:=λx hx=>h' x (zj hx);have hs:s∈M:=hm s (be.mpr (.inl (Sv hi)));show bfs R' n (aC (m.map g) (aN (R' (g s)))) (i+1)=(bfs R n (aC m (aN (R s))) (i+1)).map g;rw[hR s hs,kh,nK hg (λx hx=>hm x (be.mpr (.inl hx))) λx hx=>hm x (be.mpr (.inr hx))];exact p7 hg hR n _ _ h'
def rowOf(rows:List (List Th))(s:Int):List Th:=rows.getD s.toNat []
def met(head:Th)(rows:List (List Th)):List Int:=bfs (rowOf rows) 21 (aC [] (stT head)) 0
def fA(head:Th)(rows:List (List Th)):Th:=ren (idx (met head rows)) head
def iz(head:Th)(rows:List (List Th)):List (List Th):=(met head rows).map λs=>(rowOf rows s).map (ren (idx (met head rows)))
structure CallsOk(head:Th)(rows:List (List Th)):Prop where
 le:rows.length<=20
 hd:∀s∈stT head,0<=s/\s<(rows.length:Int)
 rw:∀row∈rows,∀s∈aN row,0<=s/\s<(rows.length:Int)
section
variable{head:Th}{rows:List (List Th)}
theorem CallsOk.row(h:CallsOk head rows){s:Int}:∀x∈aN (rowOf rows s),0<=x/\x<(rows.length:Int):=λx hx=>by
 unfold rowOf at hx;rw[Ul]at hx;cases e:rows[s.toNat]? with
 |none=>rw[e]at hx;cases hx
 |some r=>rw[e]at hx;exact h.rw r (Sv e) x hx
theorem CallsOk.nd(h:CallsOk head rows):(met head rows).Nodup:=oP _ _ _ _ (mX Xh)
theorem CallsOk.rng(h:CallsOk head rows):∀x∈met head rows,0<=x/\x<(rows.length:Int) :=
 jc _ (λx=>0<=x/\x<(rows.length:Int)) (λs _=>h.row) _ _ _ λx hx=>by
  rcases be.mp hx with z|z
  .cases z
  .exact h.hd x z
theorem CallsOk.len(h:CallsOk head rows):(met head rows).length<=20:=Td (i8 h.nd h.rng) h.le
theorem gM:∀(n:Nat)(m:List Int)(i:Nat),(bfs R n m i).length<i+n->(∀j s,j<i->m[j]?=A? s->∀x∈aN (R s),x∈bfs R n m i)->∀s∈bfs R n m i,∀x∈aN (R s),x∈bfs R n m i
 | 0,m,i,hl,h=>λs hs x hx=>by
   obtain⟨j,hj⟩:=Tg.mp hs;have zb:=(glE hj);exact h j s (by rw[bfs]at hl zb;lia) hj x hx
 | n+1,m,i,hl,h=>by
   rw[bfs]at hl h |-;cases hi:m[i]? with
   | none =>
     rw[hi]at h;intro s hs x hx;obtain⟨j,hj⟩:=Tg.mp (show s∈m from hs);have zb:=(glE hj);have:=List.getElem?_eq_none_iff.mp hi;exact h j s (by lia) hj x hx
   | some s0 =>
     rw[hi]at hl h
     have zi:(bfs R n (aC m (aN (R s0))) (i+1)).length<i+1+n:=by
      have:(bfs R n (aC m (aN (R s0))) (i+1)).length<i+(n+1):=hl;lia
     refine gM n (aC m (aN (R s0))) (i+1) zi λj s hj KO x hx=>?_;have hp:=dJ R n (aC m (aN (R s0))) (i+1);have Bx:=(glE hi)
     have hm:m[j]?=A? s:=by
      obtain⟨r,hr⟩:=dA (aN (R s0)) m;rw[<-hr,Ts (by lia)]at KO;exact KO
     by_cases C4:j=i
     .rw[C4,hi]at hm;cases hm;exact hp.subset (be.mpr (.inr hx))
     .exact h j s (by lia) hm x hx
end
end BB
namespace L2
open PySem PySem.Spec PySem.SeqAt PyProof.Rows
theorem nz{k l:Key}{v:Sq}(hu:gw k u=B?)(hv:gw l v=B?):EqAt A s u v (decide (k=l)):=by
 rcases aX hu with⟨i,t,rfl,rfl⟩|⟨x,t,rfl,rfl⟩
 .rcases aX hv with⟨j,t',rfl,rfl⟩|⟨y,t',rfl,rfl⟩
  .have:decide ((TB i:Key)=TB j)=(i == j):=by
    by_cases h:i=j
    .subst h;simp
    .rw[Zb (λz=>h (Ve z)),beq_eq_false_iff_ne.mpr h]
   rw[this];exact EqAt.int_int i t j t'
  .rw[Zb (λz=>nomatch z)];exact EqAt.int_str i t y t'
 .rcases aX hv with⟨j,t',rfl,rfl⟩|⟨y,t',rfl,rfl⟩
  .rw[Zb (λz=>nomatch z)];exact EqAt.str_int x t j t'
  .have:decide ((Vx x:Key)=Vx y)=(x == y):=by
    by_cases h:x=y
    .subst h;simp
    .rw[Zb (λz=>h (Sum.inr.inj z)),beq_eq_false_iff_ne.mpr h]
   rw[this];exact EqAt.str_str x t y t'
theorem iX{w:S0}:∀{ks:List Key}{vs:List Sq}{j:Nat}{k:Key}{v:Sq},ItemsAre (ax P w) ks vs->ks[j]?=A? k->vs[j]?=A? v->gw k v=B?
 |_,_,0,k,v,.cons h _,e1,e2=>by cases e1;cases e2;exact h
 |_,_,j+1,k,v,.cons _ h,e1,e2=>iX (j:=j) h e1 e2
theorem qy{w:S0}{x y:List Key}(hx:IsTupleKey (ax P w) s.1 x a)(hy:IsTupleKey (ax P w) s.1 y b)(hu:A.units<Vo):EqAt A s (.ref a) (.ref b) (decide (x=y)):=by
 by_cases Aa:a=b
 .subst Aa;obtain rfl:=hx.inj hy;rw[Yc rfl];exact EqAt.same _
 .obtain⟨o,its,n,ho,hc,hd,hi⟩:=hx;obtain⟨o',its',n',yD,yC,Ag,zY⟩:=hy;have p1:s.1.IsTuple a its.toList.toArray:=⟨o,ho,hc,n,by rw[hd]⟩;have p2:s.1.IsTuple b its'.toList.toArray:=⟨o',yD,yC,n',by rw[Ag]⟩;have:=gF (ds:=x) (es:=y) p1 p2 hi.length.symm zY.length.symm hu λj d e u v e1 e2 e3 e4=>nz (A:=A.in1) (s:=s) (iX hi e1 e3) (iX zY e2 e4);exact EqAt.of_refs Aa this
abbrev bZ:=List Key×Key
def IsNest(P:SH)(w:S0)(h:TL)(k:bZ)(a:So):Prop:=∃(o:UD)(n:Nat)(b:So)(u:Sq),h.get? a=A? o/\o.cls=.type "tuple"/\o.data=.seq #[.ref b,u] n/\IsTupleKey (ax P w) h k.1 b/\gw k.2 u=B?
theorem IsNest.typeIs{w:S0}{k:bZ}(x:IsNest P w s.1 k a):s.TypeIs (.ref a) "tuple":=let⟨o,_,_,_,ho,hc,_⟩:=x;⟨o,ho,hc⟩
theorem IsNest.inj{w:S0}{x y:bZ}(hx:IsNest P w h x a)(hy:IsNest P w h y a):x=y:=by
 obtain⟨o,n,b,u,ho,_,hd,hb,hu⟩:=hx;obtain⟨o',n',b',u',yD,_,Ag,zg,Aw⟩:=hy;obtain rfl:o=o':=Tq (ho.symm.trans yD);rw[hd]at Ag;injection Ag with h1 _;have h2:=Zd Array.toList h1;cases h2;exact Wo (hb.inj zg) ((ax P w).inj _ _ _ hu Aw)
theorem IsNest.keeps{w:S0}{k:bZ}{d:So}{o:UD}{es ep}(x:IsNest P w h k a)(ho:h.get? d=A? o)(hd:o.data=.dict es ep)(hs:Um d h h'):IsNest P w h' k a:=by
 obtain⟨o',n,b,u,yD,hc,Ag,hb,hu⟩:=x
 have yU:a≠d:=by
  rintro rfl;obtain rfl:o'=o:=Tq (yD.symm.trans ho);rw[hd]at Ag;exact nomatch Ag
 exact⟨o',n,b,u,(hs.2 a yU).trans yD,hc,Ag,hb.keeps ho hd hs,hu⟩
theorem qN{w:S0}{x y:bZ}(hx:IsNest P w s.1 x a)(hy:IsNest P w s.1 y b)(hu:A.units+1<Vo):EqAt A s (.ref a) (.ref b) (decide (x=y)):=by
 by_cases Aa:a=b
 .subst Aa;obtain rfl:=hx.inj hy;rw[Yc rfl];exact EqAt.same _
 .obtain⟨o,n,c,u,ho,hc,hd,hb,hk⟩:=hx;obtain⟨o',n',c',u',yD,yC,Ag,zg,yp⟩:=hy;have p1:s.1.IsTuple a [TF c,u].toArray:=⟨o,ho,hc,n,by rw[hd]⟩;have p2:s.1.IsTuple b [TF c',u'].toArray:=⟨o',yD,yC,n',by rw[Ag]⟩
  have:=gF (A:=A) (ds:=[TB x.1,(Vx x.2:Sum (List Key) Key)]) (es:=[TB y.1,Vx y.2]) p1 p2 rfl rfl (by lia) λj d e v v' e1 e2 e3 e4=>by
   match j with
   | 0 =>
     cases e1;cases e2;cases e3;cases e4;rw[show decide ((TB x.1:Sum (List Key) Key)=TB y.1)=decide (x.1=y.1)from decide_eq_decide.mpr ⟨λz=>Ve z,λz=>Zd _ z⟩];exact qy (A:=A.in1) hb zg (show A.units+1<Vo from hu)
   | 1 =>
     cases e1;cases e2;cases e3;cases e4;rw[show decide ((Vx x.2:Sum (List Key) Key)=Vx y.2)=decide (x.2=y.2)from decide_eq_decide.mpr ⟨λz=>Sum.inr.inj z,λz=>Zd _ z⟩];exact nz (A:=A.in1) (s:=s) hk yp
   |j+2=>cases e1
  refine EqAt.of_refs Aa ?_
  rw[show decide (x=y)=decide ([TB x.1,(Vx x.2:Sum (List Key) Key)]=[TB y.1,Vx y.2])from decide_eq_decide.mpr ⟨λz=>by rw[z],λz=>by
   injection z with z1 z2;injection z2 with z2 _;exact Wo (Ve z1) (Sum.inr.inj z2)⟩]
  exact this
def kx(P:SH)(w:S0)(k:bZ):Int:=reduceHash (UG [VM (ax P w) k.1,(ax P w).hash k.2])
theorem mY{w:S0}{k:bZ}{Q:Int->Sr->Prop}(hu:A.units+1<Vo)(hk:IsNest P w s.1 k a)(h:Q (kx P w k) {s with toks:=s.toks+(k.1.length+3)}) :
 SV (S7 P w) A (pyHash (.ref a)) Q E s:=by
 have hT:=hk.typeIs;obtain⟨o,n,c,u,ho,hc,hd,hb,hk⟩:=hk;unfold pyHash
 first|unfold pyHashByItsType|skip
 first|refine Sm (wpAny_cRoomFor_or (.inr (by lia)) ?_)|skip
 refine Sm (U7 hT W2.lookup ?_);show SV _ _ (if(A? (Value.builtin "tuple.__hash__") == A? Ud)=B? then _ else _) Q E s;rw[Za (by rw[beq_builtin_none];exact SW)];refine Sm (U7 hT W2.lookup ?_);show SV _ _ (callSpecialIfBoundUnlessNone? (.ref a) "__hash__" _ >>= _) Q E s;refine Sm (wpAny_callSpecialIfBoundUnlessNone?_slot hT W2 (Up W2 hT F.entry_tuple_hash ?_ (F.args_tuple_hash_1 _)));show SV _ _ (VG (.ref a) >>= _) _ _ s;refine Sm (wpAny_tupleItemsOf ho hd ?_);refine Sm ?_;rw[<-Xy]
 refine Xb _
  (λrest(b:Array Int)s'=>(rest=[.ref c,u]/\b=#[]/\s'=s)\/(rest=[u]/\b=#[VM (ax P w) k.1]/\s'={s with toks:=s.toks+(k.1.length+1)})\/(rest=[]/\b=#[VM (ax P w) k.1,(ax P w).hash k.2]/\s'={s with toks:=s.toks+(k.1.length+1)+1}))
  _ ?_ ?_ _ _ (.inl ⟨rfl,rfl,rfl⟩)
 .rintro x rest b s' (⟨e1,rfl,rfl⟩|⟨e1,rfl,rfl⟩|⟨e1,_⟩)
  .cases e1;refine Sm (wpAny_pyHash_tuple (by show _<Vo;first|exact hu|lia) hb ?_)
   first
    |exact Sw (.inr (.inl ⟨rfl,rfl,rfl⟩))
    |exact Sm (Sw (Sw (.inr (.inl ⟨rfl,rfl,rfl⟩))))
  .cases e1;refine Sm ((ax P w).pyHash hk ?_)
   first
    |exact Sw (.inr (.inr ⟨rfl,rfl,rfl⟩))
    |exact Sm (Sw (Sw (.inr (.inr ⟨rfl,rfl,rfl⟩))))
  .cases e1
 .rintro b s' (⟨e1,_⟩|⟨e1,_⟩|⟨_,rfl,rfl⟩)
  .cases e1
  .cases e1
  show SV _ _ (retInt (UG [VM (ax P w) k.1,(ax P w).hash k.2])) _ _ _;refine wpAny_ret_mkInt ?_;show SV _ _ (if(decide (-(2:Int) ^ 63<=UG [VM (ax P w) k.1,(ax P w).hash k.2]) && decide (UG [VM (ax P w) k.1,(ax P w).hash k.2]<2 ^ 63))=B? then _ else _) Q E _;unfold kx reduceHash at h;by_cases hr:(decide (-(2:Int) ^ 63<=UG [VM (ax P w) k.1,(ax P w).hash k.2]) && decide (UG [VM (ax P w) k.1,(ax P w).hash k.2]<2 ^ 63))=B?
  .rw[Yb hr];rw[Yb hr]at h;exact Sw (by simpa[Xu]using h)
  .rw[Za hr];rw[Za hr]at h;exact Sm (Xk (Sw (by simpa[Xu]using h)))
theorem o9{w:S0}{m:Nat}{ks:List Key}{Q:Bool->Sr->Prop}(hk:IsTupleKey (ax P w) s.1 ks a)(h:Q B? s):SV (S7 P w) A (eqIsQuiet (m+1) (.ref a)) Q E s:=by
 have hT:=hk.typeIs;obtain⟨o,items,n,ho,_,hd,hi⟩:=hk;unfold eqIsQuiet;refine Sm (U7 hT F.slot_tuple_eq.lookup ?_);show SV _ _ (isInstance (.ref a) (.type "tuple") >>= _) _ _ s;refine Sm (Wk hT isSubtype_tuple_tuple ?_);simp only[WH,T1,if_false];refine Sm (wpAny_seqItems ho hd ?_);refine Sm ?_;show SV _ _ (forIn items _ _) _ _ s;rw[<-Xy];refine Xb _ (λrest r s'=>r.1=Am/\s'=s/\∀v∈rest,carriedByValue v=B?) _ ?_ ?_ _ _ ⟨rfl,rfl,hi.byValue⟩
 .rintro v rest r s' ⟨hr,rfl,xV⟩;rw[eqIsQuiet_byValue _ (xV v SU)];refine Sm (Sw ?_);simp only[WH,T1,if_false];exact Sw ⟨rfl,rfl,λu Aw=>xV u (SN _ Aw)⟩
 .rintro⟨r1,r2⟩ s' ⟨hr,rfl,_⟩;simp only at hr;subst hr;exact Sw h
theorem oB{w:S0}{k:bZ}{Q:Bool->Sr->Prop}(hk:IsNest P w s.1 k a)(h:Q B? s):SV (S7 P w) A (eqIsQuiet 8 (.ref a)) Q E s:=by
 have hT:=hk.typeIs;obtain⟨o,n,c,u,ho,hc,hd,hb,hk⟩:=hk;unfold eqIsQuiet;refine Sm (U7 hT F.slot_tuple_eq.lookup ?_);show SV _ _ (isInstance (.ref a) (.type "tuple") >>= _) _ _ s;refine Sm (Wk hT isSubtype_tuple_tuple ?_);simp only[WH,T1,if_false];refine Sm (wpAny_seqItems ho hd ?_);refine Sm ?_;show SV _ _ (forIn #[TF c,u] _ _) _ _ s;rw[<-Xy];refine Xb _ (λrest r s'=>r.1=Am/\s'=s/\∀v∈rest,v=.ref c\/v=u) _ ?_ ?_ _ _ ⟨rfl,rfl,λv hv=>by simpa using hv⟩
 .rintro v rest r s' ⟨hr,rfl,xV⟩;have DQ:∀z∈rest,z=.ref c\/z=u:=λz hz=>xV z (SN _ hz);rcases xV v SU with rfl|rfl
  .refine Sm (o9 hb ?_);simp only[WH,T1,if_false];exact Sw ⟨rfl,rfl,DQ⟩
  .rw[eqIsQuiet_byValue _ ((ax P w).byValue _ _ hk)];refine Sm (Sw ?_);simp only[WH,T1,if_false];exact Sw ⟨rfl,rfl,DQ⟩
 .rintro⟨r1,r2⟩ s' ⟨hr,rfl,_⟩;simp only at hr;subst hr;exact Sw h
def eN(P:SH)(w:S0):HeapKind P w bZ where
 is:=IsNest P w
 hash:=kx P w
 draws:=λk=>k.1.length+3
 room:=λA=>A.units+1<Vo
 inj:=λhx hy=>hx.inj hy
 keeps:=λx ho hd hs=>x.keeps ho hd hs
 pyHash:=λhu hk h=>mY hu hk h
 eqBool:=λhu hx hy h=>qN hx hy hu _ _ _ _ h
 quiet:=λhk h=>oB hk h
def qr(P:SH)(w:S0)(xs:List (bZ×So×Sq))(a:So)(h:TL):Prop:=∃o es ep,h.get? a=A? o/\o.ExactDict/\o.data=.dict es ep/\es.toList=xs.map (entryOfKey (eN P w))/\(xs.map (·.1)).Nodup
def NKAt(H:Hp)(k:bZ)(b:So):Prop:=∃c,H b=A? (.tup [.ref c,kV k.2])/\H c=A? (.tup (k.1.map kV))
abbrev KTn(H:Hp):List (bZ×V)->List (bZ×So×Sq)->Prop:=Tc λp q=>p.1=q.1/\NKAt H q.1 q.2.1/\RelV p.2 q.2.2
def DN(P:SH)(w:S0)(H:Hp)(a:So)(xP:List (bZ×V)):Prop:=xP.length<=SM/\(a == Uh)=C?/\∃xs φ,H a=A? (.ext φ)/\(∀h,φ h->qr P w xs a h)/\KTn H xP xs
theorem NKAt.mono(k:BB.KT H H'){n:bZ}(h:NKAt H n b):NKAt H' n b:=by
 obtain⟨c,h1,h2⟩:=h;exact⟨c,k _ _ h1,k _ _ h2⟩
theorem KTn.mono(k:BB.KT H H'){xP:List (bZ×V)}{xs:List (bZ×So×Sq)}(r:KTn H xP xs):KTn H' xP xs:=Tc.mapP r λ_ _ z=>⟨z.1,z.2.1.mono k,z.2.2⟩
theorem DN.mono{w:S0}(s:Same H H'){xP:List (bZ×V)}(h:DN P w H a xP):DN P w H' a xP:=by
 obtain⟨z,hd,xs,φ,e,f,r⟩:=h;exact⟨z,hd,xs,φ,s _ _ e,f,KTn.mono (Ze s) r⟩
theorem ml{w:S0}{k:bZ}(ok:HOk P w H h)(e:NKAt H k b):IsNest P w h k b:=by
 obtain⟨c,h1,h2⟩:=e;obtain⟨_,its,n,r,e1⟩:=(show ObjOk P w H h b (.tup [.ref c,kV k.2])from ok b _ h1);cases r with
 |cons r1 r =>
 cases r with
 |cons r2 r =>
 cases r;cases r1;exact⟨_,n,c,_,e1,D?,D?,kQ ok h2,n4 (P:=P) (w:=w) r2⟩
theorem u5{w:S0}{xP:List (bZ×V)}(ok:HOk P w H h)(e:DN P w H a xP):xP.length<=SM/\(a == Uh)=C?/\∃xs φ,H a=A? (.ext φ)/\KTn H xP xs/\h.DictOfH (eN P w) a xs:=by
 obtain⟨z,y,xs,φ,ea,f,r⟩:=e;obtain⟨o,es,ep,h1,h2,h3,h4,h5⟩:=f h (ok a _ ea).1;refine⟨z,y,xs,φ,ea,r,o,es,ep,h1,h2,h3,h4,λx hx=>?_,h5⟩
 have all:∀{l:List (bZ×V)}{m:List (bZ×So×Sq)},KTn H l m->∀x∈m,(eN P w).is h x.1 x.2.1:=by
  intro l m q;induction q with
  |nil=>intro x hx;exact nomatch hx
  | @cons p q ps qs hq t ih =>
    intro x hx;rcases SR.mp hx with e|hx
    .subst e;exact ml ok hq.2.1
    .exact ih x hx
 exact all r x hx
theorem KTn.val{xP:List (bZ×V)}{xs:List (bZ×So×Sq)}(r:KTn H xP xs)(k:bZ):RelO (bK xP k) ((VP xs k).map (·.2)):=by
 induction r with
 |nil=>exact Vu
 | @cons p q ps qs hq t ih =>
   by_cases e:p.1=k
   .rw[bI e];have:VP (q::qs) k=A? q.2:=by simp[VP,UY,<-hq.1,e]
    rw[this];exact hq.2.2
   .rw[bF e];have:VP (q::qs) k=VP qs k:=by simp[VP,UY,<-hq.1,e]
    rw[this];exact ih
theorem KTn.put{xP:List (bZ×V)}{xs:List (bZ×So×Sq)}(r:KTn H xP xs)(k:bZ)(hb:NKAt H k b)(ry:RelV y u):KTn H (putK xP k y) (storedH xs k b u):=by
 have hv:=KTn.val r k;cases e:bK xP k with
 | none =>
   rw[e]at hv
   have hn:VP xs k=none:=by
    cases q:VP xs k with
    |none=>rfl
    |some p=>rw[q]at hv;exact hv.elim
   rw[j5 y e,storedH_new hn];exact Zj r (.cons ⟨rfl,hb,ry⟩ .nil)
 | some v0 =>
   rw[e]at hv
   obtain⟨p,hp⟩:∃p,VP xs k=A? p:=by
    cases q:VP xs k with
    |none=>rw[q]at hv;exact hv.elim
    |some p=>exact⟨p,D?⟩
   rw[storedH_old hp];unfold putK;rw[Yb (by rw[eR,e];rfl)]
   have all:∀{l:List (bZ×V)}{m:List (bZ×So×Sq)},KTn H l m->KTn H (l.map λkv=>if kv.1=k then(kv.1,y)else kv) (m.map (putAt k u)):=by
    intro l m q;induction q with
    |nil=>exact .nil
    | @cons p q ps qs hq t ih =>
      refine .cons ?_ ih;unfold putAt;dsimp only;by_cases z:p.1=k
      .rw[Yb z,Yb (by rw[<-hq.1];exact z)];exact⟨hq.1,hq.2.1,ry⟩
      .rw[Za z,Za (by rw[<-hq.1];exact z)];exact hq
   exact all r
section
variable{X:Cx}{o i value:TN}{pos':VX}{td ty tv:TE}
inductive tw(P:SH)(w:S0)(x y:V)(H:Hp)(Q:VK):Prop
 |mk (a b:So) (k:bZ) (xP:List (bZ×V)) (v:V) (z0:x=.ref a) (z1:y=.ref b) (z2:DN P w H a xP) (z3:NKAt H k b) (z4:bK xP k=A? v) (z5:Q v H):tw P w x y H Q
def u9(P:SH)(w:S0)(td ty:TE):TE:=λY H Q=>td Y H λx H1=>ty Y H1 λy H2=>tw P w x y H2 Q
theorem sw(hu:X.A.units+2<Vo)(ho:PE X o td)(hi:PE X i ty)(hs:vM i):PE X (.Subscript o i pos) (u9 X.prog X.w td ty):=by
 intro Z s Y H Q I h;refine pC PySem.F.slot_dict_getitem.lookup hs (thn (ho Z s Y H _ I h) λu s1⟨x,H1,I1,rx,q1⟩=>thn (hi Z s1 Y H1 _ I1 q1) λiv s2⟨y,H2,I2,ry,q2⟩=>?_);obtain⟨a,b,k,xP,v,rfl,rfl,hd,hk,hv,q⟩:=q2;obtain rfl:u=TF a:=rx;obtain rfl:iv=TF b:=ry;obtain⟨_,_,xs,φ,ea,rel,dd⟩:=u5 I2.hok hd;obtain⟨w',hw,BS⟩:=RelO.some_of (v:=v) (o:=(VP xs k).map (·.2)) (by rw[<-hv];exact KTn.val rel k);obtain⟨p,hp,Av⟩:=TM.mp hw;refine⟨dd.typeIs,wpAny_getItem_heap (knd:=eN X.prog X.w) (show X.A.units+1+1<Vo from hu) (ml I2.hok hk) dd hp ?_⟩;rw[Av];exact⟨v,H2,I2.tok _,BS,q⟩
inductive rG(P:SH)(w:S0)(x y v:V)(H:Hp)(R:Hp->Prop):Prop
 |mk (a b:So) (k:bZ) (xP:List (bZ×V)) (z0:x=.ref a) (z1:y=.ref b) (z2:DN P w H a xP) (z3:NKAt H k b) (z4:xP.length<SM) (z5:∀H',(∀c o,c≠a->H c=A? o->H' c=A? o)->DN P w H' a (putK xP k v)->R H'):rG P w x y v H R
def vt(P:SH)(w:S0)(td ty tv:TE):TS:=λD Y H=>tv Y H λv H1=>td Y H1 λx H2=>ty Y H2 λy H3=>rG P w x y v H3 λH4=>D.nx Y H4
theorem rK(hu:X.A.units+2<Vo)(ho:PE X o td)(hi:PE X i ty)(hv:PE X value tv)(hs:Xc value (A? (.Subscript o i pos')) pos.line X.env=pure C?) :
 PS X (.Assign [.Subscript o i pos'] value pos) (vt X.prog X.w td ty tv):=by
 intro Z s Y H D I h;refine wpAny_Assign_Subscript (thn (hv Z s Y H _ I h) λr s1⟨v,H1,I1,rv,q1⟩=>thn (ho Z s1 Y H1 _ I1 q1) λu s2⟨x,H2,I2,rx,q2⟩=>thn (hi Z s2 Y H2 _ I2 q2) λiv s3⟨y,H3,I3,ry,q3⟩=>?_) hs;obtain⟨a,b,k,xP,rfl,rfl,hd,hk,hl,q⟩:=q3;obtain rfl:u=TF a:=rx;obtain rfl:iv=TF b:=ry;obtain⟨z,Ag,xs,φ,ea,rel,dd⟩:=u5 I3.hok hd;have hz:xs.length<=SM:=by rw[<-SJ rel];exact z
 have zi:(putK xP k v).length<=SM:=by have:=cg xP k v;lia
 refine wpAny_setItem_heap (knd:=eN X.prog X.w) (hsz:=hz) (show X.A.units+1+1<Vo from hu) (ml I3.hok hk) dd λh' B0 hs=>?_;obtain⟨ob,es,ep,hq,h2,h3,h4,_,h5⟩:=B0;have ne:qr X.prog X.w (storedH xs k b r) a h':=⟨ob,es,ep,hq,h2,h3,h4,h5⟩
 have I4:=ip (ob:=.ext (qr X.prog X.w (storedH xs k b r) a)) (t':=s3.toks+(eN X.prog X.w).draws k) I3 (by rw[ea];exact Vu) hs ⟨ob,hq⟩ ⟨ne,⟨ob,hq⟩,λh1 h2 p kk=>by
  obtain⟨o1,KP,ET,g1,g2⟩:=p;exact⟨o1,KP,ET,kk _ g1,g2⟩⟩
 have kt:BB.KT H3 (upd H3 a (.ext (qr X.prog X.w (storedH xs k b r) a))):=λc ys ec=>by
  rw[aj (de ec ea (λz=>nomatch z))];exact ec
 exact⟨Y,_,I4,q _ (λc o hc e=>by rw[aj hc];exact e) ⟨zi,Ag,_,_,ad,λ_ p=>p,KTn.mono kt (KTn.put rel k hk rv)⟩⟩
def vn(P:SH)(w:S0):TE:=λ_ H Q=>∀p H',H p=Am->Same H H'->DN P w H' p []->Q (.ref p) H'
theorem tB:PE X (.Dict [] [] pos) (vn X.prog X.w):=λZ s Y H Q I h=>by
 have hn:H s.1.1.size=none:=I.hok.fresh (Su _);have ne:qr X.prog X.w [] s.1.1.size (s.1.push {cls:=.type "dict",data:=.dict #[]}):=⟨_,#[],0,SO _ rfl,⟨rfl,rfl,rfl⟩,rfl,rfl,Xh⟩;refine wpAny_Dict_empty ⟨.ref s.1.1.size,_,I.laid (a:=s.1.1.size) (o:=.ext (qr X.prog X.w [] s.1.1.size)) (t':=s.toks) (λ_ _ q=>Sy _ q) (Su _) ⟨ne,⟨_,SO _ rfl⟩,λh1 h2 p kk=>?_⟩,rfl,h _ _ hn (ag hn _) ⟨Tn _,beq_eq_false_iff_ne.mpr (UA (Ti I.big)),[],_,ad,λ_ p=>p,.nil⟩⟩;obtain⟨o1,KP,ET,g1,g2⟩:=p;exact⟨o1,KP,ET,kk _ g1,g2⟩
end
end L2
namespace BB
open PySem L2
mutual
def AtG(r:Rep)(H:Hp):Th->So->Prop
 |.knot n ks,a=>n≠q/\∃as:List So,H a=A? (.tup (.str n::as.map Ye))/\AtsG r H ks as
 |.call s k,a=>∃v,H a=A? (.tup [.str q,v,.int k])/\StV r H s v
def AtsG(r:Rep)(H:Hp):List Th->List So->Prop
 | [],as=>as=[]
 |t::ts,as=>∃a z,as=a::z/\AtG r H t a/\AtsG r H ts z
end
mutual
theorem AtG.mono(k:KT H H'):∀{t:Th}{a:So},AtG r H t a->AtG r H' t a
 | .knot n ks,a,h=>by
   rw[AtG]at h |-;obtain⟨h0,as,h1,h2⟩:=h;exact⟨h0,as,k _ _ h1,AtsG.mono k h2⟩
 | .call s c,a,h=>by
   rw[AtG]at h |-;obtain⟨v,h1,h2⟩:=h;exact⟨v,k _ _ h1,h2.mono k⟩
theorem AtsG.mono(k:KT H H'):∀{ts:List Th}{as:List So},AtsG r H ts as->AtsG r H' ts as
 | [],as,h=>by rw[AtsG]at h |-;exact h
 | t::ts,as,h=>by
   rw[AtsG]at h |-;obtain⟨a,r,e,h1,h2⟩:=h;exact⟨a,r,e,AtG.mono k h1,AtsG.mono k h2⟩
end
theorem AtsG.nil:AtsG r H [] []:=by rw[AtsG]
theorem AtsG.cons{t:Th}(h1:AtG r H t a)(h2:AtsG r H ts as):AtsG r H (t::ts) (a::as):=by rw[AtsG];exact⟨a,as,D?,h1,h2⟩
theorem AtsG.append:∀{ts us:List Th}{as bs:List So},AtsG r H ts as->AtsG r H us bs->AtsG r H (ts++us) (as++bs)
 | [],us,as,bs,h,g=>by rw[AtsG]at h;subst h;exact g
 | t::ts,us,as,bs,h,g=>by
   rw[AtsG]at h;obtain⟨a,r,rfl,h1,h2⟩:=h;exact .cons h1 (h2.append g)
theorem AtsG.length:∀{ts:List Th}{as:List So},AtsG r H ts as->as.length=ts.length
 | [],as,h=>by rw[AtsG]at h;subst h;rfl
 | t::ts,as,h=>by
   rw[AtsG]at h;obtain⟨a,r,rfl,h1,h2⟩:=h;rw[SQ,SQ,h2.length]
theorem AtsG.reverse:∀{ts:List Th}{as:List So},AtsG r H ts as->AtsG r H ts.reverse as.reverse
 | [],as,h=>by rw[AtsG]at h;subst h;exact .nil
 | t::ts,as,h=>by
   rw[AtsG]at h;obtain⟨a,r,rfl,h1,h2⟩:=h;rw[TU,TU];exact h2.reverse.append (.cons h1 .nil)
theorem AtsG.get:∀{ts:List Th}{as:List So}{i:Nat}{a:So},AtsG r H ts as->as[i]?=A? a->∃t,ts[i]?=A? t/\AtG r H t a
 | [],as,i,a,h,e=>by rw[AtsG]at h;subst h;simp at e
 | t::ts,as,i,a,h,e=>by
   rw[AtsG]at h;obtain⟨b,r,rfl,h1,h2⟩:=h;cases i with
   |zero=>simp at e;subst e;exact⟨t,D?,h1⟩
   |succ i=>exact h2.get (i:=i) (by simpa using e)
theorem AtsG.at:∀{ts:List Th}{as:List So}{i:Nat}{t:Th},AtsG r H ts as->ts[i]?=A? t->∃a,as[i]?=A? a/\AtG r H t a
 | [],as,i,a,h,e=>by simp at e
 | t::ts,as,i,a,h,e=>by
   rw[AtsG]at h;obtain⟨b,r,rfl,h1,h2⟩:=h;cases i with
   |zero=>simp at e;subst e;exact⟨b,D?,h1⟩
   |succ i=>exact h2.at (i:=i) (by simpa using e)
theorem AtsG.snoc_inv(h:AtsG r H ts (as++[a])):∃us t,ts=us++[t]/\AtsG r H us as/\AtG r H t a:=by
 have r:=h.reverse;rw[Uw,List.reverse_singleton,List.singleton_append]at r;cases e:ts.reverse with
 |nil=>rw[e,AtsG]at r;cases r
 | cons t us =>
   rw[e,AtsG]at r;obtain⟨b,z,e1,h1,h2⟩:=r;cases e1;refine⟨us.reverse,t,?_,?_,h1⟩
   .rw[<-TU,<-e,UI]
   .have:=h2.reverse;rw[UI]at this;exact this
theorem AtG.tup{t:Th}(h:AtG r H t a):∃n z,H a=A? (.tup (.str n::z)):=by
 cases t with
 |knot n ks=>rw[AtG]at h;obtain⟨_,as,h1,_⟩:=h;exact⟨n,_,h1⟩
 |call s k=>rw[AtG]at h;obtain⟨v,h1,_⟩:=h;exact⟨q,_,h1⟩
mutual
theorem At.g:∀{t:Th}{a:So},At H t a->AtG .i H t a
 | .knot n ks,a,h=>by
   rw[At]at h;rw[AtG];obtain⟨h0,as,h1,h2⟩:=h;exact⟨h0,as,h1,Ats.g h2⟩
 | .call s c,a,h=>by
   rw[At]at h;rw[AtG];exact⟨_,h,D?⟩
theorem Ats.g:∀{ts:List Th}{as:List So},Ats H ts as->AtsG .i H ts as
 | [],as,h=>by rw[Ats]at h;rw[AtsG];exact h
 | t::ts,as,h=>by
   rw[Ats]at h;rw[AtsG];obtain⟨a,z,e,h1,h2⟩:=h;exact⟨a,z,e,At.g h1,Ats.g h2⟩
end
mutual
theorem AtG.i:∀{t:Th}{a:So},AtG .i H t a->At H t a
 | .knot n ks,a,h=>by
   rw[AtG]at h;rw[At];obtain⟨h0,as,h1,h2⟩:=h;exact⟨h0,as,h1,AtsG.i h2⟩
 | .call s c,a,h=>by
   rw[AtG]at h;rw[At];obtain⟨v,h1,h2⟩:=h;rw[show v=Yh s from h2]at h1;exact h1
theorem AtsG.i:∀{ts:List Th}{as:List So},AtsG .i H ts as->Ats H ts as
 | [],as,h=>by rw[AtsG]at h;rw[Ats];exact h
 | t::ts,as,h=>by
   rw[AtsG]at h;rw[Ats];obtain⟨a,z,e,h1,h2⟩:=h;exact⟨a,z,e,AtG.i h1,AtsG.i h2⟩
end
def TopAtG(r:Rep)(H:Hp):Top->So->Prop
 |.nm n m,a=>∃ta,H a=A? (.tup [.ref ta,.int (m:Nat)])/\n≠q/\H ta=A? (.tup [.str n])
 |.th t,a=>∃ta,H a=A? (.tup [.ref ta,.int 0])/\AtG r H t ta
theorem TopAtG.mono(k:KT H H'):∀{x:Top}{a:So},TopAtG r H x a->TopAtG r H' x a
 | .nm n m,a,h=>by
   obtain⟨ta,h1,h2,h3⟩:=h;exact⟨ta,k _ _ h1,h2,k _ _ h3⟩
 | .th t,a,h=>by
   obtain⟨ta,h1,h2⟩:=h;exact⟨ta,k _ _ h1,h2.mono k⟩
theorem gD(k:KT H H'){xs:List Top}(h:Tc (TopAtG r H) xs as):Tc (TopAtG r H') xs as:=Zk (λ_ _ e=>e.mono k) h
theorem AtG.width{t:Th}(h:AtG r H t a)(ha:H a=A? (.tup xs)):xs.length<=t.size+2:=by
 cases t with
 | knot n ks =>
   rw[AtG]at h;obtain⟨_,as,h1,h2⟩:=h;rw[ha]at h1;cases h1;have:=h2.length;have:=eJ ks;rw[SQ,Sl,Zi];lia
 | call s k =>
   rw[AtG]at h;obtain⟨v,h1,_⟩:=h;rw[ha]at h1;cases h1;rw[Zi];exact Su _
theorem AtG.same{t:Th}(h:AtG r H t a)(ha:H a=A? (.tup xs))(hb:H b=A? (.tup xs)):AtG r H t b:=by
 cases t with
 | knot n ks =>
   rw[AtG]at h |-;obtain⟨h0,as,h1,h2⟩:=h;rw[ha]at h1;cases h1;exact⟨h0,as,hb,h2⟩
 | call s k =>
   rw[AtG]at h |-;obtain⟨v,h1,h2⟩:=h;rw[ha]at h1;cases h1;exact⟨v,hb,h2⟩
def bL(fs:List (Int->Th))(s c:Int):Th:=(fs.getD c.toNat λ_=>.knot (SE "") []) s
mutual
def fO(pat:Int->SG->Th):Th->Int->Th
 |.call l h,s=>.call (enc s l) h
 |.knot n ts,s=>(pat s n).fill (bL (cS pat ts))
def cS(pat:Int->SG->Th):List Th->List (Int->Th)
 | []=>[]
 |t::ts=>fO pat t::cS pat ts
end
theorem fZ(pat:Int->SG->Th):∀ts:List Th,cS pat ts=ts.map (fO pat)
 | []=>by rw[cS];rfl
 |t::ts=>by rw[cS,fZ pat ts];rfl
def made(pat:Int->SG->Th)(p k:Th):Th:=p.fill (bL (cS pat k.kids))
theorem dR(pat:Int->SG->Th)(n:SG)(ks:List Th)(k:Th):made pat (.knot n ks) k=.knot n (ks.map λp=>made pat p k):=by
 unfold made;rw[Yl,dS]
theorem eX(pat:Int->SG->Th){s:Int}{k k':Th}(h:k.kids[c.toNat]?=A? k'):made pat (.call s c) k=fO pat k' s:=by
 unfold made;rw[Yl];unfold bL;rw[fZ,Ul,Sx,h];rfl
theorem eM(pat:Int->SG->Th)(l h s:Int):fO pat (.call l h) s=.call (enc s l) h:=by rw[fO]
theorem gb(pat:Int->SG->Th)(n:SG)(ts:List Th)(s:Int):fO pat (.knot n ts) s=made pat (pat s n) (.knot n ts):=by
 rw[fO];rfl
theorem FitSs.mem'{ks:List (SG×Int)}:∀{ts:List Th},FitSs ks S C ts->∀t∈ts,t.FitS ks S C
 | [],_,t,ht=>by cases ht
 | u::us,h,t,ht=>by
   rw[FitSs]at h;rcases SR.mp ht with e|e
   .rw[e];exact h.1
   .exact FitSs.mem' h.2 t e
def aA(ins:List (SG×Int))(rows:List (List Th))(s:Int)(n:SG):Th:=(rowOf rows s).getD ((ins.map (·.1)).idxOf n) (.knot (SE "") [])
theorem gW(g:aB ins){rows:List (List Th)}{s:Int}{row:List Th}{n:SG}{m:Int}(hr:rows[s.toNat]?=A? row)(hj:ins[j]?=A? (n,m))(hp:row[j]?=A? p):aA ins rows s n=p:=by
 have h1:(ins.map (·.1))[j]?=A? n:=by rw[Sx,hj];rfl
 obtain⟨hl,he⟩:=T2.mp h1;have h2:(ins.map (·.1)).idxOf n=j:=by rw[<-he];exact List.Nodup.idxOf_getElem (ji g) j hl
 unfold aA rowOf;rw[h2,Ul,Ul,hr];show(row[j]?).getD _=p;rw[hp];rfl
structure fc(ins outs:List (SG×Int))(S:Int)(rows:List (List Th)):Prop where
 len:(rows.length:Int)=S
 row:∀row∈rows,row.length=ins.length/\∀(j:Nat)(p:Th)(k:SG×Int),row[j]?=A? p->ins[j]?=A? k->p.FitS outs S k.2
theorem BookOk.fitB{head:Th}{rows:List (List Th)}(h:BookOk ins outs S d head rows):fc ins outs S rows :=
 ⟨h.len,λrow hr=>⟨(h.row row hr).len,λj p k hp hk=>((h.row row hr).fit j p k hp hk).1⟩⟩
structure Lead(ins outs:List (SG×Int))(S S1:Int)(p k:Th):Prop where
 fit:p.FitS outs S (k.kids.length:Int)
 kid:∀u∈k.kids,∃C,u.FitS ins S1 C
theorem Lead.call{s:Int}{k:Th}(h:Lead ins outs S S1 (.call s c) k):0<=s/\s<S/\0<=c/\∃k',k.kids[c.toNat]?=A? k'/\k'∈k.kids:=by
 have:=h.fit;rw[Zh]at this;obtain⟨h0,h1,h2,h3⟩:=this;have hl:c.toNat<k.kids.length:=by lia
 exact⟨h0,h1,h2,_,Sn hl,Uk hl⟩
theorem Lead.next{rows:List (List Th)}(g:aB ins)(ok:fc ins outs S rows){s:Int}{k:Th}{n:SG}(h:Lead ins outs S S1 (.call s c) k)(hk:k.kids[c.toNat]?=A? (.knot n ts)) :
 ∃(j:Nat)(row:List Th)(p:Th),ins[j]?=A? (n,(ts.length:Int))/\rows[s.toNat]?=A? row/\row[j]?=A? p/\aA ins rows s n=p/\Lead ins outs S S1 p (.knot n ts)/\made (aA ins rows) (.call s c) k=made (aA ins rows) p (.knot n ts):=by
 obtain⟨h0,h1,h2,k',yp,hm⟩:=h.call;rw[hk]at yp;cases yp;obtain⟨C,hC⟩:=h.kid _ hm;rw[Zh]at hC;obtain⟨j,hj⟩:=Tg.mp hC.1;have hl:=ok.len;have hs:s.toNat<rows.length:=by lia
 have hr:=Sn hs;have DR:=ok.row _ (Uk hs);have zb:=(glE hj);obtain⟨p,hp⟩:∃p,(rows[s.toNat])[j]?=A? p:=⟨_,Sn (by rw[DR.1];exact zb)⟩;have hf:=DR.2 j _ _ hp hj;have Az:=gW g hr hj hp;refine⟨j,_,_,hj,hr,hp,Az,⟨hf,λu hu=>⟨C,FitSs.mem' hC.2 u hu⟩⟩,?_⟩;rw[eX _ hk,gb,Az]
mutual
def cnT:Th->Nat
 |.knot _ ks=>cD ks
 |.call _ _=>1
def cD:List Th->Nat
 | []=>0
 |t::ts=>cnT t+cD ts
end
structure Small(t:Th):Prop where
 tall:t.tall<=20
 kn:t.kn<=400
 cn:cnT t<=200
theorem wn(t:Th):t.kn=(if t.isCall=B? then 0 else 1)+kns t.kids:=by
 cases t with
 |knot n ks=>rw[Th.kn,Th.isCall,Th.kids,Za SW];lia
 |call s k=>rw[Th.kn,Th.isCall,Th.kids,Yb rfl,kns]
theorem wa(t:Th):cnT t=(if t.isCall=B? then 1 else 0)+cD t.kids:=by
 cases t with
 |knot n ks=>rw[cnT,Th.isCall,Th.kids,Za SW];lia
 |call s k=>rw[cnT,Th.isCall,Th.kids,Yb rfl,cD]
theorem gK(a b:List Th):kns (a++b)=kns a+kns b:=by
 induction a with
 |nil=>rw[WZ,kns];lia
 |cons x a ih=>rw[V7,kns,kns,ih];lia
theorem fQ(a b:List Th):cD (a++b)=cD a+cD b:=by
 induction a with
 |nil=>rw[WZ,cD];lia
 |cons x a ih=>rw[V7,cD,cD,ih];lia
theorem uA(l:List Th):kns l.reverse=kns l:=by
 induction l with
 |nil=>rfl
 |cons t l ih=>rw[TU,gK,ih,kns,kns,kns];lia
theorem rn(l:List Th):cD l.reverse=cD l:=by
 induction l with
 |nil=>rfl
 |cons t l ih=>rw[TU,fQ,ih,cD,cD,cD];lia
mutual
theorem jG:∀t:Th,t.size=t.kn+cnT t
 |.knot n ks=>by rw[Zi,Th.kn,cnT,jY ks];lia
 |.call s k=>by rw[Zi,Th.kn,cnT]
theorem jY:∀ts:List Th,am ts=kns ts+cD ts
 | []=>by rw[am,kns,cD]
 |t::ts=>by rw[am,kns,cD,jG t,jY ts];lia
end
theorem Small.size{t:Th}(h:Small t):t.size<=600:=by
 have:=jG t;have:=h.kn;have:=h.cn;lia
structure MInv(o:Th)(done:List Th)(js:List Job)(k c:Int):Prop where
 wk:done++walks (jos js).reverse=o.walk
 low:∀j∈js,j.r+j.o.tall<=o.tall+1
 kn:k+(kns (jos js):Int)=(o.kn:Int)
 cn:c+(cD (jos js):Int)=(cnT o:Int)
theorem MInv.start{k:Th}:MInv o [] [⟨p,k,1,o⟩] 0 0:=by
 refine⟨by simp[jos,walks],λj hj=>?_,?_,?_⟩
 .rw[Sz.mp hj];show 1+o.tall<=o.tall+1;lia
 .show(0:Int)+((kns [o]:Nat):Int)=_;rw[kns,kns];lia
 .show(0:Int)+((cD [o]:Nat):Int)=_;rw[cD,cD];lia
theorem hV(js:List Job)(j:Job):jos (js++[j])=jos js++[j.o]:=by
 unfold jos;rw[SI];rfl
theorem MInv.size{done:List Th}{js:List Job}{k:Int}(h:MInv o done js k c):done.length+am (jos js)=o.size:=by
 have:=Zd Vf h.wk;rw[SD,eY,fg,Zm]at this;exact this
theorem oj{k:Int}{a c o:Nat}{i:Nat}(h:k+((a+(i+c+0):Nat):Int)=(o:Int))(hk:k'=k+(i:Int)):k'+((a+c:Nat):Int)=(o:Int):=by lia
theorem rF{k:Int}{a o:Nat}(h:k+(a:Int)=(o:Int))(ho:o<=n):k<=(n:Int):=by lia
theorem MInv.kn'{done:List Th}{js:List Job}{j:Job}{k:Int}(h:MInv o done (js++[j]) k c)(hk:k'=if j.o.isCall=B? then k else k+1):k'+((kns (jos js)+kns j.o.kids:Nat):Int)=(o.kn:Int):=by
 have h2:=h.kn;rw[hV,gK,kns,kns,wn]at h2;refine oj h2 (hk.trans ?_);split
 .exact(Int.add_zero k).symm
 .rfl
theorem MInv.cn'{done:List Th}{js:List Job}{j:Job}{k c':Int}(h:MInv o done (js++[j]) k c)(hc:c'=if j.o.isCall=B? then c+1 else c):c'+((cD (jos js)+cD j.o.kids:Nat):Int)=(cnT o:Int):=by
 have h3:=h.cn;rw[hV,fQ,cD,cD,wa]at h3;refine oj h3 (hc.trans ?_);split
 .rfl
 .exact(Int.add_zero c).symm
theorem MInv.takes{done:List Th}{js:List Job}{j:Job}{k c':Int}(h:MInv o done (js++[j]) k c)(sm:Small o)(hk:k'=if j.o.isCall=B? then k else k+1)(hc:c'=if j.o.isCall=B? then c+1 else c):((j.r:Nat):Int)<=20/\k'<=400/\c'<=200:=by
 refine⟨?_,rF (h.kn' hk) sm.kn,rF (h.cn' hc) sm.cn⟩;have h1:=h.low j (by simp);have h4:=j.o.tall_eq;have h5:=sm.tall;clear h sm hk hc;lia
theorem MInv.next{done:List Th}{js zM:List Job}{j:Job}{k c':Int}(h:MInv o done (js++[j]) k c)(hk:k'=if j.o.isCall=B? then k else k+1)(hc:c'=if j.o.isCall=B? then c+1 else c)(h2:jos zM=j.o.kids.reverse)(hr:∀i∈zM,i.r=j.r+1):MInv o (done++[j.o]) (js++zM) k' c':=by
 have e1:jos (js++zM)=jos js++j.o.kids.reverse:=by rw[<-h2];unfold jos;rw[SI]
 refine⟨?_,λi hi=>?_,?_,?_⟩
 .rw[<-h.wk,hV,e1,Uw,Uw,UI,Vq,dL];show done++([j.o]++_)=done++walks (j.o::(jos js).reverse);rw[walks,Th.walk_eq];rfl
 .rcases S6.mp hi with hi|hi
  .exact h.low i (Tp _ hi)
  .have h1:=h.low j (by simp)
   have h3:i.o∈j.o.kids:=by
    rw[<-Vz,<-h2];exact Tj.mpr ⟨i,hi,rfl⟩
   have:=bW h3;have h4:=j.o.tall_eq;rw[hr i hi];lia
 .rw[e1,gK,uA];exact h.kn' hk
 .rw[e1,fQ,rn];exact h.cn' hc
theorem MInv.done{done:List Th}{k:Int}(h:MInv o done [] k c):done=o.walk:=by simpa[jos,walks]using h.wk
def MJAt(H:Hp)(ins outs:List (SG×Int))(S S1:Int)(pat:Int->SG->Th)(j:Job)(a:So):Prop:=∃(pa ka:So)(n:SG)(ts:List Th),H a=A? (.tup [.ref pa,.ref ka,.int (j.r:Nat)])/\AtG .i H j.p pa/\j.k=.knot n ts/\AtG .i H (.knot n ts) ka/\Lead ins outs S S1 j.p j.k/\j.o=made pat j.p j.k
theorem MJAt.mono(kt:KT H H'){j:Job}(h:MJAt H ins outs S S1 pat j a):MJAt H' ins outs S S1 pat j a:=by
 obtain⟨pa,ka,n,ts,h1,h2,h3,h4,h5⟩:=h;exact⟨pa,ka,n,ts,kt _ _ h1,h2.mono kt,h3,h4.mono kt,h5⟩
theorem Lead.kids{n:SG}{ks:List Th}{k:Th}(h:Lead ins outs S S1 (.knot n ks) k):∀t∈ks,Lead ins outs S S1 t k:=λt ht=>by
 have:=h.fit;rw[Zh]at this;exact⟨FitSs.mem' this.2 t ht,h.kid⟩
theorem jy:∀{ts:List Th}{as:List So},Tc (AtG r H) ts as->AtsG r H ts as
 |_,_,.nil=>.nil
 |_,_,.cons h g=>.cons h (jy g)
def sol(t:Th):Th:=.knot (SE "") [t]
def aH(R:Int->List Th)(head:Th):List Int:=bfs R 21 (aC [] (stT head)) 0
def joH(mid:List (SG×Int))(f':List (List Th))(xQ xR:Th):Th:=made (aA mid f') xQ (sol xR)
def joR(mid:List (SG×Int))(f' xO:List (List Th))(s:Int):List Th:=(rowOf xO (s%1000)).map λt=>made (aA mid f') (.call (s / 1000) 0) (sol t)
def PairOk(S S1 s:Int):Prop:=0<=s / 1000/\s / 1000<S/\0<=s%1000/\s%1000<S1
theorem PairOk.enc{st l:Int}(h0:0<=st)(h1:st<S)(g0:0<=l)(g1:l<S1)(hS:S1<=1000):PairOk S S1 (enc st l):=by
 unfold PairOk BB.enc;lia
theorem sh(t:Th):(sol t).kids=[t]:=rfl
theorem Lead.sol{t:Th}(hp:p.FitS outs S 1)(ht:t.FitS ins S1 C):Lead ins outs S S1 p (sol t) :=
 ⟨hp,λu hu=>⟨C,by rw[sh]at hu;rw[Sz.mp hu];exact ht⟩⟩
mutual
theorem p9{q:Int->Prop}(f:Int->Int->Th){ks:List (SG×Int)}(hf:∀s c,0<=s->s<S->0<=c->c<C->∀x∈stT (f s c),q x):∀t:Th,t.FitS ks S C->∀x∈stT (t.fill f),q x
 | .call s c,h,x,hx=>by
   rw[Zh]at h;rw[Yl]at hx;exact hf s c h.1 h.2.1 h.2.2.1 h.2.2.2 x hx
 | .knot n ts,h,x,hx=>by
   rw[Zh]at h;rw[Yl,bM]at hx;exact nn f hf ts h.2 x hx
theorem nn{q:Int->Prop}(f:Int->Int->Th){ks:List (SG×Int)}(hf:∀s c,0<=s->s<S->0<=c->c<C->∀x∈stT (f s c),q x):∀ts:List Th,FitSs ks S C ts->∀x∈aN (fills f ts),q x
 | [],_,x,hx=>by rw[fills]at hx;cases hx
 | t::ts,h,x,hx=>by
   rw[FitSs]at h;rw[fills]at hx;have yf:x∈stT (t.fill f)++aN (fills f ts):=hx;rcases S6.mp yf with z|z
   .exact p9 f hf t h.1 x z
   .exact nn f hf ts h.2 x z
end
theorem ii{rows:List (List Th)}(g:aB ins)(ok:fc ins outs S rows)(hS:S1<=1000):∀(n:Nat){p k:Th},k.size<=n->Lead ins outs S S1 p k->∀x∈stT (made (aA ins rows) p k),PairOk S S1 x
 |0,p,k,hn,_=>by have:=k.size_pos;lia
 | n+1,p,k,hn,h=>by
   unfold made;refine p9 _ (λs c h0 h1 h2 h3 x hx=>?_) p h.fit;have hl:Lead ins outs S S1 (.call s c) k:=⟨by rw[Zh];exact⟨h0,h1,h2,h3⟩,h.kid⟩;obtain⟨_,_,_,k',hk,hm⟩:=hl.call;have e:bL (cS (aA ins rows) k.kids) s c=made (aA ins rows) (.call s c) k:=by unfold made;rw[Yl]
   rw[e]at hx
   have hsz:k'.size<=n:=by
    have h1:=B7 hm;have h2:=k.size_eq;lia
   cases k' with
   | call l hh =>
     rw[eX _ hk,eM]at hx;obtain⟨C,hC⟩:=h.kid _ hm;rw[Zh]at hC;have yf:x∈[enc s l]:=hx;rw[Sz.mp yf];exact PairOk.enc h0 h1 hC.1 hC.2.1 hS
   | knot nm ts =>
     obtain⟨j,row,p',hj,hr,Bu,Az,zi,AA⟩:=Lead.next g ok hl hk;rw[AA]at hx;exact ii g ok hS n hsz zi x hx
where
 B7 {ts:List Th} {t:Th} (h:t∈ts):t.size<=am ts:=by
  induction ts with
  |nil=>cases h
  | cons u ts ih =>
    rw[am];rcases SR.mp h with rfl|h
    .lia
    .have:=ih h;lia
theorem cq{rows:List (List Th)}(ok:fc ins outs S rows){l:Int}(h0:0<=l)(h1:l<S):∃row,rows[l.toNat]?=A? row/\rowOf rows l=row/\row.length=ins.length/\∀t∈row,∃C,t.FitS outs S C:=by
 have hl:=ok.len;have hs:l.toNat<rows.length:=by lia
 refine⟨rows[l.toNat],Sn hs,?_,(ok.row _ (Uk hs)).1,λt ht=>?_⟩
 .unfold rowOf;rw[Ul,Sn hs];rfl
 .obtain⟨hlen,xU⟩:=ok.row _ (Uk hs);obtain⟨j,hj⟩:=Tg.mp ht;have zb:=(glE hj);exact⟨_,xU j t _ hj (Sn (by lia))⟩
structure JoinOk(ins mid outs:List (SG×Int))(S1 S2:Int)(xR xQ:Th)(xO f':List (List Th)):Prop where
 gm:aB mid
 le:ins.length<=8
 f1:fc ins mid S1 xO
 f2:fc mid outs S2 f'
 h1:xR.FitS mid S1 1
 h2:xQ.FitS outs S2 1
 s1:S1<=1000
 many:S1 * S2<=20
 smH:Small (joH mid f' xQ xR)
 smR:∀l st:Int,0<=l->l<S1->0<=st->st<S2->∀t∈rowOf xO l,Small (made (aA mid f') (.call st 0) (sol t))
section
variable{mid:List (SG×Int)}{S2:Int}{xR xQ:Th}{xO f':List (List Th)}
theorem eU{st:Int}(h0:0<=st)(h1:st<S):(Ym st 0).FitS outs S 1:=by
 rw[Zh];exact⟨h0,h1,Int.le_refl _,by decide⟩
theorem JoinOk.head(J:JoinOk ins mid outs S1 S2 xR xQ xO f'):∀x∈stT (joH mid f' xQ xR),PairOk S2 S1 x :=
 ii J.gm J.f2 J.s1 _ (Su _) (Lead.sol J.h2 J.h1)
theorem JoinOk.rows(J:JoinOk ins mid outs S1 S2 xR xQ xO f')(s:Int)(hs:PairOk S2 S1 s):∀x∈aN (joR mid f' xO s),PairOk S2 S1 x:=λx hx=>by
 obtain⟨t,ht,hx⟩:=Vc.mp hx;obtain⟨u,hu,rfl⟩:=Tj.mp ht;obtain⟨h0,h1,h2,h3⟩:=hs;obtain⟨row,_,e,_,hf⟩:=cq J.f1 h2 h3;rw[e]at hu;obtain⟨C,hC⟩:=hf u hu;exact ii J.gm J.f2 J.s1 _ (Su _) (Lead.sol (eU h0 h1) hC) x hx
theorem JoinOk.met(J:JoinOk ins mid outs S1 S2 xR xQ xO f'):∀x∈aH (joR mid f' xO) (joH mid f' xQ xR),PairOk S2 S1 x :=
 jc _ (PairOk S2 S1) (λs hs x hx=>J.rows s hs x hx) _ _ _ λx hx=>(be.mp hx).elim (λz=>by cases z) (J.head x)
theorem pH(R:Int->List Th)(h:Th):(aH R h).Nodup:=oP _ _ _ _ (mX Xh)
theorem qc{a b:Int}(h0:0<=b)(h1:b<S):(S * a+b) / S=a:=by
 rw[Int.mul_add_ediv_left _ _ (VW (Int.lt_of_le_of_lt h0 h1)),Int.ediv_eq_zero_of_lt h0 h1,Int.add_zero]
theorem sP{x y:Int}(DS:0<=x%1000)(Pn:x%1000<S)(AB:0<=y%1000)(zD:y%1000<S)(e:S * (x / 1000)+x%1000=S * (y / 1000)+y%1000):x=y:=by
 have hd:x / 1000=y / 1000:=by rw[<-qc (a:=x / 1000) DS Pn,<-qc (a:=y / 1000) AB zD,e]
 rw[hd]at e;lia
theorem uy{S2 a b:Int}(h0:0<=a)(h1:a<S2)(g0:0<=b)(g1:b<S1):0<=S1 * a+b/\S1 * a+b<S1 * S2:=by
 have hs:0<=S1:=by lia
 have hm:S1 * a<=S1 * (S2 - 1):=Int.mul_le_mul_of_nonneg_left (by lia) hs;have hp:0<=S1 * a:=Int.mul_nonneg hs h0;have he:S1 * (S2 - 1)=S1 * S2 - S1:=by rw[Int.mul_sub,Int.mul_one]
 lia
theorem JoinOk.len2(J:JoinOk ins mid outs S1 S2 xR xQ xO f'):(aH (joR mid f' xO) (joH mid f' xQ xR)).length<=(S1 * S2).toNat:=by
 have key:((aH (joR mid f' xO) (joH mid f' xQ xR)).map λs=>S1 * (s / 1000)+s%1000).Nodup:=by
  refine List.pairwise_map.mpr ((pH _ _).imp_of_mem λ{x y}hx hy yU e=>yU ?_);obtain⟨_,_,a3,a4⟩:=J.met x hx;obtain⟨_,_,b3,b4⟩:=J.met y hy;exact sP a3 a4 b3 b4 e
 have hb:=i8 (S:=(S1 * S2).toNat) key λz hz=>by
  obtain⟨x,hx,rfl⟩:=Tj.mp hz;obtain⟨a1,a2,a3,a4⟩:=J.met x hx;obtain⟨c1,c2⟩:=uy a1 a2 a3 a4;exact⟨c1,Xx c2 (Int.self_le_toNat _)⟩
 rw[Sl]at hb;exact hb
theorem JoinOk.len(J:JoinOk ins mid outs S1 S2 xR xQ xO f'):(aH (joR mid f' xO) (joH mid f' xQ xR)).length<=20 :=
 Td J.len2 (Int.toNat_le.mpr J.many)
end
end BB
namespace L2
open PySem PySem.Spec PySem.Calls PyProof.Rows
abbrev j8:UD:={cls:=.type "frame",data:=.dict #[]}
abbrev pV:UD:={cls:=.type "cell",data:=.cell Am}
theorem iS{globals:So}{closure:List (SG×So)}{binds:List (SG×Sq)}{func:Option So}{code:Sq}{builtins:So}{Q:Wf->Sr->Prop}
 (hk:scope.kind=.function) (hl:∀x∈binds,scope.names.lookup x.1=A? .local)
 (hQ:∀h',h'.Ns s.1.1.size (λx=>binds.reverse.lookup x)->Um s.1.1.size (pushCells (s.1.push j8) scope.names) h' ->
  Q (newEnv scope s.1.1.size globals (Xe (s.1.1.size+1) scope.names closure) qual func code Am builtins) {s with heap:=h',toks:=s.toks+binds.length}) :
 SV M A (XC scope globals closure binds qual func code Am builtins) Q E s:=by
 simp only[XC,Option.isSome_none,T1,if_false];refine Sm (wpAny_alloc ?_);refine Sm (wpAny_layCells _ (λname kind cells=>by cases F1:kind == VV <;> simp[F1]) _ _ _ _ ?_);rw[show({s with heap:=s.1.push {cls:=.type "frame",data:=.dict #[]}}:Sr).heap.1.size=s.1.1.size+1 from VF ..];refine Sm ?_;generalize zX:Xe (s.1.1.size+1) scope.names closure=cs at hQ |-
 refine Xb _
  (λrest _ s'=>∃done h',binds=done++rest/\s'={s with heap:=h',toks:=s.toks+done.length} /\
   h'.Ns s.1.1.size (λx=>done.reverse.lookup x) /\
   Um s.1.1.size (pushCells (s.1.push j8) scope.names) h') _ ?_ ?_ binds _
  ⟨[],_,rfl,rfl,(Heap.Ns.new ..).keeps (pushCells_keeps _ _),Heap.SameBut.refl ..⟩
 .rintro⟨name,v⟩ rest _ s' ⟨done,h',hb,rfl,Bt,zO⟩
  have yp:Env.kindOf {scope,locals:=s.1.1.size,globals,cells:=cs,qual,func,code,frame:=A? s.1.1.size,builtins} name=A? .local :=
   hl (name,v) (by rw[hb];simp)
  have hp:(({scope,locals:=s.1.1.size,globals,cells:=cs,qual,func,code,frame:=A? s.1.1.size,builtins}:Wf).scope.kind == .class ||(({scope,locals:=s.1.1.size,globals,cells:=cs,qual,func,code,frame:=A? s.1.1.size,builtins}:Wf).scope.kind == .module &&
   ({scope,locals:=s.1.1.size,globals,cells:=cs,qual,func,code,frame:=A? s.1.1.size,builtins}:Wf).locals != ({scope,locals:=s.1.1.size,globals,cells:=cs,qual,func,code,frame:=A? s.1.1.size,builtins}:Wf).globals))=false:=by
   show(scope.kind == .class ||(scope.kind == .module && _))=C?;rw[hk];rfl
  simp only[storeName_local yp hp];refine Sm (wpAny_nsSet Bt λKu KR KS=>Sw ⟨done++[(name,v)],Ku,by simp[hb],?_,?_,zO.trans KS⟩)
  .simp[Xu]
  .rw[lookup_reverse_snoc];exact KR
 .rintro _ s' ⟨done,h',hb,rfl,Bt,zO⟩;rw[T3]at hb;subst hb;exact Sw (hQ h' Bt zO)
def NestAt(H:Hp)(f c':So)(name qual:SG)(params:U9)(body:List Vj)(scope:Ub)(cl:List (SG×So)):Prop:=∃φ,H f=A? (.ext φ)/\∀h:TL,φ h->∃doc pm yV,h.get? f=A? (Xg name qual params body scope cl doc pm c' yV)
theorem NestAt.mono(s:Same H H')(h:NestAt H f c' name qual params body scope cl):NestAt H' f c' name qual params body scope cl:=by
 obtain⟨φ,h1,h2⟩:=h;exact⟨φ,s _ _ h1,h2⟩
def cxN(P:SH)(w:S0)(K:Ss)(mg:SG->Option Sq)(base:TL)(N:List SG)(qual:SG)(scope:Ub)(f:So)(cd:Sq)(y:SG)(cl:List (SG×So))(A:Ta)(outer:List Wf)(s:Sr)(H:Hp):Cx where
 prog:=P
 w:=w
 K:=K
 mg:=mg
 base:=base
 A:=A.deeper (UN qual scope s.1.1.size f cd ((y,s.1.1.size+1)::cl))
 N:=N
 s₀:=s
 H₀:=fgt (cl.map (·.2)) H
 env:=UN qual scope s.1.1.size f cd ((y,s.1.1.size+1)::cl)
 outer:=outer
 stack:=UN qual scope s.1.1.size f cd ((y,s.1.1.size+1)::cl)::outer
 ex:=[]
 calm:=B?
 fn:=λx=>x == y
 pn:=[]
 xe:=λ_ _=>False
structure lN(N ps fs:List SG)(y:SG)(cl:List (SG×So))(sc:Ub):Prop where
 kind:sc.kind=.function
 co:sc.isCoroutine=C?
 gen:sc.isGenerator=C?
 nd:N.Nodup
 pre:N.take (ps.length+fs.length)=ps++fs
 par:∀x∈ps,sc.names.lookup x=A? .local
 fre:∀x∈fs,sc.names.lookup x=A? .free
 cells:∀n:Nat,Xe n sc.names cl=(y,n)::cl
 push:∀h:TL,pushCells h sc.names=h.push pV
 cel:∀x,sc.names.lookup x=A? .cell->x=y
 has:∀x,sc.names.lookup x=A? .free->∃c,cl.lookup x=A? c
 inj:∀x z c,cl.lookup x=A? c->cl.lookup z=A? c->x=z
 ney:∀x∈fs,(x == y)=C?
 neq:∀x,sc.names.lookup x=A? .free->(x == y)=C?
theorem nj{S:List So}(s:Same (fgt S H) H'):Same H (rst S H H'):=λb o e=>by
 by_cases hb:b∈S
 .rw[oX hb];exact e
 .rw[bR hb];exact s _ _ (by rw[aQ hb];exact e)
theorem sZ{S:List So}(hn:∀b∈S,H' b=Am):Same H' (rst S H H'):=λb o e=>by
 rw[bR λz=>by rw[hn b z]at e;cases e];exact e
theorem vJ{S:List So}(hx:Exts S H):BB.KT H (fgt S H):=λb xs e=>by
 rw[aQ (hx.out e λφ z=>nomatch z)];exact e
def wb(X:Cx)(P:So)(i:Nat)(name:SG)(pos:VX)(params:U9)(body:List Vj)(scope:Ub)(cl:List (SG×So)):TS:=λD Y H=>TabSt H P pos (X.env.qual++name) /\
 ∀f c' H',SameT P H H'->H' P=A? (.tbl (tabOf pos c'))->CodeAt H' c' (X.env.qual++name)->NestAt H' f c' name (X.env.qual++name) params body scope cl->H f=Am->D.nx (Y.set i (A? (.ref f))) H'
theorem ur{X:Cx}{c P:So}{i:Nat}(L:Lam X.mg X.base c P)(hN:X.N.Nodup)(hi:X.N[i]?=A? name)(DS:Loc X.env.scope name)(hc:X.env.code=.ref c)(yw:closureFor scope X.env=pure cl)
 (GZ:params.defaults=[]:=by rfl) (zZ:params.kw_defaults=[]:=by rfl) (ha:annTrees params Am X.env=[]:=by rfl) (hq:qualnameIn X.env name name=X.env.qual++name:=by rfl) (Nq:X.fn name=B?\/X.env.scope.names.lookup name=A? .local:=by first|exact .inl rfl|exact .inr rfl|assumption) :
 PS X (.FunctionDef name params body [] Am [] scope Am name pos) (wb X P i name pos params body scope cl):=by
 intro Z s Y H D I h;obtain⟨tab,q⟩:=h;have EN:s.1.Ns TR X.mg:=I.mod.glob.keeps I.bk;have C:Wn s.1 c P:=L.hd.keeps I.bk
 have hb:s.1.BuiltinsAt X.mg P:=by
  obtain⟨bm,o,h1,h2,h3,h4,h5,h6⟩:=L.bl;exact⟨bm,o,h1,h2,h3,h4,I.bk _ _ h5,h6⟩
 refine PySem.W.nestDef_K GZ zZ ha ?_;rw[hq];rcases tab with hP|⟨c',hP,zK⟩
 .have BI:s.1.get? P=A? (Vv #[]):=I.hok P _ hP
  have KG:TR≠P:=λz=>by
   obtain⟨o,es,ep,e,d,_⟩:=EN;rw[z,BI]at e;cases e;cases d
  refine PySem.W.makeFunction_K yw I.ok.glob EN hc C BI trivial rfl KG hb λc' yV doc h' tk hx CY yb B3 G9=>?_;have hsz:s.1.1.size<=h'.objs.size:=Td CY (U1 yb);have G':H c'=none:=I.hok.fresh CY;have nf:H h'.objs.size=none:=I.hok.fresh hsz;have KH:c'≠h'.objs.size:=Ti yb;have KI:P≠c':=λz=>by rw[z,G']at hP;cases hP
  have KJ:P≠h'.objs.size:=λz=>by rw[z,nf]at hP;cases hP
  obtain⟨ob,C3⟩:∃ob,ob=Xg name (X.env.qual++name) params body scope cl doc ((X.mg "__name__").getD .none) c' yV:=⟨_,rfl⟩;rw[<-C3];have kp:∀b o,b≠P->s.1.get? b=A? o->(h'.push ob).get? b=A? o:=λb o n e=>Sy _ (hx b o n e);obtain⟨H',CZ⟩:∃H',H'=upd (upd (upd H P (.tbl (tabOf pos c'))) c' (.ext λh=>h.CodeRec (.ref c') (X.env.qual++name))) h'.objs.size (.ext λh=>h.get? h'.objs.size=A? ob):=⟨_,rfl⟩;have eP:H' P=A? (.tbl (tabOf pos c')):=by rw[CZ,aj KJ,aj KI,ad]
  have ec:H' c'=A? (.ext λh=>h.CodeRec (.ref c') (X.env.qual++name)):=by rw[CZ,aj KH,ad]
  have ef:H' h'.objs.size=A? (.ext λh=>h.get? h'.objs.size=A? ob):=by rw[CZ,ad]
  have eo:∀b,b≠P->b≠c'->b≠h'.objs.size->H' b=H b:=λb n1 n2 n3=>by rw[CZ,aj n3,aj n2,aj n1]
  have es:∀b o,H b=A? o->b≠P->H' b=A? o:=λb o e n=>by rw[eo b n (λz=>by rw[z,G']at e;cases e) (λz=>by rw[z,nf]at e;cases e)];exact e
  have un:Un X.fs [] H H' s.1 (h'.push ob):=by
   have nP:∀b,H b=Am->b≠P:=λb n z=>by rw[z,hP]at n;cases n
   refine⟨λb o e n _ _=>kp b o (nP b n) e,λb o e n _ _=>⟨o.slots,kp b o (nP b n) e⟩,λb o e n _=>?_,λb o e _=>?_,λb xs e=>es b _ e (λz=>by rw[z,hP]at e;cases e),λb o u e=>es b _ e (λz=>by rw[z,hP]at e;cases e),λb pp e=>?_⟩
   .rw[eo b (nP b n) (Ti (SY (SS e) CY)) (Ti (SY (SS e) hsz))];exact n
   .by_cases hb:b=P
    .exact⟨_,by rw[hb];exact Sy _ G9⟩
    .exact⟨o,kp b o hb e⟩
   .by_cases hb:b=P
    .subst hb;rw[hP]at e;cases e;exact⟨tabOf pos c',by rw[eP];simp⟩
    .exact⟨#[],by rw[es b _ e hb];simp⟩
  have hok:HOk X.prog X.w H' (h'.push ob):=λa o e=>by
   by_cases ha:a=P
   .subst ha;rw[eP]at e;cases e;exact Sy _ G9
   by_cases yC:a=c'
   .subst yC;rw[ec]at e;cases e;refine⟨B3.push _,?_,λh1 h2 z k=>?_⟩
    .obtain⟨_,oc,_,_,e1,e2,_⟩:=B3;cases e1;exact⟨oc,Sy _ e2⟩
    .obtain⟨_,oc,vs,t,e1,e2,e3⟩:=z;cases e1;exact⟨_,oc,vs,t,D?,k _ e2,e3⟩
   by_cases CI:a=h'.objs.size
   .subst CI;rw[ef]at e;cases e;have DT:ob.isFreed=false:=by rw[C3];rfl
    exact⟨SO _ DT,⟨_,SO _ DT⟩,λh1 h2 z k=>k _ z⟩
   rw[eo a ha yC CI]at e;refine(I.hok a o e).stay (λb u hb z=>kp b u ?_ z) (λb z=>es b _ z (λy=>by rw[y,hP]at z;cases z)) λb xs z=>es b _ z (λy=>by rw[y,hP]at z;cases z);rcases hb with hb|hb
   .rw[hb];exact ha
   .exactλy=>by rw[y,hP]at hb;cases hb
  refine ik (v:=.ref h'.objs.size) (I.un un hok) hN hi DS rfl (λs2 I2=>⟨_,H',I2,q _ c' H' (λb o n e=>es b o e n) eP ⟨_,ec,λ_ z=>z⟩ ⟨_,ef,λ_ z=>⟨_,_,_,by rw[z,C3]⟩⟩ nf⟩) Nq
 .have BI:s.1.get? P=A? (Vv (tabOf pos c')):=I.hok P _ hP;refine PySem.W.makeFunction_hit yw I.ok.glob EN hc C BI (nG pos c') (lB pos c') hb λyV doc h' tk hk hsz=>?_;have nf:H h'.objs.size=none:=I.hok.fresh hsz
  have I':=I.laid (h':=h'.push {cls:=.type "function",data:=.func (PySem.W.fnX name (X.env.qual++name) params body scope cl .none .none doc ((X.mg "__name__").getD .none) Am (.ref c') yV)}) (a:=h'.objs.size) (t':=tk)
   (o:=.ext λh=>h.get? h'.objs.size=A? (Xg name (X.env.qual++name) params body scope cl doc ((X.mg "__name__").getD .none) c' yV)) (λb u e=>Sy _ (hk b u e)) hsz ⟨SO _ rfl,⟨_,SO _ rfl⟩,λh1 h2 z k=>k _ z⟩
  have sm:Same H (upd H h'.objs.size (.ext λh=>h.get? h'.objs.size=A? (Xg name (X.env.qual++name) params body scope cl doc ((X.mg "__name__").getD .none) c' yV))):=ag nf _;exact ik (v:=.ref h'.objs.size) I' hN hi DS rfl (λs2 I2=>⟨_,_,I2,q _ c' _ (sm.t P) (sm _ _ hP) (zK.mono sm) ⟨_,ad,λ_ z=>⟨_,_,_,z⟩⟩ nf⟩) Nq
theorem wZ{X:Cx}{y z:SG}{c d:So}(h1:X.env.cells.lookup y=A? c)(h2:X.fn y=B?)(h3:X.env.kindOf y=A? .cell)(g1:X.env.cells.lookup z=A? d)(g2:X.fn z=B?)(g3:X.env.kindOf z=A? .cell):g6 X [(y,c),(z,d)] :=
 ⟨λa b h=>(SR.mp h).elim (λe=>by cases e;exact h1) λe=>by cases Sz.mp e;exact g1,
  λa b h=>(SR.mp h).elim (λe=>by cases e;exact h2) λe=>by cases Sz.mp e;exact g2,
  λa b h=>(SR.mp h).elim (λe=>by cases e;exact h3) λe=>by cases Sz.mp e;exact g3⟩
end L2
namespace BB
open PySem L2
mutual
def lc:Th->Nat
 |.call _ _=>1
 |.knot _ ks=>if lcs ks=0 then 0 else lcs ks+1
def lcs:List Th->Nat
 | []=>0
 |t::ts=>max (lc t) (lcs ts)
end
mutual
theorem jH:∀t:Th,lc t<=t.tall
 |.call _ _=>by rw[lc,Yi];exact Su _
 | .knot _ ks=>by
   have:=lS ks;rw[lc,Yi];split <;> lia
theorem lS:∀ts:List Th,lcs ts<=aK ts
 | []=>by rw[lcs];exact Tn _
 | t::ts=>by
   have:=jH t;have:=lS ts;rw[lcs,aK];lia
end
mutual
theorem eS{ks:List (SG×Int)}(g:aB ks):∀t:Th,t.FitS ks S C->2 * t.size+1<=3 ^ t.tall/\3 * cnT t<=3 ^ lc t
 | .call _ _,_=>by
   rw[Zi,Yi,cnT,lc];exact⟨by decide,by decide⟩
 | .knot n ts,h=>by
   rw[Zh]at h;obtain⟨h1,h2⟩:=jR g ts h.2
   have hw:ts.length<=3:=by
    have:=(g.num _ h.1).2;have h2:((ts.length:Nat):Int)<=3:=this;lia
   rw[Zi,Yi,cnT,lc];refine⟨?_,?_⟩
   .rw[Nat.pow_succ];have hp:1<=3 ^ aK ts:=Nat.pow_pos (by decide);have:ts.length * (3 ^ aK ts - 1)<=3 * (3 ^ aK ts - 1):=Nat.mul_le_mul_right _ hw;lia
   .have:ts.length * 3 ^ lcs ts<=3 * 3 ^ lcs ts:=Nat.mul_le_mul_right _ hw;split
    .rename_i hz
     rw[hz]at h2 this;have h3:=lT g ts h.2 hz;lia
    .rw[Nat.pow_succ];lia
theorem jR{ks:List (SG×Int)}(g:aB ks):∀ts:List Th,FitSs ks S C ts->2 * am ts<=ts.length * (3 ^ aK ts - 1)/\3 * cD ts<=ts.length * 3 ^ lcs ts
 | [],_=>by
   rw[am,cD];exact⟨Tn _,Tn _⟩
 | t::ts,h=>by
   rw[FitSs]at h;obtain⟨h1,h2⟩:=eS g t h.1;obtain⟨h3,h4⟩:=jR g ts h.2;rw[am,cD,aK,lcs,SQ];have a1:3 ^ t.tall<=3 ^ max t.tall (aK ts):=UH (by decide) (Nat.le_max_left ..);have a2:3 ^ aK ts<=3 ^ max t.tall (aK ts):=UH (by decide) (Nat.le_max_right ..);have b1:3 ^ lc t<=3 ^ max (lc t) (lcs ts):=UH (by decide) (Nat.le_max_left ..);have b2:3 ^ lcs ts<=3 ^ max (lc t) (lcs ts):=UH (by decide) (Nat.le_max_right ..);have a3:ts.length * (3 ^ aK ts - 1)<=ts.length * (3 ^ max t.tall (aK ts) - 1):=Nat.mul_le_mul_left _ (by lia);have b3:ts.length * 3 ^ lcs ts<=ts.length * 3 ^ max (lc t) (lcs ts):=Nat.mul_le_mul_left _ b2;rw[Nat.add_mul,Nat.add_mul];lia
theorem lT{ks:List (SG×Int)}(g:aB ks):∀ts:List Th,FitSs ks S C ts->lcs ts=0->cD ts=0
 | [],_,_=>by rw[cD]
 | t::ts,h,hz=>by
   rw[FitSs]at h;rw[lcs]at hz;have h1:=(eS g t h.1).2;rw[show lc t=0 by lia]at h1;rw[cD,lT g ts h.2 (by lia)];lia
end
theorem i7{t:Th}(h:t∈ts):t.size<=am ts:=by
 induction ts with
 |nil=>cases h
 | cons u ts ih =>
   rw[am];rcases SR.mp h with rfl|h
   .lia
   .have:=ih h;lia
theorem pick_run(pat:Int->SG->Th)(h:0<=c)(hc:c<(ts.length:Int))(s:Int):∃u∈ts,bL (cS pat ts) s c=fO pat u s:=by
 have yb:c.toNat<ts.length:=by lia
 refine⟨ts[c.toNat],Uk yb,?_⟩;unfold bL;rw[fZ,Ul,Sx,Sn yb];rfl
theorem tN{nm:SG}{u:Th}(hn:(Yk nm ts).size<=n+1)(hu:u∈ts):u.size<=n:=by
 have h1:=i7 hu;rw[Zi]at hn;lia
theorem mq(f:Int->Int->Th)(ts:List Th):(fills f ts).length=ts.length:=by rw[dS,Sl]
mutual
theorem hI{ks:List (SG×Int)}{S' C':Int}(f:Int->Int->Th)(hf:∀s c,0<=s->s<S->0<=c->c<C->(f s c).FitS ks S' C'):∀t:Th,t.FitS ks S C->(t.fill f).FitS ks S' C'
 | .call s c,h=>by
   rw[Zh]at h;rw[Yl];exact hf s c h.1 h.2.1 h.2.2.1 h.2.2.2
 | .knot n ts,h=>by
   rw[Zh]at h;rw[Yl,Zh,mq];exact⟨h.1,lF f hf ts h.2⟩
theorem lF{ks:List (SG×Int)}{S' C':Int}(f:Int->Int->Th)(hf:∀s c,0<=s->s<S->0<=c->c<C->(f s c).FitS ks S' C'):∀ts:List Th,FitSs ks S C ts->FitSs ks S' C' (fills f ts)
 | [],_=>by rw[fills,FitSs];trivial
 | t::ts,h=>by
   rw[FitSs]at h;rw[fills,FitSs];exact⟨hI f hf t h.1,lF f hf ts h.2⟩
end
theorem mL{S:Int}{rows:List (List Th)}(g:aB ins)(ok:fc ins outs S rows)(hS:S1<=1000):∀(n:Nat){s C:Int}{t:Th},t.size<=n->t.FitS ins S1 C->0<=s->s<S->(fO (aA ins rows) t s).FitS outs (1000 * S) C
 |0,s,C,t,hn,_,_,_=>by have:=t.size_pos;lia
 | n+1,s,C,.call l h,_,hf,h0,h1=>by
   rw[Zh]at hf;rw[eM,Zh];unfold enc;lia
 | n+1,s,C,.knot nm ts,hn,hf,h0,h1=>by
   have hl:Lead ins outs S S1 (.call s 0) (sol (.knot nm ts)):=Lead.sol (eU h0 h1) hf;obtain⟨j,row,p,hj,hr,hp,Az,zi,_⟩:=Lead.next g ok hl (k:=sol (.knot nm ts)) (c:=0) rfl;rw[gb,Az];rw[Zh]at hf;refine hI (ks:=outs) (S:=S) (C:=((Yk nm ts).kids.length:Int)) (bL (cS (aA ins rows) ts)) (λs' c a b cc dd=>?_) p zi.fit;obtain⟨u,hu,e⟩:=pick_run (aA ins rows) (ts:=ts) cc dd s';rw[e];exact mL g ok hS n (tN hn hu) (FitSs.mem' hf.2 u hu) a b
theorem dW(pat:Int->SG->Th)(s:Int)(t:Th):made pat (.call s 0) (sol t)=fO pat t s:=eX (k:=sol t) pat rfl
mutual
theorem mr{ks:List (SG×Int)}{M:List Int}:∀t:Th,t.FitS ks S C->(∀x∈stT t,x∈M)->(ren (idx M) t).FitS ks (M.length:Int) C
 | .call s c,h,hm=>by
   rw[Zh]at h;rw[bT,Zh];have:=pj (hm s (by rw[cj];exact Uc _));exact⟨this.1,this.2,h.2.2⟩
 | .knot n ts,h,hm=>by
   rw[Zh]at h;rw[cG,Zh,Sl];exact⟨h.1,nT ts h.2 (by rw[bM]at hm;exact hm)⟩
theorem nT{ks:List (SG×Int)}{M:List Int}:∀ts:List Th,FitSs ks S C ts->(∀x∈aN ts,x∈M)->FitSs ks (M.length:Int) C (ts.map (ren (idx M)))
 | [],_,_=>by rw[U3,FitSs];trivial
 | t::ts,h,hm=>by
   rw[FitSs]at h;rw[Tb,FitSs];exact⟨mr t h.1 λx hx=>hm x (Tp _ hx),nT ts h.2 λx hx=>hm x (S3 _ hx)⟩
end
theorem kL{ks:List (SG×Int)}(g:aB ks){t:Th}(h:t.FitS ks S C)(h1:t.tall<=6)(h2:lc t<=5):Small t:=by
 obtain⟨a,b⟩:=eS g t h;have a2:3 ^ t.tall<=3 ^ 6:=UH (by decide) h1;have b2:3 ^ lc t<=3 ^ 5:=UH (by decide) h2;have c:=jG t;have a3:(3:Nat) ^ 6=729:=by decide
 have b3:(3:Nat) ^ 5=243:=by decide
 exact⟨by lia,by lia,by lia⟩
section
variable{mid:List (SG×Int)}{S2:Int}{xR xQ:Th}{xO f':List (List Th)}{Po Pp Pq Pr Pt Pu Pw:Nat}
end
end BB
namespace L2
open PySem PySem.Spec PySem.Calls PyProof.Rows
end L2
namespace BB
open PySem L2
def nq:Th:=.knot (SE "") []
mutual
def bc(e:Int->Int->Int)(pat:Int->SG->Th):Th->Int->Th
 |.call l h,s=>.call (e s l) h
 |.knot n ts,s=>(pat s n).fill (bL (dI e pat ts))
def dI(e:Int->Int->Int)(pat:Int->SG->Th):List Th->List (Int->Th)
 | []=>[]
 |t::ts=>bc e pat t::dI e pat ts
end
theorem bE(e:Int->Int->Int)(pat:Int->SG->Th):∀ts:List Th,dI e pat ts=ts.map (bc e pat)
 | []=>by rw[dI];rfl
 |t::ts=>by rw[dI,bE e pat ts];rfl
mutual
theorem nQ(pat:Int->SG->Th):∀(t:Th),bc enc pat t=fO pat t
 |.call l h=>by funext s;rw[bc,fO]
 |.knot n ts=>by funext s;rw[bc,fO,cB pat ts]
theorem cB(pat:Int->SG->Th):∀(ts:List Th),dI enc pat ts=cS pat ts
 | []=>by rw[dI,cS]
 |t::ts=>by rw[dI,cS,nQ pat t,cB pat ts]
end
theorem cQ{fs:List (Int->Th)}{s:Int}{f:Int->Th}(h:fs[c.toNat]?=A? f):bL fs s c=f s:=by
 unfold bL;rw[Ul,h];rfl
theorem dB{fs:List (Int->Th)}{s:Int}(h:fs[c.toNat]?=Am):bL fs s c=nq:=by
 unfold bL;rw[Ul,h];rfl
theorem f7(f:Int->Int->Th):nq.fill f=nq:=by
 unfold nq;rw[Yl,fills]
theorem kW(g:Int->Int)(t:Th)(f:Int->Int->Th):(ren g t).fill f=t.fill λs k=>f (g s) k:=by
 unfold ren;rw[dP];congr 1
theorem gS(g:Int->Int)(t:Th)(f:Int->Int->Th):ren g (t.fill f)=t.fill λs k=>ren g (f s k):=by
 unfold ren;rw[dP]
theorem fL(g:Int->Int):ren g nq=nq:=f7 _
mutual
theorem fe{f g:Int->Int->Th}:∀t:Th,(∀s∈stT t,∀k,f s k=g s k)->t.fill f=t.fill g
 | .call s k,h=>by
   rw[Yl,Yl];exact h s (by rw[cj];exact Uc _) k
 | .knot n ts,h=>by
   rw[Yl,Yl,jw ts (by rw[bM]at h;exact h)]
theorem jw{f g:Int->Int->Th}:∀ts:List Th,(∀s∈aN ts,∀k,f s k=g s k)->fills f ts=fills g ts
 | [],_=>by rw[fills,fills]
 | t::ts,h=>by
   rw[fills,fills,fe t λs hs=>h s (Tp _ hs),jw ts λs hs=>h s (S3 _ hs)]
end
mutual
theorem jl{ks:List (SG×Int)}{f g:Int->Int->Th}:∀t:Th,t.FitS ks S C->(∀s k,0<=s->s<S->0<=k->k<C->f s k=g s k)->t.fill f=t.fill g
 | .call s k,h,hf=>by
   rw[Zh]at h;rw[Yl,Yl];exact hf s k h.1 h.2.1 h.2.2.1 h.2.2.2
 | .knot n ts,h,hf=>by
   rw[Zh]at h;rw[Yl,Yl,io ts h.2 hf]
theorem io{ks:List (SG×Int)}{f g:Int->Int->Th}:∀ts:List Th,FitSs ks S C ts->(∀s k,0<=s->s<S->0<=k->k<C->f s k=g s k)->fills f ts=fills g ts
 | [],_,_=>by rw[fills,fills]
 | t::ts,h,hf=>by
   rw[FitSs]at h;rw[fills,fills,jl t h.1 hf,io ts h.2 hf]
end
mutual
theorem gQ{ks:List (SG×Int)}{e1:Int->Int->Int}{F G:Int->Int->Th}(Hc:∀s k c,0<=s->s<S->0<=k->k<C->bc e1 pat (F s k) c=G (enc c s) k):∀(p:Th),p.FitS ks S C->∀c,bc e1 pat (p.fill F) c=(bc enc pat p c).fill G
 | .call s k,h,c=>by
   rw[Zh]at h;rw[Yl,bc,Yl];exact Hc s k c h.1 h.2.1 h.2.2.1 h.2.2.2
 | .knot m us,h,c=>by
   rw[Zh]at h;rw[Yl,bc,bc,dP];congr 1;funext c' j;have hl:=lE Hc us h.2;rw[bE,bE];cases hj:us[j.toNat]? with
   | none =>
     rw[dB (by rw[Sx,dS,Sx,hj];rfl),dB (by rw[Sx,hj];rfl),f7]
   | some u =>
     rw[cQ (f:=bc e1 pat (u.fill F)) (by rw[Sx,dS,Sx,hj];rfl),cQ (f:=bc enc pat u) (gmE hj)];exact hl u (Sv hj) c'
theorem lE{ks:List (SG×Int)}{e1:Int->Int->Int}{F G:Int->Int->Th}(Hc:∀s k c,0<=s->s<S->0<=k->k<C->bc e1 pat (F s k) c=G (enc c s) k):∀(us:List Th),FitSs ks S C us->∀u∈us,∀c,bc e1 pat (u.fill F) c=(bc enc pat u c).fill G
 | [],_,u,hu,c=>by cases hu
 | v::us,h,u,hu,c=>by
   rw[FitSs]at h;rcases SR.mp hu with e|e
   .rw[e];exact gQ Hc v h.1 c
   .exact lE Hc us h.2 u e c
end
theorem ir{e:Int->Int->Int}{g φ:Int->Int}:∀(n:Nat)(t:Th),t.size<=n->(∀s,∀l∈stT t,φ (e' s l)=e s (g l))->∀s,bc e pat (ren g t) s=ren φ (bc e' pat t s)
 |0,t,hn,_,_=>by have:=t.size_pos;lia
 | n+1,.call l h,_,hh,s=>by
   rw[bT,bc,bc,bT,hh s l (by rw[cj];exact Uc _)]
 | n+1,.knot nm ts,hn,hh,s=>by
   rw[cG,bc,bc,gS];congr 1;funext s' k;rw[bE,bE];rw[Zi]at hn;cases hj:ts[k.toNat]? with
   |none=>rw[dB (by rw[Sx,Sx,hj];rfl),dB (by rw[Sx,hj];rfl),fL]
   | some u =>
     have zo:=Sv hj;have hsz:=i7 zo;rw[cQ (f:=bc e pat (ren g u)) (by rw[Sx,Sx,hj];rfl),cQ (f:=bc e' pat u) (gmE hj)];exact ir n u (by lia) (λs l hl=>hh s l (by rw[bM];exact du zo hl)) s'
theorem hG{e:Int->Int->Int}{EV:Int->SG->Th}{g ψ:Int->Int}{q:Int->Prop}(hq:∀s,q s->∀n,∀x∈stT (pat s n),q x)(hp:∀s,q s->∀n,EV (g s) n=ren g (pat s n)):∀(n:Nat)(t:Th),t.size<=n->(∀s,q s->∀l∈stT t,ψ (e' s l)=e (g s) l)->∀s,q s->bc e EV t (g s)=ren ψ (bc e' pat t s)
 |0,t,hn,_,_,_=>by have:=t.size_pos;lia
 | n+1,.call l h,_,hh,s,hs=>by
   rw[bc,bc,bT,hh s hs l (by rw[cj];exact Uc _)]
 | n+1,.knot nm ts,hn,hh,s,hs=>by
   rw[bc,bc,gS,hp s hs,kW];refine fe _ λs' AQ k=>?_;rw[bE,bE];rw[Zi]at hn;cases hj:ts[k.toNat]? with
   |none=>rw[dB (by rw[Sx,hj];rfl),dB (by rw[Sx,hj];rfl),fL]
   | some u =>
     have zo:=Sv hj;have hsz:=i7 zo;rw[cQ (f:=bc e EV u) (gmE hj),cQ (f:=bc e' pat u) (gmE hj)];exact hG hq hp n u (by lia) (λs hs l hl=>hh s hs l (by rw[bM];exact du zo hl)) s' (hq s hs nm s' AQ)
mutual
theorem iu{p:Int->Prop}{f:Int->Int->Th}:∀t:Th,(∀s∈stT t,∀k,∀x∈stT (f s k),p x)->∀x∈stT (t.fill f),p x
 | .call s k,h,x,hx=>by
   rw[Yl]at hx;exact h s (by rw[cj];exact Uc _) k x hx
 | .knot n ts,h,x,hx=>by
   rw[Yl,bM]at hx;rw[bM]at h;exact lC ts h x hx
theorem lC{p:Int->Prop}{f:Int->Int->Th}:∀ts:List Th,(∀s∈aN ts,∀k,∀x∈stT (f s k),p x)->∀x∈aN (fills f ts),p x
 | [],_,x,hx=>by rw[fills]at hx;cases hx
 | t::ts,h,x,hx=>by
   rw[fills]at hx;rcases S6.mp (show x∈stT (t.fill f)++aN (fills f ts)from hx)with z|z
   .exact iu t (λs hs=>h s (Tp _ hs)) x z
   .exact lC ts (λs hs=>h s (S3 _ hs)) x z
end
theorem mP{e:Int->Int->Int}{q:Int->Prop}(hq:∀s,q s->∀n,∀x∈stT (pat s n),q x):∀(n:Nat)(t:Th),t.size<=n->∀s,q s->∀x∈stT (bc e pat t s),∃s' l,q s'/\l∈stT t/\x=e s' l
 |0,t,hn,_,_=>by have:=t.size_pos;lia
 | n+1,.call l h,_,s,hs=>λx hx=>by
   rw[bc,cj]at hx;exact⟨s,l,hs,by rw[cj];exact Uc _,Sz.mp hx⟩
 | n+1,.knot nm ts,hn,s,hs=>λx hx=>by
   rw[bc]at hx;rw[Zi]at hn;refine iu (p:=λx=>∃s' l,q s'/\l∈stT (.knot nm ts)/\x=e s' l) _ (λs2 DG k x hx=>?_) x hx;rw[bE]at hx;cases hj:ts[k.toNat]? with
   | none =>
     rw[dB (by rw[Sx,hj];rfl)]at hx;have:x∈([]:List Int):=hx;cases this
   | some u =>
     have zo:=Sv hj;have hsz:=i7 zo;rw[cQ (f:=bc e pat u) (gmE hj)]at hx;obtain⟨s',l,h1,h2,h3⟩:=mP hq n u (by lia) s2 (hq s hs nm s2 DG) x hx;exact⟨s',l,h1,by rw[bM];exact du zo h2,h3⟩
mutual
theorem fy{ks:List (SG×Int)}:∀{t:Th},t.FitS ks S C->∀x∈stT t,0<=x/\x<S
 | .call s k,h=>λx hx=>by
   rw[Zh]at h;rw[cj,Sz]at hx;exact hx ▸ ⟨h.1,h.2.1⟩
 | .knot n ts,h=>λx hx=>by
   rw[Zh]at h;rw[bM]at hx;exact n5 h.2 x hx
theorem n5{ks:List (SG×Int)}:∀{ts:List Th},FitSs ks S C ts->∀x∈aN ts,0<=x/\x<S
 | [],_=>λx hx=>by cases hx
 | t::ts,h=>λx hx=>by
   rw[FitSs]at h;rcases S6.mp (show x∈stT t++aN ts from hx)with z|z
   .exact fy h.1 x z
   .exact n5 h.2 x z
end
def cZ(R:Int->List Th)(h:Th):Th:=ren (idx (aH R h)) h
def ce(R:Int->List Th)(h:Th):List (List Th):=(aH R h).map λs=>(R s).map (ren (idx (aH R h)))
theorem l6{g:Int->Int}:∀{M:List Int}{s:Int},(∀x∈M,∀y∈M,g x=g y->x=y)->s∈M->(M.map g).idxOf (g s)=M.idxOf s
 | [],s,_,hs=>by cases hs
 | y::M,s,hg,hs=>by
   rw[Tb,W0,W0];by_cases h:y=s
   .rw[h,beq_self_eq_true,beq_self_eq_true];rfl
   .have h2:g y≠g s:=λz=>h (hg y (SU ..) s hs z);rw[beq_eq_false_iff_ne.mpr h,beq_eq_false_iff_ne.mpr h2];simp only[cond_false];have AQ:s∈M:=(SR.mp hs).elim (λe=>Yd e.symm h) id;rw[l6 (λx hx y' hy=>hg x (SN _ hx) y' (SN _ hy)) AQ]
theorem jO{R':Int->List Th}{h h':Th}{g:Int->Int}(hl:(aH R' h').length<=20)(hg:∀x∈aH R h,∀y∈aH R h,g x=g y->x=y)(hR:∀s∈aH R h,R' (g s)=(R s).map (ren g))(hh:h'=ren g h):cZ R' h'=cZ R h/\ce R' h'=ce R h:=by
 have Jr:∀x∈stT h,x∈aH R h:=λx hx=>(dJ R 21 _ 0).subset (be.mpr (.inr hx))
 have hM:aH R' h'=(aH R h).map g:=by
  have:=p7 hg hR 21 (aC [] (stT h)) 0 λx hx=>hx;unfold aH;rw[hh,qj];have e:aC [] ((stT h).map g)=(aC [] (stT h)).map g:=nK (m:=[]) hg (λx hx=>by cases hx) Jr;rw[e];exact this
 have KW:∀s∈aH R h,∀x∈aN (R s),x∈aH R h:=gM 21 _ 0 (by show(aH R h).length<0+21;rw[hM,Sl]at hl;lia) λj s hj=>Yd hj (WY _)
 have hi:∀s∈aH R h,idx (aH R' h') (g s)=idx (aH R h) s:=λs hs=>by
  rw[hM];unfold idx;rw[l6 hg hs]
 have key:∀t:Th,(∀x∈stT t,x∈aH R h)->ren (idx (aH R' h')) (ren g t)=ren (idx (aH R h)) t:=λt ht=>by
  rw[qh];exact i3 t λs hs=>hi s (ht s hs)
 refine⟨?_,?_⟩
 .unfold cZ;rw[hh]at hM hi key |-;exact key h Jr
 .unfold ce
  conv=>lhs;rw[hM]
  rw[Ur];refine Ux λs hs=>?_;show(R' (g s)).map _=_;rw[hR s hs,Ur];refine Ux λt ht=>?_;have:=key t λx hx=>KW s hs x (du ht hx);rw[<-this];show ren (idx ((aH R h).map g)) (ren g t)=_;rw[<-hM]
theorem bt{e:Int->Int->Int}{t:Th}{s k:Int}(h:k.toNat=0):bL (dI e pat [t]) s k=bc e pat t s:=by
 rw[bE];exact cQ (by rw[h];rfl)
theorem cP{e:Int->Int->Int}{t:Th}{s k:Int}(h:¬k.toNat=0):bL (dI e pat [t]) s k=nq:=by
 rw[bE];exact dB (List.getElem?_eq_none_iff.mpr (by show 1<=k.toNat;lia))
theorem ie{h:Th}(hl:(aH R h).length<=20):∀s∈aH R h,∀x∈aN (R s),x∈aH R h:=gM 21 _ 0 (Wq hl (by decide)) λj s hj=>Yd hj (WY _)
theorem jP{h:Th}:∀x∈stT h,x∈aH R h:=λx hx=>(dJ R 21 _ 0).subset (be.mpr (.inr hx))
def e1(c x:Int):Int:=1000000 * c+x
theorem rM{s l:Int}(h0:0<=l)(h1:l<1000000):e1 s l / 1000000=s:=by unfold e1;lia
theorem mx{s l:Int}(h0:0<=l)(h1:l<1000000):e1 s l%1000000=l:=by unfold e1;lia
theorem gX{s l:Int}(h0:0<=l)(h1:l<1000):enc s l / 1000=s:=by unfold enc;lia
theorem mJ{s l:Int}(h0:0<=l)(h1:l<1000):enc s l%1000=l:=by unfold enc;lia
theorem d4{l:Int}(h:l<S)(hS:S<=1000):l<1000:=Xx h hS
def gE(ins:List (SG×Int))(R:Int->List Th)(s:Int)(n:SG):Th:=(R s).getD ((ins.map (·.1)).idxOf n) nq
theorem qk{s:Int}{n:SG}{x:Int}(h:x∈stT (gE ins R s n)):x∈aN (R s):=by
 unfold gE at h;rw[Ul]at h;cases e:(R s)[(ins.map (·.1)).idxOf n]? with
 | none =>
   rw[e]at h;have:x∈([]:List Int):=h;cases this
 | some t =>
   rw[e]at h;exact du (Sv e) h
theorem p5{h:Th}{s:Int}(hs:s∈aH R h):rowOf (ce R h) (idx (aH R h) s)=(R s).map (ren (idx (aH R h))):=by
 unfold rowOf ce;rw[Ul,Sx,mU hs];rfl
theorem lw{h:Th}{s:Int}(hs:s∈aH R h)(n:SG):aA ins (ce R h) (idx (aH R h) s) n=ren (idx (aH R h)) (gE ins R s n):=by
 unfold aA gE;rw[p5 hs,Ul,Ul,Sx];cases(R s)[(ins.map (·.1)).idxOf n]? with
 |none=>exact(fL _).symm
 |some t=>rfl
theorem jD(mid:List (SG×Int))(f' xO:List (List Th))(s:Int):joR mid f' xO s=(rowOf xO (s%1000)).map λt=>bc enc (aA mid f') t (s / 1000):=by
 unfold joR;refine Ux λt _=>?_;rw[dW,nQ]
theorem iq(mid:List (SG×Int))(f':List (List Th))(xQ xR:Th):joH mid f' xQ xR=xQ.fill (bL (dI enc (aA mid f') [xR])):=by
 unfold joH made;rw[cB];rfl
section
variable{k0 k1 k2 k3:List (SG×Int)}{SA SB SC:Int}{a0 b0 c0:Th}{rowsA rowsB rowsC:List (List Th)}
theorem assoc(g1:aB k1)(hB:fc k1 k2 SB rowsB)(F2:SB<=1000):∀(n:Nat){C:Int}(t:Th),t.size<=n->t.FitS k1 SA C->∀b c,0<=b->b<SB->bc e1 (aA k2 rowsC) (bc enc (aA k1 rowsB) t b) c=bc enc (gE k1 (joR k2 rowsC rowsB)) t (enc c b)
 |0,C,t,hn,_,_,_,_,_=>by have:=t.size_pos;lia
 | n+1,C,.call l h,_,_,b,c,_,_=>by
   rw[bc,bc,bc];unfold e1 enc;congr 1;lia
 | n+1,C,.knot nm ts,hn,hf,b,c,h0,h1=>by
   rw[Zh]at hf;rw[Zi]at hn;obtain⟨j,hj⟩:=Tg.mp hf.1;obtain⟨row,hr,er,hlen,_⟩:=cq hB h0 h1;have zb:=(glE hj);obtain⟨p,hp⟩:∃p,row[j]?=A? p:=⟨_,Sn (by rw[hlen];exact zb)⟩;have KY:=(hB.row row (Sv hr)).2 j p _ hp hj;have Az:=gW g1 hr hj hp
   have F3:(k1.map (·.1)).idxOf nm=j:=by
    have h2:(k1.map (·.1))[j]?=A? nm:=by rw[Sx,hj];rfl
    obtain⟨hl,he⟩:=T2.mp h2;rw[<-he];exact List.Nodup.idxOf_getElem (ji g1) j hl
   have Py:gE k1 (joR k2 rowsC rowsB) (enc c b) nm=bc enc (aA k2 rowsC) p c:=by
    unfold gE;rw[F3,jD,Ul,Sx,mJ h0 (d4 h1 F2),gX h0 (d4 h1 F2),er,hp];rfl
   rw[bc,bc,Az,Py];refine gQ (λs k c' s0 s1 RJ RK=>?_) p KY c
   have yb:k.toNat<ts.length:=by
    have:(ts.length:Int)=(((nm,(ts.length:Int)):SG×Int)).2:=rfl;lia
   have hk:=Sn yb;have zo:=Uk yb;have hsz:=i7 zo;rw[bE,bE,cQ (f:=bc enc (aA k1 rowsB) ts[k.toNat]) (gmE hk),cQ (f:=bc enc (gE k1 (joR k2 rowsC rowsB)) ts[k.toNat]) (gmE hk)];exact assoc g1 hB F2 n _ (by lia) (FitSs.mem' hf.2 _ zo) s c' s0 s1
theorem oQ{hAB hBC:Th}{RAB RBC:Int->List Th}{MA MB:List Int}(F4:aH RAB hAB=MA)(F5:aH RBC hBC=MB)(KZ:hAB=b0.fill (bL (dI enc (aA k1 rowsB) [a0])))(K0:hBC=c0.fill (bL (dI enc (aA k2 rowsC) [b0])))(K1:joR k1 rowsB rowsA=RAB)(Hd:joR k2 rowsC rowsB=RBC)
 (F6:SA<=1000) (F2:SB<=1000) (Nr:aB k1) (hB:fc k1 k2 SB rowsB) (hA:fc k0 k1 SA rowsA) (Pz:MA.length<=20) (PB:MB.length<=20) (Js:∀x∈MA,PairOk SB SA x)
 (lL:(aH (joR k2 rowsC (ce RAB hAB)) (joH k2 rowsC c0 (cZ RAB hAB))).length<=20) (lR:(aH (joR k1 (ce RBC hBC) rowsA) (joH k1 (ce RBC hBC) (cZ RBC hBC) a0)).length<=20) (Nt:a0.FitS k1 SA 1) (PC:b0.FitS k2 SB 1) :
 cZ (joR k2 rowsC (ce RAB hAB)) (joH k2 rowsC c0 (cZ RAB hAB))=cZ (joR k1 (ce RBC hBC) rowsA) (joH k1 (ce RBC hBC) (cZ RBC hBC) a0) /\
 ce (joR k2 rowsC (ce RAB hAB)) (joH k2 rowsC c0 (cZ RAB hAB))=ce (joR k1 (ce RBC hBC) rowsA) (joH k1 (ce RBC hBC) (cZ RBC hBC) a0):=by
 have Nu:∀s∈MA,∀x∈aN (RAB s),x∈MA:=by rw[<-F4];exact ie (by rw[F4];exact Pz)
 have PD:∀s∈MB,∀x∈aN (RBC s),x∈MB:=by rw[<-F5];exact ie (by rw[F5];exact PB)
 have Nv:∀x∈stT hAB,x∈MA:=by rw[<-F4];exact jP
 have Nw:∀x∈stT hBC,x∈MB:=by rw[<-F5];exact jP
 have Jt:∀s,s∈MB->∀n,∀x∈stT (gE k1 RBC s n),x∈MB:=λs hs n x hx=>PD s hs x (qk hx)
 have Ju:∀x∈MA,0<=x/\x<1000000:=λx hx=>by
  obtain⟨a,b,c,d⟩:=Js x hx;lia
 have nA:cZ RAB hAB=ren (idx MA) hAB:=by unfold cZ;rw[F4]
 have nB:cZ RBC hBC=ren (idx MB) hBC:=by unfold cZ;rw[F5]
 have iA:∀x∈MA,0<=idx MA x/\idx MA x<1000:=λx hx=>by
  have:=pj hx;lia
 have iB:∀x∈MB,0<=idx MB x/\idx MB x<1000:=λx hx=>by
  have:=pj hx;lia
 obtain⟨HT,EW⟩:∃HT,HT=c0.fill (bL (dI e1 (aA k2 rowsC) [hAB])):=⟨_,rfl⟩;obtain⟨RT,K2⟩:∃RT:Int->List Th,RT=λy=>(RAB (y%1000000)).map λt=>bc e1 (aA k2 rowsC) t (y / 1000000):=⟨_,rfl⟩
 have Nx:HT=hBC.fill (bL (dI enc (gE k1 RBC) [a0])):=by
  rw[EW,K0,dP];congr 1;funext s k;by_cases hk:k.toNat=0
  .rw[bt hk,bt hk,KZ];refine gQ (λs2 PF c s0 s1 q0 q1=>?_) b0 PC s;have yM:PF.toNat=0:=by lia
   rw[bt yM,bt yM,<-Hd];exact assoc Nr hB F2 _ a0 (Su _) Nt s2 c s0 s1
  .rw[cP hk,cP hk,f7]
 have Ny:∀y,y%1000000∈MA->RT y=(rowOf rowsA (y%1000)).map λt=>bc enc (gE k1 RBC) t (y / 1000):=λy hy=>by
  obtain⟨a1,a2,a3,a4⟩:=Js _ hy;rw[K2];show(RAB (y%1000000)).map _=_;rw[<-K1,jD,Ur,show y%1000000%1000=y%1000 by lia];refine Ux λt ht=>?_;obtain⟨row,hr,er,hlen,K3⟩:=cq hA (l:=y%1000) (by lia) (by lia);rw[er]at ht;obtain⟨C,hC⟩:=K3 t ht;show bc e1 _ (bc enc _ t (y%1000000 / 1000)) (y / 1000000)=_;rw[assoc (SA:=SA) Nr hB F2 _ t (Su _) hC _ _ a1 a2,Hd];congr 1;unfold enc;lia
 have Nz:∀l,0<=l->l<SA->∀t∈rowOf rowsA l,∀x∈stT t,0<=x/\x<SA:=λl h0 h1 t ht x hx=>by
  obtain⟨row,hr,er,hlen,K3⟩:=cq hA h0 h1;rw[er]at ht;obtain⟨C,hC⟩:=K3 t ht;exact fy hC x hx
 have He:∀x∈stT a0,0<=x/\x<SA:=λx hx=>fy Nt x hx
 have Hf:∀t s x,x∈stT (bc e1 (aA k2 rowsC) t s)->∃s' l,l∈stT t/\x=e1 s' l:=λt s x hx=>by
  obtain⟨s',l,_,h2,h3⟩:=mP (q:=λ_=>True) (λ_ _ _ _ _=>trivial) _ t (Su _) s trivial x hx;exact⟨s',l,h2,h3⟩
 have DU:∀{e:Int->Int->Int}{pat:Int->SG->Th}{t:Th}{s k x:Int},x∈stT (bL (dI e pat [t]) s k)->x∈stT (bc e pat t s):=λ{e pat t s k x}hx=>by
  by_cases hk:k.toNat=0
  .rw[bt hk]at hx;exact hx
  .rw[cP hk]at hx;have:x∈([]:List Int):=hx;cases this
 have F7:∀y∈aH RT HT,y%1000000∈MA/\y / 1000∈MB:=by
  refine jc RT (λy=>y%1000000∈MA/\y / 1000∈MB) (λy⟨zD,Jv⟩x hx=>?_) _ _ _ λx hx=>?_
  .refine⟨?_,?_⟩
   .rw[K2]at hx;obtain⟨t,ht,hx⟩:=Vc.mp hx;obtain⟨u,hu,rfl⟩:=Tj.mp ht;obtain⟨s',l,hl,rfl⟩:=Hf _ _ _ hx;have hm:=Nu _ zD l (du hu hl);have:=Ju l hm;rw[mx this.1 this.2];exact hm
   .rw[Ny y zD]at hx;obtain⟨t,ht,hx⟩:=Vc.mp hx;obtain⟨u,hu,rfl⟩:=Tj.mp ht;obtain⟨s',l,AQ,hl,rfl⟩:=mP (q:=λs=>s∈MB) Jt _ u (Su _) _ Jv x hx;obtain⟨a1,a2,a3,a4⟩:=Js _ zD;have:=Nz (y%1000) (by lia) (by lia) u hu l hl;rw[gX this.1 (d4 this.2 F6)];exact AQ
  .have hx:x∈stT HT:=(be.mp hx).elim (λz=>by cases z) id;refine⟨?_,?_⟩
   .rw[EW]at hx;refine iu (p:=λx=>x%1000000∈MA) c0 (λs _ k x hx=>?_) x hx;obtain⟨s',l,hl,rfl⟩:=Hf _ _ _ (DU hx);have hm:=Nv l hl;have:=Ju l hm;rw[mx this.1 this.2];exact hm
   .rw[Nx]at hx;refine iu (p:=λx=>x / 1000∈MB) hBC (λs hs k x hx=>?_) x hx;obtain⟨s',l,AQ,hl,rfl⟩:=mP (q:=λs=>s∈MB) Jt _ a0 (Su _) s (Nw s hs) x (DU hx);have:=He l hl;rw[gX this.1 (d4 this.2 F6)];exact AQ
 have L:=jO (R:=RT) (h:=HT) (g:=λy=>1000 * (y / 1000000)+idx MA (y%1000000)) lL (λx hx y hy e=>by
  have yf:=(F7 x hx).1;have Aq:=(F7 y hy).1;have h1:=iA _ yf;have h2:=iA _ Aq;have e':1000 * (x / 1000000)+idx MA (x%1000000)=1000 * (y / 1000000)+idx MA (y%1000000):=e;have h3:idx MA (x%1000000)=idx MA (y%1000000):=by lia
  have h4:=pY yf Aq h3;lia) (λy hy=>by
  have Aq:=(F7 y hy).1;have h1:=iA _ Aq;show joR k2 rowsC (ce RAB hAB) (1000 * (y / 1000000)+idx MA (y%1000000))=_;rw[jD,show(1000 * (y / 1000000)+idx MA (y%1000000))%1000=idx MA (y%1000000)by lia,show(1000 * (y / 1000000)+idx MA (y%1000000)) / 1000=y / 1000000 by lia];have yx:=p5 (R:=RAB) (h:=hAB) (s:=y%1000000) (by rw[F4];exact Aq);rw[F4]at yx;rw[yx,K2,Ur,Ur];refine Ux λt ht=>?_
  exact ir _ t (Su _) (λs l hl=>by
   have hb:=Ju l (Nu _ Aq l (du ht hl));show 1000 * (e1 s l / 1000000)+idx MA (e1 s l%1000000)=enc s (idx MA l);rw[rM hb.1 hb.2,mx hb.1 hb.2];rfl) _) (by
  rw[iq,nA,EW,gS];congr 1;funext s k;by_cases hk:k.toNat=0
  .rw[bt hk,bt hk]
   exact ir _ hAB (Su _) (λs l hl=>by
    have hb:=Ju l (Nv l hl);show 1000 * (e1 s l / 1000000)+idx MA (e1 s l%1000000)=enc s (idx MA l);rw[rM hb.1 hb.2,mx hb.1 hb.2];rfl) s
  .rw[cP hk,cP hk,fL])
 have NA:∀s,s∈MB->∀n,aA k1 (ce RBC hBC) (idx MB s) n=ren (idx MB) (gE k1 RBC s n):=λs hs n=>by
  have:=lw (ins:=k1) (R:=RBC) (h:=hBC) (s:=s) (by rw[F5];exact hs) n;rw[F5]at this;exact this
 have R:=jO (R:=RT) (h:=HT) (g:=λy=>1000 * idx MB (y / 1000)+y%1000) lR (λx hx y hy e=>by
  have yf:=(F7 x hx).2;have Aq:=(F7 y hy).2;have h1:=iB _ yf;have h2:=iB _ Aq;have e':1000 * idx MB (x / 1000)+x%1000=1000 * idx MB (y / 1000)+y%1000:=e;have h3:idx MB (x / 1000)=idx MB (y / 1000):=by lia
  have h4:=pY yf Aq h3;lia) (λy hy=>by
  obtain⟨zD,Jv⟩:=F7 y hy;have h1:=iB _ Jv;obtain⟨a1,a2,a3,a4⟩:=Js _ zD;show joR k1 (ce RBC hBC) rowsA (1000 * idx MB (y / 1000)+y%1000)=_;rw[jD,show(1000 * idx MB (y / 1000)+y%1000)%1000=y%1000 by lia,show(1000 * idx MB (y / 1000)+y%1000) / 1000=idx MB (y / 1000)by lia,Ny y zD,Ur];refine Ux λt ht=>?_
  exact hG (q:=λs=>s∈MB) Jt NA _ t (Su _) (λs hs l hl=>by
   have:=Nz (y%1000) (by lia) (by lia) t ht l hl;show 1000 * idx MB (enc s l / 1000)+enc s l%1000=enc (idx MB s) l;rw[gX this.1 (d4 this.2 F6),mJ this.1 (d4 this.2 F6)];rfl) _ Jv) (by
  rw[iq,nB,Nx,gS,kW];refine fe _ λs hs k=>?_;by_cases hk:k.toNat=0
  .rw[bt hk,bt hk]
   exact hG (q:=λs=>s∈MB) Jt NA _ a0 (Su _) (λs hs l hl=>by
    have:=He l hl;show 1000 * idx MB (enc s l / 1000)+enc s l%1000=enc (idx MB s) l;rw[gX this.1 (d4 this.2 F6),mJ this.1 (d4 this.2 F6)];rfl) s (Nw s hs)
  .rw[cP hk,cP hk,fL])
 exact⟨L.1.trans R.1.symm,L.2.trans R.2.symm⟩
end
section
variable{mid:List (SG×Int)}{S2:Int}{xR xQ:Th}{xO f':List (List Th)}{Po Pp Pq Pr Pt Pu Pw:Nat}
end
theorem hid{G:Prop}(k:∀F:Prop,(G->F)->F):G:=k G id
inductive Ex1{A0:Type}(p:A0->Prop):Prop
 |mk (x0:A0) (h:p x0):Ex1 p
inductive Ex2{A0 A1:Type}(p:A0->A1->Prop):Prop
 |mk (x0:A0) (x1:A1) (h:p x0 x1):Ex2 p
inductive Ex3{A0 A1 A2:Type}(p:A0->A1->A2->Prop):Prop
 |mk (x0:A0) (x1:A1) (x2:A2) (h:p x0 x1 x2):Ex3 p
inductive Ex4{A0 A1 A2 A3:Type}(p:A0->A1->A2->A3->Prop):Prop
 |mk (x0:A0) (x1:A1) (x2:A2) (x3:A3) (h:p x0 x1 x2 x3):Ex4 p
inductive Ex5{A0 A1 A2 A3 A4:Type}(p:A0->A1->A2->A3->A4->Prop):Prop
 |mk (x0:A0) (x1:A1) (x2:A2) (x3:A3) (x4:A4) (h:p x0 x1 x2 x3 x4):Ex5 p
inductive Ex6{A0 A1 A2 A3 A4 A5:Type}(p:A0->A1->A2->A3->A4->A5->Prop):Prop
 |mk (x0:A0) (x1:A1) (x2:A2) (x3:A3) (x4:A4) (x5:A5) (h:p x0 x1 x2 x3 x4 x5):Ex6 p
inductive Ex7{A0 A1 A2 A3 A4 A5 A6:Type}(p:A0->A1->A2->A3->A4->A5->A6->Prop):Prop
 |mk (x0:A0) (x1:A1) (x2:A2) (x3:A3) (x4:A4) (x5:A5) (x6:A6) (h:p x0 x1 x2 x3 x4 x5 x6):Ex7 p
inductive Ex9{A0 A1 A2 A3 A4 A5 A6 A7 A8:Type}(p:A0->A1->A2->A3->A4->A5->A6->A7->A8->Prop):Prop
 |mk (x0:A0) (x1:A1) (x2:A2) (x3:A3) (x4:A4) (x5:A5) (x6:A6) (x7:A7) (x8:A8) (h:p x0 x1 x2 x3 x4 x5 x6 x7 x8):Ex9 p
inductive An2(a0 a1:Prop):Prop
 |mk (h0:a0) (h1:a1):An2 a0 a1
inductive An3(a0 a1 a2:Prop):Prop
 |mk (h0:a0) (h1:a1) (h2:a2):An3 a0 a1 a2
inductive An4(a0 a1 a2 a3:Prop):Prop
 |mk (h0:a0) (h1:a1) (h2:a2) (h3:a3):An4 a0 a1 a2 a3
inductive An5(a0 a1 a2 a3 a4:Prop):Prop
 |mk (h0:a0) (h1:a1) (h2:a2) (h3:a3) (h4:a4):An5 a0 a1 a2 a3 a4
inductive An6(a0 a1 a2 a3 a4 a5:Prop):Prop
 |mk (h0:a0) (h1:a1) (h2:a2) (h3:a3) (h4:a4) (h5:a5):An6 a0 a1 a2 a3 a4 a5
inductive An7(a0 a1 a2 a3 a4 a5 a6:Prop):Prop
 |mk (h0:a0) (h1:a1) (h2:a2) (h3:a3) (h4:a4) (h5:a5) (h6:a6):An7 a0 a1 a2 a3 a4 a5 a6
inductive An8(a0 a1 a2 a3 a4 a5 a6 a7:Prop):Prop
 |mk (h0:a0) (h1:a1) (h2:a2) (h3:a3) (h4:a4) (h5:a5) (h6:a6) (h7:a7):An8 a0 a1 a2 a3 a4 a5 a6 a7
inductive An9(a0 a1 a2 a3 a4 a5 a6 a7 a8:Prop):Prop
 |mk (h0:a0) (h1:a1) (h2:a2) (h3:a3) (h4:a4) (h5:a5) (h6:a6) (h7:a7) (h8:a8):An9 a0 a1 a2 a3 a4 a5 a6 a7 a8
inductive qm(a0 a1 a2 a3 a4 a5 a6 a7 a8 a9:Prop):Prop
 |mk (h0:a0) (h1:a1) (h2:a2) (h3:a3) (h4:a4) (h5:a5) (h6:a6) (h7:a7) (h8:a8) (h9:a9):qm a0 a1 a2 a3 a4 a5 a6 a7 a8 a9
inductive wF(a0 a1 a2 a3 a4 a5 a6 a7 a8 a9 Hg:Prop):Prop
 |mk (h0:a0) (h1:a1) (h2:a2) (h3:a3) (h4:a4) (h5:a5) (h6:a6) (h7:a7) (h8:a8) (h9:a9) (PH:Hg):wF a0 a1 a2 a3 a4 a5 a6 a7 a8 a9 Hg
inductive vy(a0 a1 a2 a3 a4 a5 a6 a7 a8 a9 Hg NB:Prop):Prop
 |mk (h0:a0) (h1:a1) (h2:a2) (h3:a3) (h4:a4) (h5:a5) (h6:a6) (h7:a7) (h8:a8) (h9:a9) (PH:Hg) (RL:NB):vy a0 a1 a2 a3 a4 a5 a6 a7 a8 a9 Hg NB
end BB
namespace L2
open PySem PySem.Spec PyProof.Rows
end L2
namespace BB
open PySem L2
def eE(m:Int):List Th:=(UE m.toNat).map λi=>.call 0 (i:Nat)
def cH(ks:List (SG×Int)):List Th:=ks.map λk=>.knot k.1 (eE k.2)
theorem kK{m:Int}(h0:0<=c)(h1:c<m):(eE m)[c.toNat]?=A? (.call 0 c):=by
 unfold eE;rw[Sx,List.getElem?_range (by lia)];show A? (Ym 0 ((c.toNat:Nat):Int))=_;rw[Uy h0]
theorem kE(m:Int):(eE m).length=m.toNat:=by unfold eE;rw[Sl,List.length_range]
theorem gg{ks:List (SG×Int)}{k:SG×Int}(h:ks[j]?=A? k):(cH ks)[j]?=A? (.knot k.1 (eE k.2)):=by
 unfold cH;rw[Sx,h];rfl
theorem oA{ks:List (SG×Int)}:∀{ts:List Th},(∀t∈ts,t.FitS ks S C)->FitSs ks S C ts
 | [],_=>by rw[FitSs];trivial
 | t::ts,h=>by
   rw[FitSs];exact⟨h t (SU ..),oA λu hu=>h u (SN _ hu)⟩
theorem pd{ks:List (SG×Int)}{m:Int}:FitSs ks 1 m (eE m):=oA λt ht=>by
 unfold eE at ht;obtain⟨i,hi,rfl⟩:=Tj.mp ht;rw[Wr]at hi;rw[Zh];lia
theorem pQ{ks:List (SG×Int)}(g:aB ks):fc ks ks 1 [cH ks]:=by
 refine⟨D?,λrow hr=>?_⟩;rw[Sz.mp hr];refine⟨by unfold cH;rw[Sl],λj p k hp hk=>?_⟩;rw[gg hk]at hp;cases hp;have h2:=(g.num k (Sv hk)).1;rw[Zh,kE,Uy h2];exact⟨Sv hk,pd⟩
theorem sg(l:Int):enc 0 l=l:=by unfold enc;lia
theorem wL(s:Int):enc s 0=1000 * s:=by unfold enc;lia
theorem mQ(g:aB outs):∀(n:Nat){C:Int}(t:Th),t.size<=n->t.FitS outs S C->fO (aA outs [cH outs]) t 0=t
 |0,_,t,hn,_=>by have:=t.size_pos;lia
 |n+1,C,.call l h,_,_=>by rw[eM,sg]
 | n+1,C,.knot nm ts,hn,hf=>by
   rw[Zh]at hf;obtain⟨j,hj⟩:=Tg.mp hf.1;have hp:aA outs [cH outs] 0 nm=.knot nm (eE (ts.length:Int)):=gW g (s:=0) (row:=cH outs) rfl hj (gg hj);rw[gb,hp,dR];congr 1;refine Wz λi=>?_;rw[Sx];by_cases hi:i<ts.length
   .have h1:=kK (m:=(ts.length:Int)) (c:=(i:Int)) (by lia) (by lia);rw[Ut]at h1;have h2:=Sn hi;rw[h1,h2];have zo:=Uk hi;have hsz:=i7 zo;rw[Zi]at hn;show A? (made _ _ _)=_;rw[eX (k:=.knot nm ts) (k':=ts[i]) _ (by rw[Ut];exact h2),mQ g n ts[i] (by lia) (FitSs.mem' hf.2 _ zo)]
   .rw[T9 (by rw[kE];lia),T9 (by lia)];rfl
theorem oi{m:Int}{ks:List Th}(hk:∀c:Int,0<=c->c<m->ks[c.toNat]?=A? (.call 0 c))(hp:p.FitS outs S m):p.fill (bL (cS pat ks))=ren (λs=>1000 * s) p:=by
 unfold ren;refine jl p hp λs c h0 h1 h2 h3=>?_;rw[fZ,cQ (f:=fO pat (.call 0 c)) (by rw[Sx,hk c h2 h3];rfl),eM,wL]
mutual
theorem iW:∀t:Th,ren (λs=>s) t=t
 |.call s k=>by rw[bT]
 |.knot n ts=>by rw[cG,qb ts]
theorem qb:∀ts:List Th,ts.map (ren λs=>s)=ts
 | []=>rfl
 |t::ts=>by rw[Tb,iW t,qb ts]
end
theorem l5(go:aB outs){t:Th}(h:t.FitS outs S C)(ht:t.tall<=5):Small (ren (λs=>1000 * s) t):=by
 have hf:(ren (λs=>1000 * s) t).FitS outs (1000 * S) C:=hI _ (λs c h0 h1 h2 h3=>by rw[Zh];dsimp only;lia) t h;have h1:(ren (λs=>1000 * s) t).tall<=5:=by rw[(g5 _ t).2];exact ht
 exact kL go hf (by lia) (Td (jH _) h1)
section
variable{head:Th}{rows:List (List Th)}
theorem BookOk.rowAt(ok:BookOk ins outs S d head rows){l:Int}(h0:0<=l)(h1:l<S):∃row,rows[l.toNat]?=A? row/\rowOf rows l=row/\row.length=ins.length/\∀t∈row,∃C,t.FitS outs S C/\t.tall<=d+1:=by
 obtain⟨row,hr,e,hl,_⟩:=cq ok.fitB h0 h1;refine⟨row,hr,e,hl,λt ht=>?_⟩;obtain⟨j,hj⟩:=Tg.mp ht;have zb:=(glE hj);exact⟨_,(ok.row row (Sv hr)).fit j t _ hj (Sn (by lia))⟩
theorem BookOk.metR_rng(ok:BookOk ins outs S d head rows):∀s∈aH (rowOf rows) head,0<=s/\s<S:=by
 have hh:∀s∈stT head,0<=s/\s<S:=fy ok.hdf;refine jc _ (λs=>0<=s/\s<S) (λs hs x hx=>?_) _ _ _ λx hx=>(be.mp hx).elim (λz=>by cases z) (hh x);obtain⟨row,_,e,_,hf⟩:=ok.rowAt hs.1 hs.2;rw[e]at hx;obtain⟨t,ht,hx⟩:=Vc.mp hx;obtain⟨C,hC,_⟩:=hf t ht;exact fy hC x hx
theorem pO(go:aB outs)(ok:BookOk ins outs S d head rows):joH outs [cH outs] (.call 0 0) head=head:=by
 unfold joH;rw[dW];exact mQ go _ head (Su _) ok.hdf
theorem kJ(gi:aB ins)(go:aB outs)(ok:BookOk ins outs S d head rows)(hd:d<=4)(hS:S<=20):JoinOk ins outs outs S 1 head (.call 0 0) rows [cH outs]:=by
 refine⟨go,gi.le,ok.fitB,pQ go,ok.hdf,eU (by decide) (by decide),by lia,by lia,?_,λl st h0 h1 g0 g1 t ht=>?_⟩
 .rw[pO go ok];have:=ok.hdt;exact kL go ok.hdf (by lia) (by have:=jH head;lia)
 .obtain⟨row,_,e,_,hf⟩:=ok.rowAt h0 h1;rw[e]at ht;obtain⟨C,hC,F8⟩:=hf t ht;obtain rfl:st=0:=by lia
  rw[dW,mQ go _ t (Su _) hC];exact kL go hC (by lia) (by have:=jH t;lia)
theorem rB(gi:aB ins)(go:aB outs)(ok:BookOk ins outs S d head rows)(hd:d<=4)(hS:S<=20):cZ (joR outs [cH outs] rows) (joH outs [cH outs] (.call 0 0) head)=fA head rows/\ce (joR outs [cH outs] rows) (joH outs [cH outs] (.call 0 0) head)=iz head rows:=by
 refine jO (R:=rowOf rows) (h:=head) (g:=λs=>s) (kJ gi go ok hd hS).len (λx _ y _ e=>e) (λs hs=>?_) (by rw[pO go ok,iW]);obtain⟨h0,h1⟩:=ok.metR_rng s hs;have e1:s%1000=s:=by lia
 have e2:s / 1000=0:=by lia
 unfold joR;rw[e1,e2];obtain⟨row,_,e,_,hf⟩:=ok.rowAt h0 h1;rw[e];refine Ux λt ht=>?_;obtain⟨C,hC,_⟩:=hf t ht;rw[dW,mQ go _ t (Su _) hC,iW]
theorem pX(ok:BookOk ins outs S d head rows):joH ins rows head (.call 0 0)=ren (λs=>1000 * s) head:=by
 unfold joH made;refine oi (λc h0 h1=>?_) ok.hdf;obtain rfl:c=0:=by lia
 rfl
theorem p6(ok:BookOk ins outs S d head rows)(gi:aB ins){s:Int}(h0:0<=s)(h1:s<S){k:SG×Int}(hk:ins[j]?=A? k):∃t,(rowOf rows s)[j]?=A? t/\t.FitS outs S k.2/\t.tall<=d+1/\fO (aA ins rows) (.knot k.1 (eE k.2)) s=ren (λs=>1000 * s) t:=by
 obtain⟨row,hr,e,hl,_⟩:=ok.rowAt h0 h1;have zb:j<row.length:=by rw[hl];exact(glE hk)
 have hj:=Sn zb;obtain⟨f1,f2⟩:=(ok.row row (Sv hr)).fit j _ k hj hk;refine⟨row[j],by rw[e];exact hj,f1,f2,?_⟩;rw[gb,gW gi hr (m:=k.2) hk hj];exact oi (λc a b=>kK a b) f1
theorem gA(gi:aB ins)(go:aB outs)(ok:BookOk ins outs S d head rows)(hd:d<=4)(hS:S<=20):JoinOk ins ins outs 1 S (.call 0 0) head [cH ins] rows:=by
 refine⟨gi,gi.le,pQ gi,ok.fitB,eU (by decide) (by decide),ok.hdf,by decide,by lia,?_,λl st h0 h1 g0 g1 t ht=>?_⟩
 .rw[pX ok];have:=ok.hdt;exact l5 go ok.hdf (by lia)
 .obtain rfl:l=0:=by lia
  obtain⟨j,hj⟩:=Tg.mp (show t∈cH ins from ht);have zb:j<ins.length:=by have:=(glE hj);unfold cH at this;rwa [Sl]at this
  have hk:=Sn zb;rw[gg hk]at hj;cases hj;obtain⟨u,_,hu,F8,e⟩:=p6 ok gi g0 g1 hk;rw[dW,e];exact l5 go hu (by lia)
theorem nW(gi:aB ins)(go:aB outs)(ok:BookOk ins outs S d head rows)(hd:d<=4)(hS:S<=20):cZ (joR ins rows [cH ins]) (joH ins rows head (.call 0 0))=fA head rows/\ce (joR ins rows [cH ins]) (joH ins rows head (.call 0 0))=iz head rows:=by
 refine jO (R:=rowOf rows) (h:=head) (g:=λs=>1000 * s) (gA gi go ok hd hS).len (λx _ y _ e=>by lia) (λs hs=>?_) (pX ok);obtain⟨h0,h1⟩:=ok.metR_rng s hs;have e1:1000 * s%1000=0:=by lia
 have e2:1000 * s / 1000=s:=by lia
 unfold joR;rw[e1,e2];obtain⟨row,_,e,hl,_⟩:=ok.rowAt h0 h1;refine Wz λj=>?_;rw[Sx,Sx];show((cH ins)[j]?).map _=_;by_cases hj:j<ins.length
 .have hk:=Sn hj;obtain⟨u,hu,_,_,eu⟩:=p6 ok gi h0 h1 hk;rw[gg hk,hu];show A? (made _ _ _)=A? _;rw[dW,eu]
 .rw[T9 (by unfold cH;rw[Sl];lia),T9 (by rw[e];lia)];rfl
end
end BB
namespace L2
open PySem PySem.Spec PyProof.Rows
theorem oF{w:S0}{mb:SG->Option Sq}{k:Nat}{fa:So}{yz:List (So×So)}{xT:Sr}{vs:List Sq}
 (KX:K.In xT.heap) (Bt:xT.heap.Ns TR mg) (hb:xT.heap.Ns builtinsNs mb) (EX:∀x:SG,x≠"__name__"->mb x=Xm x) (K4:xT.heap.NoLimit) (hg:xT.gens=#[])
 (ha:xT.heap.get? a=A? {cls:=.type "list",data:=.seq vs.toArray}) (hi:IntsAre vs ns) (hl:ns.length<=SM) (hr:Room k callerA)
 (hC:∀p∈yz,Wn xT.heap p.1 p.2) (hT:∀p∈yz,xT.heap.get? p.2=A? (Vv #[])) (AR:∀p∈yz,xT.heap.BuiltinsAt mg p.2) (PJ:∀p∈yz,K.lookup p.2=Am)
 (F:∀base:TL,K.In base->base.Ns TR mg->(∀p∈yz,Lam mg base p.1 p.2)->FnOk P w K mg base CX k fa fd [x] sp) (Hh:∀(s:Sr)(u:Sq),BindsTo s fd ⟨[u],[]⟩ [(x,u)])
 (zc:∀H:Hp,SqL K H a (ns.map Yh)->(∀p∈yz,H p.2=A? (.tbl #[]))->sp [.ref a] H (λv _=>v=.bl B?) λ_ _ _=>False)
 (K5:∀H e s',CX [] H xT (λ_ _ _=>False) e s'->False) :
 VA (S7 P w) callerA (.call (.ref fa) ⟨[.ref a],[]⟩) (λr s'=>r=.ok (.ret (.bool B?))/\OldK xT.heap s'.1/\s'.os=xT.os/\Xz s'.gens) xT:=by
 have rv:=ma hi;have K6:=hi.length;have mT:∀{b:So},b∈yz.map (·.2)->∃p∈yz,p.2=b:=λh=>Tj.mp h;have K7:∀{b:So},b∈yz.map (·.2)->xT.heap.get? b=A? (Vv #[]):=λh=>by obtain⟨p,hp,rfl⟩:=mT h;exact hT p hp
 have NC:a∉yz.map (·.2):=λz=>by rw[K7 z]at ha;cases ha
 have core:∀H:Hp,(∀b,H b=Am\/(∃o xs,H b=A? (.frz o (.lst xs)))\/(b∈yz.map (·.2)/\H b=A? (.tbl #[])))->(∀p∈yz,H p.2=A? (.tbl #[]))->SqL K H a (ns.map Yh)->HOk P w H xT.heap->(∀b,H b≠Am->b=a\/b∈yz.map (·.2))->(H a≠Am->K.lookup a=Am) ->
  VA (S7 P w) callerA (.call (.ref fa) ⟨[.ref a],[]⟩) (λr s'=>r=.ok (.ret (.bool B?))/\OldK xT.heap s'.1/\s'.os=xT.os/\Xz s'.gens) xT:=by
  intro H hO EW hS hok hA hK;have zr:∀{b:So}{o:UD},xT.heap.get? b=A? o->H b=Am->(li xT.heap H).get? b=A? o:=λe n=>re e n
  have K8:∀{b:So}{o:UD},xT.heap.get? b=A? o->(∀xs n,o.data≠.seq xs n)->(∀xs,o.data≠.fields xs\/o.cls≠.none)->H b=none:=λ{b o}e d1 d2=>by
   cases q:H b with
   |none=>rfl
   | some u =>
     rcases hA b (by rw[q];simp)with e'|e'
     .subst e';rw[ha]at e;cases e;exact Yd rfl (d1 _ _)
     .rw[K7 e']at e;cases e;rcases d2 #[]with z|z
      .exact Yd rfl z
      .exact Yd rfl z
  have Jw:∀{b:So}{m:SG->Option Sq},xT.heap.Ns b m->(li xT.heap H).Ns b m:=λ{b m}⟨o,es,ep,e,d,r⟩=>⟨o,es,ep,zr e (K8 e (λxs n=>by rw[d];exactλz=>nomatch z) (λxs=>.inl (by rw[d];exactλz=>nomatch z))),d,r⟩
  have NF:K.In (li xT.heap H):=λb o e=>zr (KX b o e) (by
   cases q:H b with
   |none=>rfl
   | some u =>
     rcases hA b (by rw[q];simp)with e'|e'
     .subst e';rw[hK (by rw[q];simp)]at e;cases e
     .obtain⟨p,hp,rfl⟩:=mT e';rw[PJ p hp]at e;cases e)
  have hM:Mod K mg (li xT.heap H):=⟨NF,Jw Bt,⟨mb,Jw hb,EX⟩,let⟨mc,h1,h2⟩:=K4;⟨mc,Jw h1,h2⟩⟩
  have hL:∀p∈yz,Lam mg (li xT.heap H) p.1 p.2:=λp hp=>by
   refine⟨?_,?_⟩
   .obtain⟨o,PK,file,tf,flags,tg,PL,text,tt,e1,r1,r2,r3⟩:=hC p hp;exact⟨o,PK,file,tf,flags,tg,PL,text,tt,zr e1 (K8 e1 (λxs n=>by rw[r2];exactλz=>nomatch z) (λxs=>.inr (by rw[r1];exactλz=>nomatch z))),r1,r2,r3⟩
   .obtain⟨bm,o,h1,h2,h3,h4,h5,h6,h7,h8⟩:=AR p hp;exact⟨bm,o,h1,h2,h3,h4,zr h5 (K8 h5 (λxs n=>by rw[h8];exactλz=>nomatch z) (λxs=>.inl (by rw[h8];exactλz=>nomatch z))),h6,h7,h8⟩
  have e0:Env0 P w K mg (li xT.heap H) callerA [] xT H:=⟨rfl,hM,λb o e=>t6 e,Nat.le_of_eq (qE _ _),trivial,λb hb=>Yd (show b∈([]:List So)from hb) (by simp),hok,.of_eq hg⟩;refine VN ((F _ NF (Jw Bt) hL).run callerA [] xT H ⟨[.ref a],[]⟩ [.ref a] [.ref a] _ _ hr e0 (Hh xT (.ref a)) (.cons rfl .nil) (zc H hS EW)) λr s' h=>?_;cases r with
  |error e=>exact(K5 H e s' h).elim
  | ok fl =>
    cases fl with
    |next=>exact TH h
    |brk=>exact TH h
    |cont=>exact TH h
    | ret u =>
      obtain⟨v,H',os,bare,un,Hi,r',q⟩:=h;have q':v=.bl true:=q;subst q';obtain rfl:u=Value.bool true:=r';refine⟨D?,⟨λb o e=>?_,λb o e=>un.there b o e (by simp)⟩,os,bare⟩;cases q:H b with
      |none=>exact .inl (un.keep b o e q (by intro z;exact Yd (show b∈([]:List So)from z) (by simp)) (by simp))
      | some u =>
        rcases hO b with z|⟨ob,xs,z⟩|⟨PM,z⟩
        .rw[q]at z;cases z
        .have z2:=un.frzs b ob _ z;obtain⟨e1,_⟩:=hok b _ z;obtain⟨e2,_⟩:=Hi b _ z2;rw[e]at e1;cases e1;exact .inl e2
        .obtain⟨more,z2⟩:=un.tbls b _ z;have e2:s'.1.get? b=A? {cls:=.none,data:=.fields (#[]++more)}:=Hi b _ z2;obtain⟨p,hp,rfl⟩:=mT PM;rw[hT p hp]at e;cases e;exact .inr (.inl ⟨((hC p hp).tab (hT p hp)).isCodeTable,rfl,#[],more,rfl,e2⟩)
 have okT:∀(H:Hp)(b:So),b∈yz.map (·.2)->ObjOk P w H xT.heap b (.tbl #[]):=λ_ b hb=>K7 hb;cases hk:K.lookup a with
 | some o =>
   have e:=KX a o hk;rw[ha]at e;cases e;refine core (λb=>if b∈yz.map (·.2)then A? (.tbl #[])else Am) (λb=>?_) (λp hp=>Yb (Tj.mpr ⟨p,hp,rfl⟩)) (.inr ⟨_,vs.toArray,_,hk,rfl,rfl,rfl,by rw[SF,K6];exact hl,by simpa using rv⟩) (λb u z=>?_) (λb z=>?_) λz=>Yd (Za NC) z
   .by_cases hb:b∈yz.map (·.2)
    .exact .inr (.inr ⟨hb,Yb hb⟩)
    .exact .inl (Za hb)
   .by_cases hb:b∈yz.map (·.2)
    .have z':=(Yb hb).symm.trans z;cases z';exact okT _ _ hb
    .have z':=(Za hb).symm.trans z;cases z'
   .by_cases hb:b∈yz.map (·.2)
    .exact .inr hb
    .exact Yd (Za hb) z
 | none =>
   refine core (λb=>if b∈yz.map (·.2)then A? (.tbl #[])else if b=a then A? (.frz {cls:=.type "list",data:=.seq vs.toArray} (.lst (ns.map Yh)))else Am) (λb=>?_) (λp hp=>Yb (Tj.mpr ⟨p,hp,rfl⟩)) (.inl (.inr ⟨{cls:=.type "list",data:=.seq vs.toArray},(Za NC).trans (Yb rfl)⟩)) (λb u z=>?_) (λb z=>?_) λ_=>hk
   .by_cases hb:b∈yz.map (·.2)
    .exact .inr (.inr ⟨hb,Yb hb⟩)
    .by_cases zg:b=a
     .exact .inr (.inl ⟨_,_,(Za hb).trans (Yb zg)⟩)
     .exact .inl ((Za hb).trans (Za zg))
   .by_cases hb:b∈yz.map (·.2)
    .have z':=(Yb hb).symm.trans z;cases z';exact okT _ _ hb
    .have z':=(Za hb).symm.trans z;by_cases zg:b=a
     .have z2:=(Yb zg).symm.trans z';cases z2;subst zg;exact⟨ha,by rw[Sl];exact hl,vs,_,rv,ha⟩
     .have z2:=(Za zg).symm.trans z';cases z2
   .by_cases hb:b∈yz.map (·.2)
    .exact .inr hb
    .by_cases zg:b=a
     .exact .inl zg
     .exact Yd ((Za hb).trans (Za zg)) z
theorem qQ{l:PySem.W.OpenLaw}{k:Nat}{q:SH}{d:DefRec}{K:Params->Ss}{CX:S0->CXT}{sp:S0->List (So×So)->Sp}{tns:List SG}
 (hn:l.most=A? n) (FR:n<=SM) (hdf:d.params.defaults=[]) (hr:Room k callerA) (hq:∀t∈tns,∃dt,(recsOf q).find? (λe=>e.name == t)=A? dt)
 (hY:∀(w:S0)(h:TL),YP w h->(K w.params).In h)
 (F:∀(w:S0)(mg:SG->Option Sq)(fa:So)(h:TL),(K w.params).In h->h.Ns TR mg->mg d.name=A? (.ref fa) ->
  ∃(fd:Uu)(yz:List (So×So)),(∀(s:Sr)(u:Sq),BindsTo s fd ⟨[u],[]⟩ [(x,u)])/\(∀p∈yz,(∃t∈tns,V9 (K w.params) t=A? p)/\(K w.params).lookup p.2=Am) /\
    ∀base:TL,(K w.params).In base->base.Ns TR mg->(∀p∈yz,Lam mg base p.1 p.2)->FnOk l.prog w (K w.params) mg base (CX w) k fa fd [x] (sp w yz))
 (zc:∀(w:S0)(yz:List (So×So))(H:Hp)(a:So)(ns:List Int),ns.length<=n->SqL (K w.params) H a (ns.map Yh)->(∀p∈yz,H p.2=A? (.tbl #[]))->sp w yz [.ref a] H (λv _=>v=.bl B?) λ_ _ _=>False)
 (K5:∀(w:S0)(H:Hp)(s:Sr)(e:Sq)(s':Sr),CX w [] H s (λ_ _ _=>False) e s'->False) :
 PySem.W.WalkO q loose XP YP l.row.toRowW d [] (λf vs=>PySem.call f vs):=by
 refine Att.attach_call hn hdf λw s₀ xT mg mb fa o pm cd doc a vs ns G Y ho hd y9 J8 Eu hints hlen hg=>?_;have KX:=hY w _ Y;obtain⟨fd,yz,hb,ht,hF⟩:=F w mg fa _ KX G.T.g J8
 have K9:∀p∈yz,Wn xT.heap p.1 p.2/\xT.heap.get? p.2=A? (Vv #[]):=λp hp=>by
  obtain⟨⟨t,PN,F8⟩,_⟩:=ht p hp;obtain⟨dt,hdt⟩:=hq t PN;exact PySem.W.tab_of G.T KX hdt F8
 have AR:∀p∈yz,xT.heap.BuiltinsAt mg p.2:=λp hp=>by
  obtain⟨bm,ob,b1,b2,b3,b4,b5,b6⟩:=G.T.bmain;refine⟨bm,ob,b1,b2,λz=>?_,λz=>?_,b3,b4,b5,b6⟩
  .obtain⟨o',es,ep,e,d',_⟩:=G.T.g;rw[z,e]at b3;cases b3;rw[d']at b6;cases b6
  .rw[z,(K9 p hp).2]at b3;cases b3;cases b4
 exact oF KX G.T.g G.T.b G.T.builtins G.T.nolimit hg Eu hints (Td hlen FR) hr (λp hp=>(K9 p hp).1) (λp hp=>(K9 p hp).2) AR (λp hp=>(ht p hp).2) hF hb (λH hS EW=>zc w yz H a ns hlen hS EW) λH e s'=>K5 w H xT e s'
open PySem.Calls PySem.W
theorem ig{L e:So}{cls a0 fl:Sq}{Q:Unit->Sr->Prop}
 (DT:A.frames=A? (env::outer)) (hf:env.frame=A? L) (Jx:base.StaysIn s.1) (Hj:base.get? e=Am) (hl:s.1.FunFrames base (env::outer)) (ht:s.1.TracedAtW base e cls a0 fl)
 (hQ:∀h',Heap.FlyingW base outer e cls a0 h'->s.1.UpToSlots h'->Q () {s with heap:=h'}):SV M A (leaving env (.ref e)) Q E s:=by
 by_cases Jy:fl=Vi L
 .subst Jy;unfold leaving;refine Sm (wpAny_noteFrame_againW hf ht ?_);refine wpAny_landsW (base:=base) (l:=env::outer) (cls:=cls) (a0:=a0) (L:=L) ⟨Jx,Hj,hl,ht⟩ λh' Jy up=>?_;obtain⟨k1,k2,⟨_,_,k3⟩,k4⟩:=Jy;exact hQ h' ⟨k1,k2,k3,k4⟩ up
 .obtain⟨oe,vs,T,oT,ts,he,⟨AV,h0⟩,hd,h1,EY,F9,hT,By,h3⟩:=ht;subst AV;unfold leaving Xd;simp only[hf];refine Sm (Sm (Uo he hd h1 ?_));rw[Yb (show(TF T != Ud)=B? from by simp)];refine Sm (Uo hT By h3 ?_);rw[Za (show¬((fl == Vi L)=B?)fromλz=>Jy (beq_iff_eq.mp z))];refine Sm (VB hT By (Uv.mp h3).1 ?_);have other:∀b,b≠T->(s.1.update T (W8 (·.setIfInBounds 3 Ud))).get? b=s.1.get? b:=λb hb=>T4 _ _ (UA hb)
  have yG:∀b o,s.1.get? b=A? o->(∀vs,o.data≠.fields vs)->b≠T:=λb o hb z6 q=>by
   rw[q,hT]at hb;injection hb with hb;subst hb;exact z6 ts By
  refine wpAny_newEntryW DT (hl.of_keeps λb o hb z6=>⟨o,(other b (yG b o hb z6)).trans hb,rfl⟩) hf ((other e (UA F9)).trans he)
   (λb o E1=>(other b λq=>by rw[q,EY]at E1;cases E1).trans (Jx b o E1)) Hj hd (Uv.mp h1).1 h0
   λh'⟨x1,⟨_,_,x2⟩,x3,x4⟩=>hQ h' ⟨x1,Hj,x2,x3⟩ λb o hb z6=>x4 b o ((other b (yG b o hb z6)).trans hb) z6
theorem lq{AU:String}{zd:Wf}{l:List Wf}{e:So}{cls a0 fl:Sq}{Q:α->Sr->Prop}
 (Jx:base.StaysIn s.1) (hl:s.1.FunFrames base l) (ht:s.1.TracedAtW base e cls a0 fl)
 (h:∀h' NG,base.StaysIn h'->h'.FunFrames base l->h'.TracedAtW base e cls a0 NG->s.1.UpToSlots h'->E (.ref e) {s with heap:=h'}):SV M A (PySem.passOn AU (.ref e) zd:Sem α) Q E s:=by
 obtain⟨oe,vs,T,oT,ts,he,AV,hd,h1,EY,F9,hT,By,h3⟩:=ht;have Hk:3<ts.size:=(Uv.mp h3).1
 have other:∀b,b≠T->(s.1.update T (W8 (·.setIfInBounds 3 (zd.frame.elim Ud λf=>Vi f)))).get? b=s.1.get? b :=
  λb hb=>T4 _ _ (UA hb)
 have yG:∀b o,s.1.get? b=A? o->(∀vs,o.data≠.fields vs)->b≠T:=λb o hb z6 q=>by
  rw[q,hT]at hb;injection hb with hb;subst hb;exact z6 ts By
 unfold PySem.passOn;refine Sm (Uo he hd h1 ?_);rw[Za (show¬((TF T == Ud)=B?)from by simp)];refine Sm ?_;unfold setFlight;refine Sm (Uo he hd h1 ?_);rw[Yb (show(TF T != Ud)=B? from by simp)]
 refine VB hT By Hk (wpAny_throw (h _ (zd.frame.elim Ud λf=>Vi f) (λb o E1=>(other b λq=>by rw[q,EY]at E1;cases E1).trans (Jx b o E1))
  (hl.of_keeps λb o hb z6=>⟨o,(other b (yG b o hb z6)).trans hb,rfl⟩) ?_ λb o hb z6=>⟨o.slots,(other b (yG b o hb z6)).trans hb⟩))
 exact⟨oe,vs,T,_,_,(other e (UA F9)).trans he,AV,hd,h1,EY,F9,T6 _ hT (Wj (UJ By _)),UJ By _,by simp[Hk]⟩
theorem funFrames_base{Bn:TL}(k:∀b o,Bn.get? b=A? o->base.get? b=A? o):∀{l:List Wf},h.FunFrames base l->h.FunFrames Bn l
 | [],_=>trivial
 | env::_,⟨hk,⟨L,o,hf,hn,ho,hd⟩,hr⟩ =>
   have GF:Bn.get? L=none:=by
    cases z:Bn.get? L with
    |none=>rfl
    |some o'=>rw[k L o' z]at hn;cases hn
   ⟨hk,⟨L,o,hf,GF,ho,hd⟩,funFrames_base k hr⟩
theorem uc{fs:List So}{h2:TL}{l:List So}{B:TL}(u1:Un fs [] H H1 h h1)(u2:Un l [] H1 H' h1 h2)(hl:∀b o,h.get? b=A? o->b∈l->b∈fs)
 (b1:∀b o o1,h.get? b=A? o->h1.get? b=A? o1->b∉l->∃o',B.get? b=A? o'/\(H1 b=Am->o'=o1)) (st:B.StaysIn h') (up:∀b o o2,h.get? b=A? o->h2.get? b=A? o2->(∀vs,o2.data≠.fields vs)->∃sl,h'.get? b=A? {o2 with slots:=sl})
 (hf:∀b∈fs,H b=Am/\∃o,h.get? b=A? o/\∀vs,o.data≠.fields vs) :
 Un fs [] H H' h h'/\∀b o,h.get? b=A? o->b∉fs->∃o',B.get? b=A? o'/\(H b=Am->o'=o):=by
 have nx:∀b:So,b∉([]:List So):=λb=>by simp
 have bb:∀b o,h.get? b=A? o->b∉fs->∃o',B.get? b=A? o'/\(H b=Am->o'=o):=λb o q nf=>by
  obtain⟨o1,e1⟩:=u1.there b o q (nx b);obtain⟨o',e',g⟩:=b1 b o o1 q e1 λz=>nf (hl b o q z);refine⟨o',e',λn=>?_⟩;have:=u1.keep b o q n nf (nx b);rw[e1]at this;cases this;exact g (u1.free b _ q n (nx b))
 have sl:∀b o,h.get? b=A? o->H b=Am->b∈fs->∃sl,h'.get? b=A? {o with slots:=sl}:=λb o q n m=>by
  obtain⟨s1,e1⟩:=u1.slot b o q n m (nx b);obtain⟨s2,e2⟩:=u2.any e1 (u1.free b o q n (nx b)) (nx b);obtain⟨_,o0,q0,nf⟩:=hf b m;rw[q]at q0;cases q0;obtain⟨s3,e3⟩:=up b o _ q e2 nf;exact⟨s3,e3⟩
 refine⟨⟨λb o q n nf _=>?_,λb o q n m _=>sl b o q n m,λb o q n _=>?_,λb o q _=>?_,λb xs q=>u2.tups b xs (u1.tups b xs q),λb o u q=>u2.frzs b o u (u1.frzs b o u q),λb ps q=>?_⟩,bb⟩
 .obtain⟨o',e',g⟩:=bb b o q nf;rw[<-g n];exact st b o' e'
 .obtain⟨o1,e1⟩:=u1.there b o q (nx b);exact u2.free b o1 e1 (u1.free b o q n (nx b)) (nx b)
 .by_cases m:b∈fs
  .obtain⟨n,_⟩:=hf b m;obtain⟨s3,e3⟩:=sl b o q n m;exact⟨_,e3⟩
  .obtain⟨o',e',_⟩:=bb b o q m;exact⟨o',st b o' e'⟩
 .obtain⟨m1,e1⟩:=u1.tbls b ps q;obtain⟨m2,e2⟩:=u2.tbls b _ e1;exact⟨m1++m2,by rw[e2,Ws]⟩
theorem tX{m:SG->Option Sq}(n:h.Ns a m):∃o,h.get? a=A? o/\∀vs,o.data≠.fields vs:=by
 obtain⟨o,es,ep,ho,hd,_⟩:=n;exact⟨o,ho,λvs z=>by rw[hd]at z;cases z⟩
theorem jB{e:Sq}{Hl:Wf}(h:env.frame=Hl.frame):Xd e env=Xd e Hl:=by
 unfold Xd PySem.frameOf;rw[h]
section
variable{w:S0}{K':List SG}{s₀:Sr}{H₀:Hp}{E:XK}
def d7(X:Cx)(E:XK)(N:List SG)(sc:Ub)(cl:List (SG×So))(C:So)(s:Sr)(H:Hp)(fp:List So)(Z:List (So×UD)):Cx :=
 {aS X N sc cl C s H fp Z with xe:=λe s'=>∃yg yt H1 s1,Inv (aS X N sc cl C s H fp Z) yg yt H1 s1/\CX1 X.prog X.w X.stack H1 s1 E e s'}
theorem Inv.toX{X:Cx}{C:So}{yt:St}(I:Inv (aS X N sc cl C s H fp Z) yg yt H1 s1):Inv (d7 X E N sc cl C s H fp Z) yg yt H1 s1 :=
 ⟨⟨I.ok.mod,I.ok.kind,I.ok.glob,I.ok.blt,I.ok.above,I.ok.inj,I.ok.has,I.ok.cab,I.ok.hd,I.ok.frames,I.ok.stk,I.ok.exf,I.ok.bs,I.ok.bsz,I.ok.noex,I.ok.exfs,I.ok.funs,I.ok.frf⟩,I.os,I.bare,I.base,I.loc,I.cell,I.free,I.freeC,I.pin,I.hok,I.len⟩
theorem Inv.ofX{X:Cx}{C:So}{yt:St}(I:Inv (d7 X E N sc cl C s H fp Z) yg yt H1 s1):Inv (aS X N sc cl C s H fp Z) yg yt H1 s1 :=
 ⟨⟨I.ok.mod,I.ok.kind,I.ok.glob,I.ok.blt,I.ok.above,I.ok.inj,I.ok.has,I.ok.cab,I.ok.hd,I.ok.frames,I.ok.stk,I.ok.exf,I.ok.bs,I.ok.bsz,I.ok.noex,I.ok.exfs,I.ok.funs,I.ok.frf⟩,I.os,I.bare,I.base,I.loc,I.cell,I.free,I.freeC,I.pin,I.hok,I.len⟩
theorem uW{X:Cx}{C:So}:Passes (CX1 X.prog X.w) (d7 X E N sc cl C s H fp Z) E :=
 λyg yt H1 s1 e s2 I h=>⟨yg,yt,H1,s1,I.ofX,h⟩
end
section
variable{X:Cx}
theorem pi{XE:Sq->Sr->Prop}{w:S0}{R:Result->Sr->Prop}{target:TN}{it:Sq}(J:Nat->Sr->Prop)
 (turn:∀n s,J n s->SV (S7 prog w) A (Wv it) (λr xT=>(r=Am/\R (.ok .next) xT)\/∃v,r=A? v /\
  SV (S7 prog w) A (Ww target it v) (λ_ y2=>SV (S7 prog w) A (assign target env v) (λ_ zk =>
   SV (S7 prog w) A (forIn ifs B? λc r=>if r=B? then do let ok <-isTrue c env (UZ c env);pure (Uz ok)else pure (Uz r)) (λok zy =>
    (ok=C?/\∃m,m<n/\J m zy)\/(ok=B?/\SV (S7 prog w) A (UZ elt env) (λx BW=>SV (S7 prog w) A (call (.builtin "list.append") [acc,x]) (λ_ BX=>∃m,m<n/\J m BX) (λ_ _=>False) BW) XE zy))
    (λ_ _=>False) zk) (λ_ _=>False) y2) (λ_ _=>False) xT) (λ_ _=>False) s)
 (PQ:∀e s',XE e s'->notedBy (S7 prog w) A env (λe s'=>R (.error e) s') e s') (n:Nat) (h:J n s):VA (S7 prog w) A (.compLoop (.ListComp elt [⟨target,iter,ifs,0⟩] scope pos) 0 it acc env) R s:=by
 refine codeAny_loop rfl J (λn s hJ=>?_) n h;show SV _ A ((compTurn (.ListComp elt [⟨target,iter,ifs,0⟩] scope pos) 0 it acc env).onRaise _) _ _ s;refine wpAny_noted ?_;rw[compTurn_list];have up:∀{α:Type}{m:Sem α}{Q:α->Sr->Prop}{E:Sq->Sr->Prop}{s:Sr},SV (S7 prog w) A m Q (λ_ _=>False) s->SV (S7 prog w) A m Q E s:=λq=>TQ q (λ_ _ z=>z) λ_ _ z=>z.elim;refine Sm (wpAny_standAt (Sm (TQ (up (turn n s hJ)) (λr xT x9=>?_) λ_ _ z=>z)));rcases x9 with⟨rfl,x9⟩|⟨v,rfl,x9⟩
 .exact Sw x9
 .refine Sm (TQ (up x9) (λ_ y2 AY=>?_) λ_ _ z=>z);refine Sm (TQ (up AY) (λ_ zk BY=>?_) λ_ _ z=>z);refine Sm (TQ (up BY) (λok zy zz=>?_) λ_ _ z=>z);rcases zz with⟨rfl,zz⟩|⟨rfl,zz⟩
  .exact Sw ⟨rfl,zz⟩
  .exact Sm (Sm (TQ zz (λx BW Ew=>Sm (TQ (up Ew) (λ_ BX Ex=>Sw (Sw ⟨rfl,Ex⟩)) λ_ _ z=>z)) λe s' z=>PQ e s' z))
theorem nJ{g:TG}{tn:Nat->TL->Prop}{W:Nat->Hp->Prop}{fin:Hp->Prop}
 {E0:XK} {R:Sq->So->Result->Sr->Prop} (hc:X.calm=B?) (S:df X sc N js) (I:Inv X Z Y H s) (T:Turn X.prog X.w X.K tg J fp it tn) (st:tn 0 s.1) (hf:∀b∈fp,gh X Z H b)
 (yw:∀x c,cl.lookup x=A? c->X.env.cells.lookup x=A? c) (Ar:∀n,(n,TZ)∈sc.names->∃c,cl.lookup n=A? c)
 (hg:∀cl C s H fp Z,PG (aS X N sc cl C s H fp Z) tg g) (gk:lu js g) (ht:∀cl C s H fp Z,PTs (aS X N sc cl C s H fp Z) ifs tt) (he:∀cl C s H fp Z,PE (d7 X E0 N sc cl C s H fp Z) elt te)
 (w0:W 0 (upd H s.1.1.size (.lst []))) (turn:fC js g tt te Y J s.1.1.size n W fin)
 (hR:∀C H' s',C≠X.env.locals->s.1.1.size<C->(∃m,s'.1.Ns C m)->H' C=Am->(∀h' t',Um C s'.1 h'->Inv X Z Y H' {s' with heap:=h',toks:=t'})->fin H'->R (.ref s.1.1.size) C (.ok .next) s')
 (hX:∀s3 H3,Inv X Z Y H3 s3->(∀b∈fp,gh X Z H3 b)->∀e s',(d7 X E0 N sc cl s3.1.1.size s3 H3 fp Z).xe e s'->notedBy (S7 X.prog X.w) X.A (compEnvC sc cl s3.1.1.size X.env) (λe s'=>R (.ref s.1.1.size) s3.1.1.size (.error e) s') e s') :
 SV (S7 X.prog X.w) X.A (newList []) (λacc zk=>SV (S7 X.prog X.w) X.A (XC sc X.env.globals cl [] X.env.qual Am .none (A? X.env)) (λzd zy =>
  VA (S7 X.prog X.w) X.A (.compStart (.ListComp elt [⟨tg,iter,ifs,0⟩] sc pos) 0 (.ref it) acc {zd with scope:=relabel sc X.env}) (R acc zd.locals) zy) E zk) E s:=by
 refine TV (XA S.nocell (by intro y hy;simp at hy) (λx9 yS yT=>?_) S.kind);dsimp only at yS yT |-;have I3:Inv X Z Y (upd H s.1.1.size (.lst [])) {s with heap:=s.1.push {cls:=.type "list",dict:=Am,data:=.seq ([]:List Sq).toArray}}:=I.lnew (t':=s.toks) (its:=[]) .nil (by decide)
 have yb:∀b∈fp,b<s.1.1.size:=λb hb=>by
  obtain⟨o,ho,_⟩:=T.obj _ _ st b hb;exact SS ho
 have Au:∀b o,s.1.get? b=A? o->(s.1.push {cls:=.type "list",dict:=Am,data:=.seq ([]:List Sq).toArray}).get? b=A? o:=λb o e=>Sy _ e;have hsz:(s.1.push {cls:=.type "list",dict:=Am,data:=.seq ([]:List Sq).toArray}).objs.size=s.1.1.size+1:=VF ..;generalize GO:({s with heap:=s.1.push {cls:=.type "list",dict:=Am,data:=.seq ([]:List Sq).toArray}}:Sr)=s3 at I3;have BZ:s.1.push {cls:=.type "list",dict:=Am,data:=.seq ([]:List Sq).toArray}=s3.1:=by rw[<-GO]
 rw[BZ]at yS yT Au hsz;rw[BZ];have J':∀t',({s with heap:=x9,toks:=t'}:Sr)={s3 with heap:=x9,toks:=t'}:=λt'=>by rw[<-GO]
 rw[J'];have zO:∀b o,s3.1.get? b=A? o->x9.get? b=A? o:=λb o e=>yT.extBut b o (Ti (SS e)) (Sy _ e);have CF:∀b∈fp,gh X Z (upd H s.1.1.size (.lst [])) b:=λb hb=>⟨by rw[aj (Ti (yb b hb))];exact(hf b hb).1,(hf b hb).2⟩;have I4:=nR (t':=s.toks+([]:List (SG×Sq)).length) S I3 yw Ar CF (λb hb=>by rw[hsz];exact Wx (yb b hb)) yS zO;generalize O9:upd H s.1.1.size (.lst [])=H3 at I3 I4 CF w0;have yy:tn 0 x9:=T.keep _ _ _ st λb hb o e=>zO _ _ (Au _ _ e)
 have zw:∀{H':Hp},(∀b∈fp,H' b=Am)->∀b∈fp,gh (aS X N sc cl s3.1.1.size s3 H3 fp Z) [] H' b:=λ{H'}hn b hb=>by
  obtain⟨f0,f1,f2,f3,f4,f5⟩:=hf b hb;refine⟨hn b hb,λe=>?_,λhm=>?_,.inl hb,λx c e=>f4 x c (yw x c e),λp hp=>f5 p (by simpa[aS]using hp)⟩
  .have e':b=s3.1.1.size:=e;have h9:b<s.1.1.size:=yb b hb;rw[e',hsz]at h9;exact Yd h9 (Nat.not_lt.mpr (Nat.le_succ _))
  .rcases SR.mp (I.stkSub b hm)with e|e
   .exact f1 e
   .exact f2 e
 have loop:VA (S7 X.prog X.w) X.A (.compLoop (.ListComp elt [⟨tg,iter,ifs,0⟩] sc pos) 0 (.ref it) (.ref s.1.1.size) (compEnvC sc cl s3.1.1.size X.env)) (R (.ref s.1.1.size) s3.1.1.size)
  {s3 with heap:=x9,toks:=s.toks+([]:List (SG×Sq)).length}:=by
  refine pi (XE:=(d7 X E0 N sc cl s3.1.1.size s3 H3 fp Z).xe) (λk s'=>∃i H',Inv (aS X N sc cl s3.1.1.size s3 H3 fp Z) [] (cσ js Y) H' s'/\tn i s'.1/\(∀b∈fp,H' b=Am)/\W i H'/\k=n - i) ?_ (λe s' z=>hX s3 H3 I3 CF e s' z) n ⟨0,H3,I4,yy,λb hb=>(CF b hb).1,w0,rfl⟩;rintro k s5 ⟨i,H5,I5,BP,Ep,w5,rfl⟩;rcases turn i H5 w5 with⟨stop,qn⟩|⟨Bl,go,step⟩
  .refine thn (T.done (aS X N sc cl s3.1.1.size s3 H3 fp Z) rfl rfl rfl hc i [] s5 (cσ js Y) H5 _ I5 (zw Ep) BP stop) λr s6⟨hr,I6⟩=>.inl ⟨hr,?_⟩;have I7:Inv X Z Y H5 s6:=I3.call' (ch:=fp) (I6.os.trans rfl) I6.base I6.hok I6.bare λb hb=>⟨(hf b hb).2.2.2.1,(hf b hb).2.1,(hf b hb).2.2.2.2.1,(hf b hb).2.2.2.2.2⟩;have GP:H5 s3.1.1.size=none:=I6.free;have GQ:s3.1.1.size≠X.env.locals:=WU I3.lt;obtain⟨m6,Ka,_⟩:=I6.loc;refine hR s3.1.1.size H5 s6 GQ (by lia) ⟨m6,Ka⟩ GP (λh' t' sb=>?_) qn;refine I7.turned (it:=s3.1.1.size) (λb o hb e=>sb.extBut b o hb e) GP GQ (.inr I3.sz) (λx c e z=>?_) λp hp z=>?_
   .obtain⟨v,q⟩:=I3.cell x c e;exact Yd q.lt (by rw[z];exact Tx _)
   .exact Yd (SS (I3.pin p hp).1) (by rw[z];exact Tx _)
  .refine thn (T.item (aS X N sc cl s3.1.1.size s3 H3 fp Z) rfl rfl rfl hc i [] s5 (cσ js Y) H5 _ I5 (zw Ep) BP go) λr s6⟨u,hr,h6⟩=>.inr ⟨u,hr,?_⟩;refine thn h6 λ_ s7⟨x,H7,I7,r7,y7,Ey,Kb⟩=>?_;have Kc:=I7.pinned (zw Kb) (T.obj _ _ Ey);refine thn (hg cl s3.1.1.size s3 H3 fp Z _ s7 (cσ js Y) H7 x u _ Kc r7 (gk Y (cσ js Y) x H7 _ (.refl _) (step x H7 y7))) λ_ s8⟨AZ,H8,I8,k8,q8⟩=>?_;refine thn (ht cl s3.1.1.size s3 H3 fp Z _ s8 AZ H8 _ I8 q8) λok s9⟨H9,I9,q9⟩=>?_
   have again:∀{s':Sr}{xS:St}{H':Hp},Keep (cσ js Y) xS->Inv (aS X N sc cl s3.1.1.size s3 H3 fp Z) ([]++iV fp s7.1) xS H' s'->W (i+1) H'->∃m,m<n - i/\∃i H',Inv (aS X N sc cl s3.1.1.size s3 H3 fp Z) [] (cσ js Y) H' s'/\tn i s'.1/\(∀b∈fp,H' b=Am)/\W i H'/\m=n - i:=λ{s' xS H'}kp I' w'=>by
    refine⟨n - (i+1),by lia,i+1,H',(I'.unpinned).weak kp.1 kp.2,T.keep _ _ _ Ey λb hb o e=>(I'.pin (b,o) (S3 _ (S3 _ (dj hb e)))).1,λb hb=>?_,w',D?⟩;obtain⟨o,e,d⟩:=T.obj _ _ Ey b hb;exact(I'.pin (b,o) (S3 _ (S3 _ (dj hb e)))).2.1
   cases ok with
   | false =>
     refine .inl ⟨rfl,again k8 I9 ?_⟩;have GR:if C?=B? then _ else W (i+1) H9:=q9
     rw[Za SW]at GR;exact GR
   | true =>
     refine .inr ⟨rfl,?_⟩;rw[Yb rfl]at q9;refine TQ (he cl s3.1.1.size s3 H3 fp Z _ s9 AZ H9 _ I9.toX q9) (λvv Bv⟨v,Ez,La,rv,ys,hD,Ke,Kf⟩=>?_) λ_ _ z=>z;have Kd:=La.ofX;refine thn (aM _ Bv AZ Ez (.ref s.1.1.size) [v] (.ref s.1.1.size) [vv] (λ_ H'=>W (i+1) H') Kd rfl (.cons rv .nil) ⟨_,ys,v,rfl,rfl,hD,Ke,Kf⟩) λ_ GS⟨_,DI,Kg,_,Kh⟩=>?_;exact again k8 Kg Kh
 exact codeAny_compStart_list loop (T.self X.A 0 _ _ _ yy loop)
end
section
variable{w:S0}{K':List SG}{s₀:Sr}{H₀:Hp}{E:XK}
end
structure Lv(X:Cx)(E:XK):Prop where
 fr:X.env.frame=A? X.s₀.heap.1.size
 stk:X.stack=X.env::X.outer
 calm:X.calm=B?
 ex:X.ex=[]
 xe:∀e s2,SV (S7 X.prog X.w) X.A (leaving X.env e) (λ_ Bs=>CX1 X.prog X.w X.outer X.H₀ X.s₀ E e Bs) (λe' Bs=>CX1 X.prog X.w X.outer X.H₀ X.s₀ E e' Bs) s2->X.xe e s2
theorem lv1{w:S0}{E:XK}:Lv (iI (CX1 P w) P w K mg base N qual scope f cd A outer s H E) E:=⟨rfl,rfl,rfl,rfl,λ_ _ h=>h⟩
section
variable{X:Cx}{E:XK}
theorem pJ(L:Lv X E):Passes (CX1 X.prog X.w) X E:=by
 intro Z Y H1 s1 e s2 I h;obtain⟨ea,C,a0,B,H',rfl,yE,y4,un,hok,zP,b1,b2,q⟩:=h;rw[L.stk]at un zP b1;refine L.xe _ _ ?_;refine wpAny_leaves_onW (outer:=X.outer) (E:=λe' Bs=>CX1 X.prog X.w X.outer X.H₀ X.s₀ E e' Bs) (I.ok.frames.trans (by rw[L.stk])) L.fr zP λh' E2 up=>?_
 obtain⟨U,DJ⟩:=oS (fs:=frs X.outer) (H:=X.H₀) (h:=X.s₀.heap) (l:=frs (X.env::X.outer)) (B:=B) (h':=h') (by have:=I.base;rw[L.ex]at this;exact this) un (λb o hb z=>by
  rw[lb L.fr]at z;rcases SR.mp z with rfl|z
  .exact Yd (SS hb) (Tx _)
  .exact z) b1 E2.1 up (λb hb=>⟨I.ok.frf b hb,(I.ok.funs.mem hb).2⟩)
 exact⟨ea,C,a0,B,H',D?,yE.trans I.os,y4,U,jE hok zP.1 E2.1 b2,E2,DJ,b2,q⟩
theorem oN(L:Lv X E){s3:Sr}{e:Sq}{s2:Sr}{use:Option (Sq->Sem Unit)}
 (I3:Inv X Z Y H3 s3)
 (hf:∀b∈fp,gh X Z H3 b)
 (h:(d7 X E N sc cl s3.1.1.size s3 H3 fp Z).xe e s2) :
 notedBy (S7 X.prog X.w) X.A (compEnvC sc cl s3.1.1.size X.env)
  (λe s'=>compPost (S7 X.prog X.w) X.A X.xe use Q acc s3.1.1.size (.error e) s') e s2:=by
 obtain⟨yg,yt,H1,s1,I1,ea,C0,a0,B,H',rfl,yE,y4,un,hok,zP,b1,b2,q⟩:=h;have un:Un (frs (X.env::X.outer)) [] H1 H' s1.1 s2.1:=by rw[<-L.stk];exact un
 have zP:Heap.FlyingW B (X.env::X.outer) ea (.ref C0) a0 s2.1:=by rw[<-L.stk];exact zP
 have b1:∀b o,s1.1.get? b=A? o->b∉frs (X.env::X.outer)->∃o',B.get? b=A? o'/\(H1 b=Am->o'=o):=by rw[<-L.stk];exact b1
 have I7:Inv X Z Y H1 s1:=I3.call' (ch:=fp) (I1.os.trans rfl) I1.base I1.hok I1.bare λb hb=>⟨(hf b hb).2.2.2.1,(hf b hb).2.1,(hf b hb).2.2.2.2.1,(hf b hb).2.2.2.2.2⟩;have NH:H1 s3.1.1.size=none:=I1.free;obtain⟨m1,Jz,_⟩:=I1.loc;have Jz:s1.1.Ns s3.1.1.size m1:=Jz;obtain⟨oC,Lb,NI⟩:=tX Jz
 have NK:s3.1.1.size∉frs (X.env::X.outer):=λz=>by
  have:=(I3.stack.mem (by rw[L.stk];exact z)).2;obtain⟨o,ho,_⟩:=this;exact Yd (SS ho) (Tx _)
 have PR:s2.1.get? s3.1.1.size=A? oC:=un.keep _ _ Lb NH NK (by simp);have PU:H' s3.1.1.size=none:=un.free _ _ Lb NH (by simp);show SV _ _ (Xd (.ref ea) _) _ _ s2;rw[show Xd (.ref ea) (compEnvC sc cl s3.1.1.size X.env)=Xd (.ref ea) X.env from jB rfl];refine wpAny_looks_onW (outer:=X.outer) (L:=X.s₀.heap.1.size) (I3.ok.frames.trans (by rw[L.stk])) L.fr zP λh3 held NL=>?_;obtain⟨PV,NM⟩:=NL _ _ PR NI;obtain⟨o0,es,ep,NN,GZ,r0⟩:=Jz;have Lc:h3.Ns s3.1.1.size m1:=⟨{oC with slots:=PV},es,ep,NM,by rw[Lb]at NN;cases NN;exact GZ,r0⟩
 have post:∃m,h3.Ns s3.1.1.size m/\∀h',Um s3.1.1.size h3 h'->∀zd:Wf,zd.locals=s3.1.1.size->SV (S7 X.prog X.w) X.A (PySem.passOn "comprehension.variables-let-go" (.ref ea) zd:Sem Sq) (λ_ _=>False) X.xe {s2 with heap:=h'}:=by
  refine⟨m1,Lc,λh4 sb zd yw=>?_⟩;obtain⟨k1,k2,k3,k4⟩:=held;have hB:∀b o,(VZ B [s3.1.1.size]).get? b=A? o->B.get? b=A? o:=λb o z=>of_hideAll _ z
  have hBC:∀b o,(VZ B [s3.1.1.size]).get? b=A? o->b≠s3.1.1.size:=λb o z e=>by
   rw[e,hideAll_none _ (Sz.mpr rfl)]at z;cases z
  have Hm:∀b o,h3.get? b=A? o->b≠s3.1.1.size->h4.get? b=A? o:=λb o e n=>(sb.2 b n).trans e;have PX:(VZ B [s3.1.1.size]).StaysIn h4:=λb o z=>Hm b o (k1 b o (hB b o z)) (hBC b o z)
  have Em:∀b o vs,h3.get? b=A? o->o.data=.fields vs->b≠s3.1.1.size:=λb o vs e d z=>by
   rw[z,NM]at e;cases e;exact NI vs d
  have PY:h4.TracedAtW (VZ B [s3.1.1.size]) ea (.ref C0) a0 (Vi X.s₀.heap.1.size):=by
   obtain⟨oe,vs,T,oT,ts,he,AV,hd,h1,EY,F9,hT,By,PZ⟩:=k4;refine⟨oe,vs,T,oT,ts,Hm _ _ he (Em _ _ _ he hd),AV,hd,h1,?_,F9,Hm _ _ hT (Em _ _ _ hT By),By,PZ⟩;cases z:(VZ B [s3.1.1.size]).get? T with
   |none=>rfl
   |some o'=>rw[hB _ _ z]at EY;cases EY
  have P0:h4.FunFrames (VZ B [s3.1.1.size]) (X.env::X.outer):=by
   refine funFrames_base hB ?_
   have:∀{l:List Wf},(∀env∈l,∀a,env.frame=A? a->a≠s3.1.1.size)->h3.FunFrames B l->h4.FunFrames B l:=λ{l}hl hh=>by
    induction l with
    |nil=>trivial
    | cons env l ih =>
      obtain⟨hk,⟨L,o,hf,hn,ho,hd⟩,hr⟩:=hh;exact⟨hk,⟨L,o,hf,hn,Hm _ _ ho (hl env (SU ..) L hf),hd⟩,ih (λe he=>hl e (SN _ he)) hr⟩
   exact this (λenv he a ha z=>NK (by rw[<-z];exact Vg.mpr ⟨env,he,ha⟩)) k3
  refine lq (s:={s2 with heap:=h4}) PX P0 PY λh5 NG BP P1 P4 Ld=>?_
  have Hj:(VZ B [s3.1.1.size]).get? ea=none:=by
   cases z:(VZ B [s3.1.1.size]).get? ea with
   |none=>rfl
   |some o'=>rw[hB _ _ z]at k2;cases k2
  refine L.xe _ _ ?_;refine ig (s:={s2 with heap:=h5}) (outer:=X.outer) (L:=X.s₀.heap.1.size) (I3.ok.frames.trans (by rw[L.stk])) L.fr BP Hj P1 P4 λh6 yO Hn=>?_
  have hold:∀b o,X.s₀.heap.get? b=A? o->b≠s3.1.1.size:=λb o e z=>by
   obtain⟨o',e'⟩:=I3.base.there b o e (by rw[L.ex];simp);exact Yd (SS e') (by rw[z];exact Tx _)
  obtain⟨U,DJ⟩:=uc (fs:=frs X.outer) (H:=X.H₀) (h:=X.s₀.heap) (l:=frs (X.env::X.outer)) (B:=VZ B [s3.1.1.size]) (h':=h6) (by have:=I7.base;rw[L.ex]at this;exact this) un (λb o hb z=>by
   rw[lb (L:=X.s₀.heap.1.size) L.fr]at z;rcases SR.mp z with rfl|z
   .exact Yd (SS hb) (Tx _)
   .exact z) (λb o o1 hb h1 nl=>by
    obtain⟨o',e',g⟩:=b1 b o1 h1 nl;exact⟨o',hideAll_get _ e' λz=>hold b o hb (Sz.mp z),g⟩) yO.1 (λb o o2 hb h2 nf=>by
    obtain⟨RM,e3⟩:=NL b o2 h2 nf;obtain⟨RN,e5⟩:=Ld b _ (Hm _ _ e3 (hold b o hb)) nf;obtain⟨P5,e6⟩:=Hn b _ e5 nf;exact⟨P5,e6⟩) (λb hb=>⟨I3.ok.frf b hb,(I3.ok.funs.mem hb).2⟩)
  have Ho:∀b u,H' b=A? u->∃o',(VZ B [s3.1.1.size]).get? b=A? o':=λb u e=>by
   obtain⟨o',e'⟩:=b2 b u e;exact⟨o',hideAll_get _ e' λz=>by rw[Sz.mp z,PU]at e;cases e⟩
  exact⟨ea,C0,a0,VZ B [s3.1.1.size],H',D?,yE.trans I7.os,y4,U,jE hok (λb o z=>zP.1 b o (hB b o z)) yO.1 Ho,yO,DJ,Ho,q⟩
 cases use <;> exact post
theorem ng(L:Lv X E){g:TG}(S:df X sc N js)(hi:PI X tg iter wi)
 (hg:∀cl C s H fp Z,PG (aS X N sc cl C s H fp Z) tg g) (gk:lu js g) (ht:∀cl C s H fp Z,PTs (aS X N sc cl C s H fp Z) ifs tt) (he:∀cl C s H fp Z,PE (d7 X E N sc cl C s H fp Z) elt te)
 (hs:∀x,WV iter X.env x=pure x:=by intro _;rfl):PE X (.ListComp elt [⟨tg,iter,ifs,0⟩] sc pos) (qS js wi g tt te):=by
 intro Z s Y H Q I h;obtain⟨cl,e1,e2,e3⟩:=gL (env:=X.env) (sc:=sc) λn hn=>I.ok.has n (S.frees _ hn rfl);rw[eval_ListComp];refine W5 (use:=Am) rfl hs e1 S.kind S.names (thn (hi Z s Y H _ I h) λv s1 h1=>thn h1 λGG s2 h2=>?_);obtain⟨it,fp,tn,J,H2,rfl,I2,T,En,f2,R2⟩:=h2;obtain⟨n,W,w0,turn⟩:=R2 s2.1.1.size I2.fresh;refine nJ (R:=λacc C=>compPost (S7 X.prog X.w) X.A X.xe Am (EP X Z Y Q) acc C) L.calm S I2 T En f2 e2 e3 hg gk ht he w0 turn (λC H' s' _ _ hn _ inv fi=>?_) λs3 H3 I3 CF e s' z=>oN L I3 CF z;obtain⟨m,hm⟩:=hn;exact⟨m,hm,λh' sb=>⟨.ref s2.1.1.size,H',inv h' s'.toks sb,D?,fi⟩⟩
end
def exN(S:List So)(H:Hp)(E:XK):XK:=λc v H'=>(∀b∈S,H' b=Am)->E c v (rst S H H')
def um(P:SH)(w:S0)(K:Ss)(mg:SG->Option Sq)(base:TL)(N:List SG)(qual:SG)(scope:Ub)(f:So)(cd:Sq)(y:SG)(cl:List (SG×So))(A:Ta)(outer:List Wf)(s:Sr)(H:Hp)(E:XK):Cx :=
 { cxN P w K mg base N qual scope f cd y cl A outer s H with
   xe:=λe s'=>SV (S7 P w) (A.deeper (UN qual scope s.1.1.size f cd ((y,s.1.1.size+1)::cl))) (leaving (UN qual scope s.1.1.size f cd ((y,s.1.1.size+1)::cl)) e)
    (λ_ Bs=>CX1 P w outer (fgt (cl.map (·.2)) H) s (exN (cl.map (·.2)) H E) e Bs)
    (λe' Bs=>CX1 P w outer (fgt (cl.map (·.2)) H) s (exN (cl.map (·.2)) H E) e' Bs) s' }
theorem lvN{w:S0}{y:SG}{E:XK}:Lv (um P w K mg base N qual scope f cd y cl A outer s H E) (exN (cl.map (·.2)) H E):=⟨rfl,rfl,rfl,rfl,λ_ _ h=>h⟩
theorem rS{w:S0}{k:Nat}{y:SG}{fs:List SG}
 (S:lN N ps fs y cl scope) (bind:∀(doc pm yV:Sq)(us:List Sq),us.length=ps.length->VT (PySem.W.fnX name qual params body scope cl .none .none doc pm Am (.ref c') yV) ⟨us,[]⟩=pure (ps.zip us))
 (zc:∀vs H Q E,sp vs H Q E->vs.length=ps.length/\NestAt H f c' name qual params body scope cl/\CodeAt H c' qual/\Exts (cl.map (·.2)) H/\∀x c,cl.lookup x=A? c->∃v,CellAt H c v)
 (yj:∀(A:Ta)(outer:List Wf)(s:Sr)(H:Hp)(vs:List V)(Q:VK)(E:XK),Room k (A.deeper (UN qual scope s.1.1.size f (.ref c') ((y,s.1.1.size+1)::cl)))->sp vs H Q E ->
  ∃t ws,pW H cl fs ws/\PSs (um P w K mg base N qual scope f (.ref c') y cl A outer s H E) body t/\t {nx:=λ_ H'=>(∀b∈cl.map (·.2),H' b=Am)->Q .non (rst (cl.map (·.2)) H H'),rt:=λv H'=>(∀b∈cl.map (·.2),H' b=Am)->Q v (rst (cl.map (·.2)) H H')} (start N (vs++ws)) (fgt (cl.map (·.2)) H)) :
 oO P w K mg base (CX1 P w) (k+1) f sp where
 fn:=λA outer s H vs Q E e0 h=>by
  obtain⟨_,⟨φ,h1,h2⟩,_⟩:=zc _ _ _ _ h;obtain⟨doc,pm,yV,e⟩:=h2 _ (e0.hok f _ h1).1;exact⟨_,_,_,_,e⟩
 run:=λA outer s H us vs Q E hr e0 r h=>by
  obtain⟨hl,⟨φ,h1,h2⟩,⟨ψ,g1,g2⟩,hx,EK⟩:=zc _ _ _ _ h;obtain⟨doc,pm,yV,ef⟩:=h2 _ (e0.hok f _ h1).1;have G8:=g2 _ (e0.hok c' _ g1).1;have Es:us.length=ps.length:=by rw[<-r.length];exact hl
  have EL:∀z∈ps.zip us,scope.names.lookup z.1=A? .local:=λ⟨n,v⟩hy=>S.par n (VJ hy).1;refine codeAny_call_function hr.depth ef rfl S.co S.gen rfl G8 ?_;rw[show VT _ _=_ from bind doc pm yV us Es];refine Sw (iS S.kind EL λx9 Bt zO=>?_);rw[S.push]at zO;have yF:∀b o,s.1.get? b=A? o->x9.get? b=A? o:=λb o e=>zO.extBut b o (Ti (SS e)) (Sy _ (Sy _ e));have Le:(s.1.push j8).objs.size=s.1.1.size+1:=VF ..;have Lf:x9.IsCell (s.1.1.size+1) none:=⟨pV,zO.extBut _ _ (WU (WN _)) (by rw[<-Le];exact SO _ rfl),rfl⟩;refine⟨e0.mod.nolimit.keeps λb o e=>yF b o (e0.bs b o e).1,codeAny_func ?_⟩;show SV _ (A.deeper (newEnv scope s.1.1.size TR (Xe (s.1.1.size+1) scope.names cl) (qual++".<locals>.") (A? f) (.ref c') Am builtinsNs)) _ _ _ _;rw[S.cells];obtain⟨t,ws,AO,ht,hq⟩:=yj A outer s H vs Q E (hr.deeper _) h;have BV:fs.length=ws.length:=SJ AO;have yN:ps.length+fs.length<=N.length:=by have:=Zd Vf S.pre;rw[S9,SD]at this;lia
  have yw:∀x c,cl.lookup x=A? c->c∈cl.map (·.2):=λx c e=>d6 e
  have yb:∀c∈cl.map (·.2),c<s.1.1.size:=λc hc=>by
   obtain⟨Bm,e⟩:=hx c hc;exact e0.hok.lt e
  have look:∀x c,((y,s.1.1.size+1)::cl).lookup x=A? c->(x=y/\c=s.1.1.size+1)\/((x == y)=C?/\cl.lookup x=A? c):=λx c e=>by
   rw[T8]at e;cases hb:x == y with
   |true=>rw[hb]at e;cases e;exact .inl ⟨beq_iff_eq.mp hb,rfl⟩
   |false=>rw[hb]at e;exact .inr ⟨rfl,e⟩
  have DV:∀x c,(x == y)=C?->cl.lookup x=A? c->((y,s.1.1.size+1)::cl).lookup x=A? c:=λx c hb e=>by
   rw[T8,hb];exact e
  have Hq:((y,s.1.1.size+1)::cl).lookup y=A? (s.1.1.size+1):=by
   rw[T8,beq_self_eq_true]
  have Ba:∀x c,((y,s.1.1.size+1)::cl).lookup x=A? c->∃v,x9.IsCell c v:=λx c e=>by
   rcases look x c e with⟨_,rfl⟩|⟨_,e⟩
   .exact⟨_,Lf⟩
   .obtain⟨v,hv⟩:=EK x c e;obtain⟨u,_,o,ho,hd⟩:=hv.now e0.hok;exact⟨_,o,yF _ _ ho,hd⟩
  have Bb:∀b,H b=Am->fgt (cl.map (·.2)) H b=none:=λb e=>by
   by_cases hb:b∈cl.map (·.2)
   .exact dG hb
   .rw[aQ hb];exact e
  have ndP:ps.Nodup:=by
   have:N.take (ps.length+fs.length)=ps++fs:=S.pre;have h2:(ps++fs).Nodup:=by rw[<-this];exact S.nd.sublist (XJ _ _)
   exact(XM.mp h2).1
  have C5:∀(i:Nat)(x:SG),i<ps.length+fs.length->N[i]?=A? x->(ps++fs)[i]?=A? x:=λi x hi e=>by
   rw[<-S.pre,VE hi];exact e
  have I:Inv (um P w K mg base N qual scope f (.ref c') y cl A outer s H E) [] (start N (vs++ws)) (fgt (cl.map (·.2)) H) {s with heap:=x9,toks:=s.toks+(ps.zip us).length}:=by
   refine⟨⟨e0.mod,S.kind,D?,D?,Su _,λx z c e1 e2=>?_,λx hx=>?_,λx c hf e=>?_,λ_=>hr.hd,XN e0.frames,.inr ⟨D?,D?⟩,λb z=>(by cases z),λb o e=>⟨(e0.bs b o e).1,?_⟩,e0.bsz,λb _ _ z=>(by cases z),λb z=>(by cases z),e0.funs,λb hb=>?_⟩,
    rfl,e0.bare,Un.kept yF,⟨_,Bt,λi x v e1 e2 e3=>?_⟩,Ba,?_,λx c e=>?_,λp hp=>(by cases hp),?_,?_⟩
   .rcases look x c e1 with⟨rfl,h1⟩|⟨_,h1⟩ <;> rcases look z c e2 with⟨rfl,h2⟩|⟨_,h2⟩
    .rfl
    .have:=yb c (yw _ _ h2);lia
    .have:=yb c (yw _ _ h1);lia
    .exact S.inj x z c h1 h2
   .have yf:scope.names.lookup x=A? .cell\/scope.names.lookup x=A? .free:=hx;rcases yf with z|z
    .exact⟨_,by rw[S.cel x z];exact Hq⟩
    .obtain⟨c,hc⟩:=S.has x z;exact⟨c,DV x c (S.neq x z) hc⟩
   .have CI:(x == y)=true:=hf;rcases look x c e with⟨_,h1⟩|⟨h1,_⟩
    .show s.1.1.size<=c;lia
    .rw[h1]at CI;cases CI
   .exact Bb b (e0.bs b o e).2
   .exact Bb b (e0.frf b hb)
   .have Bl:i<(vs++ws).length:=by
     unfold start at e2;by_cases hi:i<(vs++ws).length
     .exact hi
     .rw[T5 (by simpa using hi)]at e2;rw[List.getElem?_replicate]at e2;split at e2 <;> cases e2
    have ha:(vs++ws)[i]?=A? v:=by
     unfold start at e2;rw[Ts (by simpa using Bl),Sx]at e2;cases e:(vs++ws)[i]? with
     |none=>rw[e]at e2;cases e2
     |some a=>rw[e]at e2;cases e2;rfl
    rw[SD]at Bl;have hp:=C5 i x (by lia) e1;by_cases hi:i<vs.length
    .rw[Ts hi]at ha;rw[Ts (by lia)]at hp;obtain⟨u,hu,rv⟩:=r.get ha;exact⟨u,rv,.inl ⟨S.par x (Sv hp),jn ndP Es hp hu⟩⟩
    .rw[T5 (by lia)]at ha;rw[T5 (by lia)]at hp;rw[hl]at ha;obtain⟨w',EM,c,hc,yd⟩:=Yo AO hp;rw[ha]at EM;cases EM;obtain⟨u,ru,o,ho,KC⟩:=yd.now e0.hok;have hm:=Sv hp;exact⟨u,ru,.inr ⟨.inr (S.fre x hm),c,DV x c (S.ney x hm) hc,o,yF _ _ ho,KC⟩⟩
   .exact Bb _ (e0.hok.fresh (Su _))
   .rcases look x c e with⟨_,rfl⟩|⟨_,e⟩
    .exact Bb _ (e0.hok.fresh (by lia))
    .exact dG (yw x c e)
   .exact(e0.hok.fgt hx).kept yF
   .show(start N (vs++ws)).length=N.length;unfold start;rw[SD,Sl,List.length_replicate,SD];lia
  have kS:∀{H':Hp}{h':TL},Un (frs outer) [] (fgt (cl.map (·.2)) H) H' s.1 h'->∀b∈cl.map (·.2),∀o,s.1.get? b=A? o->h'.get? b=A? o:=λ{H' h'}un b hb o e=>un.keep b o e (dG hb) (λz=>by
   obtain⟨Bm,e'⟩:=hx b hb;rw[e0.frf b z]at e';cases e') (by simp)
  have DO:∀{H':Hp}{h':TL},Un (frs outer) [] (fgt (cl.map (·.2)) H) H' s.1 h'->∀b∈cl.map (·.2),H' b=none:=λ{H' h'}un b hb=>by
   obtain⟨Bm,e'⟩:=hx b hb;obtain⟨_,⟨o,ho⟩,_⟩:=e0.hok b _ e';exact un.free b o ho (dG hb) (by simp)
  have nS:∀b,H b=Am->b∉cl.map (·.2):=λb e hb=>by
   obtain⟨Bm,e'⟩:=hx b hb;rw[e]at e';cases e'
  have NO:∀{H':Hp}{h':TL},Un (frs outer) [] (fgt (cl.map (·.2)) H) H' s.1 h'->Un (frs outer) [] H (rst (cl.map (·.2)) H H') s.1 h':=λ{H' h'}un=>by
   refine⟨λb o e n hb yf=>un.keep b o e (Bb b n) hb yf,λb o e n hb yf=>un.slot b o e (Bb b n) hb yf,λb o e n yf=>?_,λb o e yf=>un.there b o e yf,λb xs e=>?_,λb o u' e=>?_,λb pp e=>?_⟩
   .rw[bR (nS b n)];exact un.free b o e (Bb b n) yf
   .have hb:=hx.out e (by intro Bm z;cases z);rw[bR hb];exact un.tups b xs (by rw[aQ hb];exact e)
   .have hb:=hx.out e (by intro Bm z;cases z);rw[bR hb];exact un.frzs b o u' (by rw[aQ hb];exact e)
   .have hb:=hx.out e (by intro Bm z;cases z);rw[bR hb];exact un.tbls b pp (by rw[aQ hb];exact e)
  have conv:∀{e:Sq}{s':Sr},CX1 P w outer (fgt (cl.map (·.2)) H) s (exN (cl.map (·.2)) H E) e s'->CX1 P w outer H s E e s':=λ{e s'}z=>by
   obtain⟨ea,C,a0,B,H',rfl,yE,y4,un,hok,zP,b1,b2,q⟩:=z;refine⟨ea,C,a0,B,rst (cl.map (·.2)) H H',D?,yE,y4,NO un,HOk.rst e0.hok hok hx (kS un) (DO un),zP,λb o e nf=>?_,λb u e=>?_,q (DO un)⟩
   .obtain⟨o',g1,g2⟩:=b1 b o e nf;exact⟨o',g1,λn=>g2 (Bb b n)⟩
   .by_cases hb:b∈cl.map (·.2)
    .obtain⟨Bm,e'⟩:=hx b hb;obtain⟨_,⟨o,ho⟩,_⟩:=e0.hok b _ e';obtain⟨o',g1,_⟩:=b1 b o ho λz=>by rw[e0.frf b z]at e';cases e'
     exact⟨o',g1⟩
    .rw[bR hb]at e;exact b2 b u e
  refine TQ (ht [] _ _ _ _ I hq) (λfl s' hs=>?_) λe s' z=>TQ z (λ_ _ z=>conv z) λ_ _ z=>conv z
  have fin:∀{xS:St}{H':Hp}{v:V}{u:Sq},Inv (um P w K mg base N qual scope f (.ref c') y cl A outer s H E) [] xS H' s'->RelV v u->((∀b∈cl.map (·.2),H' b=Am)->Q v (rst (cl.map (·.2)) H H'))->CE outer P w H s Q u s':=λ{xS H' v u}I' rv q'=>by
   have un:Un (frs outer) [] (fgt (cl.map (·.2)) H) H' s.1 s'.1:=I'.base;exact⟨v,rst (cl.map (·.2)) H H',I'.os,I'.bare,NO un,HOk.rst e0.hok I'.hok hx (kS un) (DO un),rv,q' (DO un)⟩
  cases fl with
  | ret u =>
    obtain⟨v,xS,H',J,rv,q⟩:=hs;exact fin J rv q
  | next =>
    obtain⟨xS,H',J,q⟩:=hs;exact fin (v:=V.non) (u:=Ud) J rfl q
  | brk =>
    obtain⟨_,_,_,q⟩:=hs;exact TH q
  | cont =>
    obtain⟨_,_,_,q⟩:=hs;exact TH q
section
variable{X:Cx}{k:Nat}{p:VX}{t:TA}
def ue(X:Cx)(cl:List (SG×So))(sp:Sp)(E:XK)(t:TA):TE:=λY H Q=>t Y H λvs H1=>∀H2,Trk X Y cl H1 H2->sp vs H2 (λv H3=>(∀b∈cl.map (·.2),H3 b=H2 b)/\Q v (fgt (cl.map (·.2)) H3)) λc o H3=>(∀b∈cl.map (·.2),H3 b=H2 b)/\E c o (fgt (cl.map (·.2)) H3)
theorem qC{E:XK}(L:Lv X E)(F:FnOk X.prog X.w X.K X.mg X.base (CX1 X.prog X.w) k f fd ps sp)(hr:Room k X.A)(hg:Gl X x)(hm:X.mg x=A? (.ref f))(hk:UQ X.K (.ref f)=B?)(hb:Binds X.K fd ps [])(oc:g6 X cl)
 (ha:PA X (e::es) t) (Ao:(x == ("__debug__":SG))=false:=by decide) (he:Tr (e::es) X.env=(C?,UZ e X.env)::Tr es X.env:=by rfl) (yN:(Vr pos (Tr es X.env)).any (·.1)=false:=by rfl) :
 PE X (.Call (.Name x p) (e::es) [] pos) (ue X cl sp E t):=by
 intro Z s Y H Q I h;refine Ug (fq I hg hm ?_ Ao);refine VO (h₀:=X.base) I.ok.mod.kin hk (thn (ha pos Z s Y H _ I h) λus s1⟨vs,H1,I1,r,q⟩=>⟨I1.kIn,?_⟩) he yN
 have yB:∀b∈cl.map (·.2),∃y,(y,b)∈cl:=λb hb=>by
  obtain⟨⟨y,c⟩,h1,h2⟩:=Tj.mp hb;cases h2;exact⟨y,h1⟩
 have yd:∀b∈cl.map (·.2),∃v o,s1.1.get? b=A? o/\o.data=.cell v:=λb hb=>by
  obtain⟨y,hy⟩:=yB b hb;obtain⟨v,o,h1,h2⟩:=I1.cell y b (oc.look y b hy);exact⟨v,o,h1,h2⟩
 have zf:∀b∈cl.map (·.2),H1 b=none:=λb hb=>by
  obtain⟨y,hy⟩:=yB b hb;exact I1.freeC y b (oc.look y b hy)
 obtain⟨H2,Ha⟩:∃H2:Hp,H2=λb=>if b∈cl.map (·.2)then A? (.ext λh=>h.get? b=s1.1.get? b/\(h.get? b).isSome=B?)else H1 b:=⟨_,rfl⟩
 have B4:∀b∈cl.map (·.2),H2 b=A? (.ext λh=>h.get? b=s1.1.get? b/\(h.get? b).isSome=B?):=λb hb=>by rw[Ha];exact Yb hb
 have yk:∀b,b∉cl.map (·.2)->H2 b=H1 b:=λb hb=>by rw[Ha];exact Za hb
 have KL:Exts (cl.map (·.2)) H2:=λb hb=>⟨_,B4 b hb⟩;have B5:∀b u,H1 b=A? u->b∉cl.map (·.2):=λb u z hb=>by rw[zf b hb]at z;cases z
 have EO:HOk X.prog X.w H2 s1.1:=λa o ea=>by
  by_cases hb:a∈cl.map (·.2)
  .rw[B4 a hb]at ea;cases ea;obtain⟨v,o,h1,h2⟩:=yd a hb
   exact⟨⟨D?,by rw[h1];rfl⟩,⟨o,h1⟩,λg1 g2 z y=>by
    obtain⟨ob,C3⟩:=VC.mp z.2;have:=y ob C3;exact⟨by rw[this,<-C3];exact z.1,by rw[this];rfl⟩⟩
  .rw[yk a hb]at ea;exact(I1.hok a o ea).stay (λ_ _ _ z=>z) (λb z=>by rw[yk b (B5 b _ z)];exact z) λb xs z=>by rw[yk b (B5 b _ z)];exact z
 have zx:∀b o,X.base.get? b=A? o->b∉cl.map (·.2):=λb o z hb=>by
  obtain⟨y,hy⟩:=yB b hb;have h1:=I1.ok.cab y b (oc.fn y b hy) (oc.look y b hy);exact Yd (SY (SS z) (Td I1.ok.bsz h1)) (Tx _)
 have B6:∀b∈frs X.stack,b∉cl.map (·.2):=λb hb hc=>by
  obtain⟨y,hy⟩:=yB b hc;rcases SR.mp (I1.stkSub b hb)with z|z
  .exact I1.cne y b (oc.look y b hy) z
  .obtain⟨_,o,ho,_⟩:=I1.ok.funs.mem z;have h1:=I1.ok.cab y b (oc.fn y b hy) (oc.look y b hy);exact Yd (SY (SS ho) h1) (Tx _)
 have e0:=I1.env0;have e2:Env0 X.prog X.w X.K X.mg X.base X.A X.stack s1 H2:=⟨e0.frames,e0.mod,λb o z=>⟨(e0.bs b o z).1,by rw[yk b (zx b o z)];exact(e0.bs b o z).2⟩,e0.bsz,e0.funs,λb hb=>by rw[yk b (B6 b hb)];exact e0.frf b hb,EO,e0.bare⟩
 have ER:Trk X Y cl H1 H2:=by
  refine⟨zf,yk,KL,λi y v c hN G7 hc=>?_⟩;have Hb:(y,c)∈cl:=Tf hc;have KN:=oc.look y c Hb;have DP:=oc.kind y c Hb;obtain⟨m,hn,hl⟩:=I1.loc;obtain⟨u,ru,l⟩:=hl i y v hN G7 (.inr (.inl DP));rcases l with⟨z,_⟩|⟨_,c2,Ai,z⟩
  .rw[DP]at z;cases z
  .rw[KN]at Ai;cases Ai;refine⟨_,B4 c (d6 hc),λh z'=>⟨u,ru,?_⟩⟩;obtain⟨o,ho,hd⟩:=z;exact⟨o,by rw[z'.1];exact ho,hd⟩
 have zc:=q H2 ER;have hl:us.length=ps.length:=by rw[<-r.length];exact F.len _ _ _ _ zc
 have zg:=hb s1 us I1.kIn (by rw[T3];exact hl);rw[T3]at zg;refine Xl (VN (F.run X.A X.stack s1 H2 ⟨us,[]⟩ us vs _ _ hr e2 zg r zc) λrr s' hq=>?_)
 have back:∀{H3:Hp}{h':TL},Un (frs X.stack) [] H2 H3 s1.1 h'->(∀b∈cl.map (·.2),H3 b=H2 b)->HOk X.prog X.w H3 h'->Exts (cl.map (·.2)) H3/\(∀b∈cl.map (·.2),h'.get? b=s1.1.get? b)/\Un (frs X.stack) [] H1 (fgt (cl.map (·.2)) H3) s1.1 h':=λ{H3 h'}un hS zR=>by
  have ES:Exts (cl.map (·.2)) H3:=λb hb=>⟨_,(hS b hb).trans (B4 b hb)⟩;have kS:∀b∈cl.map (·.2),h'.get? b=s1.1.get? b:=λb hb=>((zR b _ ((hS b hb).trans (B4 b hb))).1).1;refine⟨ES,kS,λb o z n hb yf=>?_,λb o z n hb yf=>?_,λb o z n yf=>?_,λb o z yf=>un.there b o z yf,λb xs z=>?_,λb o u' z=>?_,λb pp z=>?_⟩
  .by_cases hc:b∈cl.map (·.2)
   .rw[kS b hc];exact z
   .exact un.keep b o z (by rw[yk b hc];exact n) hb yf
  .exact un.slot b o z (by rw[yk b (B6 b hb)];exact n) hb yf
  .by_cases hc:b∈cl.map (·.2)
   .exact dG hc
   .rw[aQ hc];exact un.free b o z (by rw[yk b hc];exact n) yf
  .have hc:=B5 b _ z;rw[aQ hc];exact un.tups b xs (by rw[yk b hc];exact z)
  .have hc:=B5 b _ z;rw[aQ hc];exact un.frzs b o u' (by rw[yk b hc];exact z)
  .have hc:=B5 b _ z;rw[aQ hc];exact un.tbls b pp (by rw[yk b hc];exact z)
 cases rr with
 | error e =>
   refine pJ L Z Y H1 s1 e s' I1 ?_;obtain⟨ea,C,a0,B,H3,e1,yE,y4,un,zR,zP,b1,b2,hS,q3⟩:=hq;obtain⟨ES,kS,Lg⟩:=back un hS zR;refine⟨ea,C,a0,B,fgt (cl.map (·.2)) H3,e1,yE,y4,Lg,zR.fgt ES,zP,λb o z nf=>?_,λb u z=>?_,q3⟩
   .obtain⟨o',g1,g2⟩:=b1 b o z nf;refine⟨o',g1,λn=>?_⟩;by_cases hc:b∈cl.map (·.2)
    .have:=zP.1 b o' g1;rw[kS b hc,z]at this;exact(Tq this).symm
    .exact g2 (by rw[yk b hc];exact n)
   .have hc:b∉cl.map (·.2):=λy=>by rw[dG y]at z;cases z
    rw[aQ hc]at z;exact b2 b u z
 | ok fl =>
   cases fl with
   |next=>exact TH hq
   |brk=>exact TH hq
   |cont=>exact TH hq
   | ret u =>
     obtain⟨v,H3,os,bare,un,zR,rv,hS,q3⟩:=hq;obtain⟨ES,kS,Lg⟩:=back un hS zR;exact⟨v,fgt (cl.map (·.2)) H3,I1.call' (ch:=[]) os Lg (zR.fgt ES) bare (λb z=>by cases z),rv,q3⟩
end
theorem Fun.okTX{w:S0}{c:So}{k:Nat}(F:Fun K x qual st f fd)(hc:fd.code=.ref c)(S:cU N ps (ay st))(len:∀vs H Q E,sp vs H Q E->vs.length=ps.length)
 (yj:∀(A:Ta)(outer:List Wf)(s:Sr)(H:Hp)(vs:List V)(Q:VK)(E:XK),Room k (A.deeper (Vd qual (ay st) s.1.1.size f (.ref c)))->sp vs H Q E ->
  ∃t,PSs (iI (CX1 P w) P w K mg base N qual (ay st) f (.ref c) A outer s H E) (bj st) t/\t {nx:=λ_ H'=>Q .non H',rt:=Q} (start N vs) H):FnOk P w K mg base (CX1 P w) (k+1) f fd ps sp:=by
 obtain⟨oc,od,kV,doc,pm,an,xX,ct,BH,rfl,lk,y9⟩:=F.ex;have yC:xX=.ref c:=hc;subst yC;exact qg lk y9 S len λA outer s H vs Q E hr zc=>yj A outer s H vs Q E hr zc
end L2
namespace BB
open PySem L2
theorem MInv.dn{done:List Th}{js:List Job}{k:Int}(h:MInv o done js k c):(done.length:Int)=k+c:=by
 have h1:=h.size;have h2:=h.kn;have h3:=h.cn;have h4:=jG o;have h5:=jY (jos js);lia
structure MLim(o:Th)(done:List Th)(js:List Job)(k c:Int)(n:Nat):Prop where
 k:k<=400
 c:c<=200
 al:n<=1+3 * done.length
 tl:(∀j∈js,j.r+j.o.tall<=21)->o.tall<=20
theorem MLim.start{k:Th}:MLim o [] [⟨p,k,1,o⟩] 0 0 [a].length:=⟨by decide,by decide,Su 1,λh=>by
 have:=h _ (Uc _);have h2:1+o.tall<=21:=this;lia⟩
theorem MLim.dn{done:List Th}{js:List Job}{k:Int}(h:MLim o done js k c n)(J:MInv o done js k c):done.length<=600:=by
 have:=J.dn;have:=h.k;have:=h.c;lia
theorem nb{m:Nat}:∀{ts:List Th},(∀t∈ts,t.tall<=m)->aK ts<=m
 | [],_=>by rw[aK];exact Tn _
 | t::ts,h=>by
   rw[aK];exact Nat.max_le.mpr ⟨h t (SU ..),nb λu hu=>h u (SN _ hu)⟩
theorem MLim.next{done:List Th}{js zM:List Job}{j:Job}{k c':Int}{n':Nat}(h:MLim o done (js++[j]) k c n)(J:MInv o done (js++[j]) k c)(hl:((j.r:Nat):Int)<=20/\k'<=400/\c'<=200)(hk:k'=if j.o.isCall=B? then k else k+1)(hc:c'=if j.o.isCall=B? then c+1 else c)(h2:jos zM=j.o.kids.reverse)(hr:∀i∈zM,i.r=j.r+1)(h3:j.o.kids.length<=3)(hn:n=(js++[j]).length)(GF:n'=(js++zM).length):MLim o (done++[j.o]) (js++zM) k' c' n':=by
 have e2:zM.length=j.o.kids.length:=by
  have:=Zd Vf h2;unfold jos at this;rw[Sl,Te]at this;exact this
 refine⟨hl.2.1,hl.2.2,?_,λha=>h.tl λi hi=>?_⟩
 .have:=h.al;rw[hn,SD]at this;rw[GF,SD,SD,e2];simp only[SQ,List.length_nil]at this |-;lia
 .rcases S6.mp hi with z|z
  .exact ha i (Tp _ z)
  .rw[Sz.mp z];have ht:=j.o.tall_eq
   have:aK j.o.kids<=20 - j.r:=nb λu hu=>by
    have Aw:u∈jos zM:=by rw[h2];exact Vz.mpr hu
    obtain⟨i2,JB,e⟩:=Tj.mp Aw;have a1:=ha i2 (S3 _ JB);have a2:=hr i2 JB;rw[e,a2]at a1;lia
   have:=hl.1;lia
theorem MLim.small{done:List Th}{k:Int}(h:MLim o done [] k c n)(J:MInv o done [] k c):Small o:=by
 refine⟨h.tl (λj hj=>by cases hj),?_,?_⟩
 .have h1:=J.kn;have h2:=h.k;have:kns (jos [])=0:=rfl;lia
 .have h1:=J.cn;have h2:=h.c;have:cD (jos [])=0:=rfl;lia
theorem rq(l:List Int):∀m:List Int,(aC m l).length<=m.length+l.length:=by
 induction l with
 |nil=>exactλm=>Su _
 | cons s l ih =>
   intro m;have h1:=ih (dk m s)
   have h2:(dk m s).length<=m.length+1:=by
    unfold dk;split
    .exact Nat.le_succ _
    .rw[SD];exact Su _
   rw[SQ];exact Td h1 (by lia)
structure JoinW(ins mid outs:List (SG×Int))(S1 S2:Int)(xR xQ:Th)(xO f':List (List Th)):Prop where
 gm:aB mid
 go:aB outs
 le:ins.length<=8
 f1:fc ins mid S1 xO
 f2:fc mid outs S2 f'
 h1:xR.FitS mid S1 1
 h2:xQ.FitS outs S2 1
 s1:S1<=1000
structure uO(mid:List (SG×Int))(xR xQ:Th)(xO f':List (List Th)):Prop where
 len:(aH (joR mid f' xO) (joH mid f' xQ xR)).length<=20
 smH:Small (joH mid f' xQ xR)
 smR:∀s∈aH (joR mid f' xO) (joH mid f' xQ xR),∀t∈joR mid f' xO s,Small t
section
variable{mid:List (SG×Int)}{S2:Int}{xR xQ:Th}{xO f':List (List Th)}
theorem JoinW.rows(J:JoinW ins mid outs S1 S2 xR xQ xO f')(s:Int)(hs:PairOk S2 S1 s):∀x∈aN (joR mid f' xO s),PairOk S2 S1 x:=λx hx=>by
 obtain⟨t,ht,hx⟩:=Vc.mp hx;obtain⟨u,hu,rfl⟩:=Tj.mp ht;obtain⟨h0,h1,h2,h3⟩:=hs;obtain⟨row,_,e,_,hf⟩:=cq J.f1 h2 h3;rw[e]at hu;obtain⟨C,hC⟩:=hf u hu;exact ii J.gm J.f2 J.s1 _ (Su _) (Lead.sol (eU h0 h1) hC) x hx
theorem JoinW.met(J:JoinW ins mid outs S1 S2 xR xQ xO f'):∀x∈aH (joR mid f' xO) (joH mid f' xQ xR),PairOk S2 S1 x :=
 jc _ (PairOk S2 S1) (λs hs x hx=>J.rows s hs x hx) _ _ _ λx hx=>(be.mp hx).elim (λz=>by cases z) (ii J.gm J.f2 J.s1 _ (Su _) (Lead.sol J.h2 J.h1) x)
theorem JoinW.row8(J:JoinW ins mid outs S1 S2 xR xQ xO f'){s:Int}(h0:0<=s%1000)(h1:s%1000<S1):(joR mid f' xO s).length<=8:=by
 obtain⟨row,_,e,hl,_⟩:=cq J.f1 h0 h1;unfold joR;rw[Sl,e,hl];exact J.le
end
end BB
namespace L2
open PySem PySem.Spec PyProof.Rows PySem.W
def qV(K:Frag)(C1 C2:So)(t1 t2:TS)(D:Ends):St->Sq->Hp->Prop:=λyt c H'=>∃C,c=.ref C/\((exmOne K (.ref C) (.ref C1)=A? B?/\t1 D yt H')\/(exmOne K (.ref C) (.ref C1)=A? C?/\exmOne K (.ref C) (.ref C2)=A? B?/\t2 D yt H'))
def uJ(K:Frag)(C1 C2:So)(tb:(St->Sq->Hp->Prop)->TS)(t1 t2:TS):TS:=λD Y H=>tb (qV K C1 C2 t1 t2 D) D Y H
theorem o7{K:Frag}{C1 C2:So}{tb:(St->Sq->Hp->Prop)->TS}{t1 t2:TS}(R:St->Sq->Hp->Prop)(h1:∀R':St->Sq->Hp->Prop,(∀yt c H',R yt c H'->R' yt c H')->tb R' D Y H)
 (h2:∀yt c H',R yt c H'->qV K C1 C2 t1 t2 D yt c H'):uJ K C1 C2 tb t1 t2 D Y H:=h1 _ h2
theorem tI{X:Cx}{C1 C2:So}{x1 x2:SG}{P6 B8 P7 Av:VX}{NP NQ:List Vj}{b1 b2:Vj}{tb:(St->Sq->Hp->Prop)->TS}{t1 t2:TS}
 (hb:∀Z R,PSs (X.tryB Z R) body (tb R)) (DK:∀ea oe,PSs (X.suite ea oe) (b1::NP) t1) (DG:∀ea oe,PSs (X.suite ea oe) (b2::NQ) t2)
 (yy:X.stack=X.env::X.outer) (DT:X.env.frame=A? X.env.locals) (NR:Gl X x1) (E3:X.mg x1=A? (.ref C1)) (P8:Gl X x2) (P9:X.mg x2=A? (.ref C2))
 (CJ:(x1 == ("__debug__":SG))=false:=by decide) (hd2:(x2 == ("__debug__":SG))=false:=by decide) :
 PS X (.Try body [.ExceptHandler (A? (.Name x1 P6)) Am (b1::NP) B8,.ExceptHandler (A? (.Name x2 P7)) Am (b2::NQ) Av] [] [] pos) (uJ X.K C1 C2 tb t1 t2):=by
 intro Z s Y H D I h;refine wpAny_Try_except ?_;have yj:=hb Z (qV X.K C1 C2 t1 t2 D) [] s Y H D (I.tryB _) h;refine TQ yj (λf s1 q=>?_) λe s1 q=>?_
 .have q':=SP.untryB q;cases f with
  |next=>exact Wu q'
  |brk=>exact q'
  |cont=>exact q'
  |ret u=>exact q'
 .obtain⟨yt,H1,s0,I1,ea,C,a0,B,H',rfl,yE,y4,un,hok,zP,g1,g2,C',Ki,q⟩:=q;cases Ki;rw[yy]at zP;have Lh:X.A.frames=A? (X.env::X.outer):=by rw[<-yy];exact I1.ok.frames
  have inv:∀(h6:TL)(tk:Nat),Heap.FlyingW B (X.env::X.outer) ea (.ref C) a0 h6->s1.1.UpToSlots h6->Inv X Z yt H' {s1 with heap:=h6}:=λh6 tk yO up=>by
   obtain⟨U,_⟩:=oS (fs:=frs X.stack) (H:=H1) (H1:=H1) (h:=s0.1) (h1:=s0.1) (h':=h6) (l:=frs X.stack) (B:=B) Un.refl un (λb o _ z=>z) g1 yO.1 up (λb hb=>⟨I1.stkFree b hb,(I1.stack.mem hb).2⟩);exact I1.call' (s':={s1 with heap:=h6}) (ch:=[]) yE U (jE hok zP.1 yO.1 g2) y4 λ_ z=>nomatch z
  refine wpAny_looks_onW Lh DT zP λh4 Hr P'=>?_;refine wpAny_landsW Hr λh5 C6 Ld=>?_;have E4:=P'.trans Ld;have I5:=inv h5 0 C6 E4;obtain⟨o5,Li,Lj⟩:=C6.there;rcases q with⟨hit,q⟩|⟨miss,hit,q⟩
  .refine wpAny_handleBy_cons (Xv ?_) (by intro q;cases q);have NS:Inv (X.wish X.xe) Z yt H' {s1 with heap:=h5}:=I5;refine U5 I5.ok.kind NR (V5 (by rw[I5.ok.glob];exact I5.mod.glob.keeps I5.bk) E3 ?_) CJ;refine(exm_one (M:=S7 X.prog X.w) (h:=h5) I5.kIn (Lj ▸ (Looks.ld Li).andThen .now) hit).here ?_;refine codeAny_handlers_suite ?_;refine lands_againW (s:={s1 with heap:=h5}) C6 λh6 yO Hn=>?_;have I6:=inv h6 0 yO (E4.trans Hn);obtain⟨oe,vs,Hs,Jj,Ht,_⟩:=yO.first
   have B9:H' ea=none:=by
    cases z:H' ea with
    |none=>rfl
    | some u =>
      obtain⟨o',yD⟩:=g2 ea u z;rw[yO.2.1]at yD;cases yD
   have z6:ea∉frs (X.env::X.outer):=λz=>by
    obtain⟨_,o,ho,nf⟩:=yO.2.2.1.mem z;rw[Hs]at ho;cases ho;exact nf vs Ht
   rw[lb DT]at z6;have IS:Inv (X.suite ea oe) Z yt H' {s1 with heap:=h6}:=I6.suite ⟨Hs,B9,λz=>z6 (z ▸ SU),λz=>z6 (SN _ z),λv z=>by rw[Ht]at z;cases z⟩;refine TQ (DK ea oe Z _ _ H' D IS q) (λf s8 q8=>?_) λ_ _ z=>TH z;cases f with
   |next=>obtain⟨AZ,H8,J,q⟩:=q8;exact⟨_,H8,J.unsuite I1.ok.hd,q⟩
   |brk=>obtain⟨AZ,H8,J,q⟩:=q8;exact⟨_,H8,J.unsuite I1.ok.hd,q⟩
   |cont=>obtain⟨AZ,H8,J,q⟩:=q8;exact⟨_,H8,J.unsuite I1.ok.hd,q⟩
   |ret u=>obtain⟨v,AZ,H8,J,r,q⟩:=q8;exact⟨v,_,H8,J.unsuite I1.ok.hd,r,q⟩
  .refine wpAny_handleBy_cons (Xv ?_) (by intro q;cases q);have NS:Inv (X.wish X.xe) Z yt H' {s1 with heap:=h5}:=I5;refine U5 I5.ok.kind NR (V5 (by rw[I5.ok.glob];exact I5.mod.glob.keeps I5.bk) E3 ?_) CJ;refine(exm_one (M:=S7 X.prog X.w) (h:=h5) I5.kIn (Lj ▸ (Looks.ld Li).andThen .now) miss).here ?_;refine wpAny_handleBy_cons (Xv ?_) (by intro q;cases q);have NS:Inv (X.wish X.xe) Z yt H' {s1 with heap:=h5}:=I5;refine U5 I5.ok.kind P8 (V5 (by rw[I5.ok.glob];exact I5.mod.glob.keeps I5.bk) P9 ?_) hd2;refine(exm_one (M:=S7 X.prog X.w) (h:=h5) I5.kIn (Lj ▸ (Looks.ld Li).andThen .now) hit).here ?_;refine codeAny_handlers_suite ?_;refine lands_againW (s:={s1 with heap:=h5}) C6 λh6 yO Hn=>?_;have I6:=inv h6 0 yO (E4.trans Hn);obtain⟨oe,vs,Hs,Jj,Ht,_⟩:=yO.first
   have B9:H' ea=none:=by
    cases z:H' ea with
    |none=>rfl
    | some u =>
      obtain⟨o',yD⟩:=g2 ea u z;rw[yO.2.1]at yD;cases yD
   have z6:ea∉frs (X.env::X.outer):=λz=>by
    obtain⟨_,o,ho,nf⟩:=yO.2.2.1.mem z;rw[Hs]at ho;cases ho;exact nf vs Ht
   rw[lb DT]at z6;have IS:Inv (X.suite ea oe) Z yt H' {s1 with heap:=h6}:=I6.suite ⟨Hs,B9,λz=>z6 (z ▸ SU),λz=>z6 (SN _ z),λv z=>by rw[Ht]at z;cases z⟩;refine TQ (DG ea oe Z _ _ H' D IS q) (λf s8 q8=>?_) λ_ _ z=>TH z;cases f with
   |next=>obtain⟨AZ,H8,J,q⟩:=q8;exact⟨_,H8,J.unsuite I1.ok.hd,q⟩
   |brk=>obtain⟨AZ,H8,J,q⟩:=q8;exact⟨_,H8,J.unsuite I1.ok.hd,q⟩
   |cont=>obtain⟨AZ,H8,J,q⟩:=q8;exact⟨_,H8,J.unsuite I1.ok.hd,q⟩
   |ret u=>obtain⟨v,AZ,H8,J,r,q⟩:=q8;exact⟨v,_,H8,J.unsuite I1.ok.hd,r,q⟩
end L2
namespace BB
open PySem L2
@[elab_as_elim] theorem nwT {G:Hp->Prop} {o:HO} (h:H a=Am) (k:∀ H',Zf H H'->H' a=A? o->G H'):G (upd H a o):=k _ (ag h _) ad
mutual
theorem mI{ks:List (SG×Int)}:∀t:Th,t.Fit ks->stT t=[]
 |.call _ _,h=>by rw[Zn]at h;exact h.elim
 | .knot _ ts,h=>by
   rw[Zn]at h;rw[bM];exact og ts h.2
theorem og{ks:List (SG×Int)}:∀ts:List Th,Fits ks ts->aN ts=[]
 | [],_=>rfl
 | t::ts,h=>by
   rw[Fits]at h;show stT t++aN ts=[];rw[mI t h.1,og ts h.2];rfl
end
mutual
theorem sU{ks:List (SG×Int)}(S C:Int):∀t:Th,t.Fit ks->t.FitS ks S C
 |.call _ _,h=>by rw[Zn]at h;exact h.elim
 | .knot _ ts,h=>by
   rw[Zn]at h;rw[Zh];exact⟨h.1,rQ S C ts h.2⟩
theorem rQ{ks:List (SG×Int)}(S C:Int):∀ts:List Th,Fits ks ts->FitSs ks S C ts
 | [],_=>by rw[FitSs];trivial
 | t::ts,h=>by
   rw[Fits]at h;rw[FitSs];exact⟨sU S C t h.1,rQ S C ts h.2⟩
end
theorem rR{rows:List (List Th)}(g:aB ins)(ok:fc ins outs S rows):∀(N:Nat)(n:SG)(ks:List Th),(Yk n ks).tall<=N->(∀h∈ks,h.Fit ins) ->
 ∀(M:Nat)(p:Th),p.size<=M->p.FitS outs S (ks.length:Int)->Out ins rows p (.knot n ks) (made (aA ins rows) p (.knot n ks))/\(made (aA ins rows) p (.knot n ks)).Fit outs:=by
 intro N;induction N with
 |zero=>intro n ks h;rw[Yi]at h;lia
 | succ N ih =>
   intro n ks hN hk M;induction M with
   |zero=>intro p h;have:=p.size_pos;lia
   | succ M Kp =>
     intro p hM hf;cases p with
     | call s c =>
       have hl:Lead ins outs S 0 (.call s c) (.knot n ks):=⟨hf,λu hu=>⟨0,sU 0 0 u (hk u hu)⟩⟩;obtain⟨h0,h1,h2,k',yp,hm⟩:=hl.call;have F':=hk k' hm;cases k' with
       |call a b=>rw[Zn]at F';exact F'.elim
       | knot m hs =>
         obtain⟨j,row,p',hj,hr,Bu,_,zi,AA⟩:=Lead.next g ok hl yp;rw[Zn]at F';have:(Yk m hs).tall<=aK ks:=bW hm;rw[Yi]at hN;obtain⟨i1,i2⟩:=ih m hs (by lia) (fV F'.2) _ p' (Su _) zi.fit;rw[AA];exact⟨.step ⟨h0,h2,yp,m,hs,_,j,row,D?,hj,hr,Bu⟩ i1,i2⟩
     | knot m ts =>
       rw[Zh]at hf;rw[Zi]at hM;rw[dR]
       have all:∀us:List Th,am us<=M->FitSs outs S (ks.length:Int) us->Outs ins rows us (.knot n ks) (us.map λp=>made (aA ins rows) p (.knot n ks))/\Fits outs (us.map λp=>made (aA ins rows) p (.knot n ks)):=by
        intro us;induction us with
        |nil=>intro _ _;exact⟨.nil _,by rw[U3,Fits];trivial⟩
        | cons u us Kq =>
          intro h1 h2;rw[am]at h1;rw[FitSs]at h2;obtain⟨g1,g2⟩:=Kp u (by lia) h2.1;obtain⟨g3,g4⟩:=Kq (by lia) h2.2;rw[Tb];exact⟨.cons g1 g3,by rw[Fits];exact⟨g2,g4⟩⟩
       obtain⟨g1,g2⟩:=all ts (by lia) hf.2;refine⟨.mk (.stop m ts _) g1,?_⟩;rw[Zn,Sl];exact⟨hf.1,g2⟩
section
variable{rows:List (List Th)}{h t:Th}
theorem f6(g:aB ins)(ok:fc ins outs S rows)(hh:h.FitS outs S 1)(ht:t.Fit ins):Out ins rows h (.knot (SE "") [t]) (made (aA ins rows) h (sol t))/\(made (aA ins rows) h (sol t)).Fit outs :=
 rR g ok _ _ [t] (Su _) (λu hu=>by rw[Sz.mp hu];exact ht) _ h (Su _) hh
theorem qw{e:Int->Int->Int}(h:stT t=[])(s:Int):bc e pat t s=bc e' pat t s:=by
 have:=ir (e:=e) (e':=e') (pat:=pat) (g:=λs=>s) (φ:=λs=>s) t.size t (Su _) (λs l hl=>by rw[h]at hl;cases hl) s
 rwa [iW,iW]at this
theorem oq(hl:(aH R h).length<=20)(ht:t.Fit ins):made (aA ins (ce R h)) (cZ R h) (sol t)=made (gE ins R) h (sol t):=by
 have hq:∀s,s∈aH R h->∀n,∀x∈stT (gE ins R s n),x∈aH R h:=λs hs n x hx=>ie hl s hs x (qk hx);unfold made sol;show(cZ R h).fill (bL (cS _ [t]))=h.fill (bL (cS _ [t]));rw[<-cB,<-cB];unfold cZ;rw[kW];refine fe _ λs hs k=>?_;by_cases hk:k.toNat=0
 .rw[bt hk,bt hk];have:=hG (e:=enc) (e':=enc) (ψ:=λs=>s) (q:=λs=>s∈aH R h) hq (λs hs n=>lw hs n) _ t (Su _) (λs _ l hl=>by rw[mI t ht]at hl;cases hl) s (jP s hs)
  rwa [iW]at this
 .rw[cP hk,cP hk]
end
section
variable{mid:List (SG×Int)}{S2:Int}{h1 h2:Th}{xO f':List (List Th)}
theorem qF(gi:aB ins)(J:JoinW ins mid outs S1 S2 h1 h2 xO f'){t:Th}(ht:t.Fit ins):made (gE ins (joR mid f' xO)) (joH mid f' h2 h1) (sol t)=made (aA mid f') h2 (sol (made (aA ins xO) h1 (sol t))):=by
 have hX:=mI _ (f6 gi J.f1 J.h1 ht).2;unfold made sol at hX |-;show(joH mid f' h2 h1).fill (bL (cS _ [t]))=h2.fill (bL (cS _ [h1.fill (bL (cS _ [t]))]));have hX:stT (h1.fill (bL (cS (aA ins xO) [t])))=[]:=hX;rw[<-cB]at hX;rw[iq,dP,<-cB,<-cB,<-cB];congr 1;funext s k;by_cases hk:k.toNat=0
 .rw[bt hk,bt hk,qw (e:=enc) (e':=e1) hX];refine(gQ (λs k c s0 s1 k0 k1=>?_) h1 J.h1 s).symm;have zZ:k.toNat=0:=by lia
  rw[bt zZ,bt zZ];exact assoc (SA:=0) (C:=0) gi J.f1 J.s1 _ t (Su _) (sU 0 0 t ht) s c s0 s1
 .rw[cP hk,cP hk,f7]
theorem JoinW.fitB(gi:aB ins)(J:JoinW ins mid outs S1 S2 h1 h2 xO f')(hl:(aH (joR mid f' xO) (joH mid f' h2 h1)).length<=20):fc ins outs ((ce (joR mid f' xO) (joH mid f' h2 h1)).length:Nat) (ce (joR mid f' xO) (joH mid f' h2 h1))/\(cZ (joR mid f' xO) (joH mid f' h2 h1)).FitS outs ((ce (joR mid f' xO) (joH mid f' h2 h1)).length:Nat) 1:=by
 have e:(ce (joR mid f' xO) (joH mid f' h2 h1)).length=(aH (joR mid f' xO) (joH mid f' h2 h1)).length:=by unfold ce;rw[Sl]
 rw[e];refine⟨⟨by rw[e],λrow hr=>?_⟩,mr (S:=1000 * S2) _ ?_ jP⟩
 .obtain⟨s,hs,rfl⟩:=Tj.mp hr;obtain⟨a1,a2,a3,a4⟩:=J.met s hs;obtain⟨row,hr,er,hlen,_⟩:=cq J.f1 a3 a4;have zb:(joR mid f' xO s).length=ins.length:=by unfold joR;rw[Sl,er,hlen]
  refine⟨by rw[Sl];exact zb,λj p k hp hk=>?_⟩;rw[Sx,TM]at hp;obtain⟨u,hu,rfl⟩:=hp;have zo:=Sv hu;unfold joR at hu;rw[er,Sx,TM]at hu;obtain⟨v,hv,rfl⟩:=hu;have Qa:=(J.f1.row row (Sv hr)).2 j v k hv hk;rw[dW]at zo |-;exact mr _ (mL J.gm J.f2 J.s1 _ (Su _) Qa a1 a2) λx hx=>ie hl s hs x (du zo hx)
 .refine hI _ (S:=S2) (C:=1) (S':=1000 * S2) (λs c a b cc d=>?_) h2 J.h2;obtain rfl:c=0:=by lia
  exact mL J.gm J.f2 J.s1 _ (Su _) J.h1 a b
theorem rm(gi:aB ins)(J:JoinW ins mid outs S1 S2 h1 h2 xO f')(hl:(aH (joR mid f' xO) (joH mid f' h2 h1)).length<=20){t x:Th}(ht:t.Fit ins)(hx:Out ins xO h1 (.knot (SE "") [t]) x)(ho:Out mid f' h2 (.knot (SE "") [x]) o) :
 Out ins (ce (joR mid f' xO) (joH mid f' h2 h1)) (cZ (joR mid f' xO) (joH mid f' h2 h1)) (.knot (SE "") [t]) o:=by
 obtain⟨q1,q2⟩:=f6 gi J.f1 J.h1 ht;obtain rfl:=jM gi hx q1;obtain⟨q3,_⟩:=f6 J.gm J.f2 J.h2 q2;obtain rfl:=jM J.gm ho q3;obtain⟨f1,f2⟩:=J.fitB gi hl;have:=(f6 gi f1 f2 ht).1
 rwa [oq hl ht,qF gi J ht]at this
end
def PwI(ks:List (SG×Int))(S:Int)(b0:Th)(rowsB:List (List Th))(h:Th)(rows:List (List Th)):Prop :=
 ∃(S':Int)(h':Th)(ye:List (List Th)),JoinW ks ks ks S' S h' b0 ye rowsB/\JoinW ks ks ks S S' b0 h' rowsB ye/\(aH (joR ks rowsB ye) (joH ks rowsB b0 h')).length<=20/\(aH (joR ks ye rowsB) (joH ks ye h' b0)).length<=20 /\
   (h=cZ (joR ks rowsB ye) (joH ks rowsB b0 h')/\rows=ce (joR ks rowsB ye) (joH ks rowsB b0 h'))/\h=cZ (joR ks ye rowsB) (joH ks ye h' b0)/\rows=ce (joR ks ye rowsB) (joH ks ye h' b0)
theorem JoinOk.w{mid:List (SG×Int)}{S2:Int}{h1 h2:Th}{xO f':List (List Th)}(J:JoinOk ins mid outs S1 S2 h1 h2 xO f')(go:aB outs):JoinW ins mid outs S1 S2 h1 h2 xO f':=⟨J.gm,go,J.le,J.f1,J.f2,J.h1,J.h2,J.s1⟩
section
variable{ks:List (SG×Int)}{b0 h:Th}{rowsB rows:List (List Th)}(gk:aB ks)
include gk
theorem tP(ok:BookOk ks ks S d b0 rowsB)(hd:d<=4)(hS:S<=20):PwI ks S b0 rowsB (fA b0 rowsB) (iz b0 rowsB):=by
 have J1:=gA gk gk ok hd hS;have J2:=kJ gk gk ok hd hS;obtain⟨e1,e2⟩:=nW gk gk ok hd hS;obtain⟨e3,e4⟩:=rB gk gk ok hd hS;exact⟨1,.call 0 0,[cH ks],J1.w gk,J2.w gk,J1.len,J2.len,⟨e1.symm,e2.symm⟩,e3.symm,e4.symm⟩
theorem qT(ok:BookOk ks ks S d b0 rowsB)(hd:d<=4)(hS:S<=20){t:Th}(ht:t.Fit ks)(ho:Out ks rowsB b0 (.knot (SE "") [t]) o):Out ks (iz b0 rowsB) (fA b0 rowsB) (.knot (SE "") [t]) o:=by
 obtain⟨q1,_⟩:=f6 gk ok.fitB ok.hdf ht;obtain rfl:=jM gk ho q1;have J1:=gA gk gk ok hd hS;obtain⟨e1,e2⟩:=nW gk gk ok hd hS;obtain⟨f1,f2⟩:=(J1.w gk).fitB gk J1.len;rw[e1,e2]at f2;rw[e2]at f1;have:=(f6 gk f1 f2 ht).1
 have hl:(aH (rowOf rowsB) b0).length<=20:=by
  have h1:=i8 (S:=S.toNat) (pH (rowOf rowsB) b0) λx hx=>by
   obtain⟨a,b⟩:=ok.metR_rng x hx;exact⟨a,Xx b (Int.self_le_toNat _)⟩
  lia
 have h2:made (aA ks (iz b0 rowsB)) (fA b0 rowsB) (sol t)=made (aA ks rowsB) b0 (sol t):=oq hl ht
 rwa [h2]at this
theorem sL(ok:BookOk ks ks S d b0 rowsB):b0.size<=1000/\∀row∈rowsB,row.length<=8/\(d<=4->∀t∈row,t.size<=1000):=by
 have p2:∀t:Th,t.tall<=5->3 ^ t.tall<=243:=λt ht=>Td (UH (by decide) ht) (by decide);refine⟨?_,λrow hr=>⟨by rw[(ok.row row hr).len];exact gk.le,λhd t ht=>?_⟩⟩
 .have h1:=(eS gk b0 ok.hdf).1;have h2:=p2 b0 (Td ok.hdt (by decide));lia
 .obtain⟨j,hj⟩:=Tg.mp ht;have DR:=ok.row row hr;have zb:=(glE hj);rw[DR.len]at zb;obtain⟨f,tl⟩:=DR.fit j t ks[j] hj (Sn zb);have h1:=(eS gk t f).1;have h2:=p2 t (by lia);lia
omit gk in
theorem wC(ok:BookOk ks ks S d b0 rowsB)(hS:S<=20):CallsOk b0 rowsB:=by
 have hl:=ok.len;refine⟨by lia,λs hs=>by rw[hl];exact fy ok.hdf s hs,λrow hr s hs=>?_⟩;obtain⟨t,ht,hx⟩:=Vc.mp hs;obtain⟨j,hj⟩:=Tg.mp ht;have DR:=ok.row row hr;have zb:=(glE hj);rw[DR.len]at zb;rw[hl];exact fy (DR.fit j t ks[j] hj (Sn zb)).1 s hx
theorem PwI.fit(p:PwI ks S b0 rowsB h rows):fc ks ks (rows.length:Nat) rows/\h.FitS ks (rows.length:Nat) 1/\rows.length<=20:=by
 obtain⟨S',h',ye,J1,J2,l1,l2,⟨e1,e2⟩,e3,e4⟩:=p;obtain⟨f1,f2⟩:=J1.fitB gk l1;rw[<-e2]at f1 f2;rw[<-e1]at f2;refine⟨f1,f2,?_⟩;rw[e2];unfold ce;rw[Sl];exact l1
theorem PwI.j1(p:PwI ks S b0 rowsB h rows):JoinW ks ks ks (rows.length:Nat) S h b0 rows rowsB/\JoinW ks ks ks S (rows.length:Nat) b0 h rowsB rows:=by
 obtain⟨f1,f2,f3⟩:=p.fit gk;obtain⟨S',h',ye,J1,J2,_⟩:=p;exact⟨⟨gk,gk,J1.le,f1,J1.f2,f2,J1.h2,by lia⟩,gk,gk,J1.le,J1.f2,f1,J1.h2,f2,J2.s1⟩
theorem PwI.sym(p:PwI ks S b0 rowsB h rows)(hL:(aH (joR ks rowsB rows) (joH ks rowsB b0 h)).length<=20)(hR:(aH (joR ks rows rowsB) (joH ks rows h b0)).length<=20) :
 cZ (joR ks rowsB rows) (joH ks rowsB b0 h)=cZ (joR ks rows rowsB) (joH ks rows h b0)/\ce (joR ks rowsB rows) (joH ks rowsB b0 h)=ce (joR ks rows rowsB) (joH ks rows h b0):=by
 obtain⟨S',h',ye,J1,J2,l1,l2,⟨e1,e2⟩,e3,e4⟩:=p;have:=oQ (k0:=ks) (k1:=ks) (k2:=ks) (SA:=S) (SB:=S') (a0:=b0) (b0:=h') (c0:=b0) (rowsA:=rowsB) (rowsB:=ye) (rowsC:=rowsB) (hAB:=joH ks ye h' b0) (hBC:=joH ks rowsB b0 h') (RAB:=joR ks ye rowsB) (RBC:=joR ks rowsB ye) rfl rfl (iq _ _ _ _) (iq _ _ _ _) rfl rfl J2.s1 J1.s1 gk J1.f1 J2.f1 l2 l1 J2.met (by rw[<-e3,<-e4];exact hL) (by rw[<-e1,<-e2];exact hR) J2.h1 J1.h1
 rwa [<-e3,<-e4,<-e1,<-e2]at this
theorem PwI.next(p:PwI ks S b0 rowsB h rows)(hL:(aH (joR ks rowsB rows) (joH ks rowsB b0 h)).length<=20)(hR:(aH (joR ks rows rowsB) (joH ks rows h b0)).length<=20):PwI ks S b0 rowsB (cZ (joR ks rowsB rows) (joH ks rowsB b0 h)) (ce (joR ks rowsB rows) (joH ks rowsB b0 h)):=by
 obtain⟨q1,q2⟩:=p.j1 gk;obtain⟨e1,e2⟩:=p.sym gk hL hR;exact⟨_,h,rows,q1,q2,hL,hR,⟨D?,D?⟩,e1,e2⟩
end
end BB
namespace LAW
open PySem L2 BB
def top(i:Nat):Vj:=PySem.Challenge.pw_boughbook_k44_whole_many_times_over.main.body.getD i (.Pass ⟨0,0,0,0⟩)
theorem scm{P:List SG}(a:sc.kind=.function:=by rfl)(b:sc.isCoroutine=false:=by rfl)(c:sc.isGenerator=false:=by rfl)(d:N.Nodup:=by decide +kernel)(e:N.take P.length=P:=by rfl)(f:∀x∈P,sc.names.lookup x=A? .local\/sc.names.lookup x=A? .cell:=by decide +kernel)(g:∀y∈sc.names,y.2≠.free:=by decide +kernel):cU N P sc:=⟨a,b,c,d,e,f,g⟩
abbrev ND(l:List SG):Prop:=l.Nodup
abbrev sC(N:List SG)(k i:Nat):Prop:=cU N (N.take k) (ay (top i))
theorem pb:sC ["thing"] 1 7:=scm
theorem fY:sC ["thing","met","ahead","part"] 1 8:=scm
theorem g7:sC ["tops","done","top","many"] 1 9:=scm
theorem oR:sC ["thing"] 1 11:=scm
theorem mn:sC ["call"] 1 12:=scm
theorem mV:sC ["pattern"] 1 13:=scm
theorem lD:sC ["part","many"] 1 14:=scm
theorem dQ:sC ["pattern","table","tops","part"] 2 15:=scm
theorem bO:sC ["pattern","names","table","state","kid"] 2 16:=scm
theorem jA:cU ["self"] ["self"] (ay (inClass (top 22) 0)):=scm
theorem iO:cU ["self","part","row"] ["self","part","row"] (ay (inClass (top 22) 1)):=scm
theorem qu:sC ["book"] 1 23:=scm
theorem oE:sC ["book"] 1 24:=scm
theorem oU:sC ["book"] 1 25:=scm
theorem nV:sC ["book"] 1 26:=scm
theorem gx:sC ["book","state","name","names"] 3 27:=scm
theorem dm:sC ["pattern","numbers","thing","kid"] 2 29:=scm
theorem br:sC ["ins","outs","head","patterns_of","numbers","fresh_head","rules","thing"] 4 30:=scm
theorem sT:sC ["tree"] 1 34:=scm
theorem oZ:sC ["state"] 1 35:=scm
theorem f9:sC ["book","call","knot","state","kid","handed"] 3 36:=scm
theorem fI:sC ["book","part","knot"] 3 37:=scm
theorem fJ:sC ["book","head","tree","tops","ahead","part","knot","row"] 3 38:=scm
theorem qG:sC ["book","tree"] 2 39:=scm
theorem cm:sC ["second","part","knot","state","kid","lower","handed"] 3 41:=scm
theorem bJ:sC ["second","head","pattern","tops","measure","ahead","part","knot","row"] 3 42:=scm
abbrev j4:Vj:=top 43
theorem i9:sC ["first","second","patterns_of","head"] 2 43:=scm
abbrev i4:Vj:=top 44
theorem o6:sC ["book"] 1 44:=scm
theorem mS:sC ["script","k"] 2 46:=scm
theorem fk:sC ["cell","k","near"] 2 47:=scm
theorem az:sC ["cell","letters","rest","size","more","stem","at","leaf","turn","begun","kinds","k","many","pick","name"] 2 48:=scm
theorem iw:sC ["kinds","cell","leaves"] 2 49:=scm
theorem bD:sC ["cell","outs","states","kids","deep","rest","kind","parts","k"] 5 50:=scm
theorem gj:sC ["left","many","digit"] 2 51:=scm
theorem bo:sC ["left","outs","states","kids","deep","state","some","kind","parts","k"] 5 52:=scm
theorem aP:sC ["cell","ins","outs","states","deep","left","rules","state","row","k"] 5 53:=scm
theorem cT:sC ["cell","ins","outs","states","deep","rules","state","row","k"] 5 54:=scm
theorem il:sC ["kind","kids","high"] 2 55:=scm
theorem ba:sC ["cells","ins","leaf","wide","row","cell","rest","kind","made"] 2 56:=scm
theorem im:sC ["pattern","kids","sizes"] 2 57:=scm
theorem eF:sC ["book","tree","names","kids"] 2 58:=scm
theorem fu:sC ["book","pattern","trees","tree","names"] 3 59:=scm
theorem ck:sC ["first","second","found"] 2 60:=scm
theorem di:sC ["script","kinds","cell","book","tree","due","power","k","size","longer","other"] 1 61:=scm
structure FX(K:Ss)(mg:SG->Option Sq)(n:SG)(i:Nat)(ps:List SG) where
 f:So
 d:Uu
 F:Fun K n n (top i) f d
 b:Binds K d ps []
 m:mg n=A? (.ref f)
structure FT(K:Ss)(mg:SG->Option Sq)(n:SG)(i:Nat)(ps:List SG) extends FX K mg n i ps where
 tc:So
 tp:So
 th:d.code=.ref tc
 t:V9 K n=A? (tc,tp)
 u:K.lookup tp=Am
structure FM(K:Ss)(e:So)(n q:SG)(s:Vj)(ps:List SG) where
 f:So
 d:Uu
 F:Fun K n q s f d
 b:Binds K d ps []
 me:Meth K e n f
section
open PySem.W
variable{K:Frag}{n q:SG}{e:So}{kV dc pm ct:Sq}{an:Option So}{sl:Array (Option Sq)}{tk:Tok}
abbrev HB(n q:SG)(st:Vj)(ps:List SG):Prop:=∀(kV dc pm:Sq)(an:Option So)(cd ct:Sq)(us:List Sq),us.length=ps.length->VT (fnOf n q (bS st) (bj st) (ay st) .none kV dc pm an cd ct) ⟨us,[]⟩=pure (ps.zip us)
theorem hb1{p0:SG}(h:∀(kV dc pm:Sq)(an:Option So)(cd ct u0:Sq),VT (fnOf n q (bS st) (bj st) (ay st) .none kV dc pm an cd ct) ⟨[u0],[]⟩=pure [(p0,u0)]):HB n q st [p0]:=λa b c d e f us hl=>by obtain⟨u0,rfl⟩:=us1 hl;exact h a b c d e f u0
theorem hb2{p0:SG}(h:∀(kV dc pm:Sq)(an:Option So)(cd ct u0 u1:Sq),VT (fnOf n q (bS st) (bj st) (ay st) .none kV dc pm an cd ct) ⟨[u0,u1],[]⟩=pure [(p0,u0),(p1,u1)]):HB n q st [p0,p1]:=λa b c d e f us hl=>by obtain⟨u0,u1,rfl⟩:=us2 hl;exact h a b c d e f u0 u1
theorem hb3{p0:SG}(h:∀(kV dc pm:Sq)(an:Option So)(cd ct u0 u1 u2:Sq),VT (fnOf n q (bS st) (bj st) (ay st) .none kV dc pm an cd ct) ⟨[u0,u1,u2],[]⟩=pure [(p0,u0),(p1,u1),(p2,u2)]):HB n q st [p0,p1,p2]:=λa b c d e f us hl=>by obtain⟨u0,u1,u2,rfl⟩:=us3 hl;exact h a b c d e f u0 u1 u2
theorem hb4{p0 p3:SG}(h:∀(kV dc pm:Sq)(an:Option So)(cd ct u0 u1 u2 u3:Sq),VT (fnOf n q (bS st) (bj st) (ay st) .none kV dc pm an cd ct) ⟨[u0,u1,u2,u3],[]⟩=pure [(p0,u0),(p1,u1),(p2,u2),(p3,u3)]):HB n q st [p0,p1,p2,p3]:=λa b c d e f us hl=>by obtain⟨u0,u1,u2,u3,rfl⟩:=us4 hl;exact h a b c d e f u0 u1 u2 u3
theorem hb5{p0 p3 p4:SG}(h:∀(kV dc pm:Sq)(an:Option So)(cd ct u0 u1 u2 u3 u4:Sq),VT (fnOf n q (bS st) (bj st) (ay st) .none kV dc pm an cd ct) ⟨[u0,u1,u2,u3,u4],[]⟩=pure [(p0,u0),(p1,u1),(p2,u2),(p3,u3),(p4,u4)]):HB n q st [p0,p1,p2,p3,p4]:=λa b c d e f us hl=>by obtain⟨u0,u1,u2,u3,u4,rfl⟩:=us5 hl;exact h a b c d e f u0 u1 u2 u3 u4
noncomputable def fm(a:findIn K (.ref e) n=A? (A? (.ref f)):=by k_is)(i:isFn K (.ref f)=true:=by k_is)(l:K.lookup f=A? ⟨oc,od,.func (fnOf n q (bS st) (bj st) (ay st) .none kV dc pm an cd ct),sl⟩:=by k_is)(c:codeIn K cd q=true:=by k_is)(k:keepIn K (.ref f)=true:=by k_is)(hb:HB n q (st) ps:=by first|exact LAW.hb1 λ_ _ _ _ _ _ _=>rfl|exact LAW.hb2 λ_ _ _ _ _ _ _ _=>rfl|exact LAW.hb3 λ_ _ _ _ _ _ _ _ _=>rfl|exact LAW.hb4 λ_ _ _ _ _ _ _ _ _ _=>rfl|exact LAW.hb5 λ_ _ _ _ _ _ _ _ _ _ _=>rfl):FM K e n q st ps:=⟨f,_,km l c k,(km l c k).binds hb,⟨a,i,k⟩⟩
theorem na(a:findIn K (.ref e) n=A? none:=by k_is):NoAttr K e n:=a
variable(X:K.In h)(G:h.Ns TR mg)
noncomputable def fx{i:Nat}(a:nsIn K TR n=A? (A? (.ref f)):=by k_is)(l:K.lookup f=A? ⟨oc,od,.func (fnOf n n (bS (top i)) (bj (top i)) (ay (top i)) .none kV dc pm an cd ct),sl⟩:=by k_is)(c:codeIn K cd n=true:=by k_is)(k:keepIn K (.ref f)=true:=by k_is)(hb:HB n n (top i) ps:=by first|exact LAW.hb1 λ_ _ _ _ _ _ _=>rfl|exact LAW.hb2 λ_ _ _ _ _ _ _ _=>rfl|exact LAW.hb3 λ_ _ _ _ _ _ _ _ _=>rfl|exact LAW.hb4 λ_ _ _ _ _ _ _ _ _ _=>rfl|exact LAW.hb5 λ_ _ _ _ _ _ _ _ _ _ _=>rfl):FX K mg n i ps:=⟨f,_,km l c k,(km l c k).binds hb,mg_of X G a⟩
noncomputable def ft{i:Nat}{tc tp:So}{to:UD}(a:nsIn K TR n=A? (A? (.ref f)):=by k_is)(l:K.lookup f=A? ⟨oc,od,.func (fnOf n n (bS (top i)) (bj (top i)) (ay (top i)) .none kV dc pm an cd ct),sl⟩:=by k_is)(c:codeIn K cd n=true:=by k_is)(k:keepIn K (.ref f)=true:=by k_is)(hb:HB n n (top i) ps:=by first|exact LAW.hb1 λ_ _ _ _ _ _ _=>rfl|exact LAW.hb2 λ_ _ _ _ _ _ _ _=>rfl|exact LAW.hb3 λ_ _ _ _ _ _ _ _ _=>rfl|exact LAW.hb4 λ_ _ _ _ _ _ _ _ _ _=>rfl|exact LAW.hb5 λ_ _ _ _ _ _ _ _ _ _ _=>rfl)(e:cd=.ref tc:=by rfl)(v:K.lookup tc=A? to:=by k_is)(x:tabAt to=A? tp:=by rfl)(u:K.lookup tp=none:=by kernel_rfl):FT K mg n i ps:=have t:=vg a l e v x;⟨fx X G a l c k hb,tc,tp,tG (km l c k) a t,t,u⟩
include X G
theorem bn(a:nsIn K TR n=A? none:=by k_is):mg n=none:=mg_none_of X G a
theorem gn(a:nsIn K TR n=A? (A? (.ref f)):=by k_is):mg n=A? (.ref f):=mg_of X G a
theorem cs(a:nsIn K TR n=A? (A? (.str x tk)):=by k_is):∃tk,mg n=A? (.str x tk):=⟨tk,mg_of X G a⟩
theorem ci{x:Int}(a:nsIn K TR n=A? (A? (.int x tk)):=by k_is):∃tk,mg n=A? (.int x tk):=⟨tk,mg_of X G a⟩
end
theorem pcF{X:Cx}{kk k:Nat}{n:SG}{st:Nat}{t:TA}{p:VX}(g:FX X.K X.mg n st ps)(F:FnOk X.prog X.w X.K X.mg X.base CX0 k g.f g.d ps sp)(hr:Room kk X.A)(ha:PA X (e::es) t)(hle:k<=kk:=by first|decide|lia)(hg:Gl X n:=by rfl)(Ao:(n == ("__debug__":SG))=false:=by decide)(he:Tr (e::es) X.env=(C?,UZ e X.env)::Tr es X.env:=by rfl)(yN:(Vr pos (Tr es X.env)).any (·.1)=false:=by rfl):PE X (.Call (.Name n p) (e::es) [] pos) (fD sp [] E0 t) :=
 bz F (hr.mono hle) hg g.m g.F.kp g.b .nil dw ha Ao he yN
structure TX(K:Ss)(mg:SG->Option Sq) where
 c_CALL_SIGN:∃tk,mg "CALL_SIGN"=A? (.str (SE "?") tk)
 c_MOST_STATES:∃tk,mg "MOST_STATES"=A? (.int (20) tk)
 c_MOST_ROWS:∃tk,mg "MOST_ROWS"=A? (.int (20) tk)
 c_MOST_KNOTS_books:∃tk,mg "MOST_KNOTS_books"=A? (.int (400) tk)
 c_MOST_CALLS:∃tk,mg "MOST_CALLS"=A? (.int (200) tk)
 c_MOST_KNOTS_running:∃tk,mg "MOST_KNOTS_running"=A? (.int (2000) tk)
 c_TALLEST:∃tk,mg "TALLEST"=A? (.int (150) tk)
 e_BookError:So
 x_BookError:mg "BookError"=A? (.ref e_BookError)
 e_NotOne:So
 x_NotOne:mg "NotOne"=A? (.ref e_NotOne)
 e_Great:So
 x_Great:mg "Great"=A? (.ref e_Great)
 e_Many:So
 x_Many:mg "Many"=A? (.ref e_Many)
 xe_Many:PySem.W.excIn K e_Many [.type "ValueError",.type "Exception",.type "BaseException",.type "object"] "ValueError.__new__"=B?
 xg_Many:TY K (.ref e_Many) "__getattribute__"=A? (A? (.builtin "BaseException.__getattribute__"))
 xh_Many:TY K (.ref e_Many) "__getattr__"=A? Am
 xc_Many:TY K (.ref e_Many) "__class__"=A? (A? (.builtin "object.__class__"))
 xo_Many:Wa K e_Many (.type "object")=A? B?
 xb_Many:Wa K e_Many (.type "BaseException")=A? B?
 hit_Many_Great:VU K (.ref e_Many) (.ref e_Great)=A? C?
 hit_Many_Many:VU K (.ref e_Many) (.ref e_Many)=A? B?
 xe_Great:PySem.W.excIn K e_Great [.type "ValueError",.type "Exception",.type "BaseException",.type "object"] "ValueError.__new__"=B?
 xg_Great:TY K (.ref e_Great) "__getattribute__"=A? (A? (.builtin "BaseException.__getattribute__"))
 xh_Great:TY K (.ref e_Great) "__getattr__"=A? Am
 xc_Great:TY K (.ref e_Great) "__class__"=A? (A? (.builtin "object.__class__"))
 xo_Great:Wa K e_Great (.type "object")=A? B?
 xb_Great:Wa K e_Great (.type "BaseException")=A? B?
 hit_Great_Great:VU K (.ref e_Great) (.ref e_Great)=A? B?
 hit_Great_Many:VU K (.ref e_Great) (.ref e_Many)=A? C?
 xe_NotOne:PySem.W.excIn K e_NotOne [.type "ValueError",.type "Exception",.type "BaseException",.type "object"] "ValueError.__new__"=B?
 xg_NotOne:TY K (.ref e_NotOne) "__getattribute__"=A? (A? (.builtin "BaseException.__getattribute__"))
 xh_NotOne:TY K (.ref e_NotOne) "__getattr__"=A? Am
 xc_NotOne:TY K (.ref e_NotOne) "__class__"=A? (A? (.builtin "object.__class__"))
 xo_NotOne:Wa K e_NotOne (.type "object")=A? B?
 xb_NotOne:Wa K e_NotOne (.type "BaseException")=A? B?
 hit_NotOne_Great:VU K (.ref e_NotOne) (.ref e_Great)=A? C?
 hit_NotOne_Many:VU K (.ref e_NotOne) (.ref e_Many)=A? C?
 g_0:FX K mg "kids_of" 7 ["thing"]
 g_1:FX K mg "walked" 8 ["thing"]
 g_2:FX K mg "built" 9 ["tops"]
 g_3:FX K mg "is_call" 11 ["thing"]
 g_4:FX K mg "called_by" 12 ["call"]
 g_5:FX K mg "called_in" 13 ["pattern"]
 g_6:FX K mg "top_of" 14 ["part"]
 g_7:FX K mg "filled" 15 ["pattern","table"]
 g_8:FX K mg "restated" 16 ["pattern","names"]
 g_11:FX K mg "ins_of" 23 ["book"]
 g_12:FX K mg "outs_of" 24 ["book"]
 g_13:FX K mg "head_of" 25 ["book"]
 g_14:FX K mg "rules_of" 26 ["book"]
 g_15:FX K mg "pattern_of" 27 ["book","state","name"]
 g_16:FX K mg "renamed" 29 ["pattern","numbers"]
 g_17:FX K mg "numbered" 30 ["ins","outs","head","patterns_of"]
 g_18:FX K mg "above" 34 ["tree"]
 g_19:FX K mg "call_of" 35 ["state"]
 g_20:FX K mg "led_on" 36 ["book","call","knot"]
 g_21:FX K mg "resolved" 37 ["book","part","knot"]
 g_22:FX K mg "run" 38 ["book","head","tree"]
 g_23:FX K mg "turned" 39 ["book","tree"]
 g_24:FX K mg "led_over" 41 ["second","part","knot"]
 g_25:FX K mg "run_over" 42 ["second","head","pattern"]
 g_26:FT K mg "joined" 43 ["first","second"]
 g_27:FT K mg "trimmed" 44 ["book"]
 g_28:FX K mg "_law_cell" 46 ["script","k"]
 g_29:FX K mg "_law_turn" 47 ["cell","k"]
 g_30:FX K mg "_law_kinds" 48 ["cell","letters"]
 g_31:FX K mg "_law_leaf" 49 ["kinds","cell"]
 g_32:FX K mg "_law_pattern" 50 ["cell","outs","states","kids","deep"]
 g_33:FX K mg "_law_digit" 51 ["left","many"]
 g_34:FX K mg "_law_by_digits" 52 ["left","outs","states","kids","deep"]
 g_35:FX K mg "_law_book_by_digits" 53 ["cell","ins","outs","states","deep"]
 g_36:FX K mg "_law_book" 54 ["cell","ins","outs","states","deep"]
 g_37:FX K mg "_law_knot" 55 ["kind","kids"]
 g_38:FX K mg "_law_tree" 56 ["cells","ins"]
 g_39:FX K mg "_law_size" 57 ["pattern","kids"]
 g_40:FX K mg "_law_sizes" 58 ["book","tree"]
 g_41:FX K mg "_law_made" 59 ["book","pattern","trees"]
 g_42:FX K mg "_law_joined" 60 ["first","second"]
 g_43:FX K mg "law" 61 ["script"]
 e_Measure:So
 x_Measure:mg "Measure"=A? (.ref e_Measure)
 cl_Measure:Cls K e_Measure
 g_9:FM K e_Measure "__init__" "Measure.__init__" (inClass (top 22) 0) ["self"]
 g_10:FM K e_Measure "takes" "Measure.takes" (inClass (top 22) 1) ["self","part","row"]
 mi_Measure:PySem.W.makesIn K e_Measure=B?/\UQ K (.ref e_Measure)=B?
 na_Measure_met_knots:NoAttr K e_Measure "met_knots"
 na_Measure_met_calls:NoAttr K e_Measure "met_calls"
 n_0:mg "int"=Am
 n_1:mg "len"=Am
 n_2:mg "list"=Am
 n_3:mg "max"=Am
 n_4:mg "range"=Am
 n_5:mg "reversed"=Am
 n_6:mg "sum"=Am
 n_7:mg "tuple"=Am
 ne:g_26.tp≠g_27.tp
theorem TX.X_Many(T:TX K mg):tE K T.e_Many:=⟨T.xe_Many,T.xg_Many,T.xh_Many,T.xc_Many,T.xo_Many,T.xb_Many⟩
theorem TX.X_Great(T:TX K mg):tE K T.e_Great:=⟨T.xe_Great,T.xg_Great,T.xh_Great,T.xc_Great,T.xo_Great,T.xb_Great⟩
theorem TX.X_NotOne(T:TX K mg):tE K T.e_NotOne:=⟨T.xe_NotOne,T.xg_NotOne,T.xh_NotOne,T.xc_NotOne,T.xo_NotOne,T.xb_NotOne⟩
theorem xx:ND ["number","done"]:=by decide +kernel
theorem xG:ND ["part"]:=by decide +kernel
theorem sk:ND ["kind"]:=by decide +kernel
theorem wQ:ND ["kid","knot","row"]:=by decide +kernel
theorem wU:ND ["pattern","numbers"]:=by decide +kernel
theorem xM:ND ["pattern","second","state"]:=by decide +kernel
theorem w8:ND ["kind","deep"]:=by decide +kernel
theorem wo:ND ["kid"]:=by decide +kernel
theorem xH:ND ["part","kids"]:=by decide +kernel
theorem wS:ND ["size"]:=by decide +kernel
theorem wc:ND ["kid","book"]:=by decide +kernel
theorem wT:ND ["row","kids","names","tree"]:=by decide +kernel
theorem wt:ND ["part","book","trees"]:=by decide +kernel
section
variable{w:S0}(T:TX K mg)
namespace G
inductive jQ(vs:List V)(H:Hp)(Q:VK)(_E:XK):Prop
 |mk (rp:Rep) (a:So) (t:Th):vs=[.ref a]->AtG rp H t a->(∀(r:So)(as:List So)(H':Hp),Zf H H'->H' r=A? (.tup (as.map Ye))->AtsG rp H' t.kids as->Q (.ref r) H')->jQ  vs H Q _E
theorem gz:FnOk P w K mg base CX0 1 T.g_0.f T.g_0.d ["thing"] jQ:=by
 refine T.g_0.F.okA pb λxX A outer s H vs Q E hr h=>?_;obtain⟨rp,a,t,rfl,hA,k⟩:=h
 refine⟨_,(ae (bU (aF fG (au aq (pv 0) af (λ_ _=>rfl)) (cx (v:=.str (SE "?")) rfl T.c_CALL_SIGN.choose_spec ⟨_,D?⟩) (aI _)) (ai (av (aO ac))) bp)
  (ai (av (bd gI (pv 0) (bq af) bw)))),?_⟩
 try dsimp only[ym,xW]
 cases t with
 | knot n ks =>
   rw[AtG]at hA;refine hid λZZ kZ=>?_;obtain⟨hn,as,h1,h2⟩:=hA;refine kZ ?_;refine⟨_,D?,a,_,0,.str n,D?,D?,Yg h1,at0,D?,_,D?,?_⟩;refine cK (λc=>Yd (Zc c) (λz=>hn (V.str.inj z))) (λ_=>?_);refine⟨_,D?,1,D?,a,_,D?,Yg h1,?_,λr hr=>?_⟩
   .intro z;have:=z.1;simp[Yj]at this
   .rw[eL];exact k r as _ (ag hr _) ad (h2.mono (fR hr))
 | call sn kn =>
   rw[AtG]at hA;obtain⟨v,hA,yy⟩:=hA;refine⟨_,D?,a,_,0,.str q,D?,D?,Yg hA,at0,D?,_,D?,?_⟩;refine cK (λ_=>?_) (λc=>Yd (Yc rfl) c);refine⟨by show 0<=SM;decide,λr hr=>?_⟩;exact k r [] _ (ag hr _) ad .nil
inductive dh(vs:List V)(H:Hp)(Q:VK)(_E:XK):Prop
 |mk (rp:Rep) (a:So) (t:Th):vs=[.ref a]->AtG rp H t a->Q (.bl t.isCall) H->dh  vs H Q _E
theorem ok_is_call:FnOk P w K mg base CX0 1 T.g_3.f T.g_3.d ["thing"] dh:=by
 refine T.g_3.F.okA oR λxX A outer s H vs Q E hr h=>?_;obtain⟨rp,a,t,rfl,hA,k⟩:=h;refine⟨_,(ai (av (d5 fG (au aq (pv 0) af (λ_ _=>rfl)) (cx (v:=.str (SE "?")) rfl T.c_CALL_SIGN.choose_spec ⟨_,D?⟩) (aI _)))),?_⟩
 try dsimp only[ym,xW]
 cases t with
 | knot n ks =>
   rw[AtG]at hA;refine hid λZZ kZ=>?_;obtain⟨hn,as,h1,h2⟩:=hA;refine kZ ?_;refine⟨_,D?,a,_,0,.str n,D?,D?,Yg h1,at0,D?,?_⟩;have e:decide (Yp n=Yp (SE "?"))=false:=Zb (λz=>hn (V.str.inj z));rw[e];exact k
 | call sn kn =>
   rw[AtG]at hA;obtain⟨v,hA,yy⟩:=hA;refine⟨_,D?,a,_,0,.str q,D?,D?,Yg hA,at0,D?,?_⟩;have e:decide (Yp q=Yp (SE "?"))=true:=Yc rfl;rw[e];exact k
inductive cy(vs:List V)(H:Hp)(Q:VK)(_E:XK):Prop
 |mk (rp:Rep) (a:So) (sn kn:Int):vs=[.ref a]->AtG rp H (.call sn kn) a->(∀p v,StV rp H sn v->H p=Am->Q (.ref p) (upd H p (.tup [v,.int kn])))->cy  vs H Q _E
theorem ok_called_by:FnOk P w K mg base CX0 1 T.g_4.f T.g_4.d ["call"] cy:=by
 refine T.g_4.F.okA mn λxX A outer s H vs Q E hr h=>?_;obtain⟨rp,a,sn,kn,rfl,hA,k⟩:=h;refine⟨_,(ai (av (aO (aa (au aq (pv 0) af (λ_ _=>rfl)) (aa (au aq (pv 0) af (λ_ _=>rfl)) ac))))),?_⟩
 try dsimp only[ym,xW]
 rw[AtG]at hA;obtain⟨v,hA,yy⟩:=hA;exact⟨_,D?,a,_,1,_,D?,D?,Yg hA,at1,_,D?,a,_,2,_,D?,D?,Yg hA,at2,lnE rfl,λp hp=>k p v yy hp⟩
inductive eO(vs:List V)(H:Hp)(Q:VK)(_E:XK):Prop
 |mk (rp:Rep) (a:So) (t:Th):vs=[.ref a]->AtG rp H t a->t.size<=100000->(∀(r:So)(as:List So)(H':Hp),Zf H H'->H r=Am->H' r=A? (.lst (as.map Ye))->AtsG rp H' t.walk as->Q (.ref r) H')->eO  vs H Q _E
theorem ok_walked:FnOk P w K mg base CX0 2 T.g_1.f T.g_1.d ["thing"] eO:=by
 refine T.g_1.F.okA fY λxX A outer s H vs Q E hr h=>?_;obtain⟨rp,a,t,rfl,hA,hsz,k⟩:=h
 refine⟨_,(ae (ak 1 fY.nd (aZ ac))
  (ae (ak 2 fY.nd (aZ (aa (pv 0) ac)))
  (ae (dD Tw (bV (pv 2) (λ_=>rfl)) (ae (ak 3 fY.nd (mB SK V2 V1 mM (pv 2)))
  (ae (aY (bN SK S5 S4 aM (pv 1) (aa (pv 3) ac)))
  (ai (aY (bN SK WC WB oM (pv 2) (aa (tS vI (pcF T.g_0 (gz T) hr (aa (pv 3) ac))) ac)))))))
  (ai (av (pv 1)))))),?_⟩
 try dsimp only[ym,xW]
 refine⟨by show 0<=SM;decide,λmt CK=>?_⟩;refine⟨_,D?,by show 1<=SM;decide,λah AD=>?_⟩;have CL:H ah=none:=(ag CK _).free AD;have yU:ah≠mt:=λz=>by rw[z,ad]at AD;cases AD
 refine⟨λm Y H2=>Ex5 λ(ms as:List So)(Ms As:List Th)(p:Option V)=>An8 (Y=[A? (.ref a),A? (.ref mt),A? (.ref ah),p]) (Zf H H2) (H2 mt=A? (.lst (ms.map Ye))) (H2 ah=A? (.lst (as.map Ye))) (AtsG rp H2 Ms ms) (AtsG rp H2 As as) (Ms++walks As.reverse=t.walk) (m=am As),⟨_,[],[a],[],[t],Am,D?,?_,?_,?_,.nil,.cons (hA.mono ?_) .nil,?_,D?⟩,?_⟩
 .exact aJ (ag CK _) CL
 .rw[aj yU.symm,ad];rfl
 .rw[ad];rfl
 .exact Ze (aJ (ag CK _) CL)
 .simp[walks]
 rintro m Y H2 ⟨ms,as,Ms,As,p,rfl,sm,e1,e2,a1,a2,hw,rfl⟩
 have hlen:ms.length+am As<=100000:=by
  have h1:=Zd Vf hw;rw[SD,eY,Zm,<-a1.length]at h1;have h2:=lY As;lia
 refine⟨_,D?,_,.inl ⟨_,Zg e2,D?⟩,?_⟩;refine cK (λc=>?_) (λc=>?_)
 ·-- a part is taken off
  refine⟨λxS H'=>∃m',m'<am As/\Ex5 λ(ms as:List So)(Ms As:List Th)(p:Option V)=>An8 (xS=[A? (.ref a),A? (.ref mt),A? (.ref ah),p]) (Zf H H') (H' mt=A? (.lst (ms.map Ye))) (H' ah=A? (.lst (as.map Ye))) (AtsG rp H' Ms ms) (AtsG rp H' As as) (Ms++walks As.reverse=t.walk) (m'=am As),λxS H' h=>h,?_⟩;have AE:as≠[]:=by intro z;subst z;simp at c
  obtain⟨yu,b,rfl⟩:∃yu b,as=yu++[b]:=⟨as.dropLast,as.getLast AE,(Vl AE).symm⟩;obtain⟨Us,x,rfl,a3,a4⟩:=a2.snoc_inv;have hs:am (Us++[x])=am Us+x.size:=by rw[aG,am,am];lia
  have RO:=x.size_eq;rw[hs]at hlen;refine⟨_,D?,.inl ⟨D?,_,Zg e2⟩,ah,_,.ref b,D?,D?,e2,by simp,?_⟩;have d1:((yu++[b]).map Ye).dropLast=yu.map Ye:=by simp
  rw[d1];refine⟨_,D?,.inl ⟨D?,_,Zg (by rw[aj yU.symm];exact e1)⟩,_,D?,mt,_,.ref b,D?,D?,by rw[aj yU.symm];exact e1,lbE (by lia),?_⟩;have k1:KT H2 (upd (upd H2 ah (.lst (yu.map Ye))) mt (.lst (ms.map Ye++[.ref b]))):=(aU e2).trans (aU (xs:=ms.map Ye) (by rw[aj yU.symm];exact e1));refine⟨_,D?,.inl ⟨D?,_,Zg (by rw[aj yU,ad])⟩,_,D?,rp,b,x,D?,a4.mono k1,λr ks H3 s3 e3 a5=>?_⟩;refine⟨r,_,D?,Yg e3,λl hl=>?_⟩;have l1:l≠ah:=λz=>by rw[z,s3 ah _ (by rw[aj yU,ad])]at hl;cases hl
  have l2:l≠mt:=λz=>by rw[z,s3 mt _ ad]at hl;cases hl
  refine⟨ah,l,_,_,D?,D?,by rw[aj l1.symm];exact s3 ah _ (by rw[aj yU,ad]),Yg ad,U1 (cI ?_),?_⟩
  .have q1:=a3.length;have q2:=a5.length;have q3:=eJ Us;have q4:=eJ x.kids;rw[Sl,Te,Sl];lia
  .have k2:KT H2 (upd (upd H3 l (.tup (ks.map Ye).reverse)) ah (.lst (yu.map Ye++(ks.map Ye).reverse))) :=
    k1.trans ((Ze s3).trans ((fR hl).trans (aU (xs:=yu.map Ye) (by rw[aj l1.symm];exact s3 ah _ (by rw[aj yU,ad])))))
   have k3:KT H3 (upd (upd H3 l (.tup (ks.map Ye).reverse)) ah (.lst (yu.map Ye++(ks.map Ye).reverse))) :=
    (fR hl).trans (aU (xs:=yu.map Ye) (by rw[aj l1.symm];exact s3 ah _ (by rw[aj yU,ad])))
   refine⟨am (Us++x.kids.reverse),?_,ms++[b],yu++ks.reverse,Ms++[x],Us++x.kids.reverse,A? (.ref b),D?,?_,?_,?_,?_,?_,?_,D?⟩
   .rw[aG,lY,hs];lia
   .have s4:Zf H (upd (upd H2 ah (.lst (yu.map Ye))) mt (.lst (ms.map Ye++[.ref b]))):=aJ (aJ sm CL) CK;have nl:H l=none:=s4.free (s3.free hl);exact aJ (aJ (s4.trans s3) nl) CL
   .rw[aj yU.symm,aj l2.symm,s3 mt _ ad,SI];rfl
   .rw[ad,SI,V6]
   .exact(a1.mono k2).append (.cons (a4.mono k2) .nil)
   .exact(a3.mono k2).append (a5.mono k3).reverse
   .rw[<-hw,Vq,Uw,Uw,UI,dL];show Ms++([x]++(walks x.kids++walks Us.reverse))=Ms++walks (x::Us.reverse);rw[walks,x.walk_eq];rfl
 .have hz:as=[]:=by
   cases as with
   |nil=>rfl
   |cons y ys=>simp at c
  subst hz;have Lk:As=[]:=Uj.mp a2.length.symm;subst Lk;refine⟨_,D?,k mt ms H2 sm CK e1 ?_⟩;have EM:Ms=t.walk:=by simpa[walks]using hw
  rw[<-EM];exact a1
inductive eV(vs:List V)(H:Hp)(Q:VK)(_E:XK):Prop
 |mk (rp:Rep) (a:So) (t:Th):vs=[.ref a]->AtG rp H t a->(∀(r:So)(H':Hp),Zf H H'->TopAtG rp H' (cC Ym t) r->Q (.ref r) H')->eV  vs H Q _E
theorem ok_top_of:FnOk P w K mg base CX0 2 T.g_6.f T.g_6.d ["part"] eV:=by
 refine T.g_6.F.okA lD λxX A outer s H vs Q E hr h=>?_;obtain⟨rp,a,t,rfl,hA,k⟩:=h
 refine⟨_,(ae (ak 1 lD.nd (aw ar rfl T.n_1 S8 (aa (pcF T.g_0 (gz T) hr (aa (pv 0) ac)) ac)))
  (ai (av (aO (aa (bd pM (pv 0) bw (bq (ap gG (aw ar rfl T.n_1 S8 (aa (pv 0) ac)) (pv 1)))) (aa (pv 1) ac)))))),?_⟩
 try dsimp only[ym,xW]
 refine⟨_,D?,rp,a,t,D?,hA,λr as H1 s1 er zp=>⟨r,_,D?,.inr (Yg er),?_⟩⟩;obtain⟨xs,ea⟩:∃xs,H a=A? (.tup xs):=⟨_,hA.tup.choose_spec.choose_spec⟩;refine⟨_,D?,_,D?,a,_,D?,.inr (Yg (s1 _ _ ea)),_,D?,_,_,D?,D?,_,D?,a,_,D?,s1 _ _ ea,λp H2 s2 e2=>?_⟩;have zQ:as.length=t.kids.length:=zp.length;refine⟨_,D?,lnE rfl,λl hl=>?_⟩;refine k l _ (s1.trans (s2.trans (ag hl _))) ?_
 try dsimp only at e2
 cases t with
 | knot n ks =>
   rw[AtG]at hA;refine hid λZZ kZ=>?_;obtain⟨hn,ka,Er,zh⟩:=hA;refine kZ ?_;rw[ea]at Er;cases Er;have Ab:ka.length=ks.length:=zh.length;have B':as.length=ks.length:=zQ
   have e1:((Yp n::ka.map Ye).length:Int) - ((as.map Ye).length:Int)=1:=by
    rw[SQ,Sl,Sl,Ab,B'];lia
   rw[e1,qa]at e2;exact⟨p,by rw[ad,Sl,B'],hn,ag hl _ _ _ e2⟩
 | call sn kn =>
   have B':as.length=0:=zQ;have NT:=hA;rw[AtG]at NT;obtain⟨v,Er,yy⟩:=NT;rw[ea]at Er;cases Er
   have e1:(([Yp q,v,Yh kn]).length:Int) - ((as.map Ye).length:Int)=((3:Nat):Int):=by
    rw[Sl,B'];rfl
   rw[e1,jF (show 3<=3 from Su _)]at e2;have Qb:=hA.mono (Ze (s1.trans s2));have hp:AtG rp H2 (.call sn kn) p:=Qb.same ((s1.trans s2) _ _ ea) e2;refine⟨p,?_,hp.mono (fR hl)⟩;rw[ad,Sl,B'];rfl
inductive fM(vs:List V)(H:Hp)(Q:VK)(_E:XK):Prop
 |mk (rp:Rep) (l:So) (as:List So) (tops:List Top) (u:Th):vs=[.ref l]->H l=A? (.lst (as.map Ye))->Tc (TopAtG rp H) tops as->tops.length<=100000->TopsOk tops->(∀t,Top.th t∈tops->t.size<=100000)->bl tops=[u]->(∀(r:So)(H':Hp),Zf H H'->AtG rp H' u r->Q (.ref r) H')->fM  vs H Q _E
theorem ok_built:FnOk P w K mg base CX0 1 T.g_2.f T.g_2.d ["tops"] fM:=by
 refine T.g_2.F.okA g7 λxX A outer s H vs Q E hr h=>?_;obtain⟨rp,l,as,tops,u,rfl,el,hT,hlen,hok,Ll,hu,k⟩:=h
 refine⟨_,(ae (ak 1 g7.nd (aZ ac))
  (ae (cE Tw rfl (vo rfl T.n_5 (pv 0)) (cR rfl (aD (pgN 2 g7.nd) (aD (pgN 3 g7.nd) b8))) (ai (bU (aF cW (pv 3) af (aI _)) (ai (aY (bN SK S5 S4 aM (pv 1) (aa (ap hW (pv 2) (aR aL rfl T.n_7 Tt (aa (cz (N:=["number","done"]) (js:=[Am,A? 1]) (g:=(aE 0)) (tt:=bv) (te:=(wN K "list" (wV) (bC 1))) rfl (cF rfl (by decide +kernel) (by decide +kernel) rfl rfl rfl) (cA rfl T.n_4 (aa (pv 3) ac)) (λ_ _ _ _ _ _=>(pgN 0 xx)) (bf rfl) (λ_ _ _ _ _ _=>bH) (λ_ _ _ _ _ _=>(mB SK V2 V1 mM (pv 1)))) ac))) ac)))) (ai (aY (bN SK S5 S4 aM (pv 1) (aa (pv 2) ac)))))))
  (ai (av (au cw (pv 1) af (λ_ _=>rfl)))))),?_⟩
 try dsimp only[ym,xW]
 have zQ:tops.length=as.length:=SJ hT;refine⟨lnE rfl,λdn CN=>?_⟩;refine⟨_,D?,l,_,D?,Zg (ag CN _ _ _ el),?_⟩
 refine tW (K:=K) (a:=l) (xs:=as.map Ye) (λi Y H2=>Ex3 λc2 c3 ds=>An4 (Y=[A? (.ref l),A? (.ref dn),c2,c3]) (Zf H H2) (H2 dn=A? (.lst (ds.map Ye))) (AtsG rp H2 (bl (tops.drop (tops.length - i))).reverse ds))
  ⟨Am,Am,[],rfl,ag CN _,ad,by rw[XH,List.drop_length];exact .nil⟩ (λi Y H2 _⟨_,_,_,_,s2,_,_⟩=>Zg (s2 _ _ el)) ?_ ?_
 .rintro i y Y H2 hi hy ⟨c2,c3,ds,rfl,s2,C8,za⟩;rw[Sl,<-zQ]at hi hy;obtain⟨pr,rfl,C9⟩:=aT hy;obtain⟨x,hx,Lm⟩:=Zo hT C9;have NU:=Lm.mono (Ze s2);have hn:tops.length - 1 - i<tops.length:=by lia
  have E5:tops.drop (tops.length - 1 - i)=x::tops.drop (tops.length - i):=by
   rw[List.drop_eq_getElem_cons hn,show tops.length - 1 - i+1=tops.length - i by lia];congr 1;rw[Sn hn]at hx;exact Tq hx
  have Dc:=hok.drop (tops.length - 1 - i);rw[E5]at Dc;have DW:tops.length - (i+1)=tops.length - 1 - i:=by lia
  have Qc:(bl (tops.drop (tops.length - i))).length<=100000:=by
   have:=pf (tops.drop (tops.length - i));rw[Tz]at this;lia
  generalize tops.drop (tops.length - i)=S at E5 za Dc Qc;refine hid λZZ kZ=>?_
  obtain⟨ta,m,xs,Qd,eta,hm,Hu,zm⟩:∃(ta:So)(m:Nat)(xs:List V),H2 pr=A? (.tup [.ref ta,.int (m:Nat)])/\H2 ta=A? (.tup xs)/\m<=(bl S).length/\xs.length<=200000/\∀(H':Hp)(p:So)(ks:List So),KT H2 H'->AtsG rp H' ((bl S).take m) ks->H' p=A? (.tup (xs++ks.map Ye))->∃u',bl (x::S)=u'::(bl S).drop m/\AtG rp H' u' p:=by
   cases x with
   | nm n m =>
     rw[TopsOk]at Dc;obtain⟨ta,h1,h2,h3⟩:=NU;refine⟨ta,m,_,h1,h3,Dc.1,(by show 1<=200000;decide),λH' p ks kt hk hp=>⟨_,by rw[bl],?_⟩⟩;rw[AtG];exact⟨h2,ks,hp,hk⟩
   | th t =>
     obtain⟨ta,h1,h2⟩:=NU;obtain⟨n',r',h3⟩:=h2.tup;have hw:=h2.width h3;have zg:=Ll t (Sv hx);refine⟨ta,0,_,h1,h3,Tn _,by lia,λH' p ks kt hk hp=>⟨t,by rw[bl,US],?_⟩⟩;rw[Va,AtsG]at hk;subst hk;rw[U3,T3]at hp;exact(h2.mono kt).same (kt _ _ h3) hp
  refine kZ ?_;refine⟨pr,_,D?,Yg Qd,D?,_,_,D?,_,_,D?,D?,?_⟩;have Ln:=za.length;rw[Te]at Ln;refine cX (λb H'=>An2 (H'=H2) (b=decide ((0:Int)<(m:Int)))) (λkk Lo=>?_) (λH' hb=>?_) (λH' hb=>?_)
  .exact⟨_,D?,_,_,D?,D?,_,D?,Lo _ _ ⟨D?,D?⟩⟩
  rotate_left
  .obtain⟨rfl,hb⟩:=hb
   have zS:m=0:=by
    have:=of_decide_eq_false hb.symm;lia
   subst zS;obtain⟨u',Aw,yx⟩:=zm H' ta [] (Ze (.refl _)) (by rw[Va];exact .nil) (by rw[U3,T3];exact eta);refine⟨_,D?,.inl ⟨D?,_,Zg C8⟩,_,D?,dn,_,_,D?,D?,C8,lbE (by lia),?_⟩;have k6:KT H' (upd H' dn (.lst (ds.map Ye++[.ref ta]))):=aU C8;refine⟨_,_,ds++[ta],D?,?_,uAE,?_⟩
   .intro b o e;rw[aj (ao e CN)];exact s2 b o e
   .rw[DW,E5,Aw,TU];rw[US];exact(za.mono k6).append (.cons (yx.mono k6) .nil)
  obtain⟨rfl,hb⟩:=hb;refine⟨_,D?,.inl ⟨D?,_,Zg C8⟩,_,D?,?_⟩;refine⟨_,D?,(m:Int),D?,by lia,by lia,λD hD=>?_⟩;have Lp:D≠dn:=λz=>by rw[z,C8]at hD;cases hD
  have CK:((m:Nat):Int).toNat=m:=Ut m
  refine⟨m,λj H3=>An3 (j<=m) ((∀b o,H' b=A? o->b≠dn->H3 b=A? o)) (Ex2 λ(Dd ks:List So)=>An4 (H3 dn=A? (.lst (Dd.map Ye))) (H3 D=A? (.lst (ks.map Ye))) (AtsG rp H3 ((bl S).drop j).reverse Dd) (AtsG rp H3 ((bl S).take j) ks)),
   ⟨Tn _,λb o e hb=>?_,ds,[],?_,?_,?_,?_⟩,?_⟩
  .rw[aj (ao e hD)];exact e
  .rw[aj Lp.symm];exact C8
  .rw[ad];rfl
  .rw[US];exact za.mono (fR hD)
  .rw[Va];exact .nil
  rintro j H3 ⟨hj,kp,Dd,ks,ed,eD,CJ,hd2⟩;by_cases NV:j=m
  .left;refine⟨(by show((m:Nat):Int).toNat<=j;rw[CK,NV];exact Su _),?_⟩;subst NV;have Hv:KT H' H3:=λb RP e=>kp b _ e (de e C8 (by intro z;cases z));refine⟨D,_,D?,.inl ⟨Zg eD,λtp yP=>?_⟩⟩;refine gU yP λH4 s4 e4=>?_;have Ab:=hd2.length;refine rh (s4 _ _ (Hv _ _ eta)) e4 (by rw[Sl,Ab,S9];lia) λp H5 s5 e5=>?_;have Bc:=s4.trans s5;have NW:=Bc _ _ ed;have Lq:=Hv.trans (Ze Bc);obtain⟨u',Aw,yx⟩:=zm H5 p ks Lq (hd2.mono (Ze Bc)) e5;have B1:=CJ.length;rw[Te,Tz]at B1;refine⟨dn,_,_,D?,D?,NW,lbE (by lia),?_⟩;have k6:KT H5 (upd H5 dn (.lst (Dd.map Ye++[.ref p]))):=aU NW;refine⟨_,_,Dd++[p],D?,?_,uAE,?_⟩
   .intro b o e;have hb:b≠dn:=ao e CN;rw[aj hb];exact Bc _ _ (kp b o (s2 b o e) hb)
   .rw[DW,E5,Aw,TU];exact(CJ.mono ((Ze Bc).trans k6)).append (.cons (yx.mono k6) .nil)
  .right;have zN:j<m:=by lia
   refine⟨zN,(by show j<((m:Nat):Int).toNat;rw[CK];exact zN),?_⟩;rintro x' H4 ⟨e1,e2⟩;have J9:H4=H3:=e1;subst J9;have NX:j<(bl S).length:=by lia
   have Qe:(bl S).drop j=(bl S)[j]::(bl S).drop (j+1):=List.drop_eq_getElem_cons NX;rw[Qe,TU]at CJ
   have yU:Dd≠[]:=by
    intro z;subst z;have:=CJ.length;rw[SD]at this;simp at this
   refine hid λZZ kZ=>?_;obtain⟨E6,b,rfl⟩:∃E6 b,Dd=E6++[b]:=⟨Dd.dropLast,Dd.getLast yU,(Vl yU).symm⟩;obtain⟨Us,x2,e3,hU,hb2⟩:=CJ.snoc_inv;have e4:=List.append_inj' e3 rfl;obtain⟨e5,e6⟩:=e4;refine kZ ?_;cases e6;subst e5;refine⟨_,D?,.inl ⟨D?,_,Zg ed⟩,dn,_,.ref b,D?,D?,ed,by simp,?_⟩;have d1:((E6++[b]).map Ye).dropLast=E6.map Ye:=by simp
   rw[d1];have NY:(upd H4 dn (.lst (E6.map Ye))) D=A? (.lst (ks.map Ye)):=by rw[aj Lp];exact eD
   have k5:KT H4 (upd (upd H4 dn (.lst (E6.map Ye))) D (.lst (ks.map Ye++[.ref b]))):=(aU ed).trans (aU NY);refine⟨_,NY,cI (by rw[Sl,hd2.length,S9];lia),zN,λb' o e zg=>?_,E6,ks++[b],?_,?_,hU.mono k5,?_⟩
   .rw[aj (ao e hD),aj zg];exact kp b' o e zg
   .rw[aj Lp.symm,ad]
   .rw[ad,SI];rfl
   .rw[Ui,Sn NX];exact(hd2.mono k5).append (.cons (hb2.mono k5) .nil)
 .rintro Y H2 ⟨c2,c3,ds,rfl,s2,C8,za⟩;rw[Sl,<-zQ,Nat.sub_self,US,hu]at za;have Hw:AtsG rp H2 [u] ds:=za;rw[AtsG]at Hw;obtain⟨b,r,rfl,hb,Ga⟩:=Hw;exact⟨_,D?,dn,_,0,.ref b,D?,D?,Zg C8,at0,k b H2 s2 hb⟩
def CP(rp:Rep)(H:Hp)(c:Int×Int)(a:So):Prop:=∃v,H a=A? (.tup [v,.int c.2])/\StV rp H c.1 v
theorem CP.mono{rp:Rep}(k:KT H H'){c:Int×Int}(h:CP rp H c a):CP rp H' c a:=by
 obtain⟨v,h1,h2⟩:=h;exact⟨v,k _ _ h1,h2.mono k⟩
inductive cV(vs:List V)(H:Hp)(Q:VK)(_E:XK):Prop
 |mk (rp:Rep) (a:So) (t:Th):vs=[.ref a]->AtG rp H t a->t.size<=100000->(∀(r:So)(as:List So)(H':Hp),Zf H H'->H r=Am->H' r=A? (.lst (as.map Ye))->Tc (CP rp H') (bu t) as->Q (.ref r) H')->cV  vs H Q _E
theorem ok_called_in:FnOk P w K mg base CX0 3 T.g_5.f T.g_5.d ["pattern"] cV:=by
 refine T.g_5.F.okA mV λxX A outer s H vs Q E hr h=>?_;obtain⟨rp,a,t,rfl,hA,hsz,k⟩:=h;refine⟨_,(ai (av (cz (N:=["part"]) (js:=[Am]) (g:=(aE 0)) (tt:=(λY H Q=>(fD dh [] E0 (bG (bC 0) fU)) Y H λx H1=>∃k,vG K x H1 k/\Q k H1)) (te:=(fD cy [] E0 (bG (bC 0) fU))) rfl (cF rfl (by decide +kernel) (by decide +kernel) rfl rfl rfl) (cJ (pcF T.g_1 (ok_walked T) hr (aa (pv 0) ac))) (λ_ _ _ _ _ _=>(pgN 0 xG)) (bf rfl) (λ_ _ _ _ _ _=>jJ (bV (pcF T.g_3 (ok_is_call T) hr (aa (pv 0) ac)) (λ_=>rfl))) (λ_ _ _ _ _ _=>(pcF T.g_4 (ok_called_by T) hr (aa (pv 0) ac)))))),?_⟩
 try dsimp only[ym,xW]
 refine⟨_,D?,rp,a,t,D?,hA,hsz,λr as H1 s1 nr er NZ=>⟨r,D?,⟨_,Zg er⟩,?_⟩⟩;have zQ:as.length=t.walk.length:=NZ.length;have yN:=Zm t;intro D hD;refine⟨as.length,λj H2=>An3 (j<=as.length) (Zf H1 H2) (Ex1 λ(bs:List So)=>An2 (H2 D=A? (.lst (bs.map Ye))) (Tc (CP rp H2) ((t.walk.take j).filterMap kH) bs)),⟨Tn _,ag hD _,[],ad,.nil⟩,?_⟩;rintro j H2 ⟨hj,s2,bs,eD,yA⟩;by_cases DX:j=as.length
 .left;refine⟨⟨_,Zg (s2 _ _ er),by rw[Sl,DX];exact Su _⟩,?_⟩;have xV:t.walk.take j=t.walk:=by rw[DX,zQ,Vb]
  rw[xV]at yA;exact k D bs H2 (s1.trans s2) (s1.free hD) eD yA
 .right;have zN:j<as.length:=by lia
  refine⟨zN,⟨_,.ref as[j],Zg (s2 _ _ er),by rw[Sx,Sn zN];rfl⟩,?_⟩;rintro y H3 ⟨rfl,hv⟩;have AN:=hv _ (Zg (s2 _ _ er));obtain⟨ta,rfl,C9⟩:=aT AN;obtain⟨u,Qf,e3⟩:=(NZ.mono (Ze s2)).get C9;have ze:t.walk.take (j+1)=t.walk.take j++[u]:=by rw[Ui,Qf];rfl
  have AR:bs.length<=j:=by
   have g1:=SJ yA;have g2:=VD kH (t.walk.take j);rw[S9]at g2;lia
  refine⟨_,D?,rp,ta,u,D?,e3,_,D?,?_⟩;cases u with
  | knot n ks =>
    refine kN ⟨zN,s2,bs,eD,?_⟩;rw[ze,V4];show Tc (CP rp H3) ((t.walk.take j).filterMap kH++[]) bs;rw[T3];exact yA
  | call sn kn =>
    refine nt ?_;refine⟨_,D?,rp,ta,sn,kn,D?,e3,λca v yy AF=>?_⟩;have s4:Zf H3 (upd H3 ca (.tup [v,.int kn])):=ag AF _;have N0:=s4 _ _ eD;refine⟨_,N0,lbE (by lia),zN,aJ (s2.trans s4) hD,bs++[ca],?_,?_⟩
    .rw[ad,SI];rfl
    .have k5:KT (upd H3 ca (.tup [v,.int kn])) (upd (upd H3 ca (.tup [v,.int kn])) D (.lst (bs.map Ye++[.ref ca]))):=aU N0;rw[ze,V4];refine Zj (Zk (λ_ _ e=>CP.mono ((Ze s4).trans k5) e) yA) (.cons ⟨v,k5 _ _ ad,yy.mono ((Ze s4).trans k5)⟩ .nil)
def jz(x y k:Int):bZ:=([TB x,TB y],TB k)
inductive eT(P:SH)(w:S0)(vs:List V)(H:Hp)(Q:VK)(_E:XK):Prop
 |mk (a ta:So) (t:Th) (f:Int->Int->Th) (xP:List (bZ×V)):vs=[.ref a,.ref ta]->AtG .p H t a->t.size<=100000->DN P w H ta xP->(∀x y k,Ym (enc x y) k∈t.walk->0<=y->y<1000->∃v,bK xP (jz x y k)=A? (.ref v)/\AtG .i H (f (enc x y) k) v/\(f (enc x y) k).size<=100000)->(∀(r:So)(H':Hp),Zf H H'->AtG .i H' (t.fill f) r->Q (.ref r) H')->eT P w vs H Q _E
theorem iK:FnOk P w K mg base CX0 3 T.g_7.f T.g_7.d ["pattern","table"] (eT P w):=by
 refine T.g_7.F.okA dQ λxX A outer s H vs Q E hr h=>?_;obtain⟨a,ta,t,f,xP,rfl,hA,hsz,Jl,yW,k⟩:=h
 refine⟨_,(ae (ak 2 dQ.nd (aZ ac))
  (ae (cE Tw rfl (cJ (pcF T.g_1 (ok_walked T) hr (aa (pv 0) ac))) (pgN 3 dQ.nd) (ai (bU (bV (pcF T.g_3 (ok_is_call T) hr (aa (pv 3) ac)) (λ_=>rfl)) (ai (aY (bN SK S5 S4 aM (pv 2) (aa (aO (aa (sw (sK hr) (pv 1) (pcF T.g_4 (ok_called_by T) hr (aa (pv 3) ac)) (λ_ _=>rfl)) (aa af ac))) ac)))) (ai (aY (bN SK S5 S4 aM (pv 2) (aa (pcF T.g_6 (ok_top_of T) hr (aa (pv 3) ac)) ac)))))))
  (ai (av (pcF T.g_2 (ok_built T) hr (aa (pv 2) ac)))))),?_⟩
 try dsimp only[ym,xW]
 refine⟨lnE rfl,λtl yv=>?_⟩;refine⟨_,D?,.p,a,t,D?,hA.mono (fR yv),hsz,λwl as H1 s1 Hz HA hw=>?_⟩;have BV:as.length=t.walk.length:=hw.length;have Qg:=Zm t;have Lr:Zf H H1:=(ag yv _).trans s1;have Ls:wl≠tl:=λz=>by rw[z,ad]at Hz;cases Hz
 refine⟨wl,D?,⟨_,Zg HA⟩,?_⟩
 refine dY (K:=K) (a:=wl) (xs:=as.map Ye) (λi Y H2=>Ex2 λc bs=>An6 (Y=[A? (.ref a),A? (.ref ta),A? (.ref tl),c]) (Zf H H2) (H2 wl=A? (.lst (as.map Ye))) (AtsG .p H2 t.walk as) (H2 tl=A? (.lst (bs.map Ye))) (Tc (TopAtG .i H2) ((t.walk.take i).map (cC f)) bs))
  ⟨Am,[],rfl,Lr,HA,hw,s1 _ _ ad,.nil⟩ (λi Y H2 _⟨_,_,_,_,e,_,_,_⟩=>Zg e) ?_ ?_
 .rintro i x Y H2 hx ⟨c,bs,rfl,s2,Ca,DY,Bd,yA⟩;obtain⟨xa,rfl,De⟩:=aT hx;obtain⟨tx,HC,E7⟩:=DY.get De;have Lu:tx∈t.walk:=Sv HC;have ze:t.walk.take (i+1)=t.walk.take i++[tx]:=by rw[Ui,HC];rfl
  have AR:bs.length<=100000:=by
   have:=SJ yA;rw[Sl,S9]at this;lia
  refine⟨_,D?,.p,xa,tx,D?,E7,_,D?,?_⟩
  have push:∀(H3:Hp)(p:So),Zf H2 H3->TopAtG .i H3 (cC f tx) p->Ex2 λc Bo=>An6 (([A? (.ref a),A? (.ref ta),A? (.ref tl),A? (.ref xa)]:St)=[A? (.ref a),A? (.ref ta),A? (.ref tl),c]) (Zf H (upd H3 tl (.lst (bs.map Ye++[.ref p])))) ((upd H3 tl (.lst (bs.map Ye++[.ref p]))) wl=A? (.lst (as.map Ye))) (AtsG .p (upd H3 tl (.lst (bs.map Ye++[.ref p]))) t.walk as) ((upd H3 tl (.lst (bs.map Ye++[.ref p]))) tl=A? (.lst (Bo.map Ye))) (Tc (TopAtG .i (upd H3 tl (.lst (bs.map Ye++[.ref p])))) ((t.walk.take (i+1)).map (cC f)) Bo):=by
   intro H3 p s3 hp;have k3:KT H3 (upd H3 tl (.lst (bs.map Ye++[.ref p]))):=aU (s3 _ _ Bd);refine⟨_,bs++[p],D?,aJ (s2.trans s3) yv,by rw[aj Ls];exact s3 _ _ Ca,DY.mono ((Ze s3).trans k3),uAE,?_⟩;rw[ze,SI];exact Zj (gD ((Ze s3).trans k3) yA) (.cons (hp.mono k3) .nil)
  cases tx with
  | call sn kn =>
    refine nt ?_;refine⟨_,D?,.inl ⟨D?,_,Zg Bd⟩,_,D?,_,D?,.p,xa,sn,kn,D?,E7,λcb sv yy Lw=>?_⟩;refine hid λZZ kZ=>?_;obtain⟨pa,x,y,rfl,CO,rfl,DS,AB,zD⟩:=yy;obtain⟨v,hv,Lx,_⟩:=yW x y kn Lu AB zD;refine kZ ?_;have s3:Zf H2 (upd H2 cb (.tup [.ref pa,.int kn])):=ag Lw _;have N1:NKAt (upd H2 cb (.tup [.ref pa,.int kn])) (jz x y kn) cb:=⟨pa,ad,s3 _ _ CO⟩;generalize(upd H2 cb (.tup [.ref pa,.int kn]))=H3 at s3 N1 |-;refine⟨ta,cb,_,xP,.ref v,D?,D?,Jl.mono (s2.trans s3),N1,hv,lnE rfl,λp hp=>?_⟩;have s4:=s3.trans (ag hp (.tup [.ref v,.int 0]));refine⟨tl,_,_,D?,D?,s4 _ _ Bd,lbE (by lia),?_⟩;exact push _ p s4 ⟨v,ad,Lx.mono (Ze (s2.trans s4))⟩
  | knot nm us =>
    refine kN ?_;refine⟨_,D?,.inl ⟨D?,_,Zg Bd⟩,_,D?,.p,xa,.knot nm us,D?,E7,λp H3 s3 hp=>?_⟩;refine⟨tl,_,_,D?,D?,s3 _ _ Bd,lbE (by lia),?_⟩;exact push _ p s3 hp
 .rintro Y H2 ⟨c,bs,rfl,s2,Ca,DY,Bd,yA⟩;rw[Sl,BV,Vb]at yA;obtain⟨b1,b2⟩:=jK f t;refine⟨_,D?,.i,tl,bs,_,t.fill f,D?,Bd,yA,by rw[Sl];lia,b2,?_,b1,λr H3 s3 Df=>k r H3 (s2.trans s3) Df⟩;intro u hu;obtain⟨x,hx,e⟩:=Tj.mp hu;cases x with
  |knot nm us=>cases e
  | call sn kn =>
    cases e;refine hid λZZ kZ=>?_;obtain⟨xa,De,yx⟩:=DY.at (Tg.mp hx).choose_spec;rw[AtG]at yx;obtain⟨sv,_,pa,x,y,_,_,rfl,_,AB,zD⟩:=yx;obtain⟨v,_,_,hz⟩:=yW x y kn hx AB zD;refine kZ ?_;exact hz
theorem iP{t:Th}{s k:Int}(h:Ym s k∈t.walk):(s,k)∈bu t:=Vg.mpr ⟨_,h,rfl⟩
theorem kF{t:Th}{c:Int×Int}(h:c∈bu t):c.1∈stT t:=Tj.mpr ⟨c,h,rfl⟩
inductive dE(P:SH)(w:S0)(vs:List V)(H:Hp)(Q:VK)(_E:XK):Prop
 |mk (a nd:So) (t:Th) (g:Int->Int) (xP:List (List Key×V)):vs=[.ref a,.ref nd]->AtG .p H t a->t.size<=100000->H nd=A? (.dT xP)->(∀x y,enc x y∈stT t->0<=x->0<=y->y<1000->bK xP [TB x,TB y]=A? (.int (g (enc x y))))->(∀(r:So)(H':Hp),Zf H H'->AtG .i H' (ren g t) r->Q (.ref r) H')->dE P w vs H Q _E
theorem fT:FnOk P w K mg base CX0 4 T.g_8.f T.g_8.d ["pattern","names"] (dE P w):=by
 refine T.g_8.F.okA bO λxX A outer s H vs Q E hr h=>?_;obtain⟨a,nd,t,g,xP,rfl,hA,hsz,Ad,E8,k⟩:=h
 refine⟨_,(ae (ak 2 bO.nd tB)
  (ae (cE Tw rfl (cJ (pcF T.g_5 (ok_called_in T) hr (aa (pv 0) ac))) (cR rfl (aD (pgN 3 bO.nd) (aD (pgN 4 bO.nd) b8))) (ai (rK (sK hr) (pv 2) (aO (aa (pv 3) (aa (pv 4) ac))) (aO (aa (cx (v:=.str (SE "?")) rfl T.c_CALL_SIGN.choose_spec ⟨_,D?⟩) (aa (mO (nD hr) (pv 1) (pv 3) (λ_ _=>rfl)) (aa (pv 4) ac)))) rfl)))
  (ai (av (pcF T.g_7 (iK T) hr (aa (pv 0) (aa (pv 2) ac))))))),?_⟩
 try dsimp only[ym,xW]
 intro td H1 JC s1 e1;dsimp only[aE];refine⟨_,D?,.p,a,t,D?,hA.mono (Ze s1),hsz,λr as H2 s2 nr er zX=>⟨r,D?,⟨_,Zg er⟩,?_⟩⟩;have yw:(bu t).length=as.length:=SJ zX
 have Qh:(bu t).length<=100000:=by
  have h1:=VD kH t.walk;have h2:=Zm t;unfold bu;lia
 have E9:r≠td:=λz=>by
  obtain⟨_,_,_,φ,e,_⟩:=e1;rw[z,e]at nr;cases nr
 refine dY (K:=K) (a:=r) (xs:=as.map Ye) (λi Y H3=>Ex3 λ(c3 c4:Option V)(tk:List (bZ×V))=>An7 (Y=[A? (.ref a),A? (.ref nd),A? (.ref td),c3,c4]) (Zf H H3) (H3 r=A? (.lst (as.map Ye))) (Tc (CP .p H3) (bu t) as) (DN P w H3 td tk) (tk.length<=i) (∀c∈(bu t).take i,∀x y,c.1=enc x y->0<=y->y<1000->∃v,bK tk (jz x y c.2)=A? (.ref v)/\AtG .i H3 (.call (g c.1) c.2) v))
  ⟨Am,Am,[],rfl,s1.trans s2,er,zX,e1.mono s2,Su _,λc hc=>by rw[Va]at hc;cases hc⟩ (λi Y H3 _⟨_,_,_,_,_,e,_,_,_,_⟩=>Zg e) ?_ ?_
 .rintro i x Y H3 hx ⟨c3,c4,tk,rfl,s3,zE,yH,E',hlen,xV⟩;refine hid λZZ kZ=>?_;obtain⟨ca,rfl,AF⟩:=aT hx;obtain⟨⟨sn,kn⟩,hc,sv,Dg,yy⟩:=Zo yH AF;obtain⟨pa,x,y,rfl,CO,HE,DS,AB,zD⟩:=yy;refine kZ ?_;dsimp only at HE Dg;subst HE;have Bx:i<100000:=by have:=(glE hc);lia
  have Ly:=E8 x y (kF (Sv hc)) DS AB zD;refine⟨ca,_,D?,Yg Dg,D?,_,_,D?,_,_,D?,D?,?_⟩;dsimp only[aE];have Fb:=s3 _ _ Ad;refine⟨_,D?,_,D?,nd,.int (g (enc x y)),D?,.inr ⟨xP,[.inl x,.inl y],pa,.inl Fb,D?,CO,Ly.symm⟩,_,D?,lnE rfl,λcv EK=>?_⟩;have s4:Zf H3 (upd H3 cv (.tup [.str (SE "?"),.int (g (enc x y)),.int kn])):=ag EK _;have e4:AtG .i (upd H3 cv (.tup [.str (SE "?"),.int (g (enc x y)),.int kn])) (.call (g (enc x y)) kn) cv:=by rw[AtG];exact⟨_,ad,D?⟩
  generalize(upd H3 cv (.tup [.str (SE "?"),.int (g (enc x y)),.int kn]))=H4 at s4 e4 |-;refine⟨_,D?,_,D?,_,D?,lnE rfl,λkp HF=>?_⟩;have s5:Zf H4 (upd H4 kp (.tup [.ref pa,.int kn])):=ag HF _;have e5:NKAt (upd H4 kp (.tup [.ref pa,.int kn])) (jz x y kn) kp:=⟨pa,ad,s5 _ _ (s4 _ _ CO)⟩;generalize(upd H4 kp (.tup [.ref pa,.int kn]))=H5 at s5 e5 |-;have Bc:=s4.trans s5;have HG:=E'.mono Bc;refine⟨td,kp,_,tk,D?,D?,HG,e5,cI (by lia),λH6 Lz Qi=>?_⟩
  have k6:KT H5 H6:=λb xs e=>Lz b _ (λz=>by
   obtain⟨_,_,_,φ,e',_⟩:=HG;rw[z,e']at e;cases e) e
  have HH:=(Ze Bc).trans k6;refine⟨_,_,_,D?,λb o e=>Lz b o (ao e JC) ((s3.trans Bc) b o e),Lz _ _ E9 (Bc _ _ zE),Zk (λ_ _ e=>CP.mono HH e) yH,Qi,?_,λc yC x' y' Dh HI HJ=>?_⟩
  .have:=cg tk (jz x y kn) (.ref cv);lia
  .rw[m9];by_cases zK:jz x' y' c.2=jz x y kn
   .rw[Yb zK];unfold jz at zK;injection zK with h1 h2;injection h1 with h3 h4;injection h4 with h5 _;have e1:x'=x:=Ve h3;have e2:y'=y:=Ve h5;have e3:c.2=kn:=Ve h2;exact⟨cv,D?,by rw[Dh,e1,e2,e3];exact(e4.mono (Ze s5)).mono k6⟩
   .rw[Za zK];rw[take_snoc hc]at yC;rcases S6.mp yC with h|h
    .obtain⟨v,h1,h2⟩:=xV c h x' y' Dh HI HJ;exact⟨v,h1,h2.mono HH⟩
    .refine Yd ?_ zK;rw[Sz.mp h]at Dh |-;obtain⟨h1,h2⟩:=tY Dh AB zD HI HJ;rw[h1,h2]
 .rintro Y H3 ⟨c3,c4,tk,rfl,s3,zE,yH,E',hlen,xV⟩;rw[TC (by rw[Sl];lia)]at xV;refine⟨_,D?,_,D?,a,td,t,λs k=>.call (g s) k,tk,D?,hA.mono (Ze s3),hsz,E',λx y k' yp AB zD=>?_,λr' H4 s4 h4=>k r' H4 (s3.trans s4) h4⟩;obtain⟨v,h1,h2⟩:=xV (enc x y,k') (iP yp) x y rfl AB zD;exact⟨v,h1,h2,by rw[Zi];decide⟩
inductive iN(vs:List V)(H:Hp)(Q:VK)(_E:XK):Prop
 |mk (b:So) (v1 v2 v3 v4:V):vs=[.ref b]->H b=A? (.tup [v1,v2,v3,v4])->Q v1 H->iN  vs H Q _E
inductive fS(vs:List V)(H:Hp)(Q:VK)(_E:XK):Prop
 |mk (b:So) (v1 v2 v3 v4:V):vs=[.ref b]->H b=A? (.tup [v1,v2,v3,v4])->Q v4 H->fS  vs H Q _E
theorem eQ:FnOk P w K mg base CX0 1 T.g_11.f T.g_11.d ["book"] iN:=by
 refine T.g_11.F.okA qu λxX A outer s H vs Q E hr h=>?_;obtain⟨b,v1,v2,v3,v4,rfl,e,q⟩:=h;refine⟨_,(ai (av (au aq (pv 0) af (λ_ _=>rfl)))),?_⟩
 try dsimp only[ym,xW]
 exact⟨_,D?,b,_,0,v1,D?,D?,Yg e,at0,q⟩
theorem d9:FnOk P w K mg base CX0 1 T.g_14.f T.g_14.d ["book"] fS:=by
 refine T.g_14.F.okA nV λxX A outer s H vs Q E hr h=>?_;obtain⟨b,v1,v2,v3,v4,rfl,e,q⟩:=h;refine⟨_,(ai (av (au aq (pv 0) af (λ_ _=>rfl)))),?_⟩
 try dsimp only[ym,xW]
 exact⟨_,D?,b,_,3,v4,D?,D?,Yg e,bQ (j:=3) rfl,q⟩
inductive gC(vs:List V)(H:Hp)(Q:VK)(_E:XK):Prop
 |mk (b:So) (v1 v2 v3 v4:V):vs=[.ref b]->H b=A? (.tup [v1,v2,v3,v4])->Q v2 H->gC  vs H Q _E
theorem fo:FnOk P w K mg base CX0 1 T.g_12.f T.g_12.d ["book"] gC:=by
 refine T.g_12.F.okA oE λxX A outer s H vs Q E hr h=>?_;obtain⟨b,v1,v2,v3,v4,rfl,e,q⟩:=h;refine⟨_,(ai (av (au aq (pv 0) af (λ_ _=>rfl)))),?_⟩
 try dsimp only[ym,xW]
 exact⟨_,D?,b,_,1,v2,D?,D?,Yg e,bQ (j:=1) rfl,q⟩
inductive fj(vs:List V)(H:Hp)(Q:VK)(_E:XK):Prop
 |mk (b:So) (v1 v2 v3 v4:V):vs=[.ref b]->H b=A? (.tup [v1,v2,v3,v4])->Q v3 H->fj  vs H Q _E
inductive jS(vs:List V)(H:Hp)(Q:VK)(_E:XK):Prop
 |mk (v:V):vs=[v]->(∀p,H p=Am->Q (.ref p) (upd H p (.tup [.str (SE ""),v])))->jS  vs H Q _E
inductive eZ(vs:List V)(H:Hp)(Q:VK)(_E:XK):Prop
 |mk (s:Int):vs=[.int s]->(∀p,H p=Am->Q (.ref p) (upd H p (.tup [.str q,.int s,.int 0])))->eZ  vs H Q _E
theorem dg:FnOk P w K mg base CX0 1 T.g_13.f T.g_13.d ["book"] fj:=by
 refine T.g_13.F.okA oU λxX A outer s H vs Q E hr h=>?_;obtain⟨b,v1,v2,v3,v4,rfl,e,q⟩:=h;refine⟨_,(ai (av (au aq (pv 0) af (λ_ _=>rfl)))),?_⟩
 try dsimp only[ym,xW]
 exact⟨_,D?,b,_,2,v3,D?,D?,Yg e,bQ (j:=2) rfl,q⟩
theorem kX:FnOk P w K mg base CX0 1 T.g_18.f T.g_18.d ["tree"] jS:=by
 refine T.g_18.F.okA sT λxX A outer s H vs Q E hr h=>?_;obtain⟨v,rfl,q⟩:=h;refine⟨_,(ai (av (aO (aa dX (aa (pv 0) ac))))),?_⟩
 try dsimp only[ym,xW]
 exact⟨_,D?,lnE rfl,λp hp=>q p hp⟩
theorem kG:FnOk P w K mg base CX0 1 T.g_19.f T.g_19.d ["state"] eZ:=by
 refine T.g_19.F.okA oZ λxX A outer s H vs Q E hr h=>?_;obtain⟨v,rfl,q⟩:=h;refine⟨_,(ai (av (aO (aa (cx (v:=.str (SE "?")) rfl T.c_CALL_SIGN.choose_spec ⟨_,D?⟩) (aa (pv 0) (aa af ac)))))),?_⟩
 try dsimp only[ym,xW]
 exact⟨_,D?,lnE rfl,λp hp=>q p hp⟩
inductive eG(vs:List V)(H:Hp)(Q:VK)(_E:XK):Prop
 |mk (b ia ra yI ta:So) (v2 v3:V) (yc ya yX:List So) (ins:List (SG×Int)) (st:Int) (j:Nat) (k:SG×Int):vs=[.ref b,.int st,.str k.1]->H b=A? (.tup [.ref ia,v2,v3,.ref ra])->H ia=A? (.tup (yc.map Ye))->KsAt H ins yc->aB ins->H ra=A? (.tup (ya.map Ye))->0<=st->ya[st.toNat]?=A? yI->H yI=A? (.tup (yX.map Ye))->ins[j]?=A? k->yX[j]?=A? ta->(∀H',Zf H H'->Q (.ref ta) H')->eG  vs H Q _E
theorem eh:FnOk P w K mg base CX0 2 T.g_15.f T.g_15.d ["book","state","name"] eG:=by
 refine T.g_15.F.okA gx λxX A outer s H vs Q E hr h=>?_;obtain⟨b,ia,ra,yI,ta,v2,v3,yc,ya,yX,ins,st,j,k,rfl,eb,N2,HK,g,era,yy,xZ,zF,hj,zG,q⟩:=h
 refine⟨_,(ae (gf (i:=3) (N:=["kind"]) (js:=[Am]) (g:=(aE 0)) (tt:=bv) (te:=(tOp (iQ K) (bC 0) (tC (.int 0)))) gx.nd rfl (WT rfl) rfl (cF rfl (by decide +kernel) (by decide +kernel) rfl rfl rfl) (d3 (pcF T.g_11 (eQ T) hr (aa (pv 0) ac))) (λ_ _ _ _ _ _=>(pgN 0 sk)) (bf rfl) (λ_ _ _ _ _ _=>bH) (λ_ _ _ _ _ _=>(au aq (pv 0) af (λ_ _=>rfl))))
  (ai (av (au aq (au aq (pcF T.g_14 (d9 T) hr (aa (pv 0) ac)) (pv 1) (λ_ _=>rfl)) (bN SK VQ WK iL (pv 3) (aa (pv 2) ac)) (λ_ _=>rfl))))),?_⟩
 try dsimp only[ym,xW]
 have Bx:ins.length=yc.length:=SJ HK;have Gb:=g.le;refine⟨_,D?,b,_,_,_,_,D?,eb,ia,D?,⟨_,Yg N2⟩,fN ins (λk=>Yp k.1) (Yg N2) (by rw[Sl];exact Bx) (by rw[Sl];lia) (λi x z H2 R W' hx hz s2 hR=>?_) (λD H1 hD s1 e1=>?_)⟩
 .obtain⟨ka,rfl,zh⟩:=aT hx;obtain⟨z',Ax,ez⟩:=Zo HK zh;rw[hz]at Ax;cases Ax;exact⟨_,D?,ka,_,0,.str z.1,D?,D?,Yg (s2 _ _ ez),at0,hR H2 (.refl _)⟩
 have en:ins.map (λk=>Yp k.1)=(ins.map (·.1)).map Yp:=by rw[Ur];rfl
 rw[en]at e1;refine⟨_,D?,b,_,_,_,_,D?,s1 _ _ eb,_,D?,ra,_,st,.ref yI,D?,D?,Yg (s1 _ _ era),at_nonneg yy (gmE xZ),_,D?,.inl ⟨D?,_,Zg e1⟩,_,D?,?_⟩;refine⟨D,ins.map (·.1),k.1,j,D?,D?,Zg e1,by rw[Sx,hj];rfl,λi hi hz=>?_,by rw[Sl];lia,?_⟩
 .rw[Sx]at hz;obtain⟨k',yp,e⟩:=TM.mp hz;have:=g.nd i j k' k yp hj e;lia
 .exact⟨yI,_,(j:Int),.ref ta,D?,D?,Yg (s1 _ _ zF),bQ (gmE zG),q H1 s1⟩
def mf(k c:Int):List (SG×V):=[("met_knots",.int k),("met_calls",.int c)]
theorem mkc:¬(("met_knots":SG)="met_calls"):=by decide +kernel
theorem wW:¬(("met_calls":SG)="met_knots"):=by decide +kernel
theorem tR:dC "met_knots" (.int 0) []=[(("met_knots":SG),Yh 0)]:=rfl
theorem uh:dC "met_calls" (.int 0) [(("met_knots":SG),Yh 0)]=mf 0 0:=by
 unfold mf;rw[dC,Za mkc,dC]
theorem ux(k c z:Int):dC "met_knots" (.int z) (mf k c)=mf z c:=by
 unfold mf;rw[dC,Yb rfl]
theorem uC(k c z:Int):dC "met_calls" (.int z) (mf k c)=mf k z:=by
 unfold mf;rw[dC,Za mkc,dC,Yb rfl]
theorem v6(k c:Int):(mf k c).lookup ("met_knots":SG)=A? (Yh k):=by
 unfold mf;have hb:(("met_knots":SG) == "met_knots")=true:=beq_iff_eq.mpr rfl;simp only[U4,hb]
theorem wM(k c:Int):(mf k c).lookup ("met_calls":SG)=A? (Yh c):=by
 unfold mf;have hb:(("met_calls":SG) == "met_calls")=true:=beq_iff_eq.mpr rfl;have hc:(("met_calls":SG) == "met_knots")=false:=beq_eq_false_iff_ne.mpr wW;simp only[U4,hb,hc]
theorem uI{m:SG}(k c:Int)(h1:(m == ("met_knots":SG))=C?)(h2:(m == ("met_calls":SG))=C?):(mf k c).lookup m=none:=by
 unfold mf;simp only[U4,h1,h2]
theorem rP(k c:Int):(mf k c).length<1000:=by show 2<1000;decide
inductive dH(C:So)(vs:List V)(H:Hp)(Q:VK)(_E:XK):Prop
 |mk (x dx:So):vs=[.ref x]->H x=A? (.ins C dx [])->(∀H':Hp,(∀b o,b≠x->H b=A? o->H' b=A? o)->H' x=A? (.ins C dx (mf 0 0))->Q .non H')->dH C vs H Q _E
theorem fB:FnOk P w K mg base CX0 1 T.g_9.f T.g_9.d ["self"] (dH T.e_Measure):=by
 refine T.g_9.F.okA jA λxX A outer s H vs Q E hr h=>?_;obtain⟨x,dx,rfl,ex,q⟩:=h
 refine⟨_,(ae (tm (pv 0) af rfl)
  (ai (tm (pv 0) af rfl))),?_⟩
 try dsimp only[ym,xW]
 refine⟨_,D?,x,T.e_Measure,dx,_,D?,ex,T.cl_Measure,T.na_Measure_met_knots,(by show 0<1000;decide),?_⟩;refine⟨_,D?,x,T.e_Measure,dx,_,D?,ad,T.cl_Measure,T.na_Measure_met_calls,(by show 1<1000;decide),?_⟩;refine q _ (λb o hb e=>?_) ?_
 .rw[aj hb,aj hb];exact e
 .rw[ad,tR,uh]
inductive eW(C:So)(vs:List V)(H:Hp)(Q:VK)(_E:XK):Prop
 |mk (x dx pa:So) (k c row:Int) (t:Th) (rp:Rep):vs=[.ref x,.ref pa,.int row]->H x=A? (.ins C dx (mf k c))->AtG rp H t pa->(∀(k' c':Int)(H':Hp),k'=(if t.isCall=B? then k else k+1)->c'=(if t.isCall=B? then c+1 else c)->(∀b o,b≠x->H b=A? o->H' b=A? o)->H' x=A? (.ins C dx (mf k' c'))->Q (.bl (decide (row<=20/\k'<=400/\c'<=200))) H')->eW C vs H Q _E
theorem ja:FnOk P w K mg base CX0 2 T.g_10.f T.g_10.d ["self","part","row"] (eW T.e_Measure):=by
 refine T.g_10.F.okA iO λxX A outer s H vs Q E hr h=>?_;obtain⟨x,dx,pa,k,c,row,t,rp,rfl,ex,hA,q⟩:=h
 refine⟨_,(ae (bU (bV (pcF T.g_3 (ok_is_call T) hr (aa (pv 1) ac)) (λ_=>rfl)) (ai (l9 (pv 0) af sV)) (ai (l9 (pv 0) af sV)))
  (ai (av (rg (d5 tq (pv 2) (cx (v:=.int (20)) rfl T.c_MOST_ROWS.choose_spec ⟨_,D?⟩) (aI _)) (rg (d5 tq (r8 (pv 0) rfl) (cx (v:=.int (400)) rfl T.c_MOST_KNOTS_books.choose_spec ⟨_,D?⟩) (aI _)) (vx (d5 tq (r8 (pv 0) rfl) (cx (v:=.int (200)) rfl T.c_MOST_CALLS.choose_spec ⟨_,D?⟩) (aI _)))))))),?_⟩
 try dsimp only[ym,xW]
 refine bX (λxS H'=>Ex2 λ(k' c':Int)=>An5 (k'=(if t.isCall=B? then k else k+1)) (c'=(if t.isCall=B? then c+1 else c)) ((∀b o,b≠x->H b=A? o->H' b=A? o)) (H' x=A? (.ins T.e_Measure dx (mf k' c'))) (xS=[A? (.ref x),A? (.ref pa),A? (.int row)])) (λkk hk=>?_) ?_
 .refine cX (λb H'=>An2 (H=H') (b=t.isCall)) (λk2 yM=>?_) (λH' hb=>?_) (λH' hb=>?_)
  .exact⟨_,D?,rp,pa,t,D?,hA,_,D?,yM _ _ ⟨D?,D?⟩⟩
  .obtain⟨rfl,hb⟩:=hb;refine⟨_,D?,x,T.e_Measure,dx,_,_,D?,ex,T.cl_Measure,T.na_Measure_met_calls,wM k c,c,1,D?,D?,dx,_,ex,rP k c,?_⟩;exact hk _ _ ⟨k,c+1,by rw[Yb hb.symm],by rw[Yb hb.symm],λb o hb e=>by rw[aj hb];exact e,by rw[ad,uC],rfl⟩
  .obtain⟨rfl,hb⟩:=hb;have zg:¬t.isCall=true:=λz=>by rw[<-hb]at z;cases z
   refine⟨_,D?,x,T.e_Measure,dx,_,_,D?,ex,T.cl_Measure,T.na_Measure_met_knots,v6 k c,k,1,D?,D?,dx,_,ex,rP k c,?_⟩;exact hk _ _ ⟨k+1,c,by rw[Za zg],by rw[Za zg],λb o hb e=>by rw[aj hb];exact e,by rw[ad,ux],rfl⟩
 rintro xS H' ⟨k',c',yp,yC,hs,Ji,rfl⟩;have q':=q k' c' H' yp yC hs Ji;clear q;refine⟨_,D?,_,_,D?,D?,?_⟩;refine⟨_,D?,?_⟩;by_cases c1:row<=20
 .rw[Yb (Yc c1)];refine⟨_,D?,x,T.e_Measure,dx,_,_,D?,Ji,T.cl_Measure,T.na_Measure_met_knots,v6 k' c',_,_,D?,D?,_,D?,?_⟩;by_cases c2:k'<=400
  .rw[Yb (Yc c2)];refine⟨_,D?,x,T.e_Measure,dx,_,_,D?,Ji,T.cl_Measure,T.na_Measure_met_calls,wM k' c',_,_,D?,D?,?_⟩;have e:decide (row<=20/\k'<=400/\c'<=200)=decide (c'<=200):=by simp[c1,c2]
   rw[e]at q';exact q'
  .rw[Za (λz=>c2 (Zc z))];rw[Zb (λz=>c2 z.2.1)]at q';exact q'
 .rw[Za (λz=>c1 (Zc z))];rw[Zb (λz=>c1 z.1)]at q';exact q'
inductive jg(vs:List V)(H:Hp)(Q:VK)(_E:XK):Prop
 |mk (b pa ka:So) (ins outs:List (SG×Int)) (S S1:Int) (head:Th) (rows:List (List Th)) (p:Th) (kn:SG) (BJ:List Th):vs=[.ref b,.ref pa,.ref ka]->Bk H ins outs head rows b->aB ins->fc ins outs S rows->S1<=1000->AtG .i H p pa->AtG .i H (.knot kn BJ) ka->Lead ins outs S S1 p (.knot kn BJ)->(∀(r HL N3:So)(H':Hp),Zf H H'->H' r=A? (.tup [.ref HL,.ref N3])->((∃n ks n' Fc,AtG .i H' (.knot n ks) HL/\AtG .i H' (.knot n' Fc) N3/\Lead ins outs S S1 (.knot n ks) (.knot n' Fc)/\made (aA ins rows) p (.knot kn BJ)=made (aA ins rows) (.knot n ks) (.knot n' Fc))\/∃c h,AtG .p H' (.call c h) HL/\made (aA ins rows) p (.knot kn BJ)=.call c h)->Q (.ref r) H')->jg  vs H Q _E
theorem ox:FnOk P w K mg base CX0 3 T.g_24.f T.g_24.d ["second","part","knot"] jg:=by
 refine T.g_24.F.okA cm λxX A outer s H vs Q E hr h=>?_;obtain⟨b,pa,ka,ins,outs,S,S1,head,rows,p,kn,BJ,rfl,hb,g,hok,HM,hp,hk,hl,q⟩:=h
 refine⟨_,(ae (dD Tw (bV (pcF T.g_3 (ok_is_call T) hr (aa (pv 1) ac)) (λ_=>rfl)) (ae (eg (pcF T.g_4 (ok_called_by T) hr (aa (pv 1) ac)) (cR rfl (aD (pgN 3 cm.nd) (aD (pgN 4 cm.nd) b8))))
  (ae (ak 2 cm.nd (au aq (pv 2) (ap bA (pv 4) af) (λ_ _=>rfl)))
  (ae (bU (bV (pcF T.g_3 (ok_is_call T) hr (aa (pv 2) ac)) (λ_=>rfl)) (ae (eg (pcF T.g_4 (ok_called_by T) hr (aa (pv 2) ac)) (cR rfl (aD (pgN 5 cm.nd) (aD (pgN 6 cm.nd) b8))))
  (ai (av (aO (aa (aO (aa (cx (v:=.str (SE "?")) rfl T.c_CALL_SIGN.choose_spec ⟨_,D?⟩) (aa (aO (aa (pv 3) (aa (pv 5) ac))) (aa (pv 6) ac)))) (aa (pv 2) ac)))))) bp)
  (ai (ak 1 cm.nd (pcF T.g_15 (eh T) hr (aa (pv 0) (aa (pv 3) (aa (au aq (pv 2) af (λ_ _=>rfl)) ac))))))))))
  (ai (av (aO (aa (pv 1) (aa (pv 2) ac)))))),?_⟩
 try dsimp only[ym,xW]
 refine⟨λmz Y H2=>Ex7 λ(pa ka:So)(p2:Th)(n2:SG)(AG:List Th)(v3 v4:Option V)=>An7 (Y=[A? (.ref b),A? (.ref pa),A? (.ref ka),v3,v4,Am,Am]) (Zf H H2) (AtG .i H2 p2 pa) (AtG .i H2 (.knot n2 AG) ka) (Lead ins outs S S1 p2 (.knot n2 AG)) (made (aA ins rows) p (.knot kn BJ)=made (aA ins rows) p2 (.knot n2 AG)) (mz=(Yk n2 AG).tall),⟨_,pa,ka,p,kn,BJ,Am,Am,D?,.refl _,hp,hk,hl,D?,D?⟩,?_⟩;rintro mz Y H2 ⟨pa,ka,p2,n2,AG,v3,v4,rfl,s2,Av,yM,Bj,hm,rfl⟩;refine⟨_,D?,.i,pa,p2,D?,Av,_,D?,?_⟩;cases p2 with
 | knot n ks =>
   refine kN ?_;refine⟨_,D?,_,D?,lnE rfl,λr z7=>?_⟩;have s3:=ag z7 (.tup [.ref pa,.ref ka]);exact q r pa ka _ (s2.trans s3) ad (.inl ⟨n,ks,n2,AG,Av.mono (Ze s3),yM.mono (Ze s3),Bj,hm⟩)
 | call st kd =>
   refine nt ?_;refine⟨λxS H'=>∃m',m'<(Yk n2 AG).tall/\Ex7 λ(pa ka:So)(p2:Th)(n2:SG)(AG:List Th)(v3 v4:Option V)=>An7 (xS=[A? (.ref b),A? (.ref pa),A? (.ref ka),v3,v4,Am,Am]) (Zf H H') (AtG .i H' p2 pa) (AtG .i H' (.knot n2 AG) ka) (Lead ins outs S S1 p2 (.knot n2 AG)) (made (aA ins rows) p (.knot kn BJ)=made (aA ins rows) p2 (.knot n2 AG)) (m'=(Yk n2 AG).tall),λxS H' h=>h,?_⟩;refine hid λZZ kZ=>?_;obtain⟨JD,DK,zZ,k',yp,HN⟩:=Bj.call;have DP:(Yk n2 AG).kids=AG:=rfl;rw[DP]at yp HN;have yv:=bW HN;have HP:=yM;rw[AtG]at HP;obtain⟨FR,Di,yZ,LA⟩:=HP;obtain⟨ua,Cb,Dj⟩:=LA.at yp;refine kZ ?_;refine⟨_,D?,.i,pa,st,kd,D?,Av,λc v yy hc=>⟨c,_,D?,Yg ad,D?,_,_,D?,_,_,D?,D?,?_⟩⟩;obtain rfl:v=Yh st:=yy;refine gU hc λH3 s3 _=>?_;have DZ:=s2.trans s3;have Dk:=Dj.mono (Ze s3);refine⟨_,D?,_,D?,_,_,D?,D?,ka,_,_,.ref ua,D?,D?,Yg (s3 _ _ yZ),at_nonneg (by lia) (by rw[show(kd+1).toNat=kd.toNat+1 by lia,List.getElem?_cons_succ,Sx,Cb];rfl),?_⟩;refine⟨_,D?,.i,ua,k',D?,Dk,_,D?,?_⟩;cases k' with
   | call l h =>
     refine nt ?_;refine⟨_,D?,.i,ua,l,h,D?,Dk,λc2 v2 LB Ai=>⟨c2,_,D?,Yg ad,D?,_,_,D?,_,_,D?,D?,?_⟩⟩;obtain rfl:v2=Yh l:=LB;refine gU Ai λH4 s4 _=>?_;refine⟨_,D?,_,D?,lnE rfl,λpp Qj=>⟨_,D?,lnE rfl,λcp Qk=>⟨_,D?,lnE rfl,λr z7=>?_⟩⟩⟩;have t1:=ag Qj (.tup [.int st,.int l]);have t2:=ag Qk (.tup [.str (SE "?"),.ref pp,.int h]);have t3:=ag z7 (.tup [.ref cp,.ref ua]);obtain⟨C,hC⟩:=Bj.kid _ HN;rw[Zh]at hC;refine q r cp ua _ (DZ.trans (s4.trans (t1.trans (t2.trans t3)))) ad (.inr ⟨enc st l,h,?_,?_⟩)
     .rw[AtG];exact⟨.ref pp,t3 _ _ ad,pp,st,l,D?,(t2.trans t3) _ _ ad,D?,JD,hC.1,by lia⟩
     .rw[hm,eX (k:=.knot n2 AG) _ yp,eM]
   | knot n ts =>
     refine kN ?_;refine hid λZZ kZ=>?_;obtain⟨j,row,p3,hj,xZ,Fd,Az,Ql,AA⟩:=Lead.next g hok Bj yp;obtain⟨ia,oa,CQ,ra,yc,yl,ya,bk⟩:=id (hb.mono (Ze DZ));obtain⟨yI,y6,yX,zF,zq⟩:=Yo bk.rw xZ;obtain⟨ta,zG,yx⟩:=zq.at Fd;have D0:=Dk;rw[AtG]at D0;obtain⟨LC,bs,Qm,yA⟩:=D0;refine kZ ?_;refine⟨_,D?,_,D?,_,D?,ua,_,0,.str n,D?,D?,Yg Qm,at0,b,ia,ra,yI,ta,_,_,yc,ya,yX,ins,st,j,(n,(ts.length:Int)),D?,bk.bk,bk.inE,bk.inK,g,bk.rl,JD,y6,zF,hj,zG,λH4 s4=>?_⟩;refine⟨(Yk n ts).tall,by rw[show(Yk n2 AG).tall=aK AG+1 by rw[Yi]];lia,ta,ua,p3,n,ts,_,_,D?,DZ.trans s4,(yx.g).mono (Ze s4),Dk.mono (Ze s4),Ql,by rw[hm,AA],D?⟩
end G
namespace G
theorem fK:SE ""≠q:=by decide +kernel
inductive e9(CG:So)(vs:List V)(H:Hp)(Q:VK)(E:XK):Prop
 |mk (b ha ta:So) (ins outs:List (SG×Int)) (S S1:Int) (head:Th) (rows:List (List Th)) (p t:Th):vs=[.ref b,.ref ha,.ref ta]->Bk H ins outs head rows b->aB ins->aB outs->fc ins outs S rows->S1<=1000->AtG .i H p ha->AtG .i H t ta->Lead ins outs S S1 p (.knot (SE "") [t])->(Small (made (aA ins rows) p (.knot (SE "") [t]))->∀(r:So)(H':Hp),Zf H H'->AtG .p H' (made (aA ins rows) p (.knot (SE "") [t])) r->Q (.ref r) H')->(¬Small (made (aA ins rows) p (.knot (SE "") [t]))->∀H',Zf H H'->E (.ref CG) Am H')->e9 CG vs H Q E
def uL(C:So)(b ha ta tl mo dx ah:So)(ins outs:List (SG×Int))(S S1:Int)(rows:List (List Th))(o:Th)(H:Hp)(m:Nat)(Y:St)(H2:Hp):Prop :=
 Ex9 λ(yY as:List So)(done:List Th)(js:List Job)(k c:Int)(c6 c7 c8:Option V)=>qm (Y=[A? (.ref b),A? (.ref ha),A? (.ref ta),A? (.ref tl),A? (.ref mo),A? (.ref ah),c6,c7,c8]) (Zf H H2) (H2 tl=A? (.lst (yY.map Ye))) (H2 ah=A? (.lst (as.map Ye))) (H2 mo=A? (.ins C dx (mf k c))) (Tc (TopAtG .p H2) (done.map (cC Ym)) yY) (Tc (MJAt H2 ins outs S S1 (aA ins rows)) js as) (MInv o done js k c) (MLim o done js k c as.length) (m=am (jos js))
theorem gN:FnOk P w K mg base (CX1 P w) 6 T.g_25.f T.g_25.d ["second","head","pattern"] (e9 T.e_Great):=by
 refine T.g_25.F.ok1 bJ (λvs H Q E h=>?_) (λxX A outer s H vs Q E hr h=>?_)
 .obtain⟨b,ha,ta,ins,outs,S,S1,head,rows,p,t,rfl,_⟩:=h;rfl
 obtain⟨b,ha,ta,ins,outs,S,S1,head,rows,p,t,rfl,hb,gi,go,hok,HM,hp,ht,Qn,q,qe⟩:=h
 refine⟨_,(ae (ak 3 bJ.nd (aZ ac))
  (ae (ak 4 bJ.nd (qW ⟨T.mi_Measure.1,T.g_9.me.1,T.g_9.me.2,T.mi_Measure.2⟩ (fB T) (hr.mono (by first|decide|lia)) rfl T.x_Measure T.g_9.b .nil dw))
  (ae (ak 5 bJ.nd (aZ (aa (aO (aa (pv 1) (aa (pcF T.g_18 (kX T) hr (aa (pv 2) ac)) (aa af ac)))) ac)))
  (ae (dD PassesOwn.leaving (bV (pv 5) (λ_=>rfl)) (ae (eg (mB SK V2 V1 mM (pv 5)) (cR rfl (aD (pgN 6 bJ.nd) (aD (pgN 7 bJ.nd) (aD (pgN 8 bJ.nd) b8)))))
  (ae (eg (pcF T.g_24 (ox T) hr (aa (pv 0) (aa (pv 6) (aa (pv 7) ac)))) (cR rfl (aD (pgN 6 bJ.nd) (aD (pgN 7 bJ.nd) b8))))
  (ae (bU (vi (bV (ug (pv 4) T.cl_Measure T.g_10.me (ja T) (hr.mono (by first|decide|lia)) T.g_10.b .nil dw (aa (pv 6) (aa (pv 8) ac))) (λ_=>rfl))) (ai (kR T.X_Great T.x_Great dX)) bp)
  (ae (aY (bN SK S5 S4 aM (pv 3) (aa (pcF T.g_6 (ok_top_of T) hr (aa (pv 6) ac)) ac)))
  (ai (aY (bN SK WC WB l8 (pv 5) (aa (cz (N:=["kid","knot","row"]) (js:=[Am,A? 7,A? 8]) (g:=(aE 0)) (tt:=bv) (te:=(va (bG (bC 0) (bG (bC 1) (bG (tOp (rI0 λi j=>.int (i+j)) (bC 2) (tC (.int 1))) fU))))) rfl (cF rfl (by decide +kernel) (by decide +kernel) rfl rfl rfl) (pT rfl T.n_5 (pcF T.g_0 (gz T) hr (aa (pv 6) ac))) (λ_ _ _ _ _ _=>(pgN 0 wQ)) (bf rfl) (λ_ _ _ _ _ _=>bH) (λ_ _ _ _ _ _=>(aO (aa (pv 0) (aa (pv 1) (aa (ap bA (pv 2) af) ac)))))) ac)))))))))
  (ai (av (pcF T.g_2 (ok_built T) hr (aa (pv 3) ac)))))))),?_⟩
 try dsimp only[ym,xW]
 generalize ho:made (aA ins rows) p (.knot (SE "") [t])=o at q qe;refine⟨lnE rfl,λtl yv=>?_⟩;refine gU yv λH1 s1 e1=>?_;have e1:H1 tl=A? (.lst (([]:List So).map Ye)):=e1;intro mo dx HQ Qo yU;refine⟨mo,dx,D?,ad,λH2 k2 LD=>⟨D?,?_⟩⟩;have s2:Zf H1 H2:=λb o e=>k2 b o (ao e HQ) (by rw[aj (ao e HQ),aj (ao e Qo)];exact e);have HR:H mo=none:=s1.free HQ;have N4:tl≠mo:=λz=>by rw[z]at e1;rw[e1]at HQ;cases HQ
 refine⟨_,D?,_,D?,.ref ta,D?,λab Aa=>⟨lnE rfl,λtp yP=>⟨lnE rfl,λah AD=>?_⟩⟩⟩;have CL:H ah=none:=(s1.trans s2).free ((ag Aa _).free ((ag yP _).free AD));have s3:Zf H2 (upd H2 ab (.tup [.str (SE ""),.ref ta])):=ag Aa _;have e3:(upd H2 ab (.tup [.str (SE ""),.ref ta])) ab=A? (.tup [.str (SE ""),.ref ta]):=ad;generalize(upd H2 ab (.tup [.str (SE ""),.ref ta]))=H3 at s3 e3 yP AD |-;have s4:Zf H3 (upd H3 tp (.tup [.ref ha,.ref ab,.int 1])):=ag yP _;have e4:(upd H3 tp (.tup [.ref ha,.ref ab,.int 1])) tp=A? (.tup [.ref ha,.ref ab,.int 1]):=ad;generalize(upd H3 tp (.tup [.ref ha,.ref ab,.int 1]))=H4 at s4 e4 AD |-;refine gU AD λH5 s5 e5=>?_;have e5:H5 ah=A? (.lst ([tp].map Ye)):=e5;have D1:=s3.trans s4
 have zG:tl≠ah:=λz=>by
  have:=D1 _ _ (s2 _ _ e1);rw[z,AD]at this;cases this
 have LF:mo≠ah:=λz=>by
  have:=D1 _ _ LD;rw[z,AD]at this;cases this
 have JE:=D1.trans s5;have Gd:=s1.trans (s2.trans JE);refine⟨uL T.e_Measure b ha ta tl mo dx ah ins outs S S1 rows o H,⟨_,[],[tp],[],[⟨p,.knot (SE "") [t],1,o⟩],0,0,Am,Am,Am,D?,Gd,JE _ _ (s2 _ _ e1),e5,JE _ _ LD,.nil,.cons ⟨ha,ab,_,_,s5 _ _ e4,hp.mono (Ze Gd),D?,?_,Qn,ho.symm⟩ .nil,MInv.start,MLim.start,D?⟩,?_⟩
 .rw[AtG];exact⟨fK,[ta],(s4.trans s5) _ _ e3,.cons (ht.mono (Ze Gd)) .nil⟩
 clear Gd JE D1 s5 e5 s4 e4 s3 e3 s2 k2 LD s1 e1;rintro m Y H2 ⟨yY,as,done,js,k,c,c6,c7,c8,rfl,sm,et,ea,em,hT,hJ,J,JL,rfl⟩;refine⟨_,D?,_,.inl ⟨_,Zg ea,D?⟩,?_⟩;refine cK (λcc=>?_) (λcc=>?_)
 .have AE:as≠[]:=by intro z;subst z;simp at cc
  refine hid λZZ kZ=>?_;obtain⟨yu,x,rfl⟩:∃yu x,as=yu++[x]:=⟨as.dropLast,as.getLast AE,(Vl AE).symm⟩;obtain⟨Be,j,rfl,Ge,hj⟩:=P2.snoc_inv hJ;obtain⟨jp,jk,jr,jo⟩:=j;obtain⟨pa,ka,kn,BJ,ex,Dl,N5,zh,D3,HS⟩:=hj;refine kZ ?_;dsimp only at ex Dl N5 D3 HS;subst N5;have LG:Be.length=yu.length:=SJ Ge;have CN:=JL.dn J;have zQ:=JL.al;have RQ:=JL.k;have Ai:=JL.c;rw[SD]at zQ
  have B1:done.length=yY.length:=by
   have:=SJ hT;rw[Sl]at this;exact this
  refine⟨λxS H'=>∃m',m'<am (jos (Be++[⟨jp,.knot kn BJ,jr,jo⟩]))/\uL T.e_Measure b ha ta tl mo dx ah ins outs S S1 rows o H m' xS H',λxS H' h=>h,?_⟩;refine⟨_,D?,.inl ⟨D?,_,Zg ea⟩,ah,_,.ref x,D?,D?,ea,by simp,?_⟩;have d1:((yu++[x]).map Ye).dropLast=yu.map Ye:=by simp
  rw[d1];have k3:KT H2 (upd H2 ah (.lst (yu.map Ye))):=aU ea;have s3:Zf H (upd H2 ah (.lst (yu.map Ye))):=aJ sm CL;have e3:(upd H2 ah (.lst (yu.map Ye))) ah=A? (.lst (yu.map Ye)):=ad;have t3:(upd H2 ah (.lst (yu.map Ye))) tl=A? (.lst (yY.map Ye)):=by rw[aj zG];exact et
  have m3:(upd H2 ah (.lst (yu.map Ye))) mo=A? (.ins T.e_Measure dx (mf k c)):=by rw[aj LF];exact em
  generalize(upd H2 ah (.lst (yu.map Ye)))=H3 at k3 s3 e3 t3 m3 |-;refine⟨x,_,D?,Yg (k3 _ _ ex),D?,_,_,D?,_,_,D?,_,_,D?,D?,?_⟩;refine⟨_,D?,_,D?,_,D?,b,pa,ka,ins,outs,S,S1,head,rows,jp,kn,BJ,D?,hb.mono (Ze s3),gi,hok,HM,Dl.mono k3,zh.mono k3,D3,λr Bf Cc H4 s4 er AH=>?_⟩;refine⟨r,_,D?,Yg er,D?,_,_,D?,_,_,D?,D?,?_⟩;have t4:=s4 _ _ t3;have a4:=s4 _ _ e3;have m4:=s4 _ _ m3;have BK:=s3.trans s4;have Qp:=k3.trans (Ze s4);rw[<-HS]at AH
  refine hid λZZ kZ=>?_
  obtain⟨rp,pt,JF,LH,HU,⟨Ab,F0⟩,HV⟩:∃(rp:Rep)(pt:Th),AtG rp H4 pt Bf/\(∀(H':Hp)(a:So),TopAtG rp H' (cC Ym pt) a->TopAtG .p H' (cC Ym jo) a)/\pt.isCall=jo.isCall/\(pt.kids.length=jo.kids.length/\jo.kids.length<=3)/\(∀(i:Nat)(u ou:Th),pt.kids[i]?=A? u->jo.kids[i]?=A? ou->∀(H':Hp)(a ua:So),KT H4 H'->H' a=A? (.tup [.ref ua,.ref Cc,.int ((jr+1:Nat):Int)])->AtG rp H' u ua->∃k',MJAt H' ins outs S S1 (aA ins rows) ⟨u,k',jr+1,ou⟩ a):=by
   rcases AH with⟨n,ks,n',Fc,h1,h2,h3,h4⟩|⟨cc,hh,h1,h2⟩
   .refine⟨.i,.knot n ks,h1,?_,?_,?_,?_⟩
    .intro H' a h;rw[h4,dR];obtain⟨ta,g1,g2,g3⟩:=h;exact⟨ta,by rw[g1,Sl],g2,g3⟩
    .rw[h4,dR];rfl
    .rw[h4,dR];have hf:=h3.fit;rw[Zh]at hf;have:=(go.num _ hf.1).2;have h2:((ks.length:Nat):Int)<=3:=this;show ks.length=(ks.map _).length/\(ks.map _).length<=3;rw[Sl];lia
    .intro i u ou hu Gf H' a ua kt e Cb;rw[h4,dR]at Gf;have HW:(ks.map λp=>made (aA ins rows) p (.knot n' Fc))[i]?=A? ou:=Gf;have Aw:ks[i]?=A? u:=hu;rw[Sx,Aw]at HW;cases HW;exact⟨.knot n' Fc,ua,Cc,n',Fc,e,Cb,D?,h2.mono kt,h3.kids u (Sv Aw),D?⟩
   .refine⟨.p,.call cc hh,h1,?_,?_,?_,?_⟩
    .intro H' a h;rw[h2];exact h
    .rw[h2]
    .rw[h2];exact⟨D?,Tn _⟩
    .intro i u ou hu Gf;have:([]:List Th)[i]?=A? u:=hu;cases this
  refine kZ ?_;dsimp only[aE];refine bX (λxS H6=>Ex2 λ(k' c':Int)=>An6 (k'=(if jo.isCall=B? then k else k+1)) (c'=(if jo.isCall=B? then c+1 else c)) ((∀b o,b≠mo->H4 b=A? o->H6 b=A? o)) (H6 mo=A? (.ins T.e_Measure dx (mf k' c'))) ((((jr:Nat):Int)<=20/\k'<=400/\c'<=200)) (xS=[A? (.ref b),A? (.ref ha),A? (.ref ta),A? (.ref tl),A? (.ref mo),A? (.ref ah),A? (.ref Bf),A? (.ref Cc),A? (.int (jr:Nat))])) (λkk Lo=>?_) ?_
  .refine cX (λbb H6=>Ex2 λ(k' c':Int)=>An5 (k'=(if jo.isCall=B? then k else k+1)) (c'=(if jo.isCall=B? then c+1 else c)) ((∀b o,b≠mo->H4 b=A? o->H6 b=A? o)) (H6 mo=A? (.ins T.e_Measure dx (mf k' c'))) (bb=!decide (((jr:Nat):Int)<=20/\k'<=400/\c'<=200))) (λk2 yM=>?_) (λH6 hb=>?_) (λH6 hb=>?_)
   .refine⟨_,D?,mo,dx,_,D?,m4,uI k c (by decide +kernel) (by decide +kernel),_,D?,_,D?,mo,dx,Bf,k,c,(jr:Nat),pt,rp,D?,m4,JF,λk' c' H6 h1 h2 h3 h4=>?_⟩;rw[HU]at h1 h2;exact⟨_,D?,yM _ _ ⟨k',c',h1,h2,h3,h4,D?⟩⟩
   .refine hid λZZ kZ=>?_;obtain⟨k',c',h1,h2,h3,h4,h5⟩:=hb;refine kZ ?_;refine qe (λCd=>?_) H6 λb o e=>h3 b o (ao e HR) (BK b o e);rw[Yc (J.takes Cd h1 h2)]at h5;cases h5
   .refine hid λZZ kZ=>?_;obtain⟨k',c',h1,h2,h3,h4,h5⟩:=hb;refine kZ ?_;by_cases BL:(((jr:Nat):Int)<=20/\k'<=400/\c'<=200)
    .exact Lo _ _ ⟨k',c',h1,h2,h3,h4,BL,rfl⟩
    .rw[Zb BL]at h5;cases h5
  rintro xS H5 ⟨k',c',yp,yC,h3,m5,BL,rfl⟩;have Gg:KT H4 H5:=λb xs e=>h3 b _ (λz=>by rw[z,m4]at e;cases e) e;have Gd:Zf H H5:=λb o e=>h3 b o (ao e HR) (BK b o e);have t5:H5 tl=A? (.lst (yY.map Ye)):=h3 _ _ N4 t4;have a5:H5 ah=A? (.lst (yu.map Ye)):=h3 _ _ LF.symm a4;have Qq:=Qp.trans Gg
  refine⟨_,D?,.inl ⟨D?,_,Zg t5⟩,_,D?,rp,Bf,pt,D?,JF.mono Gg,λAj H6 s6 Fe=>?_⟩;refine⟨tl,_,_,D?,D?,s6 _ _ t5,lbE (by lia),?_⟩;have k7:KT H6 (upd H6 tl (.lst (yY.map Ye++[.ref Aj]))):=aU (s6 _ _ t5);have s7:Zf H (upd H6 tl (.lst (yY.map Ye++[.ref Aj]))):=aJ (Gd.trans s6) yv;have t7:(upd H6 tl (.lst (yY.map Ye++[.ref Aj]))) tl=A? (.lst ((yY++[Aj]).map Ye)):=uAE;have a7:(upd H6 tl (.lst (yY.map Ye++[.ref Aj]))) ah=A? (.lst (yu.map Ye)):=by rw[aj zG.symm];exact s6 _ _ a5
  have m7:(upd H6 tl (.lst (yY.map Ye++[.ref Aj]))) mo=A? (.ins T.e_Measure dx (mf k' c')):=by rw[aj N4.symm];exact s6 _ _ m5
  generalize(upd H6 tl (.lst (yY.map Ye++[.ref Aj])))=H7 at k7 s7 t7 a7 m7 |-;have N6:=(Ze s6).trans k7;have HX:=Qq.trans N6;have Gh:=Gg.trans N6
  have LI:Tc (TopAtG .p H7) ((done++[jo]).map (cC Ym)) (yY++[Aj]):=by
   rw[SI];exact Zj (gD HX hT) (.cons ((LH _ _ Fe).mono k7) .nil)
  refine⟨_,D?,.inl ⟨D?,_,Zg a7⟩,_,D?,rp,Bf,pt,D?,JF.mono Gh,λp3 yn H8 s8 e8 Bg=>?_⟩;have LK:=Gh.trans (Ze s8);have HY:yn.length=jo.kids.length:=by rw[Bg.length];exact Ab
  have KO:=jo.size_eq
  have LL:am (jos (Be++[⟨jp,.knot kn BJ,jr,jo⟩]))=am (jos Be)+jo.size:=by
   rw[hV,aG,am,am];rfl
  have Hu:((yn.map Ye).reverse).length=jo.kids.length:=by rw[Te,Sl];exact HY
  refine⟨p3,_,D?,Yg e8,gd (F:=λH(j:Th×Th)a=>∃k',MJAt H ins outs S S1 (aA ins rows) ⟨j.1,k',jr+1,j.2⟩ a) (xs:=(yn.map Ye).reverse) (pt.kids.zip jo.kids).reverse (λH1 H2 z p kt⟨k',h⟩=>⟨k',h.mono kt⟩) (by rw[Te,VL,Hu];lia) (by lia) (λi Hx sx hi=>⟨by rw[Te]at hi;exact hi,_,Yg (sx _ _ e8),D?⟩) (λHx sx=>by rw[Te];rfl) (λi Hx x Hy sx hi hy=>⟨hy.1,?_⟩) (λi x z Hx R W' hx zT sx hR=>?_) (λD Hx Di hD sx eD Ac=>?_)⟩
  .rw[Te]at hi;rw[UC hi];exact hy.2 _ (Yg (sx _ _ e8))
  .have JB:i<jo.kids.length:=by
    have:=(glE hx);lia
   have Ce:(pt.kids.zip jo.kids).length=jo.kids.length:=by rw[VL];lia
   rw[UC (by lia),Ce]at zT;have Ff:i<(yn.map Ye).length:=by rw[Sl];lia
   rw[UC Ff,Sl,HY]at hx;refine hid λZZ kZ=>?_;obtain⟨xa,rfl,De⟩:=aT hx;obtain⟨u,hu,LM⟩:=Bg.get De;obtain⟨Gi,Qr⟩:=UB.mp zT;refine kZ ?_;rw[hu]at Gi;obtain rfl:=(Tq Gi);refine⟨_,D?,_,D?,_,D?,_,_,D?,D?,lnE rfl,λp4 HZ=>?_⟩;have s9:=ag HZ (.tup [.ref xa,.ref Cc,.int ((jr:Nat)+1)]);have CS:=LK.trans (Ze (sx.trans s9));exact hR _ p4 s9 (HV _ _ _ hu Qr _ p4 xa CS (by rw[ad];rfl) (LM.mono (Ze (sx.trans s9))))
  .have JG:=SJ Ac;rw[Te,VL]at JG
   obtain⟨zM,Cf,N7⟩:∃zM:List Job,(jos zM=jo.kids.reverse/\∀i∈zM,i.r=jr+1)/\Tc (MJAt Hx ins outs S S1 (aA ins rows)) zM Di:=by
    have hz:((pt.kids.zip jo.kids).reverse).map (·.2)=jo.kids.reverse:=by
     rw[V6,List.map_snd_zip (by lia)]
    rw[<-hz];generalize(pt.kids.zip jo.kids).reverse=zs at Ac;clear JG hz eD sx hD;induction Ac with
    |nil=>exact⟨[],⟨D?,λi hi=>by cases hi⟩,.nil⟩
    | cons h _ ih =>
      obtain⟨k',h⟩:=h;obtain⟨zM,⟨h1,h2⟩,h3⟩:=ih;exact⟨_::zM,⟨by show _::jos zM=_;rw[h1];rfl,λi hi=>(SR.mp hi).elim (λe=>by rw[e]) (h2 i)⟩,.cons h h3⟩
   refine⟨ah,D,_,_,D?,D?,sx _ _ (s8 _ _ a7),eD,U1 (cI (by rw[Sl,Sl];lia)),?_⟩;have a9:=sx _ _ (s8 _ _ a7);have k9:KT Hx (upd Hx ah (.lst (yu.map Ye++Di.map Ye))):=aU a9;have Ia:=(Ze (s8.trans sx)).trans k9;refine⟨am (jos (Be++zM)),?_,yY++[Aj],yu++Di,done++[jo],Be++zM,k',c',_,_,_,D?,aJ (s7.trans (s8.trans sx)) CL,by rw[aj zG];exact sx _ _ (s8 _ _ t7),by rw[ad,SI],by rw[aj LF];exact sx _ _ (s8 _ _ m7),gD Ia LI,Zj (Zk (λ_ _ e=>e.mono (HX.trans Ia)) Ge) (Zk (λ_ _ e=>e.mono k9) N7),J.next yp yC Cf.1 Cf.2,JL.next J BL yp yC Cf.1 Cf.2 F0 (SJ hJ).symm (by rw[SD,SD,SJ Ge,SJ N7]),D?⟩;rw[LL];have:jos (Be++zM)=jos Be++jo.kids.reverse:=by rw[<-Cf.1];unfold jos;rw[SI]
   rw[this,aG,fg];lia
 .have hz:as=[]:=by
   cases as with
   |nil=>rfl
   |cons y ys=>simp at cc
  subst hz;have Dm:js=[]:=Uj.mp (SJ hJ);subst Dm;have CN:=J.done;subst CN;have Cd:=JL.small J;have Qs:=Cd.size;obtain⟨b1,b2⟩:=jK Ym o;rw[mj]at b1;have hsz:=Zm o;refine⟨_,D?,.p,tl,yY,_,o,D?,et,hT,by rw[Sl];lia,b2,?_,b1,λr H3 s3 Df=>q Cd r H3 (sm.trans s3) Df⟩;intro u hu;obtain⟨x,hx,e⟩:=Tj.mp hu;cases x with
  |knot nm us=>cases e
  | call sn kn =>
    cases e;rw[Zi];decide
end G
namespace G
def kP(s:Int):List Key:=[TB (s / 1000),TB (s%1000)]
theorem sO{x y:Int}(h0:0<=y)(h1:y<1000):kP (enc x y)=[TB x,TB y]:=by
 unfold kP enc;rw[show(1000 * x+y) / 1000=x by lia,show(1000 * x+y)%1000=y by lia]
theorem u6{a b:Int}(h:kP a=kP b):a=b:=by
 unfold kP at h;injection h with h1 h2;injection h2 with h2 _;have e1:=Ve h1;have e2:=Ve h2;lia
def bh(m:List Int):List (List Key×V):=m.zipIdx.map λp=>(kP p.1,Yh (p.2:Nat))
theorem dU(m:List Int):(bh m).length=m.length:=by unfold bh;rw[Sl,List.length_zipIdx]
theorem jd(m:List Int)(s:Int):bh (m++[s])=bh m++[(kP s,Yh (m.length:Nat))]:=by
 unfold bh;rw[List.zipIdx_append,SI];simp
theorem dZ:∀(m:List Int)(s:Int)(n:Nat),bK ((m.zipIdx n).map λp=>(kP p.1,Yh (p.2:Nat))) (kP s)=if s∈m then A? (.int ((n+m.idxOf s:Nat):Int))else Am
 | [],s,n=>rfl
 | x::m,s,n=>by
   rw[List.zipIdx_cons,Tb];by_cases h:x=s
   .subst h;rw[bI rfl,Yb (SU ..),List.idxOf_cons_self];rfl
   .rw[bF (λz=>h (u6 z)),dZ m s (n+1)];by_cases hm:s∈m
    .rw[Yb hm,Yb (SN _ hm),W0,(beq_eq_false_iff_ne.mpr h:(x == s)=C?)];simp only[cond_false];have:n+1+m.idxOf s=n+(m.idxOf s+1):=by lia
     rw[this]
    .rw[Za hm,Za (λz=>(SR.mp z).elim (λy=>h y.symm) hm)]
theorem gO{s:Int}(h:s∈m):bK (bh m) (kP s)=A? (.int (idx m s)):=by
 unfold bh;rw[dZ,Yb h,Nat.zero_add];rfl
theorem jU{s:Int}(h:s∉m):bK (bh m) (kP s)=none:=by
 unfold bh;rw[dZ,Za h]
inductive fH(P:SH)(w:S0)(CM:So)(vs:List V)(H:Hp)(Q:VK)(E:XK):Prop
 |mk (a nd:So) (t:Th) (m:List Int):vs=[.ref a,.ref nd]->AtG .p H t a->t.size<=100000->H nd=A? (.dT (bh m))->m.length<=20->((aC m (stT t)).length<=20->∀(r:So)(H':Hp),SameB nd H H'->H' nd=A? (.dT (bh (aC m (stT t))))->AtG .i H' (ren (idx (aC m (stT t))) t) r->Q (.ref r) H')->(¬(aC m (stT t)).length<=20->∀H',SameB nd H H'->E (.ref CM) Am H')->fH P w CM vs H Q E
theorem ju:FnOk P w K mg base (CX1 P w) 5 T.g_16.f T.g_16.d ["pattern","numbers"] (fH P w T.e_Many):=by
 refine T.g_16.F.ok1 dm (λvs H Q E h=>?_) (λxX A outer s H vs Q E hr h=>?_)
 .obtain⟨a,nd,t,m,rfl,_⟩:=h;rfl
 obtain⟨a,nd,t,m,rfl,hA,hsz,Ad,Dn,k,ke⟩:=h
 refine⟨_,(ae (cE PassesOwn.leaving rfl (cJ (pcF T.g_5 (ok_called_in T) hr (aa (pv 0) ac))) (cR rfl (aD (pgN 2 dm.nd) (aD (pgN 3 dm.nd) b8))) (ai (aY (bN PySem.F.plainAttrs_dict Vk PySem.F.type_dict_setdefault (lj (nD hr)) (pv 1) (aa (pv 2) (aa (aw iU rfl T.n_1 S8 (aa (pv 1) ac)) ac))))))
  (ae (bU (aF cW (aw iU rfl T.n_1 S8 (aa (pv 1) ac)) (cx (v:=.int (20)) rfl T.c_MOST_STATES.choose_spec ⟨_,D?⟩) (aI _)) (ai (kR T.X_Many T.x_Many dX)) bp)
  (ai (av (pcF T.g_8 (fT T) hr (aa (pv 0) (aa (pv 1) ac))))))),?_⟩
 try dsimp only[ym,xW]
 refine⟨_,D?,.p,a,t,D?,hA,hsz,λr as H1 s1 nr er zX=>⟨r,D?,⟨_,Zg er⟩,?_⟩⟩;have yw:(bu t).length=as.length:=SJ zX;have Cg:r≠nd:=λz=>by rw[z,Ad]at nr;cases nr
 refine dY (K:=K) (a:=r) (xs:=as.map Ye) (λi Y H3=>Ex2 λc2 c3=>An6 (Y=[A? (.ref a),A? (.ref nd),c2,c3]) (SameB nd H H3) (KT H H3) (H3 r=A? (.lst (as.map Ye))) (Tc (CP .p H3) (bu t) as) (H3 nd=A? (.dT (bh (aC m ((stT t).take i))))))
  ⟨Am,Am,rfl,SameB.of s1,Ze s1,er,zX,by rw[Va];exact s1 _ _ Ad⟩ (λi Y H3 _⟨_,_,_,_,_,e,_,_⟩=>Zg e) ?_ ?_
 .rintro i x Y H3 hx ⟨c2,c3,rfl,s3,k3,zE,yH,zH⟩;refine hid λZZ kZ=>?_;obtain⟨ca,rfl,AF⟩:=aT hx;obtain⟨⟨sn,kn⟩,hc,sv,Dg,LN⟩:=Zo yH AF;obtain⟨pa,x,y,rfl,CO,HE,DS,AB,zD⟩:=LN;refine kZ ?_;dsimp only at HE Dg;have HF:[TB x,TB y]=kP sn:=by rw[HE,sO AB zD]
  have yy:(stT t)[i]?=A? sn:=by unfold stT;rw[Sx,hc];rfl
  have ze:aC m ((stT t).take (i+1))=dk (aC m ((stT t).take i)) sn:=by
   rw[take_snoc yy,cf];rfl
  have Fg:(aC m ((stT t).take i)).length<=200000:=by
   have h1:=rq ((stT t).take i) m;have h2:(stT t).length=as.length:=by unfold stT;rw[Sl];lia
   have h3:(bu t).length<=t.size:=by
    rw[<-t.walk_len];exact VD _ _
   rw[S9]at h1;lia
  generalize aC m ((stT t).take i)=mi at zH ze Fg |-;have Qt:=(la mi sn).length_le;refine⟨ca,_,D?,Yg Dg,D?,_,_,D?,_,_,D?,D?,?_⟩;dsimp only[aE];have hl:=dU mi;refine⟨_,D?,.inr (.inr (.inl ⟨D?,.inr ⟨_,zH⟩⟩)),_,D?,_,D?,nd,_,D?,zH,nd,pa,.int ((bh mi).length:Nat),kP sn,bh mi,D?,D?,zH,by rw[<-HF];exact CO,cI (by lia),λu hu=>?_,λhu=>?_⟩
  .have Bl:sn∈mi:=by
    by_cases h:sn∈mi
    .exact h
    .rw[jU h]at hu;cases hu
   refine⟨_,_,D?,s3,k3,zE,yH,?_⟩;rw[ze];unfold dk;rw[Yb Bl];exact zH
  .have Bl:sn∉mi:=λh=>by rw[gO h]at hu;cases hu
   have Fh:putK (bh mi) (kP sn) (.int ((bh mi).length:Nat))=bh (dk mi sn):=by
    rw[j5 _ hu];unfold dk;rw[Za Bl,jd,hl]
   rw[Fh];have k4:KT H3 (upd H3 nd (.dT (bh (dk mi sn)))):=λb xs e=>by rw[aj (de e zH (λz=>nomatch z))];exact e
   refine⟨_,_,D?,λb o hb e=>by rw[aj hb];exact s3 b o hb e,k3.trans k4,by rw[aj Cg];exact zE,Zk (λ_ _ e=>CP.mono k4 e) yH,by rw[ad,ze]⟩
 .rintro Y H3 ⟨c2,c3,rfl,s3,k3,zE,yH,zH⟩;have EE:(stT t).length=as.length:=by unfold stT;rw[Sl];lia
  rw[TC (by rw[Sl];lia)]at zH;have hl:=dU (aC m (stT t));dsimp only[j3];refine bX (λxS H'=>An3 (H3=H') (xS=[A? (.ref a),A? (.ref nd),c2,c3]) ((aC m (stT t)).length<=20)) (λkk hk=>?_) ?_
  .refine⟨_,D?,nd,_,D?,zH,_,_,D?,D?,_,D?,?_⟩;refine cK (λc=>?_) (λc=>?_)
   .have:=Zc c;exact ke (by lia) H3 s3
   .have:¬((20:Int)<((bh (aC m (stT t))).length:Nat)):=λz=>c (Yc z);exact hk _ _ ⟨rfl,rfl,by lia⟩
  rintro xS H' ⟨rfl,rfl,hle⟩;exact⟨_,D?,_,D?,a,nd,t,idx (aC m (stT t)),_,D?,hA.mono k3,hsz,zH,λx y hs _ AB zD=>by rw[<-sO AB zD];exact gO (be.mpr (.inr hs)),λr' H4 s4 h4=>k hle r' H4 (λb o hb e=>s4 _ _ (s3 b o hb e)) (s4 _ _ zH) h4⟩
end G
namespace G
inductive ix(P:SH)(w:S0)(K:Ss)(mg:SG->Option Sq)(base:TL)(CG CM:So)(vs:List V)(H:Hp)(Q:VK)(E:XK):Prop
 |mk (ia oa ha f:So) (head:Th) (R:Int->List Th) (CT:Sp):vs=[.ref ia,.ref oa,.ref ha,.ref f]->AtG .p H head ha->head.size<=1000->oO P w K mg base (CX1 P w) 9 f CT->(∀(H1:Hp)(s:Int)(pa:So)(Z:VK)(EZ:XK),Zf H H1->s∈aH R head->H1 pa=A? (.tup [.int (s / 1000),.int (s%1000)])->((R s).length<=8->(∀t∈R s,Small t)->∀(r:So)(as:List So)(H2:Hp),Zf H1 H2->H2 r=A? (.lst (as.map Ye))->AtsG .p H2 (R s) as->Z (.ref r) H2)->(∀H2,Zf H1 H2->EZ (.ref CG) Am H2)->CT [.ref pa] H1 Z EZ)->((aH R head).length<=20->(∀s∈aH R head,∀t∈R s,Small t)->∀(r fh rl:So)(Ae:List So)(H':Hp),Zf H H'->H' r=A? (.tup [.ref ia,.ref oa,.ref fh,.ref rl])->At H' (ren (idx (aH R head)) head) fh->H' rl=A? (.tup (Ae.map Ye))->Tc (RowAt H') ((aH R head).map λs=>(R s).map (ren (idx (aH R head)))) Ae->Q (.ref r) H')->(∀(C:So)(H':Hp),(C=CG\/C=CM)->Zf H H'->E (.ref C) Am H')->ix P w K mg base CG CM vs H Q E
theorem dz(a b:List Th):aN (a++b)=aN a++aN b:=List.flatMap_append
theorem rc{i:Nat}{s:Int}(h:m[i]?=A? s):(bh m)[i]?=A? (kP s,Yh (i:Nat)):=by
 unfold bh;rw[Sx,List.getElem?_zipIdx,h];simp
theorem mC:FnOk P w K mg base (CX1 P w) 12 T.g_17.f T.g_17.d ["ins","outs","head","patterns_of"] (ix P w K mg base T.e_Great T.e_Many):=by
 refine T.g_17.F.ok1 br (λvs H Q E h=>?_) (λxX A outer s H vs Q E hr h=>?_)
 .obtain⟨ia,oa,ha,f,head,R,CT,rfl,_⟩:=h;rfl
 obtain⟨ia,oa,ha,f,head,R,CT,rfl,hA,hsz,LO,Fi,k,ke⟩:=h
 refine⟨_,(ae (ak 4 br.nd nZ)
  (ae (ak 5 br.nd (bz (ju T) (hr.mono (by first|decide|lia)) rfl T.g_16.m T.g_16.F.kp T.g_16.b .nil (pJ lv1) (aa (pv 2) (aa (pv 4) ac))))
  (ae (ak 6 br.nd (aZ ac))
  (ae (dD PassesOwn.leaving (aF ql (aw ar rfl T.n_1 S8 (aa (pv 6) ac)) (aw iU rfl T.n_1 S8 (aa (pv 4) ac)) (aI _)) (ae (ak 7 br.nd (au cw (aR (jZ rfl) rfl T.n_2 PyProof.Rows.boot_list (aa (pv 4) ac)) (aw ar rfl T.n_1 S8 (aa (pv 6) ac)) (λ_ _=>rfl)))
  (ai (aY (bN SK S5 S4 aM (pv 6) (aa (aR aL rfl T.n_7 Tt (aa (ng lv1 (N:=["pattern","numbers"]) (js:=[Am,A? 4]) (g:=(aE 0)) (tt:=bv) (te:=(fD (fH P w T.e_Many) [] E (bG (bC 0) (bG (bC 1) fU)))) (cF rfl (by decide +kernel) (by decide +kernel) rfl rfl rfl) (rV (nX (CX:=CX1 P w) (k:=9) (i:=3) rfl (WT rfl) (hr.mono (by first|decide|lia)) (pJ lv1) (aa (pv 7) ac))) (λ_ _ _ _ _ _=>(pgN 0 wU)) (bf rfl) (λ_ _ _ _ _ _=>bH) (λ_ _ _ _ _ _=>(bz (ju T) (hr.mono (by first|decide|lia)) rfl T.g_16.m T.g_16.F.kp T.g_16.b .nil uW (aa (pv 0) (aa (pv 1) ac))))) ac)) ac))))))
  (ai (av (aO (aa (pv 0) (aa (pv 1) (aa (pv 5) (aa (aR aL rfl T.n_7 Tt (aa (pv 6) ac)) ac))))))))))),?_⟩
 try dsimp only[ym,xW]
 have z8:aC [] (stT head) <+: aH R head:=dJ _ _ _ _;intro nd CU;dsimp only[aE];refine gU CU λH1 s1 e1=>?_;have e1:H1 nd=A? (.dT (bh [])):=e1;refine⟨_,D?,_,D?,ha,nd,head,[],D?,hA.mono (Ze s1),by lia,e1,Tn _,λLP fh H2 Ib Ic h2=>?_,λ_ H2 Ib=>ke _ H2 (.inr rfl) λb o e=>Ib b o (ao e CU) (s1 b o e)⟩;dsimp only[aE];have Fj:ren (idx (aC [] (stT head))) head=ren (idx (aH R head)) head:=i3 head λx hx=>(jL z8 (be.mpr (.inr hx))).symm;rw[Fj]at h2;have h2:=h2.i;have s2:Zf H H2:=λb o e=>Ib b o (ao e CU) (s1 b o e);refine⟨lnE rfl,λrl Bp=>?_⟩;have s3:Zf H2 (upd H2 rl (.lst [])):=ag Bp _;have e3:(upd H2 rl (.lst [])) rl=A? (.lst []):=ad;have AI:H rl=none:=s2.free Bp;have AJ:nd≠rl:=λz=>by rw[<-z,Ic]at Bp;cases Bp
 generalize(upd H2 rl (.lst []))=H3 at s3 e3 |-
 refine⟨λmz Y H4=>Ex4 λ(i:Nat)(mm:List Int)(bs:List So)(tv:Option V)=>vy (Y=[A? (.ref ia),A? (.ref oa),A? (.ref ha),A? (.ref f),A? (.ref nd),A? (.ref fh),A? (.ref rl),tv]) (Zf H H4) (H4 nd=A? (.dT (bh mm))) (H4 rl=A? (.lst (bs.map Ye))) (Tc (RowAt H4) (((aH R head).take i).map λs=>(R s).map (ren (idx (aH R head)))) bs) (At H4 (ren (idx (aH R head)) head) fh) (mm <+: aH R head) (bfs R (21 - i) mm i=aH R head) (i<=mm.length) (mm.length<=20) ((∀(j:Nat)(s:Int),j<i->mm[j]?=A? s->∀t∈R s,Small t)) (mz=21 - i),
  ⟨_,0,aC [] (stT head),[],Am,D?,s2.trans s3,s3 _ _ Ic,e3,.nil,h2.mono (Ze s3),z8,D?,Tn _,LP,λj s hj=>Yd hj (WY _),D?⟩,?_⟩
 rintro mz Y H4 ⟨i,mm,bs,tv,rfl,s4,Fl,Fm,yA,Dp,zj,Af,hi,Ci,Ie,rfl⟩;have Qu:=zj.length_le
 have AR:bs.length=i:=by
  have:=SJ yA;rw[Sl,S9]at this;lia
 have Qv:=dU mm;refine⟨_,D?,rl,_,D?,.inl (Zg Fm),_,D?,nd,_,D?,Fl,_,_,D?,D?,_,D?,?_⟩;refine cK (λcc=>?_) (λcc=>?_)
 .have yb:i<mm.length:=by
   have:=Zc cc;rw[Sl]at this;lia
  refine⟨λxS H'=>∃m',m'<21 - i/\Ex4 λ(i:Nat)(mm:List Int)(bs:List So)(tv:Option V)=>vy (xS=[A? (.ref ia),A? (.ref oa),A? (.ref ha),A? (.ref f),A? (.ref nd),A? (.ref fh),A? (.ref rl),tv]) (Zf H H') (H' nd=A? (.dT (bh mm))) (H' rl=A? (.lst (bs.map Ye))) (Tc (RowAt H') (((aH R head).take i).map λs=>(R s).map (ren (idx (aH R head)))) bs) (At H' (ren (idx (aH R head)) head) fh) (mm <+: aH R head) (bfs R (21 - i) mm i=aH R head) (i<=mm.length) (mm.length<=20) ((∀(j:Nat)(s:Int),j<i->mm[j]?=A? s->∀t∈R s,Small t)) (m'=21 - i),λxS H' h=>h,?_⟩;obtain⟨sn,D6⟩:∃sn,mm[i]?=A? sn:=⟨_,Sn yb⟩
  have Ig:(aH R head)[i]?=A? sn:=by
   obtain⟨rr,Ih⟩:=zj;rw[<-Ih,Ts yb];exact D6
  have LQ:sn∈aH R head:=Sv Ig;refine⟨_,D?,nd,_,D?,Fl,λl Bo hl LR=>?_⟩;obtain⟨pa,Dl,LS⟩:=Yo LR (rc D6);refine gU hl λH5 s5 e5=>?_;have z9:=s5 _ _ Fm;have LU:=s5 _ _ Fl;have LV:(bs.map Ye).length=i:=by rw[Sl];exact AR
  refine⟨_,D?,rl,_,D?,.inl (Zg z9),l,_,_,.ref pa,D?,D?,Zg e5,at_nonneg (by lia) (by rw[LV,Ut,Sx,Dl];rfl),?_⟩;dsimp only[aE];refine⟨_,D?,.inl ⟨D?,_,Zg z9⟩,f,CT,D?,LO,_,D?,Fi H5 sn pa _ _ (s4.trans s5) LQ (s5 _ _ LS) (λCj Ck r as H6 s6 zU y8=>⟨r,D?,.inl ⟨⟨_,Zg zU⟩,?_⟩⟩) λH6 s6=>ke _ H6 (.inl rfl) (s4.trans (s5.trans s6))⟩;generalize xZ:R sn=row at y8 Cj Ck;have zQ:=y8.length
  have Cm:bfs R (21 - i) mm i=bfs R (21 - (i+1)) (aC mm (aN row)) (i+1):=by
   rw[show 21 - i=(21 - (i+1))+1 by lia,bfs,D6];show bfs R (21 - (i+1)) (aC mm (aN (R sn))) (i+1)=_;rw[xZ]
  rw[Cm]at Af;have AK:aC mm (aN row) <+: aH R head:=by rw[<-Af];exact dJ _ _ _ _
  have D7:=s6 _ _ LU;have Cn:=s6 _ _ z9;have JH:=s4.trans (s5.trans s6);have LW:r≠nd:=λz=>by rw[z,D7]at zU;cases zU
  intro D hD;have Bh:D≠nd:=λz=>by rw[z,D7]at hD;cases hD
  have LX:D≠rl:=λz=>by rw[z,Cn]at hD;cases hD
  have Ak:∀(H7:Hp),SameB nd H6 H7->KT H6 H7:=λH7 sb b xs e=>sb b _ (de e D7 (λz=>nomatch z)) e
  refine⟨as.length,λj H7=>An5 (j<=as.length) ((aC mm (aN (row.take j))).length<=20) (SameB nd H6 H7) (H7 nd=A? (.dT (bh (aC mm (aN (row.take j)))))) (Ex1 λ(ds:List So)=>An2 (H7 D=A? (.lst (ds.map Ye))) (Ats H7 ((row.take j).map (ren (idx (aH R head)))) ds)),
   ⟨Tn _,by rw[Va];exact Ci,SameB.of (ag hD _),by rw[aj Bh.symm];exact D7,[],ad,.nil⟩,?_⟩
  rintro j H7 ⟨hj,Fn,Bq,Dq,ds,eD,za⟩;have Fo:H7 r=A? (.lst (as.map Ye)):=Bq _ _ LW zU
  have B1:ds.length=j:=by
   have:=za.length;rw[Sl,S9]at this;lia
  by_cases DX:j=as.length
  .left;refine⟨⟨_,Zg Fo,by rw[Sl,DX];exact Su _⟩,?_⟩;have xV:row.take j=row:=by rw[DX,zQ,Vb]
   rw[xV]at za Dq Fn;have LY:Zf H H7:=λb o e=>Bq b o (ao e CU) (JH b o e);have Fp:H7 rl=A? (.lst (bs.map Ye)):=Bq _ _ AJ.symm Cn;refine⟨D,_,D?,.inl ⟨Zg eD,λtp yP=>?_⟩⟩;refine gU yP λH8 s8 e8=>?_;have Ii:=s8 _ _ Fp;refine⟨rl,_,_,D?,D?,Ii,lbE (by lia),?_⟩;have k9:KT H8 (upd H8 rl (.lst (bs.map Ye++[.ref tp]))):=aU Ii;have CS:KT H4 (upd H8 rl (.lst (bs.map Ye++[.ref tp]))):=((Ze (s5.trans s6)).trans (Ak H7 Bq)).trans ((Ze s8).trans k9)
   have LZ:∀(j':Nat)(s':Int),j'<i+1->(aC mm (aN row))[j']?=A? s'->∀t∈R s',Small t:=λj' s' zN AQ=>by
    obtain⟨rr,Ih⟩:=dA (aN row) mm;rw[<-Ih,Ts (by lia)]at AQ;by_cases C4:j'=i
    .rw[C4,D6]at AQ;cases AQ;rw[xZ];exact Ck
    .exact Ie j' s' (by lia) AQ
   refine⟨21 - (i+1),by lia,i+1,aC mm (aN row),bs++[tp],_,D?,aJ (LY.trans s8) AI,by rw[aj AJ];exact s8 _ _ Dq,uAE,?_,Dp.mono CS,AK,Af,Td yb (dA _ _).length_le,Fn,LZ,D?⟩;rw[take_snoc Ig,SI];refine Zj (Zk (λ_ _ e=>Yn CS e) yA) (.cons ⟨ds,k9 _ _ e8,?_⟩ .nil);dsimp only;rw[xZ];exact za.mono ((Ze s8).trans k9)
  .right;have zN:j<as.length:=by lia
   refine⟨zN,⟨_,.ref as[j],Zg Fo,by rw[Sx,Sn zN];rfl⟩,?_⟩;rintro y H8 ⟨rfl,hv⟩;have AN:=hv _ (Zg Fo);obtain⟨ta,rfl,zG⟩:=aT AN;obtain⟨t,ht,yx⟩:=(y8.mono (Ak _ Bq)).get zG;have ze:row.take (j+1)=row.take j++[t]:=by rw[Ui,ht];rfl
   have Bz:aC mm (aN (row.take (j+1)))=aC (aC mm (aN (row.take j))) (stT t):=by
    rw[ze,dz,cf];show aC _ (stT t++[])=_;rw[T3]
   have Gj:aC mm (aN (row.take (j+1))) <+: aH R head:=by
    refine List.IsPrefix.trans ?_ AK;have:aC mm (aN row)=aC (aC mm (aN (row.take (j+1)))) (aN (row.drop (j+1))):=by rw[<-cf,<-dz,UT]
    rw[this];exact dA _ _
   rw[Bz]at Gj;have N8:=(Ck t (Sv ht)).size;refine⟨_,D?,_,D?,ta,nd,t,_,D?,yx,by lia,Dq,Fn,λL0 r' H9 Dr L1 h9=>?_,λ_ H9 Dr=>ke _ H9 (.inr rfl) λb o e=>Dr b o (ao e CU) (Bq b o (ao e CU) (JH b o e))⟩;have h9:=h9.i;have Ij:ren (idx (aC (aC mm (aN (row.take j))) (stT t))) t=ren (idx (aH R head)) t:=i3 t λx hx=>(jL Gj (be.mpr (.inr hx))).symm;rw[Ij]at h9;have Ik:=Dr _ _ Bh eD;have L3:KT H8 H9:=λb xs e=>Dr b _ (de e Dq (λz=>nomatch z)) e;have kA:KT H9 (upd H9 D (.lst (ds.map Ye++[.ref r']))):=aU Ik;refine⟨_,Ik,lbE (by lia),zN,by rw[Bz];exact L0,λb o hb e=>?_,?_,ds++[r'],?_,?_⟩
   .rw[aj (ao e hD)];exact Dr b o hb (Bq b o hb e)
   .rw[aj Bh.symm,Bz];exact L1
   .rw[ad,SI];rfl
   .rw[ze,SI];exact(za.mono (L3.trans kA)).append (.cons (h9.mono kA) .nil)
 .have CY:i=mm.length:=by
   by_cases h:i<mm.length
   .exact Yd (Yc (by rw[Sl];lia)) cc
   .lia
  have Il:aH R head=mm:=by rw[<-Af,pE _ _ _ _ (by lia)]
  have ze:(aH R head).take i=aH R head:=by rw[TC (by rw[Il];lia)]
  rw[ze]at yA;refine⟨_,D?,_,D?,_,D?,_,D?,rl,_,D?,.inl ⟨Zg Fm,λrt E9=>⟨lnE rfl,λr z7=>?_⟩⟩⟩;have t1:=ag E9 (.tup (bs.map Ye));have t2:=ag z7 (.tup [.ref ia,.ref oa,.ref fh,.ref rt]);have Fq:=t1.trans t2
  exact k (by rw[Il];exact Ci) (λs hs=>by
   rw[Il]at hs;obtain⟨j,hj⟩:=Tg.mp hs;exact Ie j s (by have:=(glE hj);lia) hj) r fh rt bs _ (s4.trans Fq) ad (Dp.mono (Ze Fq)) (t2 _ _ ad) (Zk (λ_ _ e=>Yn (Ze Fq) e) yA)
end G
namespace G
def nd_joined:Vj:=match bj j4 with
 | [_,st,_,_]=>st
 |_=>.Pass ⟨0,0,0,0⟩
def ndP:Vj->U9
 |.FunctionDef _ p _ _ _ _ _ _ _ _=>p
 |_=>bS j4
def ndB:Vj->List Vj
 |.FunctionDef _ _ b _ _ _ _ _ _ _=>b
 |_=>[]
def ndS:Vj->Ub
 |.FunctionDef _ _ _ _ _ _ s _ _ _=>s
 |_=>ay j4
def ndPos:Vj->VX
 |.FunctionDef _ _ _ _ _ _ _ _ _ p=>p
 |_=>⟨0,0,0,0⟩
def ndQ:SG:="joined.<locals>."++"patterns_of"
inductive ko(CG f c' c1 c2:So)(vs:List V)(H:Hp)(Q:VK)(E:XK):Prop
 |mk (pa b1 b2:So) (st lo:Int) (ins mid outs:List (SG×Int)) (S1 S2:Int) (xR xQ:Th) (xO f':List (List Th)):vs=[.ref pa]->NestAt H f c' "patterns_of" ndQ (ndP nd_joined) (ndB nd_joined) (ndS nd_joined) [("second",c2),("first",c1)]->CodeAt H c' ndQ->CellAt H c1 (.ref b1)->CellAt H c2 (.ref b2)->H pa=A? (.tup [.int st,.int lo])->Bk H ins mid xR xO b1->Bk H mid outs xQ f' b2->JoinW ins mid outs S1 S2 xR xQ xO f'->0<=st->st<S2->0<=lo->lo<S1->((∀t∈rowOf xO lo,Small (made (aA mid f') (.call st 0) (sol t)))->∀(r:So)(as:List So)(H':Hp),Zf H H'->H' r=A? (.lst (as.map Ye))->AtsG .p H' ((rowOf xO lo).map λt=>made (aA mid f') (.call st 0) (sol t)) as->Q (.ref r) H')->(∀H',Zf H H'->E (.ref CG) Am H')->ko CG f c' c1 c2 vs H Q E
theorem mH:(["pair","first","second","state","lower"]:List SG).Nodup:=by decide +kernel
theorem tT(c1 c2:So)(yU:c1≠c2):lN ["pair","first","second","state","lower"] ["pair"] ["first","second"] "state" [("second",c2),("first",c1)] (ndS nd_joined):=by
 refine⟨D?,D?,D?,mH,D?,by decide +kernel,by decide +kernel,λn=>rfl,λh=>rfl,λx h=>?_,λx h=>?_,λx y c h1 h2=>?_,by decide +kernel,λx h=>?_⟩
 .have hm:=Tf h;have xV:∀z∈(ndS nd_joined).names,z.2=.cell->z.1="state":=by decide +kernel
  exact xV _ hm rfl
 .have hm:=Tf h;have xV:∀z∈(ndS nd_joined).names,z.2=.free->z.1="first"\/z.1="second":=by decide +kernel
  rcases xV _ hm rfl with e|e
  .exact⟨c1,by rw[show x="first" from e];rfl⟩
  .exact⟨c2,by rw[show x="second" from e];rfl⟩
 .have e1:=Tf h1;have e2:=Tf h2;rcases SR.mp e1 with e1|e1 <;> rcases SR.mp e2 with e2|e2
  .exact(Zd WM e1).trans (Zd WM e2).symm
  .have e2:=Sz.mp e2;exact Yd ((show c=c1 from Zd Prod.snd e2).symm.trans (show c=c2 from Zd Prod.snd e1)) yU
  .have e1:=Sz.mp e1;exact Yd ((show c=c1 from Zd Prod.snd e1).symm.trans (show c=c2 from Zd Prod.snd e2)) yU
  .have e1:=Sz.mp e1;have e2:=Sz.mp e2;exact(Zd WM e1).trans (Zd WM e2).symm
 .have hm:=Tf h;have xV:∀z∈(ndS nd_joined).names,z.2=.free->(z.1 == ("state":SG))=false:=by decide +kernel
  exact xV _ hm rfl
include T in
theorem rD(f c' c1 c2:So)(yU:c1≠c2):oO P w K mg base (CX1 P w) 9 f (ko T.e_Great f c' c1 c2):=by
 refine rS (k:=8) (c':=c') (name:="patterns_of") (qual:=ndQ) (params:=ndP nd_joined) (body:=ndB nd_joined) (tT c1 c2 yU) (λdoc pm yV us hl=>?_) (λvs H Q E h=>?_) λA outer s H vs Q E hr h=>?_
 .obtain⟨u,rfl⟩:=us1 hl;rfl
 .obtain⟨pa,b1,b2,st,lo,ins,mid,outs,S1,S2,xR,xQ,xO,f',rfl,hn,hc,h1,h2,_⟩:=h;refine⟨D?,hn,hc,λb hb=>?_,λx c hx=>?_⟩
  .rcases SR.mp hb with e|e
   .obtain⟨φ,z,_⟩:=h2;exact⟨φ,by rw[e];exact z⟩
   .obtain⟨φ,z,_⟩:=h1;exact⟨φ,by rw[Sz.mp e];exact z⟩
  .have e1:=Tf hx;rcases SR.mp e1 with e|e
   .cases e;exact⟨_,h2⟩
   .cases Sz.mp e;exact⟨_,h1⟩
 .obtain⟨pa,b1,b2,st,lo,ins,mid,outs,S1,S2,xR,xQ,xO,f',rfl,hn,hc,h1,h2,CO,AS,BA,J,JD,DK,Jm,Im,kq,ke⟩:=h
  have hx:Exts (([("second",c2),("first",c1)]:List (SG×So)).map (·.2)) H:=λb hb=>by
   rcases SR.mp hb with e|e
   .obtain⟨φ,z,_⟩:=h2;exact⟨φ,by rw[e];exact z⟩
   .obtain⟨φ,z,_⟩:=h1;exact⟨φ,by rw[Sz.mp e];exact z⟩
  have kf:=vJ hx
  refine⟨_,[.ref b1,.ref b2],.cons ⟨c1,D?,h1⟩ (.cons ⟨c2,D?,h2⟩ .nil),(ae (eg (pv 0) (cR rfl (aD (pgN 3 mH) (aD (pgN 4 mH) b8))))
   (ai (av (ng lvN (N:=["pattern","second","state"]) (js:=[Am,A? 2,A? 3]) (g:=(aE 0)) (tt:=bv) (te:=(fD (e9 T.e_Great) [] (exN (([("second",c2),("first",c1)]:List (SG×So)).map (·.2)) H E) (bG (bC 1) (bG (fD eZ [] E0 (bG (bC 2) fU)) (bG (bC 0) fU))))) (cF rfl (by decide +kernel) (by decide +kernel) rfl rfl rfl) (d3 (au aq (pcF T.g_14 (d9 T) hr (aa (pv 1) ac)) (pv 4) (λ_ _=>rfl))) (λ_ _ _ _ _ _=>(pgN 0 xM)) (bf rfl) (λ_ _ _ _ _ _=>bH) (λ_ _ _ _ _ _=>(bz (gN T) (hr.mono (by first|decide|lia)) rfl T.g_25.m T.g_25.F.kp T.g_25.b .nil uW (aa (pv 1) (aa (pcF T.g_19 (kG T) hr (aa (pv 2) ac)) (aa (pv 0) ac))))))))),?_⟩
  generalize N9:fgt (([("second",c2),("first",c1)]:List (SG×So)).map (·.2)) H=H0 at kf |-;have L4:=AS.mono kf;have L5:=BA.mono kf;refine hid λZZ kZ=>?_;obtain⟨ia,oa,ha,ra,yc,yl,ya,bk⟩:=id L4;obtain⟨row,xZ,zF,hlen,xU⟩:=cq J.f1 Jm Im;obtain⟨yI,y6,yX,Ds,zq⟩:=Yo bk.rw xZ;refine kZ ?_;rw[zF]at kq;have yv:yX.length=row.length:=zq.length;have hle:=J.le;refine⟨_,D?,pa,_,D?,Yg (kf _ _ CO),D?,_,_,D?,_,_,D?,D?,?_⟩;refine⟨_,D?,b1,_,_,_,_,D?,bk.bk,_,D?,ra,_,_,.ref yI,D?,D?,Yg bk.rl,at_nonneg Jm (gmE y6),?_⟩;refine⟨yI,D?,⟨_,Yg Ds⟩,gd (F:=λH z a=>AtG .p H z a/\Small z) (xs:=yX.map Ye) (row.map λt=>made (aA mid f') (.call st 0) (sol t)) (λH1 H2 z p kt h=>⟨h.1.mono kt,h.2⟩) (by rw[Sl,Sl];lia) (by rw[Sl];lia) (λi Hx sx hi=>⟨_,_,Yg (sx _ _ Ds),Sn hi⟩) (λHx sx=>⟨_,Yg (sx _ _ Ds),Su _⟩) (λi Hx x Hy sx hi hy=>⟨hy.1,hy.2 _ (Yg (sx _ _ Ds))⟩) (λi y z Hx R W' hy zT sx hR=>?_) (λD Hx as hD sx eD Ac=>?_)⟩
  .obtain⟨ua,rfl,Cb⟩:=aT hy;obtain⟨u,hu,Dj⟩:=zq.get Cb;rw[Sx,hu]at zT;cases zT;have zo:=Sv hu;obtain⟨C,hC⟩:=xU u zo;refine⟨_,D?,_,D?,st,D?,λca AF=>⟨_,D?,?_⟩⟩;refine gU AF λH3 s3 e3=>?_;have k3:=Ze (sx.trans s3);refine⟨b2,ca,ua,mid,outs,S2,S1,xQ,f',.call st 0,u,D?,L5.mono k3,J.gm,J.go,J.f2,J.s1,?_,(Dj.g).mono k3,Lead.sol (eU JD DK) hC,λCd r H4 s4 Io=>hR H4 r (s3.trans s4) ⟨Io,Cd⟩,λ_ H4 s4 _=>ke _ (nj (by rw[N9];exact sx.trans (s3.trans s4)))⟩;rw[AtG];exact⟨_,e3,D?⟩
  .intro DO;subst N9;have sR:=sZ (H:=H) DO;refine kq (λt ht=>?_) D as _ (nj sx) (sR _ _ eD) ?_
   .refine hid λZZ kZ=>?_;obtain⟨j,hj⟩:=Tg.mp ht;obtain⟨_,_,h1⟩:=Yo Ac (show(row.map λt=>made (aA mid f') (.call st 0) (sol t))[j]?=A? (made (aA mid f') (.call st 0) (sol t))by rw[Sx,hj];rfl);refine kZ ?_;exact h1.2
   .exact(show AtsG .p Hx _ as from jy (Zk (λ_ _ e=>e.1) Ac)).mono (Ze sR)
inductive sp_joinedX(CG CM tp:So)(vs:List V)(H:Hp)(Q:VK)(E:XK):Prop
 |mk (b1 b2 D8 Gk Gm Ip Gn D9 Gp Iq:So) (BC Co Cp Cq BD Cr:List So) (ins mid outs:List (SG×Int)) (S1 S2:Int) (xR xQ:Th) (xO f':List (List Th)):vs=[.ref b1,.ref b2]->BookAt H ins mid xR xO b1 D8 Gk Gm Ip BC Co Cp->BookAt H mid outs xQ f' b2 Gn D9 Gp Iq Cq BD Cr->JoinW ins mid outs S1 S2 xR xQ xO f'->TabSt H tp (ndPos nd_joined) ndQ->(uO mid xR xQ xO f'->∀(r fh rl:So)(Ae:List So)(H':Hp),SameT tp H H'->TabSt H' tp (ndPos nd_joined) ndQ->H' r=A? (.tup [.ref D8,.ref D9,.ref fh,.ref rl])->At H' (ren (idx (aH (joR mid f' xO) (joH mid f' xQ xR))) (joH mid f' xQ xR)) fh->H' rl=A? (.tup (Ae.map Ye))->Tc (RowAt H') ((aH (joR mid f' xO) (joH mid f' xQ xR)).map λs=>(joR mid f' xO s).map (ren (idx (aH (joR mid f' xO) (joH mid f' xQ xR))))) Ae->Q (.ref r) H')->(∀(C:So)(H':Hp),(C=CG\/C=CM)->SameT tp H H'->TabSt H' tp (ndPos nd_joined) ndQ->E (.ref C) Am H')->sp_joinedX CG CM tp vs H Q E
theorem ok_joinedX(L:Lam mg base T.g_26.tc T.g_26.tp):FnOk P w K mg base (CX1 P w) 13 T.g_26.f T.g_26.d ["first","second"] (sp_joinedX T.e_Great T.e_Many T.g_26.tp):=by
 refine T.g_26.F.okTX T.g_26.th i9 (λvs H Q E h=>?_) (λA outer s H vs Q E hr h=>?_)
 .obtain⟨b1,b2,D8,Gk,Gm,Ip,Gn,D9,Gp,Iq,BC,Co,Cp,Cq,BD,Cr,ins,mid,outs,S1,S2,xR,xQ,xO,f',rfl,_⟩:=h;rfl
 obtain⟨b1,b2,D8,Gk,Gm,Ip,Gn,D9,Gp,Iq,BC,Co,Cp,Cq,BD,Cr,ins,mid,outs,S1,S2,xR,xQ,xO,f',rfl,AS,BA,J,yW,q,qe⟩:=h
 refine⟨_,(ae (bU (aF (o8 (B:=150) (j9 hr)) (pcF T.g_12 (fo T) hr (aa (pv 0) ac)) (pcF T.g_11 (eQ T) hr (aa (pv 1) ac)) (aI _)) (ai (kR T.X_NotOne T.x_NotOne dX)) bp)
  (ae (ur (i:=2) (name:="patterns_of") (pos:=ndPos nd_joined) (params:=ndP nd_joined) (body:=ndB nd_joined) (scope:=ndS nd_joined) (cl:=[("second",s.1.1.size+2),("first",s.1.1.size+1)]) L i9.nd rfl (WT rfl) rfl rfl)
  (ae (ak 3 i9.nd (bz (gN T) (hr.mono (by first|decide|lia)) rfl T.g_25.m T.g_25.F.kp T.g_25.b .nil (pJ lv1) (aa (pv 1) (aa (pcF T.g_13 (dg T) hr (aa (pv 1) ac)) (aa (pcF T.g_13 (dg T) hr (aa (pv 0) ac)) ac)))))
  (ai (av (qC (cl:=[("second",s.1.1.size+2),("first",s.1.1.size+1)]) lv1 (mC T) (hr.mono (by decide)) rfl T.g_17.m T.g_17.F.kp T.g_17.b (wZ rfl rfl rfl rfl rfl rfl) (aa (bz (eQ T) (hr.mono (by decide)) rfl T.g_11.m T.g_11.F.kp T.g_11.b .nil dw (aa (pv 0) ac)) (aa (bz (fo T) (hr.mono (by decide)) rfl T.g_12.m T.g_12.F.kp T.g_12.b .nil dw (aa (pv 1) ac)) (aa (pv 3) (aa (pv 2) ac)))))))))),?_⟩
 try dsimp only[ym,xW]
 refine⟨_,D?,b1,_,_,_,_,D?,AS.bk,_,D?,b2,_,_,_,_,D?,BA.bk,Gk,Gn,_,_,_,_,D?,D?,Yg AS.outE,Yg BA.inE,n6 AS.outK,n6 BA.inK,?_,λbb EX=>⟨_,D?,?_⟩⟩
 .exact Td (g9 mid) (by decide)
 have:bb=false:=by
  cases bb with
  |false=>rfl
  |true=>exact Yd rfl (EX.mp rfl)
 subst this;refine kN ?_;refine⟨yW,λf c' H1 s1 et y9 Ir hf=>?_⟩;have D':KT H H1:=yW.kt s1;refine⟨_,D?,_,D?,b2,_,_,_,_,D?,D' _ _ BA.bk,_,D?,b1,_,_,_,_,D?,D' _ _ AS.bk,?_⟩;refine⟨b2,Gp,Gm,mid,outs,S2,S1,xQ,f',xQ,xR,D?,⟨_,_,_,_,_,_,_,BA.mono D'⟩,J.gm,J.go,J.f2,J.s1,(BA.hd.g).mono D',(AS.hd.g).mono D',Lead.sol J.h2 J.h1,λIu hd H2 s2 Jr=>?_,λ_ H2 s2=>qe _ H2 (.inl rfl) (s1.trans (s2.t _)) ((show TabSt H1 _ _ _ from .inr ⟨c',et,y9⟩).mono s2)⟩;have Ea:KT H H2:=D'.trans (Ze s2);refine⟨_,D?,b1,_,_,_,_,D?,Ea _ _ AS.bk,_,D?,b2,_,_,_,_,D?,Ea _ _ BA.bk,_,D?,_,D?,λH3 trk=>?_⟩;have Gq:=trk.same;have Qw:KT H H3:=Ea.trans (Ze Gq);have Dt:=s2.trans Gq;have Fs:CellAt H3 (s.1.1.size+1) (.ref b1):=trk.2.2.2 0 "first" (.ref b1) _ rfl rfl rfl;have Ft:CellAt H3 (s.1.1.size+2) (.ref b2):=trk.2.2.2 1 "second" (.ref b2) _ rfl rfl rfl;have Qx:(joH mid f' xQ xR).size<=1000:=Td (show Small (joH mid f' xQ xR)from Iu).size (by decide);refine⟨D8,D9,hd,f,joH mid f' xQ xR,joR mid f' xO,ko T.e_Great f c' (s.1.1.size+1) (s.1.1.size+2),D?,Jr.mono (Ze Gq),Qx,rD T f c' _ _ (Ti (WN _)),λH4 x pa Z EZ s4 hx CO hZ hE=>?_,λDn L6 r fh rl Ae H4 s4 e4 h4 Iv HZ=>?_,λC H4 hC s4=>?_⟩
 .refine hid λZZ kZ=>?_;obtain⟨a1,a2,a3,a4⟩:=J.met x hx;refine kZ ?_;have k4:=Qw.trans (Ze s4);refine⟨pa,b1,b2,x / 1000,x%1000,ins,mid,outs,S1,S2,xR,xQ,xO,f',D?,(Ir.mono Dt).mono s4,(y9.mono Dt).mono s4,Fs.mono s4,Ft.mono s4,CO,⟨_,_,_,_,_,_,_,AS.mono k4⟩,⟨_,_,_,_,_,_,_,BA.mono k4⟩,J,a1,a2,a3,a4,λCd r as H5 s5 er y8=>hZ (J.row8 a3 a4) (λt ht=>?_) r as H5 s5 er y8,hE⟩;obtain⟨u,hu,rfl⟩:=Tj.mp ht;exact Cd u hu
 .refine⟨λb' hb=>?_,q ⟨Dn,Iu,L6⟩ r fh rl Ae _ (s1.trans ((s2.trans (trk.back s4)).t _)) ((show TabSt H1 _ _ _ from .inr ⟨c',et,y9⟩).mono (s2.trans (trk.back s4))) (trk.kt s4 _ _ e4) (h4.mono (trk.kt s4)) (trk.kt s4 _ _ Iv) (Zk (λ_ _ e=>Yn (trk.kt s4) e) HZ)⟩;obtain⟨φ,e⟩:=trk.2.2.1 b' hb;rw[e,s4 _ _ e]
 .refine⟨λb' hb=>?_,qe C _ hC (s1.trans ((s2.trans (trk.back s4)).t _)) ((show TabSt H1 _ _ _ from .inr ⟨c',et,y9⟩).mono (s2.trans (trk.back s4)))⟩;obtain⟨φ,e⟩:=trk.2.2.1 b' hb;rw[e,s4 _ _ e]
end G
open G (mf uI dH fB iN eQ fS d9 gC fo fj dg)
inductive dh(vs:List V)(H:Hp)(Q:VK)(_E:XK):Prop
 |mk (a:So) (t:Th):vs=[.ref a]->At H t a->Q (.bl t.isCall) H->dh  vs H Q _E
inductive cy(vs:List V)(H:Hp)(Q:VK)(_E:XK):Prop
 |mk (a:So) (sn kn:Int):vs=[.ref a]->At H (.call sn kn) a->(∀p,H p=Am->Q (.ref p) (upd H p (.tup [.int sn,.int kn])))->cy  vs H Q _E
inductive eO(vs:List V)(H:Hp)(Q:VK)(_E:XK):Prop
 |mk (a:So) (t:Th):vs=[.ref a]->At H t a->t.size<=100000->(∀(r:So)(as:List So)(H':Hp),Zf H H'->H r=Am->H' r=A? (.lst (as.map Ye))->Ats H' t.walk as->Q (.ref r) H')->eO  vs H Q _E
inductive eV(vs:List V)(H:Hp)(Q:VK)(_E:XK):Prop
 |mk (a:So) (n:SG) (ks:List Th):vs=[.ref a]->At H (.knot n ks) a->(∀(r:So)(H':Hp),Zf H H'->TopAt H' (.nm n ks.length) r->Q (.ref r) H')->eV  vs H Q _E
inductive fM(vs:List V)(H:Hp)(Q:VK)(_E:XK):Prop
 |mk (l:So) (as:List So) (tops:List Top) (u:Th):vs=[.ref l]->H l=A? (.lst (as.map Ye))->Tc (TopAt H) tops as->tops.length<=100000->TopsOk tops->(∀t,Top.th t∈tops->t.size<=100000)->bl tops=[u]->(∀(r:So)(H':Hp),Zf H H'->At H' u r->Q (.ref r) H')->fM  vs H Q _E
def CP(H:Hp)(c:Int×Int)(a:So):Prop:=H a=A? (.tup [.int c.1,.int c.2])
inductive cV(vs:List V)(H:Hp)(Q:VK)(_E:XK):Prop
 |mk (a:So) (t:Th):vs=[.ref a]->At H t a->t.size<=100000->(∀(r:So)(as:List So)(H':Hp),Zf H H'->H r=Am->H' r=A? (.lst (as.map Ye))->Tc (CP H') (bu t) as->Q (.ref r) H')->cV  vs H Q _E
theorem ok_is_call:FnOk P w K mg base CX0 1 T.g_3.f T.g_3.d ["thing"] dh:=(G.ok_is_call T).imp λvs H Q E h=>by
 obtain⟨a,t,e,h,k⟩:=h;exact⟨.i,a,t,e,h.g,k⟩
theorem ok_called_by:FnOk P w K mg base CX0 1 T.g_4.f T.g_4.d ["call"] cy:=(G.ok_called_by T).imp λvs H Q E h=>by
 obtain⟨a,s,c,e,h,k⟩:=h;exact⟨.i,a,s,c,e,h.g,λp v hv hp=>by rw[show v=.int s from hv];exact k p hp⟩
theorem ok_walked:FnOk P w K mg base CX0 2 T.g_1.f T.g_1.d ["thing"] eO:=(G.ok_walked T).imp λvs H Q E h=>by
 obtain⟨a,t,e,h,hz,k⟩:=h;exact⟨.i,a,t,e,h.g,hz,λr as H' s n e' hs=>k r as H' s n e' hs.i⟩
theorem ok_top_of:FnOk P w K mg base CX0 2 T.g_6.f T.g_6.d ["part"] eV:=(G.ok_top_of T).imp λvs H Q E h=>by
 obtain⟨a,n,ks,e,h,k⟩:=h;exact⟨.i,a,.knot n ks,e,h.g,λr H' s ht=>k r H' s ht⟩
theorem ok_built:FnOk P w K mg base CX0 1 T.g_2.f T.g_2.d ["tops"] fM:=(G.ok_built T).imp λvs H Q E h=>by
 obtain⟨l,as,tops,u,e,el,hp,hn,ho,hz,hb,k⟩:=h;refine⟨.i,l,as,tops,u,e,el,Zk (λx a hx=>?_) hp,hn,ho,hz,hb,λr H' s hu=>k r H' s hu.i⟩;cases x with
 |nm n m=>exact hx
 |th t=>obtain⟨ta,h1,h2⟩:=hx;exact⟨ta,h1,h2.g⟩
theorem ok_called_in:FnOk P w K mg base CX0 3 T.g_5.f T.g_5.d ["pattern"] cV:=(G.ok_called_in T).imp λvs H Q E h=>by
 obtain⟨a,t,e,h,hz,k⟩:=h;refine⟨.i,a,t,e,h.g,hz,λr as H' s n e' hs=>k r as H' s n e' (Zk (λx a hx=>?_) hs)⟩;obtain⟨v,h1,h2⟩:=hx;rw[show v=.int x.1 from h2]at h1;exact h1
inductive eT(vs:List V)(H:Hp)(Q:VK)(_E:XK):Prop
 |mk (a ta:So) (t:Th) (f:Int->Int->Th) (xP:List (List Key×V)):vs=[.ref a,.ref ta]->At H t a->t.size<=100000->Rd H ta (.dT xP)->(∀s k,Ym s k∈t.walk->∃v,bK xP [TB s,TB k]=A? (.ref v)/\At H (f s k) v/\(f s k).size<=100000)->(∀(r:So)(H':Hp),Zf H H'->At H' (t.fill f) r->Q (.ref r) H')->eT  vs H Q _E
theorem iK:FnOk P w K mg base CX0 3 T.g_7.f T.g_7.d ["pattern","table"] eT:=by
 refine T.g_7.F.okA dQ λxX A outer s H vs Q E hr h=>?_;obtain⟨a,ta,t,f,xP,rfl,hA,hsz,Jl,yW,k⟩:=h
 refine⟨_,(ae (ak 2 dQ.nd (aZ ac))
  (ae (cE Tw rfl (cJ (pcF T.g_1 (ok_walked T) hr (aa (pv 0) ac))) (pgN 3 dQ.nd) (ai (bU (bV (pcF T.g_3 (ok_is_call T) hr (aa (pv 3) ac)) (λ_=>rfl)) (ai (aY (bN SK S5 S4 aM (pv 2) (aa (aO (aa (mO (nD hr) (pv 1) (pcF T.g_4 (ok_called_by T) hr (aa (pv 3) ac)) (λ_ _=>rfl)) (aa af ac))) ac)))) (ai (aY (bN SK S5 S4 aM (pv 2) (aa (pcF T.g_6 (ok_top_of T) hr (aa (pv 3) ac)) ac)))))))
  (ai (av (pcF T.g_2 (ok_built T) hr (aa (pv 2) ac)))))),?_⟩
 try dsimp only[ym,xW]
 refine⟨lnE rfl,λtl yv=>?_⟩;refine⟨_,D?,a,t,D?,hA.mono (fR yv),hsz,λwl as H1 s1 Hz HA hw=>?_⟩;have BV:as.length=t.walk.length:=hw.length;have Qg:=Zm t;have Lr:Zf H H1:=(ag yv _).trans s1;have Ls:wl≠tl:=λz=>by rw[z,ad]at Hz;cases Hz
 refine⟨wl,D?,⟨_,Zg HA⟩,?_⟩
 refine dY (K:=K) (a:=wl) (xs:=as.map Ye) (λi Y H2=>Ex2 λc bs=>An6 (Y=[A? (.ref a),A? (.ref ta),A? (.ref tl),c]) (Zf H H2) (H2 wl=A? (.lst (as.map Ye))) (Ats H2 t.walk as) (H2 tl=A? (.lst (bs.map Ye))) (Tc (TopAt H2) ((t.walk.take i).map (cC f)) bs))
  ⟨Am,[],rfl,Lr,HA,hw,s1 _ _ ad,.nil⟩ (λi Y H2 _⟨_,_,_,_,e,_,_,_⟩=>Zg e) ?_ ?_
 .rintro i x Y H2 hx ⟨c,bs,rfl,s2,Ca,DY,Bd,yA⟩;obtain⟨xa,rfl,De⟩:=aT hx;obtain⟨tx,HC,E7⟩:=DY.get De;have Lu:tx∈t.walk:=Sv HC;have ze:t.walk.take (i+1)=t.walk.take i++[tx]:=by rw[Ui,HC];rfl
  have AR:bs.length<=100000:=by
   have:=SJ yA;rw[Sl,S9]at this;lia
  refine⟨_,D?,xa,tx,D?,E7,_,D?,?_⟩
  have push:∀(H3:Hp)(p:So),Zf H2 H3->TopAt H3 (cC f tx) p->Ex2 λc Bo=>An6 (([A? (.ref a),A? (.ref ta),A? (.ref tl),A? (.ref xa)]:St)=[A? (.ref a),A? (.ref ta),A? (.ref tl),c]) (Zf H (upd H3 tl (.lst (bs.map Ye++[.ref p])))) ((upd H3 tl (.lst (bs.map Ye++[.ref p]))) wl=A? (.lst (as.map Ye))) (Ats (upd H3 tl (.lst (bs.map Ye++[.ref p]))) t.walk as) ((upd H3 tl (.lst (bs.map Ye++[.ref p]))) tl=A? (.lst (Bo.map Ye))) (Tc (TopAt (upd H3 tl (.lst (bs.map Ye++[.ref p])))) ((t.walk.take (i+1)).map (cC f)) Bo):=by
   intro H3 p s3 hp;have k3:KT H3 (upd H3 tl (.lst (bs.map Ye++[.ref p]))):=aU (s3 _ _ Bd);refine⟨_,bs++[p],D?,aJ (s2.trans s3) yv,by rw[aj Ls];exact s3 _ _ Ca,DY.mono ((Ze s3).trans k3),uAE,?_⟩;rw[ze,SI];exact Zj (i0 ((Ze s3).trans k3) yA) (.cons (hp.mono k3) .nil)
  cases tx with
  | call sn kn =>
    refine nt ?_;refine hid λZZ kZ=>?_;obtain⟨v,hv,Lx,_⟩:=yW sn kn Lu;refine kZ ?_;refine⟨_,D?,.inl ⟨D?,_,Zg Bd⟩,_,D?,_,D?,xa,sn,kn,D?,E7,λcb Lw=>?_⟩;have s3:Zf H2 (upd H2 cb (.tup [.int sn,.int kn])):=ag Lw _
    have L7:Rd (upd H2 cb (.tup [.int sn,.int kn])) ta (.dT xP):=by
     rcases Jl with h|⟨o,h⟩
     .exact .inl (s3 _ _ (s2 _ _ h))
     .exact .inr ⟨o,s3 _ _ (s2 _ _ h)⟩
    refine⟨ta,.ref v,D?,.inr ⟨xP,[TB sn,TB kn],cb,L7,D?,ad,hv.symm⟩,lnE rfl,λp hp=>?_⟩;have s4:=s3.trans (ag hp (.tup [.ref v,.int 0]));refine⟨tl,_,_,D?,D?,s4 _ _ Bd,lbE (by lia),?_⟩;exact push _ p s4 ⟨v,ad,Lx.mono (Ze (s2.trans s4))⟩
  | knot nm us =>
    refine kN ?_;refine⟨_,D?,.inl ⟨D?,_,Zg Bd⟩,_,D?,xa,nm,us,D?,E7,λp H3 s3 hp=>?_⟩;refine⟨tl,_,_,D?,D?,s3 _ _ Bd,lbE (by lia),?_⟩;exact push _ p s3 hp
 .rintro Y H2 ⟨c,bs,rfl,s2,Ca,DY,Bd,yA⟩;rw[Sl,BV,Vb]at yA;obtain⟨b1,b2⟩:=jK f t;refine⟨_,D?,tl,bs,_,t.fill f,D?,Bd,yA,by rw[Sl];lia,b2,?_,b1,λr H3 s3 Df=>k r H3 (s2.trans s3) Df⟩;intro u hu;obtain⟨x,hx,e⟩:=Tj.mp hu;cases x with
  |knot nm us=>cases e
  | call sn kn =>
    cases e;refine hid λZZ kZ=>?_;obtain⟨v,_,_,hz⟩:=yW sn kn hx;refine kZ ?_;exact hz
theorem iP{t:Th}{s k:Int}(h:Ym s k∈t.walk):(s,k)∈bu t:=Vg.mpr ⟨_,h,rfl⟩
theorem kF{t:Th}{c:Int×Int}(h:c∈bu t):c.1∈stT t:=Tj.mpr ⟨c,h,rfl⟩
inductive dE(vs:List V)(H:Hp)(Q:VK)(_E:XK):Prop
 |mk (a nd:So) (t:Th) (g:Int->Int) (xP:List (Key×V)):vs=[.ref a,.ref nd]->At H t a->t.size<=100000->H nd=A? (.dK xP)->(∀s∈stT t,bK xP (.inl s)=A? (.int (g s)))->(∀(r:So)(H':Hp),Zf H H'->At H' (ren g t) r->Q (.ref r) H')->dE  vs H Q _E
theorem fT:FnOk P w K mg base CX0 4 T.g_8.f T.g_8.d ["pattern","names"] dE:=by
 refine T.g_8.F.okA bO λxX A outer s H vs Q E hr h=>?_;obtain⟨a,nd,t,g,xP,rfl,hA,hsz,Ad,E8,k⟩:=h
 refine⟨_,(ae (ak 2 bO.nd nZ)
  (ae (cE Tw rfl (cJ (pcF T.g_5 (ok_called_in T) hr (aa (pv 0) ac))) (cR rfl (aD (pgN 3 bO.nd) (aD (pgN 4 bO.nd) b8))) (ai (uu (nD hr) (pv 2) (aO (aa (pv 3) (aa (pv 4) ac))) (aO (aa (cx (v:=.str (SE "?")) rfl T.c_CALL_SIGN.choose_spec ⟨_,D?⟩) (aa (mO (nD hr) (pv 1) (pv 3) (λ_ _=>rfl)) (aa (pv 4) ac)))) rfl)))
  (ai (av (pcF T.g_7 (iK T) hr (aa (pv 0) (aa (pv 2) ac))))))),?_⟩
 try dsimp only[ym,xW]
 intro td JC;dsimp only[aE];refine gU JC λH1 s1 e1=>?_;refine⟨_,D?,a,t,D?,hA.mono (Ze s1),hsz,λr as H2 s2 nr er zX=>⟨r,D?,⟨_,Zg er⟩,?_⟩⟩;have yw:(bu t).length=as.length:=SJ zX
 have Qh:(bu t).length<=100000:=by
  have h1:=VD kH t.walk;have h2:=Zm t;unfold bu;lia
 have E9:r≠td:=λz=>by rw[z,e1]at nr;cases nr
 refine dY (K:=K) (a:=r) (xs:=as.map Ye) (λi Y H3=>Ex3 λ(c3 c4:Option V)(tk:List (List Key×V))=>An7 (Y=[A? (.ref a),A? (.ref nd),A? (.ref td),c3,c4]) (Zf H H3) (H3 r=A? (.lst (as.map Ye))) (Tc (CP H3) (bu t) as) (H3 td=A? (.dT tk)) (tk.length<=i) (∀c∈(bu t).take i,∃v,bK tk [TB c.1,TB c.2]=A? (.ref v)/\At H3 (.call (g c.1) c.2) v))
  ⟨Am,Am,[],rfl,s1.trans s2,er,zX,s2 _ _ e1,Su _,λc hc=>by rw[Va]at hc;cases hc⟩ (λi Y H3 _⟨_,_,_,_,_,e,_,_,_,_⟩=>Zg e) ?_ ?_
 .rintro i x Y H3 hx ⟨c3,c4,tk,rfl,s3,zE,yH,E',hlen,xV⟩;refine hid λZZ kZ=>?_;obtain⟨ca,rfl,AF⟩:=aT hx;obtain⟨⟨sn,kn⟩,hc,ec⟩:=Zo yH AF;refine kZ ?_;have Bx:i<100000:=by have:=(glE hc);lia
  have Ly:=E8 sn (kF (Sv hc));have Dg:H3 ca=A? (.tup [.int sn,.int kn]):=ec;refine⟨ca,_,D?,Yg Dg,D?,_,_,D?,_,_,D?,D?,?_⟩;dsimp only[aE];have Fb:=s3 _ _ Ad;refine⟨_,D?,_,D?,nd,.int (g sn),D?,.inl ⟨xP,.inl sn,.inl Fb,D?,Ly.symm⟩,_,D?,lnE rfl,λcv EK=>?_⟩;have s4:Zf H3 (upd H3 cv (.tup [.str (SE "?"),.int (g sn),.int kn])):=ag EK _;have e4:At (upd H3 cv (.tup [.str (SE "?"),.int (g sn),.int kn])) (.call (g sn) kn) cv:=by rw[At];exact ad
  generalize(upd H3 cv (.tup [.str (SE "?"),.int (g sn),.int kn]))=H4 at s4 e4 |-;refine⟨_,D?,_,D?,_,D?,lnE rfl,λkp HF=>?_⟩;refine gU HF λH5 s5 e5=>?_;have e5:H5 kp=A? (.tup ([TB sn,TB kn].map kV)):=e5;have Bc:=s4.trans s5;have HG:=Bc _ _ E';refine⟨td,_,D?,DPut.t HG e5 (cI (by lia)),?_⟩;have k6:KT H5 (upd H5 td (.dT (putK tk [TB sn,TB kn] (.ref cv)))):=λb xs e=>by rw[aj (de e HG (λz=>nomatch z))];exact e
  have HH:=(Ze Bc).trans k6;refine⟨_,_,_,D?,aJ (s3.trans Bc) JC,by rw[aj E9];exact Bc _ _ zE,Zk (λ_ _ e=>HH _ _ e) yH,ad,?_,λc yC=>?_⟩
  .have:=cg tk [TB sn,TB kn] (.ref cv);lia
  .rw[m9];by_cases zK:([TB c.1,TB c.2]:List Key)=[TB sn,TB kn]
   .rw[Yb zK]
    have h1:c.1=sn:=by
     have:=Zd (λl:List Key=>l[0]?) zK;simpa using this
    have h2:c.2=kn:=by
     have:=Zd (λl:List Key=>l[1]?) zK;simpa using this
    exact⟨cv,D?,by rw[h1,h2];exact(e4.mono (Ze s5)).mono k6⟩
   .rw[Za zK];rw[take_snoc hc]at yC;rcases S6.mp yC with h|h
    .obtain⟨v,h1,h2⟩:=xV c h;exact⟨v,h1,h2.mono HH⟩
    .exact Yd (by rw[Sz.mp h]) zK
 .rintro Y H3 ⟨c3,c4,tk,rfl,s3,zE,yH,E',hlen,xV⟩;rw[TC (by rw[Sl];lia)]at xV;refine⟨_,D?,_,D?,a,td,t,λs k=>.call (g s) k,tk,D?,hA.mono (Ze s3),hsz,.inl E',λs k' yp=>?_,λr' H4 s4 h4=>k r' H4 (s3.trans s4) h4⟩;obtain⟨v,h1,h2⟩:=xV (s,k') (iP yp);exact⟨v,h1,h2,by rw[Zi];decide⟩
def bh(m:List Int):List (Key×V):=m.zipIdx.map λp=>(TB p.1,Yh (p.2:Nat))
theorem dU(m:List Int):(bh m).length=m.length:=by unfold bh;rw[Sl,List.length_zipIdx]
theorem jd(m:List Int)(s:Int):bh (m++[s])=bh m++[(TB s,Yh (m.length:Nat))]:=by
 unfold bh;rw[List.zipIdx_append,SI];simp
theorem dZ:∀(m:List Int)(s:Int)(n:Nat),bK ((m.zipIdx n).map λp=>((TB p.1:Key),Yh (p.2:Nat))) (TB s)=if s∈m then A? (.int ((n+m.idxOf s:Nat):Int))else Am
 | [],s,n=>rfl
 | x::m,s,n=>by
   rw[List.zipIdx_cons,Tb];by_cases h:x=s
   .subst h;rw[bI rfl,Yb (SU ..),List.idxOf_cons_self];rfl
   .rw[bF (λz=>h (Ve z)),dZ m s (n+1)];by_cases hm:s∈m
    .rw[Yb hm,Yb (SN _ hm),W0,(beq_eq_false_iff_ne.mpr h:(x == s)=C?)];simp only[cond_false];have:n+1+m.idxOf s=n+(m.idxOf s+1):=by lia
     rw[this]
    .rw[Za hm,Za (λz=>(SR.mp z).elim (λy=>h y.symm) hm)]
theorem gO{s:Int}(h:s∈m):bK (bh m) (TB s)=A? (.int (idx m s)):=by
 unfold bh;rw[dZ,Yb h,Nat.zero_add];rfl
theorem jU{s:Int}(h:s∉m):bK (bh m) (TB s)=none:=by
 unfold bh;rw[dZ,Za h]
inductive gB(vs:List V)(H:Hp)(Q:VK)(_E:XK):Prop
 |mk (a nd:So) (t:Th) (m:List Int):vs=[.ref a,.ref nd]->At H t a->t.size<=100000->H nd=A? (.dK (bh m))->(aC m (stT t)).length<=20->(∀(r:So)(H':Hp),SameB nd H H'->H' nd=A? (.dK (bh (aC m (stT t))))->At H' (ren (idx (aC m (stT t))) t) r->Q (.ref r) H')->gB  vs H Q _E
theorem jW:FnOk P w K mg base CX0 5 T.g_16.f T.g_16.d ["pattern","numbers"] gB:=by
 refine T.g_16.F.okA dm λxX A outer s H vs Q E hr h=>?_;obtain⟨a,nd,t,m,rfl,hA,hsz,Ad,Dn,k⟩:=h
 refine⟨_,(ae (cE Tw rfl (cJ (pcF T.g_5 (ok_called_in T) hr (aa (pv 0) ac))) (cR rfl (aD (pgN 2 dm.nd) (aD (pgN 3 dm.nd) b8))) (ai (aY (bN PySem.F.plainAttrs_dict Vk PySem.F.type_dict_setdefault lg (pv 1) (aa (pv 2) (aa (aw iM rfl T.n_1 S8 (aa (pv 1) ac)) ac))))))
  (ae (bU (aF cW (aw iM rfl T.n_1 S8 (aa (pv 1) ac)) (cx (v:=.int (20)) rfl T.c_MOST_STATES.choose_spec ⟨_,D?⟩) (aI _)) (ai nI) bp)
  (ai (av (pcF T.g_8 (fT T) hr (aa (pv 0) (aa (pv 1) ac))))))),?_⟩
 try dsimp only[ym,xW]
 refine⟨_,D?,a,t,D?,hA,hsz,λr as H1 s1 nr er zX=>⟨r,D?,⟨_,Zg er⟩,?_⟩⟩;have yw:(bu t).length=as.length:=SJ zX;have Cg:r≠nd:=λz=>by rw[z,Ad]at nr;cases nr
 refine dY (K:=K) (a:=r) (xs:=as.map Ye) (λi Y H3=>Ex2 λc2 c3=>An6 (Y=[A? (.ref a),A? (.ref nd),c2,c3]) (SameB nd H H3) (KT H H3) (H3 r=A? (.lst (as.map Ye))) (Tc (CP H3) (bu t) as) (H3 nd=A? (.dK (bh (aC m ((stT t).take i))))))
  ⟨Am,Am,rfl,SameB.of s1,Ze s1,er,zX,by rw[Va];exact s1 _ _ Ad⟩ (λi Y H3 _⟨_,_,_,_,_,e,_,_⟩=>Zg e) ?_ ?_
 .rintro i x Y H3 hx ⟨c2,c3,rfl,s3,k3,zE,yH,zH⟩;refine hid λZZ kZ=>?_;obtain⟨ca,rfl,AF⟩:=aT hx;obtain⟨⟨sn,kn⟩,hc,ec⟩:=Zo yH AF;refine kZ ?_;have Dg:H3 ca=A? (.tup [.int sn,.int kn]):=ec;have yy:(stT t)[i]?=A? sn:=by unfold stT;rw[Sx,hc];rfl
  have ze:aC m ((stT t).take (i+1))=dk (aC m ((stT t).take i)) sn:=by
   rw[take_snoc yy,cf];rfl
  have Fg:(dk (aC m ((stT t).take i)) sn).length<=20:=by
   have h1:aC m (stT t)=aC (aC m ((stT t).take (i+1))) ((stT t).drop (i+1)):=by rw[<-cf,UT]
   have h2:=(dA ((stT t).drop (i+1)) (aC m ((stT t).take (i+1)))).length_le;rw[<-h1,ze]at h2;lia
  generalize aC m ((stT t).take i)=mi at zH ze Fg |-;have Qt:=(la mi sn).length_le;refine⟨ca,_,D?,Yg Dg,D?,_,_,D?,_,_,D?,D?,?_⟩;dsimp only[aE];have hl:=dU mi;refine⟨_,D?,.inr (.inr (.inl ⟨D?,.inl ⟨_,zH⟩⟩)),_,D?,_,D?,nd,_,D?,zH,nd,.int ((bh mi).length:Nat),.inl sn,bh mi,D?,D?,zH,cI (by lia),λu hu=>?_,λhu=>?_⟩
  .have Bl:sn∈mi:=by
    by_cases h:sn∈mi
    .exact h
    .rw[jU h]at hu;cases hu
   refine⟨_,_,D?,s3,k3,zE,yH,?_⟩;rw[ze];unfold dk;rw[Yb Bl];exact zH
  .have Bl:sn∉mi:=λh=>by rw[gO h]at hu;cases hu
   have Fh:putK (bh mi) (.inl sn) (.int ((bh mi).length:Nat))=bh (dk mi sn):=by
    rw[j5 _ hu];unfold dk;rw[Za Bl,jd,hl]
   rw[Fh];have k4:KT H3 (upd H3 nd (.dK (bh (dk mi sn)))):=λb xs e=>by rw[aj (de e zH (λz=>nomatch z))];exact e
   refine⟨_,_,D?,λb o hb e=>by rw[aj hb];exact s3 b o hb e,k3.trans k4,by rw[aj Cg];exact zE,Zk (λ_ _ e=>k4 _ _ e) yH,by rw[ad,ze]⟩
 .rintro Y H3 ⟨c2,c3,rfl,s3,k3,zE,yH,zH⟩;have EE:(stT t).length=as.length:=by unfold stT;rw[Sl];lia
  rw[TC (by rw[Sl];lia)]at zH;have hl:=dU (aC m (stT t));dsimp only[j3];refine bX (λxS H'=>An2 (H3=H') (xS=[A? (.ref a),A? (.ref nd),c2,c3])) (λkk hk=>?_) ?_
  .refine⟨_,D?,nd,_,D?,zH,_,_,D?,D?,_,D?,?_⟩;refine cK (λc=>?_) (λc=>hk _ _ ⟨rfl,rfl⟩);have:=Zc c;lia
  rintro xS H' ⟨rfl,rfl⟩;exact⟨_,D?,_,D?,a,nd,t,idx (aC m (stT t)),_,D?,hA.mono k3,hsz,zH,λs hs=>gO (be.mpr (.inr hs)),λr' H4 s4 h4=>k r' H4 (λb o hb e=>s4 _ _ (s3 b o hb e)) (s4 _ _ zH) h4⟩
inductive jf(P:SH)(w:S0)(K:Ss)(mg:SG->Option Sq)(base:TL)(vs:List V)(H:Hp)(Q:VK)(_E:XK):Prop
 |mk (ia oa ha f:So) (head:Th) (rows:List (List Th)) (CT:Sp):vs=[.ref ia,.ref oa,.ref ha,.ref f]->At H head ha->head.size<=1000->CallsOk head rows->(∀row∈rows,row.length<=8/\∀t∈row,t.size<=1000)->oO P w K mg base CX0 5 f CT->(∀(H1:Hp)(s:Int)(R:VK),Zf H H1->s∈met head rows->(∀(r:So)(as:List So)(H2:Hp),Zf H1 H2->H2 r=A? (.tup (as.map Ye))->Ats H2 (rowOf rows s) as->R (.ref r) H2)->CT [.int s] H1 R E0)->(∀(r fh rl:So)(Ae:List So)(H':Hp),Zf H H'->H' r=A? (.tup [.ref ia,.ref oa,.ref fh,.ref rl])->At H' (fA head rows) fh->H' rl=A? (.tup (Ae.map Ye))->Tc (RowAt H') (iz head rows) Ae->Q (.ref r) H')->jf P w K mg base vs H Q _E
theorem qR{rows:List (List Th)}(h:∀row∈rows,row.length<=8/\∀t∈row,t.size<=1000)(s:Int):(rowOf rows s).length<=8/\∀t∈rowOf rows s,t.size<=1000:=by
 unfold rowOf;rw[Ul];cases e:rows[s.toNat]? with
 |none=>exact⟨Tn _,λt ht=>by cases ht⟩
 |some r=>exact h r (Sv e)
theorem dz(a b:List Th):aN (a++b)=aN a++aN b:=List.flatMap_append
theorem qO(m:List Int):((bh m).map λkv=>kV kv.1)=m.map Yh:=by
 have:∀(l:List Int)(n:Nat),(((l.zipIdx n).map λp=>((TB p.1:Key),Yh (p.2:Nat))).map λkv=>kV kv.1)=l.map Yh:=by
  intro l;induction l with
  |nil=>exactλ_=>rfl
  |cons x l ih=>intro n;rw[List.zipIdx_cons,Tb,Tb,ih (n+1)];rfl
 exact this m 0
theorem n8:FnOk P w K mg base CX0 8 T.g_17.f T.g_17.d ["ins","outs","head","patterns_of"] (jf P w K mg base):=by
 refine T.g_17.F.okA br λxX A outer s H vs Q E hr h=>?_;obtain⟨ia,oa,ha,f,head,rows,CT,rfl,hA,hsz,JI,L8,LO,Fi,k⟩:=h
 refine⟨_,(ae (ak 4 br.nd sf)
  (ae (ak 5 br.nd (pcF T.g_16 (jW T) hr (aa (pv 2) (aa (pv 4) ac))))
  (ae (ak 6 br.nd (aZ ac))
  (ae (dD Tw (aF ql (aw ar rfl T.n_1 S8 (aa (pv 6) ac)) (aw iM rfl T.n_1 S8 (aa (pv 4) ac)) (aI _)) (ae (ak 7 br.nd (au cw (aR (nF rfl) rfl T.n_2 PyProof.Rows.boot_list (aa (pv 4) ac)) (aw ar rfl T.n_1 S8 (aa (pv 6) ac)) (λ_ _=>rfl)))
  (ai (aY (bN SK S5 S4 aM (pv 6) (aa (aR aL rfl T.n_7 Tt (aa (cz (N:=["pattern","numbers"]) (js:=[Am,A? 4]) (g:=(aE 0)) (tt:=bv) (te:=(fD gB [] E0 (bG (bC 0) (bG (bC 1) fU)))) rfl (cF rfl (by decide +kernel) (by decide +kernel) rfl rfl rfl) (rV (nX (k:=5) (i:=3) rfl (WT rfl) (hr.mono (by first|decide|lia)) dw (aa (pv 7) ac))) (λ_ _ _ _ _ _=>(pgN 0 wU)) (bf rfl) (λ_ _ _ _ _ _=>bH) (λ_ _ _ _ _ _=>(pcF T.g_16 (jW T) hr (aa (pv 0) (aa (pv 1) ac))))) ac)) ac))))))
  (ai (av (aO (aa (pv 0) (aa (pv 1) (aa (pv 5) (aa (aR aL rfl T.n_7 Tt (aa (pv 6) ac)) ac))))))))))),?_⟩
 try dsimp only[ym,xW]
 have Ci:=JI.len;have z8:aC [] (stT head) <+: met head rows:=dJ _ _ _ _;intro nd CU;dsimp only[aE];refine gU CU λH1 s1 e1=>?_;have e1:H1 nd=A? (.dK (bh [])):=e1;refine⟨_,D?,_,D?,ha,nd,head,[],D?,hA.mono (Ze s1),by lia,e1,Td z8.length_le Ci,λfh H2 Ib Ic h2=>?_⟩;dsimp only[aE];have Fj:ren (idx (aC [] (stT head))) head=fA head rows:=i3 head λx hx=>(jL z8 (be.mpr (.inr hx))).symm;rw[Fj]at h2;have s2:Zf H H2:=λb o e=>Ib b o (ao e CU) (s1 b o e);refine⟨lnE rfl,λrl Bp=>?_⟩;have s3:Zf H2 (upd H2 rl (.lst [])):=ag Bp _;have e3:(upd H2 rl (.lst [])) rl=A? (.lst []):=ad;have AI:H rl=none:=s2.free Bp;have AJ:nd≠rl:=λz=>by rw[<-z,Ic]at Bp;cases Bp
 generalize(upd H2 rl (.lst []))=H3 at s3 e3 |-
 refine⟨λmz Y H4=>Ex4 λ(i:Nat)(mm:List Int)(bs:List So)(tv:Option V)=>qm (Y=[A? (.ref ia),A? (.ref oa),A? (.ref ha),A? (.ref f),A? (.ref nd),A? (.ref fh),A? (.ref rl),tv]) (Zf H H4) (H4 nd=A? (.dK (bh mm))) (H4 rl=A? (.lst (bs.map Ye))) (Tc (RowAt H4) (((met head rows).take i).map λs=>(rowOf rows s).map (ren (idx (met head rows)))) bs) (At H4 (fA head rows) fh) (mm <+: met head rows) (bfs (rowOf rows) (21 - i) mm i=met head rows) (i<=mm.length) (mz=21 - i),
  ⟨_,0,aC [] (stT head),[],Am,D?,s2.trans s3,s3 _ _ Ic,e3,.nil,h2.mono (Ze s3),z8,D?,Tn _,D?⟩,?_⟩
 rintro mz Y H4 ⟨i,mm,bs,tv,rfl,s4,Fl,Fm,yA,Dp,zj,Af,hi,rfl⟩;have Qu:=zj.length_le
 have AR:bs.length=i:=by
  have:=SJ yA;rw[Sl,S9]at this;lia
 have Qv:=dU mm;refine⟨_,D?,rl,_,D?,.inl (Zg Fm),_,D?,nd,_,D?,Fl,_,_,D?,D?,_,D?,?_⟩;refine cK (λcc=>?_) (λcc=>?_)
 .have yb:i<mm.length:=by
   have:=Zc cc;rw[Sl]at this;lia
  refine⟨λxS H'=>∃m',m'<21 - i/\Ex4 λ(i:Nat)(mm:List Int)(bs:List So)(tv:Option V)=>qm (xS=[A? (.ref ia),A? (.ref oa),A? (.ref ha),A? (.ref f),A? (.ref nd),A? (.ref fh),A? (.ref rl),tv]) (Zf H H') (H' nd=A? (.dK (bh mm))) (H' rl=A? (.lst (bs.map Ye))) (Tc (RowAt H') (((met head rows).take i).map λs=>(rowOf rows s).map (ren (idx (met head rows)))) bs) (At H' (fA head rows) fh) (mm <+: met head rows) (bfs (rowOf rows) (21 - i) mm i=met head rows) (i<=mm.length) (m'=21 - i),λxS H' h=>h,?_⟩;obtain⟨sn,D6⟩:∃sn,mm[i]?=A? sn:=⟨_,Sn yb⟩
  have Ig:(met head rows)[i]?=A? sn:=by
   obtain⟨rr,Ih⟩:=zj;rw[<-Ih,Ts yb];exact D6
  have LQ:sn∈met head rows:=Sv Ig;refine⟨_,D?,nd,_,D?,Fl,λl hl=>?_⟩;have s5:Zf H4 (upd H4 l (.lst ((bh mm).map λkv=>kV kv.1))):=ag hl _;have e5:(upd H4 l (.lst ((bh mm).map λkv=>kV kv.1))) l=A? (.lst (mm.map Yh)):=by rw[ad,qO]
  generalize(upd H4 l (.lst ((bh mm).map λkv=>kV kv.1)))=H5 at s5 e5 |-;have z9:=s5 _ _ Fm;have LU:=s5 _ _ Fl;have LV:(bs.map Ye).length=i:=by rw[Sl];exact AR
  refine⟨_,D?,rl,_,D?,.inl (Zg z9),l,_,_,.int sn,D?,D?,Zg e5,at_nonneg (by lia) (by rw[LV,Ut,Sx,D6];rfl),?_⟩;dsimp only[aE];refine⟨_,D?,.inl ⟨D?,_,Zg z9⟩,f,CT,D?,LO,_,D?,Fi H5 sn _ (s4.trans s5) LQ λr as H6 s6 zU y8=>⟨r,D?,.inr ⟨⟨_,Yg zU⟩,?_⟩⟩⟩;obtain⟨Cj,Eb⟩:=qR L8 sn;generalize xZ:rowOf rows sn=row at y8 Cj Eb;have zQ:=y8.length
  have Cm:bfs (rowOf rows) (21 - i) mm i=bfs (rowOf rows) (21 - (i+1)) (aC mm (aN row)) (i+1):=by
   rw[show 21 - i=(21 - (i+1))+1 by lia,bfs,D6];show bfs (rowOf rows) (21 - (i+1)) (aC mm (aN (rowOf rows sn))) (i+1)=_;rw[xZ]
  rw[Cm]at Af;have AK:aC mm (aN row) <+: met head rows:=by rw[<-Af];exact dJ _ _ _ _
  have D7:=s6 _ _ LU;have Cn:=s6 _ _ z9;have JH:=s4.trans (s5.trans s6);intro D hD;have Bh:D≠nd:=λz=>by rw[z,D7]at hD;cases hD
  have LX:D≠rl:=λz=>by rw[z,Cn]at hD;cases hD
  have Ak:∀(H7:Hp),SameB nd H6 H7->KT H6 H7:=λH7 sb b xs e=>sb b _ (de e D7 (λz=>nomatch z)) e
  refine⟨as.length,λj H7=>An4 (j<=as.length) (SameB nd H6 H7) (H7 nd=A? (.dK (bh (aC mm (aN (row.take j)))))) (Ex1 λ(ds:List So)=>An2 (H7 D=A? (.lst (ds.map Ye))) (Ats H7 ((row.take j).map (ren (idx (met head rows)))) ds)),
   ⟨Tn _,SameB.of (ag hD _),by rw[aj Bh.symm];exact D7,[],ad,.nil⟩,?_⟩
  rintro j H7 ⟨hj,Bq,Dq,ds,eD,za⟩;have Fo:H7 r=A? (.tup (as.map Ye)):=Ak H7 Bq _ _ zU
  have B1:ds.length=j:=by
   have:=za.length;rw[Sl,S9]at this;lia
  by_cases DX:j=as.length
  .left;refine⟨⟨_,Yg Fo,by rw[Sl,DX];exact Su _⟩,?_⟩;have xV:row.take j=row:=by rw[DX,zQ,Vb]
   rw[xV]at za Dq;have LY:Zf H H7:=λb o e=>Bq b o (ao e CU) (JH b o e);have Fp:H7 rl=A? (.lst (bs.map Ye)):=Bq _ _ AJ.symm Cn;refine⟨D,_,D?,.inl ⟨Zg eD,λtp yP=>?_⟩⟩;refine gU yP λH8 s8 e8=>?_;have Ii:=s8 _ _ Fp;refine⟨rl,_,_,D?,D?,Ii,lbE (by lia),?_⟩;have k9:KT H8 (upd H8 rl (.lst (bs.map Ye++[.ref tp]))):=aU Ii;have CS:KT H4 (upd H8 rl (.lst (bs.map Ye++[.ref tp]))):=((Ze (s5.trans s6)).trans (Ak H7 Bq)).trans ((Ze s8).trans k9);refine⟨21 - (i+1),by lia,i+1,aC mm (aN row),bs++[tp],_,D?,aJ (LY.trans s8) AI,by rw[aj AJ];exact s8 _ _ Dq,uAE,?_,Dp.mono CS,AK,Af,Td yb (dA _ _).length_le,D?⟩;rw[take_snoc Ig,SI];refine Zj (Zk (λ_ _ e=>Yn CS e) yA) (.cons ⟨ds,k9 _ _ e8,?_⟩ .nil);dsimp only;rw[xZ];exact za.mono ((Ze s8).trans k9)
  .right;have zN:j<as.length:=by lia
   refine⟨zN,⟨_,.ref as[j],Yg Fo,by rw[Sx,Sn zN];rfl⟩,?_⟩;rintro y H8 ⟨rfl,hv⟩;have AN:=hv _ (Yg Fo);obtain⟨ta,rfl,zG⟩:=aT AN;obtain⟨t,ht,yx⟩:=(y8.mono (Ak _ Bq)).get zG;have ze:row.take (j+1)=row.take j++[t]:=by rw[Ui,ht];rfl
   have Bz:aC mm (aN (row.take (j+1)))=aC (aC mm (aN (row.take j))) (stT t):=by
    rw[ze,dz,cf];show aC _ (stT t++[])=_;rw[T3]
   have Gj:aC mm (aN (row.take (j+1))) <+: met head rows:=by
    refine List.IsPrefix.trans ?_ AK;have:aC mm (aN row)=aC (aC mm (aN (row.take (j+1)))) (aN (row.drop (j+1))):=by rw[<-cf,<-dz,UT]
    rw[this];exact dA _ _
   rw[Bz]at Gj;have N8:=Eb t (Sv ht);refine⟨_,D?,_,D?,ta,nd,t,_,D?,yx,by lia,Dq,Td Gj.length_le Ci,λr' H9 Dr L1 h9=>?_⟩;have Ij:ren (idx (aC (aC mm (aN (row.take j))) (stT t))) t=ren (idx (met head rows)) t:=i3 t λx hx=>(jL Gj (be.mpr (.inr hx))).symm;rw[Ij]at h9;have Ik:=Dr _ _ Bh eD;have L3:KT H8 H9:=λb xs e=>Dr b _ (de e Dq (λz=>nomatch z)) e;have kA:KT H9 (upd H9 D (.lst (ds.map Ye++[.ref r']))):=aU Ik;refine⟨_,Ik,lbE (by lia),zN,λb o hb e=>?_,?_,ds++[r'],?_,?_⟩
   .rw[aj (ao e hD)];exact Dr b o hb (Bq b o hb e)
   .rw[aj Bh.symm,Bz];exact L1
   .rw[ad,SI];rfl
   .rw[ze,SI];exact(za.mono (L3.trans kA)).append (.cons (h9.mono kA) .nil)
 .have CY:i=mm.length:=by
   by_cases h:i<mm.length
   .exact Yd (Yc (by rw[Sl];lia)) cc
   .lia
  have Il:met head rows=mm:=by rw[<-Af,pE _ _ _ _ (by lia)]
  have ze:(met head rows).take i=met head rows:=by rw[TC (by rw[Il];lia)]
  rw[ze]at yA;refine⟨_,D?,_,D?,_,D?,_,D?,rl,_,D?,.inl ⟨Zg Fm,λrt E9=>⟨lnE rfl,λr z7=>?_⟩⟩⟩;have t1:=ag E9 (.tup (bs.map Ye));have t2:=ag z7 (.tup [.ref ia,.ref oa,.ref fh,.ref rt]);have Fq:=t1.trans t2;exact k r fh rt bs _ (s4.trans Fq) ad (Dp.mono (Ze Fq)) (t2 _ _ ad) (Zk (λ_ _ e=>Yn (Ze Fq) e) yA)
def aW:TN:=match bj i4 with
 | [.Return (A? (.Call _ [_,_,_,l] _ _)) _]=>l
 |_=>.Name "" ⟨0,0,0,0⟩
def vL:TN->U9
 |.Lambda p _ _ _=>p
 |_=>bS i4
def vS:TN->TN
 |.Lambda _ b _ _=>b
 |e=>e
def ud:TN->Ub
 |.Lambda _ _ s _=>s
 |_=>ay i4
def ph:TN->VX
 |.Lambda _ _ _ p=>p
 |_=>⟨0,0,0,0⟩
def r9:SG:="trimmed.<locals>."++"<lambda>"
inductive oJ(f c' c:So)(vs:List V)(H:Hp)(Q:VK)(_E:XK):Prop
 |mk (st:Int) (b:So) (v1 v2 v3:V) (ra:So) (xs:List V) (v:V):vs=[.int st]->LamAt H f c' "<lambda>" r9 (vL aW) (vS aW) (ud aW) [("book",c)]->CodeAt H c' r9->CellAt H c (.ref b)->H b=A? (.tup [v1,v2,v3,.ref ra])->H ra=A? (.tup xs)->0<=st->xs[st.toNat]?=A? v->Q v H->oJ f c' c vs H Q _E
theorem vV(c:So):n9 ["state","book"] ["state"] [("book",c)] (ud aW):=by
 refine⟨D?,D?,D?,by decide +kernel,by decide +kernel,D?,by decide +kernel,by decide +kernel,λx h=>?_,λx y c1 h1 h2=>?_⟩
 .by_cases hx:x="book"
  .exact⟨c,by rw[hx];rfl⟩
  .exfalso;have hm:=Tf h;have xV:∀z∈(ud aW).names,z.2=.free->z.1="book":=by decide +kernel
   exact hx (xV _ hm rfl)
 .have e1:=Tf h1;have e2:=Tf h2;rw[Sz]at e1 e2;exact(Zd WM e1).trans (Zd WM e2).symm
include T in
theorem oY(f c' c:So):oO P w K mg base CX0 5 f (oJ f c' c):=by
 refine vH (k:=4) (c':=c') (name:="<lambda>") (qual:=r9) (params:=vL aW) (body:=vS aW) (vV c) (λpm yV us hl=>?_) (λvs H Q E h=>?_) λA outer s H vs Q E hr h=>?_
 .obtain⟨u,rfl⟩:=us1 hl;rfl
 .obtain⟨st,b,v1,v2,v3,ra,xs,v,rfl,hl,hc,yd,_⟩:=h;refine⟨D?,hl,hc,λb' hb=>?_,λx c1 hx=>?_⟩
  .obtain rfl:b'=c:=Sz.mp hb;obtain⟨φ,e,_⟩:=yd;exact⟨φ,e⟩
  .have e1:=Tf hx;rw[Sz]at e1;cases e1;exact⟨_,yd⟩
 .obtain⟨st,b,v1,v2,v3,ra,xs,v,rfl,hl,hc,yd,eb,er,h0,hv,q⟩:=h
  have hx:Exts (([("book",c)]:List (SG×So)).map (·.2)) H:=λb' hb=>by
   obtain rfl:b'=c:=Sz.mp hb;obtain⟨φ,e,_⟩:=yd;exact⟨φ,e⟩
  refine⟨_,[.ref b],.cons ⟨c,D?,yd⟩ .nil,au aq (bz (d9 T) (hr.mono (by decide)) rfl T.g_14.m T.g_14.F.kp T.g_14.b .nil dw (aa (pv 1) ac)) (pv 0) (λ_ _=>rfl),?_⟩;have Qy:fgt (([("book",c)]:List (SG×So)).map (·.2)) H b=A? (.tup [v1,v2,v3,.ref ra]):=by rw[aQ (hx.out eb λφ z=>nomatch z)];exact eb
  have Ij:fgt (([("book",c)]:List (SG×So)).map (·.2)) H ra=A? (.tup xs):=by rw[aQ (hx.out er λφ z=>nomatch z)];exact er
  refine⟨_,D?,b,v1,v2,v3,_,D?,Qy,_,D?,ra,xs,st,v,D?,D?,Yg Ij,at_nonneg h0 hv,?_⟩;rw[uf];exact q
inductive kI(tp:So)(vs:List V)(H:Hp)(Q:VK)(_E:XK):Prop
 |mk (b ia oa ha ra:So) (ya:List So) (head:Th) (rows:List (List Th)):vs=[.ref b]->H b=A? (.tup [.ref ia,.ref oa,.ref ha,.ref ra])->At H head ha->H ra=A? (.tup (ya.map Ye))->Tc (RowAt H) rows ya->head.size<=1000->CallsOk head rows->(∀row∈rows,row.length<=8/\∀t∈row,t.size<=1000)->TabSt H tp (ph aW) r9->(∀(r fh rl:So)(Ae:List So)(H':Hp),SameT tp H H'->TabSt H' tp (ph aW) r9->H' r=A? (.tup [.ref ia,.ref oa,.ref fh,.ref rl])->At H' (fA head rows) fh->H' rl=A? (.tup (Ae.map Ye))->Tc (RowAt H') (iz head rows) Ae->Q (.ref r) H')->kI tp vs H Q _E
theorem oI(L:Lam mg base T.g_27.tc T.g_27.tp):FnOk P w K mg base CX0 9 T.g_27.f T.g_27.d ["book"] (kI T.g_27.tp):=by
 refine T.g_27.F.okT T.g_27.th o6 (λvs H Q E h=>?_) (λA outer s H vs Q E hr h=>?_)
 .obtain⟨b,ia,oa,ha,ra,ya,head,rows,rfl,_⟩:=h;rfl
 obtain⟨b,ia,oa,ha,ra,ya,head,rows,rfl,eb,hA,er,Al,hsz,JI,L8,yW,q⟩:=h;refine⟨_,(ai (av (rk (cl:=[("book",s.1.1.size+1)]) (n8 T) (hr.mono (by decide)) rfl T.g_17.m T.g_17.F.kp T.g_17.b (xI rfl rfl rfl) (aa (bz (eQ T) (hr.mono (by decide)) rfl T.g_11.m T.g_11.F.kp T.g_11.b .nil dw (aa (pv 0) ac)) (aa (bz (fo T) (hr.mono (by decide)) rfl T.g_12.m T.g_12.F.kp T.g_12.b .nil dw (aa (pv 0) ac)) (aa (bz (dg T) (hr.mono (by decide)) rfl T.g_13.m T.g_13.F.kp T.g_13.b .nil dw (aa (pv 0) ac)) (aa (u8 (pos:=ph aW) (params:=vL aW) (body:=vS aW) (scope:=ud aW) (cl:=[("book",s.1.1.size+1)]) L rfl rfl) ac))))))),?_⟩
 try dsimp only[ym,xW]
 refine⟨_,D?,b,_,_,_,_,D?,eb,_,D?,b,_,_,_,_,D?,eb,_,D?,b,_,_,_,_,D?,eb,yW,λf c' H1 s1 et y9 BL hf=>λH2 trk=>?_⟩;have D':KT H H1:=yW.kt s1;have AL:=trk.same;have Ea:KT H H2:=D'.trans (Ze AL);have yd:CellAt H2 (s.1.1.size+1) (.ref b):=trk.2.2.2 0 "book" (.ref b) _ rfl rfl rfl;refine⟨ia,oa,ha,f,head,rows,oJ f c' (s.1.1.size+1),D?,hA.mono Ea,hsz,JI,L8,oY T f c' _,λH3 st R s3 yy hR=>?_,λr fh rl Ae H3 s3 e3 h3 BM Fd=>?_⟩
 .have h0:=JI.rng st yy;have yb:st.toNat<rows.length:=by lia
  refine hid λZZ kZ=>?_;obtain⟨a,GN,as,ea,has⟩:=Yo (Zk (λ_ _ e=>Yn (Ea.trans (Ze s3)) e) Al) (Sn yb);refine kZ ?_;refine⟨st,b,.ref ia,.ref oa,.ref ha,ra,ya.map Ye,.ref a,D?,(BL.mono AL).mono s3,(y9.mono AL).mono s3,yd.mono s3,s3 _ _ (Ea _ _ eb),s3 _ _ (Ea _ _ er),h0.1,by rw[Sx,GN];rfl,?_⟩;refine hR a as H3 (.refl _) ea ?_;have:rowOf rows st=rows[st.toNat]:=by unfold rowOf;rw[Ul,Sn yb];rfl
  rw[this];exact has
 .refine⟨λb' hb=>?_,q r fh rl Ae _ (s1.trans ((trk.back s3).t _)) ((show TabSt H1 _ _ _ from .inr ⟨c',et,y9⟩).mono (trk.back s3)) (trk.kt s3 _ _ e3) (h3.mono (trk.kt s3)) (trk.kt s3 _ _ BM) (Zk (λ_ _ e=>Yn (trk.kt s3) e) Fd)⟩;obtain⟨φ,e⟩:=trk.2.2.1 b' hb;rw[e,s3 _ _ e]
open G (eG eh jS kX eZ kG fj dg)
inductive l4(vs:List V)(H:Hp)(Q:VK)(_E:XK):Prop
 |mk (b ca ka:So) (ins outs:List (SG×Int)) (head:Th) (rows:List (List Th)) (s k:Int) (n:SG) (ks:List Th) (p h:Th):vs=[.ref b,.ref ca,.ref ka]->Bk H ins outs head rows b->aB ins->At H (.call s k) ca->At H (.knot n ks) ka->Step ins rows s k ks p h->(∀(r pa ha:So)(H':Hp),Zf H H'->H' r=A? (.tup [.ref pa,.ref ha])->At H' p pa->At H' h ha->Q (.ref r) H')->l4  vs H Q _E
inductive jt(vs:List V)(H:Hp)(Q:VK)(_E:XK):Prop
 |mk (b pa ka:So) (ins outs:List (SG×Int)) (head:Th) (rows:List (List Th)) (p k p' k':Th):vs=[.ref b,.ref pa,.ref ka]->Bk H ins outs head rows b->aB ins->At H p pa->At H k ka->Res ins rows p k p' k'->(∀(r pa ha:So)(H':Hp),Zf H H'->H' r=A? (.tup [.ref pa,.ref ha])->At H' p' pa->At H' k' ha->Q (.ref r) H')->jt  vs H Q _E
theorem qp:FnOk P w K mg base CX0 3 T.g_20.f T.g_20.d ["book","call","knot"] l4:=by
 refine T.g_20.F.okA f9 λxX A outer s H vs Q E hr h=>?_;obtain⟨b,ca,ka,ins,outs,head,rows,s,k,n,ks,p,h,rfl,hb,g,hc,hk,st,q⟩:=h
 refine⟨_,(ae (eg (pcF T.g_4 (ok_called_by T) hr (aa (pv 1) ac)) (cR rfl (aD (pgN 3 f9.nd) (aD (pgN 4 f9.nd) b8))))
  (ae (ak 5 f9.nd (au aq (pv 2) (ap bA (pv 4) af) (λ_ _=>rfl)))
  (ai (av (aO (aa (pcF T.g_15 (eh T) hr (aa (pv 0) (aa (pv 3) (aa (au aq (pv 5) af (λ_ _=>rfl)) ac)))) (aa (pv 5) ac))))))),?_⟩
 try dsimp only[ym,xW]
 refine hid λZZ kZ=>?_;obtain⟨s0,k0,hh,m,hs,c,j,row,rfl,hj,xZ,hp⟩:=st;refine kZ ?_;refine⟨_,D?,ca,s,k,D?,hc,λpr C9=>?_⟩;refine gU C9 λH1 s1 e1=>?_;refine⟨pr,_,D?,Yg e1,D?,_,_,D?,_,_,D?,D?,?_⟩;have Ec:=hk.mono (Ze s1);rw[At]at Ec;refine hid λZZ kZ=>?_;obtain⟨LC,as,yZ,y8⟩:=Ec
 obtain⟨ha,Ed,yx⟩:∃a,as[k.toNat]?=A? a/\At H1 (.knot m hs) a:=by
  have hl:=y8.length;have Ab:=(glE hh);obtain⟨a,ha⟩:∃a,as[k.toNat]?=A? a:=⟨_,Sn (by lia)⟩;obtain⟨t,ht,yx⟩:=y8.get ha;rw[hh]at ht;cases ht;exact⟨a,ha,yx⟩
 refine kZ ?_;have L9:atI (Yp n::as.map Ye) (k+1)=A? (.ref ha):=at_nonneg (by lia) (by rw[show(k+1).toNat=k.toNat+1 by lia,List.getElem?_cons_succ,Sx,Ed];rfl);refine⟨_,D?,_,D?,_,_,D?,D?,ka,_,_,.ref ha,D?,D?,Yg yZ,L9,?_⟩;have Cs:=yx;rw[At]at Cs;refine hid λZZ kZ=>?_;obtain⟨Fu,bs,JJ,yA⟩:=Cs;obtain⟨ia,oa,CQ,ra,yc,yl,ya,bk⟩:=hb.mono (Ze s1);obtain⟨yI,y6,yX,zF,zq⟩:=Yo bk.rw xZ
 obtain⟨ta,zG,L'⟩:∃a,yX[j]?=A? a/\At H1 p a:=by
  have hl:=zq.length;have Ab:=(glE hp);obtain⟨a,ha⟩:∃a,yX[j]?=A? a:=⟨_,Sn (by lia)⟩;obtain⟨t,ht,yx⟩:=zq.get ha;rw[hp]at ht;cases ht;exact⟨a,ha,yx⟩
 refine kZ ?_;refine⟨_,D?,_,D?,_,D?,ha,_,0,.str m,D?,D?,Yg JJ,at0,?_⟩;refine⟨b,ia,ra,yI,ta,_,_,yc,ya,yX,ins,s,j,(m,c),D?,bk.bk,bk.inE,bk.inK,g,bk.rl,s0,y6,zF,hj,zG,λH2 s2=>?_⟩;refine⟨_,D?,lnE rfl,λr z7=>?_⟩;have s3:=s2.trans (ag z7 (.tup [.ref ta,.ref ha]));exact q r ta ha _ (s1.trans s3) ad (L'.mono (Ze s3)) (yx.mono (Ze s3))
theorem oo:FnOk P w K mg base CX0 4 T.g_21.f T.g_21.d ["book","part","knot"] jt:=by
 refine T.g_21.F.okA fI λxX A outer s H vs Q E hr h=>?_;obtain⟨b,pa,ka,ins,outs,head,rows,p,k,p',k',rfl,hb,g,hp,hk,AH,q⟩:=h
 refine⟨_,(ae (dD Tw (bV (pcF T.g_3 (ok_is_call T) hr (aa (pv 1) ac)) (λ_=>rfl)) (ai (eg (pcF T.g_20 (qp T) hr (aa (pv 0) (aa (pv 1) (aa (pv 2) ac)))) (cR rfl (aD (pgN 1 fI.nd) (aD (pgN 2 fI.nd) b8))))))
  (ai (av (aO (aa (pv 1) (aa (pv 2) ac)))))),?_⟩
 try dsimp only[ym,xW]
 refine⟨λm Y H2=>Ex4 λ(pa ka:So)(p k:Th)=>An6 (Y=[A? (.ref b),A? (.ref pa),A? (.ref ka)]) (Zf H H2) (At H2 p pa) (At H2 k ka) (Res ins rows p k p' k') (m=k.tall),⟨_,pa,ka,p,k,D?,.refl _,hp,hk,AH,D?⟩,?_⟩;rintro m Y H2 ⟨pa,ka,p,k,rfl,s2,hp,hk,AH,rfl⟩;refine⟨_,D?,pa,p,D?,hp,_,D?,?_⟩;cases AH with
 | stop n ts _ =>
   refine kN ?_;refine⟨_,D?,_,D?,lnE rfl,λr z7=>?_⟩;have s3:=ag z7 (.tup [.ref pa,.ref ka]);exact q r pa ka _ (s2.trans s3) ad (hp.mono (Ze s3)) (hk.mono (Ze s3))
 | @step s c n ks p1 h1 _ _ st r =>
   refine nt ?_;refine⟨λxS H'=>∃m',m'<(Yk n ks).tall/\Ex4 λ(pa ka:So)(p k:Th)=>An6 (xS=[A? (.ref b),A? (.ref pa),A? (.ref ka)]) (Zf H H') (At H' p pa) (At H' k ka) (Res ins rows p k p' k') (m'=k.tall),λxS H' h=>h,?_⟩;refine⟨_,D?,_,D?,_,D?,b,pa,ka,ins,outs,head,rows,s,c,n,ks,p1,h1,D?,hb.mono (Ze s2),g,hp,hk,st,λr' HL GN H3 s3 er Dl Ed=>?_⟩
   have hm:h1∈ks:=by
    obtain⟨_,_,hh,_⟩:=st;exact Sv hh
   have yv:=bW hm;refine⟨r',_,D?,Yg er,D?,_,_,D?,_,_,D?,D?,h1.tall,?_,HL,GN,p1,h1,D?,s2.trans s3,Dl,Ed,r,D?⟩;rw[Yi];lia
inductive sQ(vs:List V)(H:Hp)(Q:VK)(_E:XK):Prop
 |mk (b ha ta:So) (ins outs:List (SG×Int)) (head:Th) (rows:List (List Th)) (p t o:Th):vs=[.ref b,.ref ha,.ref ta]->Bk H ins outs head rows b->aB ins->aB outs->At H p ha->At H t ta->Out ins rows p (.knot (SE "") [t]) o->o.Fit outs->(o.size<=2000/\o.tall<=150)->(∀(r:So)(H':Hp),Zf H H'->At H' o r->Q (.ref r) H')->sQ  vs H Q _E
theorem fK:SE ""≠q:=by decide +kernel
def wR(b ha ta tl ah:So)(ins outs:List (SG×Int))(rows:List (List Th))(o:Th)(H:Hp)(m:Nat)(Y:St)(H2:Hp):Prop :=
 Ex7 λ(yY as:List So)(done:List Th)(js:List Job)(c5 c6 c7:Option V)=>An8 (Y=[A? (.ref b),A? (.ref ha),A? (.ref ta),A? (.ref tl),A? (.ref ah),c5,c6,c7]) (Zf H H2) (H2 tl=A? (.lst (yY.map Ye))) (H2 ah=A? (.lst (as.map Ye))) (Tc (TopAt H2) (done.map (cC Ym)) yY) (Tc (JAt H2 ins rows) js as) (JInv outs o done js) (m=am (jos js))
theorem vQ:FnOk P w K mg base CX0 6 T.g_22.f T.g_22.d ["book","head","tree"] sQ:=by
 refine T.g_22.F.okA fJ λxX A outer s H vs Q E hr h=>?_;obtain⟨b,ha,ta,ins,outs,head,rows,p,t,o,rfl,hb,gi,go,hp,ht,zI,xU,Fv,q⟩:=h
 refine⟨_,(ae (ak 3 fJ.nd (aZ ac))
  (ae (ak 4 fJ.nd (aZ (aa (aO (aa (pv 1) (aa (pcF T.g_18 (kX T) hr (aa (pv 2) ac)) (aa af ac)))) ac)))
  (ae (dD Tw (bV (pv 4) (λ_=>rfl)) (ae (eg (mB SK V2 V1 mM (pv 4)) (cR rfl (aD (pgN 5 fJ.nd) (aD (pgN 6 fJ.nd) (aD (pgN 7 fJ.nd) b8)))))
  (ae (eg (pcF T.g_21 (oo T) hr (aa (pv 0) (aa (pv 5) (aa (pv 6) ac)))) (cR rfl (aD (pgN 5 fJ.nd) (aD (pgN 6 fJ.nd) b8))))
  (ae (bU (PW.pt (nk (aF fG (aw ar rfl T.n_1 S8 (aa (pv 3) ac)) (cx (v:=.int (2000)) rfl T.c_MOST_KNOTS_running.choose_spec ⟨_,D?⟩) (aI _)) (kj (aF cW (pv 7) (cx (v:=.int (150)) rfl T.c_TALLEST.choose_spec ⟨_,D?⟩) (aI _))))) (ai nI) bp)
  (ae (aY (bN SK S5 S4 aM (pv 3) (aa (aO (aa (bd pM (pv 5) bw (bq af)) (aa (ap gG (aw ar rfl T.n_1 S8 (aa (pv 5) ac)) af) ac))) ac)))
  (ai (aY (bN SK WC WB l8 (pv 4) (aa (cz (N:=["kid","knot","row"]) (js:=[Am,A? 6,A? 7]) (g:=(aE 0)) (tt:=bv) (te:=(va (bG (bC 0) (bG (bC 1) (bG (tOp (rI0 λi j=>.int (i+j)) (bC 2) (tC (.int 1))) fU))))) rfl (cF rfl (by decide +kernel) (by decide +kernel) rfl rfl rfl) (pT rfl T.n_5 (bd gI (pv 5) (bq af) bw)) (λ_ _ _ _ _ _=>(pgN 0 wQ)) (bf rfl) (λ_ _ _ _ _ _=>bH) (λ_ _ _ _ _ _=>(aO (aa (pv 0) (aa (pv 1) (aa (ap bA (pv 2) af) ac)))))) ac)))))))))
  (ai (av (pcF T.g_2 (ok_built T) hr (aa (pv 3) ac))))))),?_⟩
 try dsimp only[ym,xW]
 refine⟨lnE rfl,λtl yv=>?_⟩;refine⟨_,D?,_,D?,.ref ta,D?,λab Aa=>⟨lnE rfl,λtp yP=>⟨lnE rfl,λah AD=>?_⟩⟩⟩;have s1:Zf H (upd H tl (.lst [])):=ag yv _;have e1:(upd H tl (.lst [])) tl=A? (.lst (([]:List So).map Ye)):=ad;have CL:H ah=none:=s1.free ((ag Aa _).free ((ag yP _).free AD));generalize RR:(upd H tl (.lst []))=H1 at s1 e1 Aa yP AD |-;have s2:Zf H1 (upd H1 ab (.tup [.str (SE ""),.ref ta])):=ag Aa _;have e2:(upd H1 ab (.tup [.str (SE ""),.ref ta])) ab=A? (.tup [.str (SE ""),.ref ta]):=ad;generalize(upd H1 ab (.tup [.str (SE ""),.ref ta]))=H2 at s2 e2 yP AD |-;have s3:Zf H2 (upd H2 tp (.tup [.ref ha,.ref ab,.int 1])):=ag yP _;have e3:(upd H2 tp (.tup [.ref ha,.ref ab,.int 1])) tp=A? (.tup [.ref ha,.ref ab,.int 1]):=ad;generalize(upd H2 tp (.tup [.ref ha,.ref ab,.int 1]))=H3 at s3 e3 AD |-;refine gU AD λH4 s4 e4=>?_;have e4:H4 ah=A? (.lst ([tp].map Ye)):=e4
 have zG:tl≠ah:=λz=>by
  have:=s3 _ _ (s2 _ _ e1);rw[z,AD]at this;cases this
 have D1:=s3.trans s4;have Ee:=s2.trans D1;have BK:=s1.trans Ee;refine⟨wR b ha ta tl ah ins outs rows o H,⟨_,[],[tp],[],[⟨p,.knot (SE "") [t],1,o⟩],Am,Am,Am,D?,BK,Ee _ _ e1,e4,.nil,.cons ⟨ha,ab,s4 _ _ e3,hp.mono (Ze BK),?_,zI⟩ .nil,JInv.start xU,D?⟩,?_⟩
 .show At H4 (.knot (SE "") [t]) ab;rw[At];exact⟨fK,[ta],D1 _ _ e2,.cons (ht.mono (Ze BK)) .nil⟩
 clear Ee D1 BK s4 e4 s3 e3 s2 e2 s1 e1;rintro m Y H2 ⟨yY,as,done,js,c5,c6,c7,rfl,sm,et,ea,hT,hJ,J,rfl⟩;refine⟨_,D?,_,.inl ⟨_,Zg ea,D?⟩,?_⟩;refine cK (λc=>?_) (λc=>?_)
 .have AE:as≠[]:=by intro z;subst z;simp at c
  refine hid λZZ kZ=>?_;obtain⟨yu,x,rfl⟩:∃yu x,as=yu++[x]:=⟨as.dropLast,as.getLast AE,(Vl AE).symm⟩;obtain⟨Be,j,rfl,Ge,hj⟩:=P2.snoc_inv hJ;obtain⟨jp,jk,jr,jo⟩:=j;obtain⟨pa,ka,ex,Dl,zh,HS⟩:=hj;refine kZ ?_;dsimp only at ex Dl zh HS;cases HS with
  | @mk _ _ n ts k' os AH yE =>
  have hl:=yE.length
  have Qz:am (jos (Be++[⟨jp,jk,jr,.knot n os⟩]))=am (jos Be)+(am os+1):=by
   unfold jos;rw[SI,aG];show _+am [Yk n os]=_;rw[am,am,Zi]
  refine⟨λxS H'=>∃m',m'<am (jos (Be++[⟨jp,jk,jr,.knot n os⟩]))/\wR b ha ta tl ah ins outs rows o H m' xS H',λxS H' h=>h,?_⟩;refine⟨_,D?,.inl ⟨D?,_,Zg ea⟩,ah,_,.ref x,D?,D?,ea,by simp,?_⟩;have d1:((yu++[x]).map Ye).dropLast=yu.map Ye:=by simp
  rw[d1];have k3:KT H2 (upd H2 ah (.lst (yu.map Ye))):=aU ea;have s3:Zf H (upd H2 ah (.lst (yu.map Ye))):=aJ sm CL;have e3:(upd H2 ah (.lst (yu.map Ye))) ah=A? (.lst (yu.map Ye)):=ad;have t3:(upd H2 ah (.lst (yu.map Ye))) tl=A? (.lst (yY.map Ye)):=by rw[aj zG];exact et
  generalize(upd H2 ah (.lst (yu.map Ye)))=H3 at k3 s3 e3 t3 |-;refine⟨x,_,D?,Yg (k3 _ _ ex),D?,_,_,D?,_,_,D?,_,_,D?,D?,?_⟩;refine⟨_,D?,_,D?,_,D?,b,pa,ka,ins,outs,head,rows,jp,jk,.knot n ts,k',D?,hb.mono (Ze s3),gi,Dl.mono k3,zh.mono k3,AH,λr Bf Cc H4 s4 er B8 Ec=>?_⟩;refine⟨r,_,D?,Yg er,D?,_,_,D?,_,_,D?,D?,?_⟩;have t4:=s4 _ _ t3
  have B1:done.length=yY.length:=by
   have:=SJ hT;rw[Sl]at this;exact this
  dsimp only[oh];refine cX (λbb H'=>An3 (H4=H') ((bb=B?->done.length=2000\/150<jr)) ((bb=C?->done.length≠2000/\jr<=150))) (λk2 yM=>?_) (λH' hb2=>?_) (λH' hb2=>?_)
  .refine⟨_,D?,tl,_,D?,.inl (Zg t4),D?,_,D?,?_⟩;refine cK (λc1=>yM _ _ ⟨rfl,λ_=>.inl ?_,λz=>by cases z⟩) (λc1=>?_)
   .have c2:=V.int.inj (Zc c1);rw[Sl]at c2;lia
   .refine⟨_,D?,_,_,D?,D?,_,D?,yM _ _ ⟨D?,λz=>.inr ?_,λz=>⟨λz2=>c1 (Yc ?_),?_⟩⟩⟩
    .have:=Zc z;lia
    .rw[Sl,<-B1,z2];rfl
    .have:=of_decide_eq_false z;lia
  .obtain⟨rfl,hb2,_⟩:=hb2;exact Yd Fv (J.great (hb2 rfl))
  refine hid λZZ kZ=>?_;obtain⟨rfl,_,hb2⟩:=hb2;obtain⟨FR,Ga⟩:=hb2 rfl;have CN:=J.dn;have F':=J.fit ⟨jp,jk,jr,.knot n os⟩ (by simp);have QA:=lH go F';have zb:=J.len;rw[SD]at zb;have LG:Be.length=yu.length:=SJ Ge;have Iw:=B8;rw[At]at Iw;obtain⟨LC,yn,ET,Bg⟩:=Iw;refine kZ ?_;have Ab:yn.length=ts.length:=Bg.length;have EJ:done.length<2000:=by lia
  have a4:=s4 _ _ e3;have BK:=s3.trans s4;have Ma:=k3.trans (Ze s4)
  refine⟨_,D?,.inl ⟨D?,_,Zg t4⟩,_,D?,1,D?,Bf,_,D?,ET,λp2 H5 s5 e5=>?_⟩;rw[qa]at e5;refine⟨_,D?,Bf,_,D?,.inr (Yg (s5 _ _ ET)),_,_,D?,D?,lnE rfl,λAj Fe=>?_⟩
  have Iy:((Yp n::yn.map Ye).length:Int) - 1=((os.length:Nat):Int):=by
   rw[SQ,Sl];lia
  dsimp only[fU,pD];rw[Iy];refine gU Fe λH6 s6 e6=>?_;have Iz:=s5.trans s6;refine⟨tl,_,_,D?,D?,Iz _ _ t4,lbE (by lia),?_⟩;have k7:KT H6 (upd H6 tl (.lst (yY.map Ye++[.ref Aj]))):=aU (Iz _ _ t4);have s7:Zf H (upd H6 tl (.lst (yY.map Ye++[.ref Aj]))):=aJ (BK.trans Iz) yv;have t7:(upd H6 tl (.lst (yY.map Ye++[.ref Aj]))) tl=A? (.lst ((yY++[Aj]).map Ye)):=uAE;have a7:(upd H6 tl (.lst (yY.map Ye++[.ref Aj]))) ah=A? (.lst (yu.map Ye)):=by rw[aj zG.symm];exact Iz _ _ a4
  generalize(upd H6 tl (.lst (yY.map Ye++[.ref Aj])))=H7 at k7 s7 t7 a7 |-;have Gh:=(Ze Iz).trans k7;have HX:=Ma.trans Gh
  have LI:Tc (TopAt H7) ((done++[Yk n os]).map (cC Ym)) (yY++[Aj]):=by
   rw[SI];exact Zj (i0 HX hT) (.cons ⟨p2,k7 _ _ e6,LC,((Ze s6).trans k7) _ _ e5⟩ .nil)
  refine⟨_,D?,.inl ⟨D?,_,Zg a7⟩,_,D?,1,D?,Bf,_,D?,Yg (Gh _ _ ET),?_,λp3 Fd=>?_⟩
  .rintro⟨z,_⟩;rw[SQ,show(1:Int)=((1:Nat):Int)by rfl,Zl]at z;lia
  dsimp only;rw[eL];refine gU Fd λH8 s8 e8=>?_;have LK:=Gh.trans (Ze s8);have zi:ts.length=os.length:=hl.symm;have Hu:((yn.map Ye).reverse).length=os.length:=by rw[Te,Sl];lia
  refine⟨p3,_,D?,Yg e8,gd (F:=λH j a=>JAt H ins rows j a) (xs:=(yn.map Ye).reverse) (cu k' (jr+1) ts os).reverse (λH1 H2 z p kt h=>h.mono kt) (by rw[Te,cN zi,Hu]) (by lia) (λi Hx sx hi=>⟨by rw[Te]at hi;exact hi,_,Yg (sx _ _ e8),D?⟩) (λHx sx=>by rw[Te];rfl) (λi Hx x Hy sx hi hy=>⟨hy.1,?_⟩) (λi x z Hx R W' hx zT sx hR=>?_) (λD Hx Di hD sx eD Ac=>?_)⟩
  .rw[Te]at hi;rw[UC hi];exact hy.2 _ (Yg (sx _ _ e8))
  .have Mb:i<(cu k' (jr+1) ts os).length:=by
    rw[cN zi];have:=(glE hx);lia
   rw[UC Mb,cN zi]at zT;have JB:i<os.length:=by rw[cN zi]at Mb;exact Mb
   have Ff:i<(yn.map Ye).length:=by rw[Sl];lia
   rw[UC Ff,Sl]at hx;refine hid λZZ kZ=>?_;obtain⟨xa,rfl,De⟩:=aT hx;have F3:yn.length - 1 - i=os.length - 1 - i:=by lia
   rw[F3]at De;obtain⟨u,hu,LM⟩:=Bg.get De;obtain⟨ou,Gf⟩:∃ou,os[os.length - 1 - i]?=A? ou:=⟨_,Sn (by lia)⟩;refine kZ ?_;unfold cu at zT;have Mc:(ts.zip os)[os.length - 1 - i]?=A? (u,ou):=UB.mpr ⟨hu,Gf⟩;rw[Sx,Mc]at zT;cases zT;refine⟨_,D?,_,D?,_,D?,_,_,D?,D?,lnE rfl,λp4 HZ=>?_⟩;have s9:=ag HZ (.tup [.ref xa,.ref Cc,.int ((jr:Nat)+1)]);have CS:=LK.trans (Ze (sx.trans s9));refine hR _ p4 s9 ⟨xa,Cc,?_,LM.mono CS,Ec.mono CS,yE.get _ hu Gf⟩;rw[ad];congr 4
  .have JG:=SJ Ac;rw[Te,cN zi]at JG;refine⟨ah,D,_,_,D?,D?,sx _ _ (s8 _ _ a7),eD,U1 (cI (by rw[Sl,Sl];lia)),?_⟩;have a9:=sx _ _ (s8 _ _ a7);have k9:KT Hx (upd Hx ah (.lst (yu.map Ye++Di.map Ye))):=aU a9;have Ia:=(Ze (s8.trans sx)).trans k9;refine⟨am (jos (Be++(cu k' (jr+1) ts os).reverse)),?_,yY++[Aj],yu++Di,done++[.knot n os],Be++(cu k' (jr+1) ts os).reverse,_,_,_,D?,aJ (s7.trans (s8.trans sx)) CL,by rw[aj zG];exact sx _ _ (s8 _ _ t7),by rw[ad,SI],i0 Ia LI,Zj (Zk (λ_ _ e=>e.mono (HX.trans Ia)) Ge) (Zk (λ_ _ e=>e.mono k9) Ac),J.turn go Ga EJ zi,D?⟩;rw[Qz];have e1:=iY k' (jr+1) ts os zi;unfold jos at e1 |-;rw[SI,V6,e1,aG,fg];lia
 .have hz:as=[]:=by
   cases as with
   |nil=>rfl
   |cons y ys=>simp at c
  subst hz;have Dm:js=[]:=Uj.mp (SJ hJ);subst Dm;obtain⟨Cd,CN⟩:=J.done;subst CN;obtain⟨b1,b2⟩:=jK Ym o;rw[mj]at b1;have hsz:=Zm o;refine⟨_,D?,tl,yY,_,o,D?,et,hT,by rw[Sl];lia,b2,?_,b1,λr H3 s3 Df=>q r H3 (sm.trans s3) Df⟩;intro u hu;obtain⟨x,hx,e⟩:=Tj.mp hu;cases x with
  |knot nm us=>cases e
  | call sn kn =>
    cases e;rw[Zi];decide
inductive lK(vs:List V)(H:Hp)(Q:VK)(_E:XK):Prop
 |mk (b ta:So) (ins outs:List (SG×Int)) (head:Th) (rows:List (List Th)) (t o:Th):vs=[.ref b,.ref ta]->Bk H ins outs head rows b->aB ins->aB outs->At H t ta->Out ins rows head (.knot (SE "") [t]) o->o.Fit outs->(o.size<=2000/\o.tall<=150)->(∀(r:So)(H':Hp),Zf H H'->At H' o r->Q (.ref r) H')->lK  vs H Q _E
theorem qo:FnOk P w K mg base CX0 7 T.g_23.f T.g_23.d ["book","tree"] lK:=by
 refine T.g_23.F.okA qG λxX A outer s H vs Q E hr h=>?_;obtain⟨b,ta,ins,outs,head,rows,t,o,rfl,hb,gi,go,ht,zI,xU,Cd,q⟩:=h;refine⟨_,(ai (av (pcF T.g_22 (vQ T) hr (aa (pv 0) (aa (pcF T.g_13 (dg T) hr (aa (pv 0) ac)) (aa (pv 1) ac)))))),?_⟩
 try dsimp only[ym,xW]
 refine hid λZZ kZ=>?_;obtain⟨ia,oa,CQ,ra,yc,yl,ya,bk⟩:=id hb;refine kZ ?_;exact⟨_,D?,_,D?,b,_,_,_,_,D?,bk.bk,_,D?,b,CQ,ta,ins,outs,head,rows,head,t,o,D?,hb,gi,go,bk.hd,ht,zI,xU,Cd,q⟩
inductive iE(K:Ss)(vs:List V)(H:Hp)(Q:VK)(_E:XK):Prop
 |mk (a:So) (ns:List Int) (k:Int):vs=[.ref a,.int k]->SqL K H a (ns.map Yh)->0<=k->(∀c:Int,Q (.int c) H)->iE K vs H Q _E
theorem iF:FnOk P w K mg base CX0 1 T.g_28.f T.g_28.d ["script","k"] (iE K):=by
 refine T.g_28.F.okA mS λxX A outer s H vs Q E hr h=>?_;obtain⟨a,ns,k,rfl,hS,h0,q⟩:=h
 refine⟨_,(ae (bU (aF ql (pv 1) (aw ar rfl T.n_1 S8 (aa (pv 0) ac)) (aI _)) (ai (av (au cw (pv 0) (pv 1) (λ_ _=>rfl)))) bp)
  (ai (av af))),?_⟩
 try dsimp only[ym,xW]
 refine⟨_,D?,_,D?,a,_,D?,.inl hS,_,_,D?,D?,_,D?,?_⟩;refine cK (λc=>?_) (λc=>q 0);have c':k<(((ns.map Yh).length:Nat):Int):=Zc c;rw[Sl]at c';exact⟨_,D?,_,D?,a,_,k,_,D?,D?,hS,int_at h0 c',q _⟩
inductive iG(vs:List V)(H:Hp)(Q:VK)(_E:XK):Prop
 |mk (c k:Int):vs=[.int c,.int k]->0<=k->k<=100000->(∀r:Int,0<=r->r<2147483629->Q (.int r) H)->iG  vs H Q _E
theorem bP:FnOk P w K mg base CX0 1 T.g_29.f T.g_29.d ["cell","k"] iG:=by
 refine T.g_29.F.okA fk λxX A outer s H vs Q E hr h=>?_;obtain⟨c,k,rfl,h0,h1,q⟩:=h
 refine⟨_,(ae (ak 2 fk.nd (ap bB (ap bA (ap bA (ap bA (pv 0) (ap eI (ap eI af (pv 1)) (pv 1))) (ap eI af (pv 1))) af) af))
  (ae (ak 2 fk.nd (ap bB (ap eI (pv 2) (pv 2)) af))
  (ai (av (ap bB (ap eI (ap bA (pv 2) (ap eI af (ap bA (pv 1) af))) af) af))))),?_⟩
 try dsimp only[ym,xW]
 refine⟨_,D?,_,D?,_,_,D?,D?,.inl ⟨by decide,by decide⟩,_,D?,_,_,D?,D?,.inr ⟨by lia,by lia⟩,_,_,D?,D?,_,D?,_,_,D?,D?,.inl ⟨by decide,by decide⟩,_,_,D?,D?,_,_,D?,D?,_,_,D?,D?,(by show(0:Int)<2147483647;decide),?_⟩;have n0:=Tv (c+977 * k * k+31 * k+1) (show(2147483647:Int)≠0 by decide);have n1:=Tu (c+977 * k * k+31 * k+1) (show(0:Int)<2147483647 by decide);dsimp only;generalize(c+977 * k * k+31 * k+1)%2147483647=near at n0 n1;refine⟨_,D?,_,D?,_,_,D?,D?,.inl ⟨by lia,by lia⟩,_,_,D?,D?,(by show(0:Int)<2147483647;decide),?_⟩;dsimp only;generalize near * near%2147483647=RS;refine⟨_,D?,_,D?,_,_,D?,D?,_,_,D?,D?,.inl ⟨by decide,by decide⟩,_,_,D?,D?,_,_,D?,D?,.inr ⟨by decide,by decide⟩,_,_,D?,D?,(by show(0:Int)<2147483629;decide),q _ (Tv _ (by decide)) (Tu _ (by decide))⟩
inductive iH(vs:List V)(H:Hp)(Q:VK)(_E:XK):Prop
 |mk (kr:So) (yn:List So) (ks:List (SG×Int)) (cell:Int):vs=[.ref kr,.int cell]->H kr=A? (.tup (yn.map Ye))->KsAt H ks yn->aB ks->(∀(k0:SG×Int)(ka:So)(H':Hp),Zf H H'->k0∈ks->k0.2=0->KAt H' k0 ka->Q (.ref ka) H')->iH  vs H Q _E
theorem gZ:∀{ks:List (SG×Int)}{as:List So},KsAt H ks as->∀z∈ks.zip as,z.1∈ks/\KAt H z.1 z.2
 |_,_,.nil,z,hz=>by simp at hz
 | _,_,.cons (a:=k) (b:=a) r t,z,hz=>by
   rw[List.zip_cons_cons]at hz;rcases SR.mp hz with rfl|hz
   .exact⟨SU ..,r⟩
   .obtain⟨h1,h2⟩:=gZ t z hz;exact⟨SN _ h1,h2⟩
theorem j0{kr:So}{yn:List So}{ks:List (SG×Int)}(p:SG×Int->Bool)(e:H kr=A? (.tup (yn.map Ye)))(zp:KsAt H ks yn)(hl:ks.length<=1000)(hp:∃k∈ks,p k=B?)
 (EC:∀(z:SG×Int)(ka:So)(H2:Hp)(R:Bool->Hp->Prop),Zf H H2->KAt H2 z ka->R (p z) H2->tt ((cσ js Y).set 0 (A? (.ref ka))) H2 R)
 (ED:∀(ka:So)(H2:Hp)(R:VK),R (.ref ka) H2->te ((cσ js Y).set 0 (A? (.ref ka))) H2 R)
 (q:∀(D:So)(bs:List ((SG×Int)×So))(H':Hp),H D=Am->H'=upd H D (.lst (bs.map λz=>Ye z.2))->1<=bs.length->bs.length<=ks.length->(∀z∈bs,z.1∈ks/\p z.1=B?/\KAt H z.1 z.2)->fin D H') :
 ∀D,H D=Am->∃(n:Nat)(W:Nat->Hp->Prop),W 0 (upd H D (.lst []))/\fC js (aE 0) tt te Y (Itt K kr) D n W λH'=>fin D H':=by
 have Ab:ks.length=yn.length:=SJ zp;have Ce:(ks.zip yn).length=ks.length:=by rw[VL];lia
 have IA:∀(i:Nat)(x:V)(z:(SG×Int)×So),(yn.map Ye)[i]?=A? x->(ks.zip yn)[i]?=A? z->x=.ref z.2:=λi x z hx hz=>by
  obtain⟨ka,rfl,zh⟩:=aT hx;obtain⟨h1,h2⟩:=UB.mp hz;rw[zh]at h2;cases h2;rfl
 refine jj (ks.zip yn) (λz=>p z.1) (λz=>.ref z.2) (Yg e) (by rw[Ce,Sl];exact Ab) (by rw[Sl];lia) (λi x z H2 R hx hz sm r=>?_) (λi x z H2 R hx hz _ sm r=>?_) (λD hD=>?_)
 .rw[IA i x z hx hz];have:=(gZ zp z (Sv hz)).2;exact EC z.1 z.2 H2 R sm (sm _ _ this) r
 .rw[IA i x z hx hz];exact ED z.2 H2 R r
 .refine q D _ _ hD rfl ?_ ?_ ?_
  .obtain⟨k,hk,IB⟩:=hp;obtain⟨i,hi,rfl⟩:=List.getElem_of_mem hk;have hz:(ks.zip yn)[i]'(by lia)∈(ks.zip yn).filter λz=>p z.1:=Wh.mpr ⟨Uk _,by rw[List.getElem_zip];exact IB⟩;exact List.length_pos_of_mem hz
  .exact Td (W9 _ _) (by lia)
  .intro z hz;obtain⟨h1,h2⟩:=Wh.mp hz;obtain⟨h3,h4⟩:=gZ zp z h1;exact⟨h3,h2,h4⟩
theorem fz:FnOk P w K mg base CX0 1 T.g_31.f T.g_31.d ["kinds","cell"] iH:=by
 refine T.g_31.F.okA iw λxX A outer s H vs Q E hr h=>?_;obtain⟨kr,yn,ks,cell,rfl,ek,zp,g,k⟩:=h
 refine⟨_,(ae (gf (i:=2) (N:=["kind"]) (js:=[Am]) (g:=(aE 0)) (tt:=(nM (tOp (rEq) (tOp (iQ K) (bC 0) (tC (.int 1))) (tC (.int 0))))) (te:=(bC 0)) iw.nd rfl (WT rfl) rfl (cF rfl (by decide +kernel) (by decide +kernel) rfl rfl rfl) (d3 (pv 0)) (λ_ _ _ _ _ _=>(pgN 0 sk)) (bf rfl) (λ_ _ _ _ _ _=>jJ (aF fG (au aq (pv 0) af (λ_ _=>rfl)) af (aI _))) (λ_ _ _ _ _ _=>(pv 0)))
  (ai (av (au cw (pv 2) (ap bB (pv 1) (aw ar rfl T.n_1 S8 (aa (pv 2) ac))) (λ_ _=>rfl))))),?_⟩
 try dsimp only[ym,xW]
 have Oa:=g.le;obtain⟨kz,Md,Fw⟩:=g.zero;refine⟨_,D?,kr,D?,⟨_,Yg ek⟩,j0 (K:=K) (λk=>decide (Yh k.2=Yh 0)) ek zp (by lia) ⟨kz,Md,by rw[Fw];rfl⟩ (λz ka H2 R sm hz r=>?_) (λka H2 R r=>⟨_,D?,r⟩) (λD bs H' hD e' hb1 Ob yA=>?_)⟩
 .exact⟨_,D?,ka,_,1,_,D?,D?,Yg hz,at1,D?,_,D?,r⟩
 subst e';have BL:0<((bs.map λz=>Ye z.2).length:Int):=by rw[Sl];lia
 have AB:=Tv cell (VW BL);have zD:=Tu cell BL;refine hid λZZ kZ=>?_;obtain⟨z,hz⟩:∃z,bs[(cell%((bs.map λz=>Ye z.2).length:Int)).toNat]?=A? z:=⟨_,Sn (by rw[Sl]at AB zD |-;lia)⟩;obtain⟨g1,g2,g3⟩:=yA z (Sv hz);refine kZ ?_;refine⟨_,D?,_,D?,_,D?,D,_,D?,.inl (Zg ad),_,_,D?,D?,BL,D,_,_,.ref z.2,D?,D?,Zg ad,at_nonneg AB (gmE hz),?_⟩;exact k z.1 z.2 _ (ag hD _) g1 (V.int.inj (Zc g2)) (ag hD _ _ _ g3)
inductive gy(vs:List V)(H:Hp)(Q:VK)(_E:XK):Prop
 |mk (cell:Int) (lt:SG):vs=[.int cell,.str lt]->rZ lt->(∀(r:So)(as:List So)(ks:List (SG×Int))(H':Hp),Zf H H'->H' r=A? (.tup (as.map Ye))->KsAt H' ks as->aB ks->Q (.ref r) H')->gy  vs H Q _E
theorem vA{a':Nat}(hs:stem.length<=7)(ha:a'<=stem.length){p:Nat}(hp:p<8):(jT begun c0 stem (a':Int) L p).length<=8:=by
 unfold jT;cases begun with
 | true =>
   simp only[if_true];rw[iC];lia
 | false =>
   simp only[T1,if_false];have h1:=(iR (z:=stem) ha).2
   have h2:(cM stem (A? (a':Int)) Am).length=stem.length - a':=by
    show(cM stem (A? (a':Int)) Am).cps.size=_;rw[<-SX];show((jC stem.cps.toList (A? (a':Int)) Am).toArray.toList).length=_;rw[List.toList_toArray];unfold jC;have hz:stem.cps.toList.length=stem.length:=SX;rw[Zl,Zp,hz,VI ha,S9,Tz,hz];lia
   rw[strLen_append,strLen_append,h1,h2];show a'+1+(stem.length - a')<=8;lia
theorem tu{x:Int}(h0:0<=x)(h1:x<4):1<=1+x/\1+x<=8:=by lia
theorem pN{x:Int}(h0:0<=x)(h1:x<4):1<=5+x/\5+x<=8:=by lia
theorem vm{i:Nat}{t:Int}(hi:i<4)(hj:j<4)(h:(3 * (i:Int)+t)%4=(3 * (j:Int)+t)%4):i=j:=by lia
theorem vq{i:Nat}{t:Int}(hi:i<8)(hj:j<8)(h:(3 * (i:Int)+t)%8=(3 * (j:Int)+t)%8):i=j:=by lia
theorem qf{x:Int}{m:Nat}(h0:0<=x)(h1:x<(m:Int)):x.toNat<m:=by lia
def KInv(nm:Nat->SG)(turn leaf:Int)(m:Nat)(ks:List (SG×Int)):Prop :=
 ∀(j:Nat)(k:SG×Int),ks[j]?=A? k->k.1=nm ((3 * (j:Int)+turn)%(m:Int)).toNat/\0<=k.2/\k.2<=3/\((j:Int)=leaf->k.2=0)
theorem KInv.good{nm:Nat->SG}{turn leaf:Int}{m:Nat}{ks:List (SG×Int)}(h:KInv nm turn leaf m ks)(h1:1<=ks.length)(hm:(m=4/\ks.length<=4)\/(m=8/\ks.length<=8))(ht:0<=turn)(Bi:0<=leaf/\leaf<(ks.length:Int))
 (Ay:∀p,p<m->Low (nm p)/\(nm p).length<=8) (Me:∀p r,p<m->r<m->nm p=nm r->p=r):aB ks:=by
 have zS:(0:Int)<(m:Int):=by rcases hm with⟨rfl,_⟩|⟨rfl,_⟩ <;> decide
 have hb:∀j:Nat,((3 * (j:Int)+turn)%(m:Int)).toNat<m:=λj=>by
  exact qf (Tv _ (VW zS)) (Tu _ zS)
 refine⟨h1,(by rcases hm with⟨_,h⟩|⟨_,h⟩;exact Td h (by decide);exact h),λk hk=>?_,λk hk=>?_,?_,λi j k l hk hl e=>?_⟩
 .obtain⟨i,hi⟩:=Tg.mp hk;rw[(h i k hi).1];exact Ay _ (hb i)
 .obtain⟨i,hi⟩:=Tg.mp hk;exact⟨(h i k hi).2.1,(h i k hi).2.2.1⟩
 .have hl:leaf.toNat<ks.length:=qf Bi.1 Bi.2;exact⟨ks[leaf.toNat],Uk hl,(h leaf.toNat _ (Sn hl)).2.2.2 (Uy Bi.1)⟩
 .have zY:i<ks.length:=(glE hk);have zN:j<ks.length:=(glE hl);rw[(h i k hk).1,(h j l hl).1]at e;have e2:=Me _ _ (hb i) (hb j) e;have e3:(3 * (i:Int)+turn)%(m:Int)=(3 * (j:Int)+turn)%(m:Int):=by rw[<-Uy (Tv (3 * (i:Int)+turn) (VW zS)),e2,Uy (Tv (3 * (j:Int)+turn) (VW zS))]
  rcases hm with⟨rfl,hm⟩|⟨rfl,hm⟩
  .exact vm (SY zY hm) (SY zN hm) e3
  .exact vq (SY zY hm) (SY zN hm) e3
theorem lr:FnOk P w K mg base CX0 2 T.g_30.f T.g_30.d ["cell","letters"] gy:=by
 refine T.g_30.F.okA az λxX A outer s H vs Q E hr h=>?_;obtain⟨cell,lt,rfl,pk,q⟩:=h
 refine⟨_,(ae (ak 2 az.nd (pcF T.g_29 (bP T) hr (aa (pv 0) (aa af ac))))
  (ae (ak 3 az.nd (ap bA af (ap bB (pv 2) af)))
  (ae (bU (aF fG (ap bB (ap b9 (pv 2) af) af) af (aI _)) (ai (ak 3 az.nd (ap bA af (ap bB (ap b9 (pv 2) af) af)))) bp)
  (ae (ak 4 az.nd (bd mw (ap gH (pv 1) dX) bw (bq (ap bA af (ap eI af (aR iT rfl T.n_0 W7 (aa (d5 cW (pv 3) af (aI _)) ac)))))))
  (ae (ak 5 az.nd (bd mw dX bw (bq (ap bB (ap b9 (pv 2) af) af))))
  (ae (ak 6 az.nd (ap bB (ap b9 (pv 2) af) (ap bA (aw gP rfl T.n_1 S8 (aa (pv 5) ac)) af)))
  (ae (ak 7 az.nd (ap bB (ap b9 (pv 2) af) (pv 3)))
  (ae (ak 8 az.nd (ap bB (ap b9 (pv 2) af) af))
  (ae (ak 9 az.nd (d5 fG (ap bB (ap b9 (pv 2) af) af) af (aI _)))
  (ae (ak 10 az.nd (aZ ac))
  (ae (cE Tw rfl (cA rfl T.n_4 (aa (pv 3) ac)) (pgN 11 az.nd) (ae (ak 2 az.nd (pcF T.g_29 (bP T) hr (aa (pv 2) (aa (ap bA (pv 11) af) ac))))
  (ae (ak 12 az.nd (ap eI (au cw (aZ (aa af (aa af (aa af (aa af (aa af ac)))))) (ap bB (pv 2) af) (λ_ _=>rfl)) (aR iT rfl T.n_0 W7 (aa (d5 wB (pv 11) (pv 7) (aI _)) ac))))
  (ae (ak 13 az.nd (ap bB (ap bA (ap eI af (pv 11)) (pv 8)) (aw gP rfl T.n_1 S8 (aa (pv 4) ac))))
  (ae (ak 14 az.nd (ap gH (ap gH (bd mw (pv 5) bw (bq (pv 6))) (au rs (pv 4) (pv 13) (λ_ _=>rfl))) (bd mw (pv 5) (bq (pv 6)) bw)))
  (ae (bU (bV (pv 9) (λ_=>rfl)) (ai (ak 14 az.nd (ap uj (au rs (pv 1) af (λ_ _=>rfl)) (ap bA af (pv 13))))) bp)
  (ai (aY (bN SK S5 S4 aM (pv 10) (aa (aO (aa (pv 14) (aa (pv 12) ac))) ac))))))))))
  (ai (av (aR aL rfl T.n_7 Tt (aa (pv 10) ac))))))))))))))),?_⟩
 try dsimp only[ym,xW]
 refine⟨_,D?,_,_,D?,by decide,by decide,λrest r0 r1=>?_⟩;have z0:=Tv rest (show(4:Int)≠0 by decide);have z1:=Tu rest (show(0:Int)<4 by decide);refine⟨_,D?,_,_,D?,D?,(by show(0:Int)<4;decide),_,_,D?,D?,?_⟩;dsimp only[aE];refine bX (λxS H'=>An2 (H=H') (Ex1 λ(size:Int)=>An3 (1<=size) (size<=8) (xS=[A? (.int cell),A? (.str lt),A? (.int rest),A? (.int size),Am,Am,Am,Am,Am,Am,Am,Am,Am,Am,Am]))) (λkk hk=>?_) ?_
 .refine⟨_,D?,_,_,D?,D?,⟨by decide,by decide⟩,_,_,D?,D?,(by show(0:Int)<4;decide),D?,_,D?,?_⟩;refine cK (λ_=>?_) (λ_=>hk _ _ ⟨rfl,_,(tu z0 z1).1,(tu z0 z1).2,rfl⟩);have y0:=Tv (rest / 55296) (show(4:Int)≠0 by decide);have y1:=Tu (rest / 55296) (show(0:Int)<4 by decide);exact⟨_,D?,_,_,D?,D?,⟨by decide,by decide⟩,_,_,D?,D?,(by show(0:Int)<4;decide),_,_,D?,D?,hk _ _ ⟨D?,_,(pN y0 y1).1,(pN y0 y1).2,D?⟩⟩
 rintro xS H' ⟨rfl,size,QB,QC,rfl⟩
 have Oc:=pk.len;have Od:(lt++dO).length=8:=by rw[strLen_append,Oc];rfl
 have Fx:(0:Int)<size:=QB
 obtain⟨m,hm,QD⟩:∃m:Nat,(4+4 * (if decide ((4:Int)<size)then 1 else 0):Int)=(m:Int)/\((m=4/\size<=4)\/(m=8/\size<=8)):=by
  by_cases c:(4:Int)<size
  .exact⟨8,by rw[Yc c];rfl,.inr ⟨D?,QC⟩⟩
  .exact⟨4,by rw[Zb c];rfl,.inl ⟨D?,Int.not_lt.mp c⟩⟩
 refine⟨_,D?,_,_,D?,D?,bi (by rw[Oc];decide +kernel),_,D?,_,_,D?,D?,.inr ⟨_,D?,?_⟩⟩;refine⟨_,_,D?,D?,.inl ⟨by decide,by decide⟩,_,_,D?,D?,_,D?,_,D?,bi (by show(lt++dO).length<=1000000;rw[Od];decide),?_⟩;have Oe:m<=(lt++dO).length:=by rw[Od];rcases QD with⟨rfl,_⟩|⟨rfl,_⟩ <;> decide
 generalize(4+4 * (if decide ((4:Int)<size)=B? then 1 else 0):Int)=x4 at hm |-;subst hm;obtain⟨cl,cn⟩:(cM (lt++SE "aeio") Am (A? (m:Int))).cps.toList=(lt++dO).cps.toList.take m/\(cM (lt++SE "aeio") Am (A? (m:Int))).length=m:=iR (z:=lt++dO) (n:=m) Oe
 have Ef:∀p:Nat,p<m->(lt++dO).cps.toList[p]?=A? ((lt++dO).cps.toList.getD p 0)/\(cM (lt++SE "aeio") Am (A? (m:Int))).cps.toList[p]?=A? ((lt++dO).cps.toList.getD p 0):=λp hp=>by
  have yN:p<(lt++dO).cps.toList.length:=by rw[SX];exact SY hp Oe
  have h1:(lt++dO).cps.toList[p]?=A? ((lt++dO).cps.toList.getD p 0):=by rw[Ul,Sn yN];rfl
  refine⟨h1,?_⟩;rw[cl,VE hp];exact h1
 generalize cM (lt++SE "aeio") Am (A? (m:Int))=more at cn Ef cl |-
 have y0:=Tv (rest / 4) (show(8:Int)≠0 by decide);have y1:=Tu (rest / 4) (show(0:Int)<8 by decide);refine⟨_,D?,_,_,D?,D?,⟨by decide,by decide⟩,_,_,D?,D?,(by show(0:Int)<8;decide),_,D?,_,D?,bi (by decide +kernel),?_⟩;generalize rest / 4%8=x8 at y0 y1 |-;obtain⟨sn,rfl⟩:∃n:Nat,x8=(n:Int):=⟨_,(Uy y0).symm⟩
 have EE:(cM (SE "gumleafs") Am (A? (sn:Int))).length<=7:=by
  show(cM gum Am (A? (sn:Int))).length<=7;rw[(iR (z:=gum) (n:=sn) (by show sn<=8;lia)).2];lia
 have Jn:Low (cM (SE "gumleafs") Am (A? (sn:Int))):=my uD _ _;generalize cM (SE "gumleafs") Am (A? (sn:Int))=stem at EE Jn |-
 have Fy:(0:Int)<(stem.length:Int)+1:=Int.lt_add_one_of_le (Int.natCast_nonneg _);have x0:=Tv (rest / 32) (VW Fy);have x1:=Tu (rest / 32) Fy;refine⟨_,D?,_,_,D?,D?,⟨by decide,by decide⟩,_,D?,_,D?,bi (Td EE (by decide)),_,_,D?,D?,_,_,D?,D?,Fy,?_⟩;generalize rest / 32%((stem.length:Int)+1)=xa at x0 x1 |-;obtain⟨a',rfl⟩:∃n:Nat,xa=(n:Int):=⟨_,(Uy x0).symm⟩;have Mf:a'<=stem.length:=by lia
 have l0:=Tv (rest / 288) (VW Fx);have l1:=Tu (rest / 288) Fx;refine⟨_,D?,_,_,D?,D?,⟨by decide,by decide⟩,_,D?,_,_,D?,D?,Fx,?_⟩;generalize rest / 288%size=leaf at l0 l1 |-;have t0:=Tv (rest / 1152) (show(4:Int)≠0 by decide);refine⟨_,D?,_,_,D?,D?,⟨by decide,by decide⟩,_,_,D?,D?,(by show(0:Int)<4;decide),?_⟩;generalize rest / 1152%4=turn at t0 |-;refine⟨_,D?,_,_,D?,D?,⟨by decide,by decide⟩,_,_,D?,D?,(by show(0:Int)<3;decide),D?,?_⟩;generalize decide (Yh (rest / 4608%3)=Yh 1)=bg;refine⟨lnE rfl,λkl Ab=>?_⟩;obtain⟨c0,Of⟩:∃c0,lt.cps.toList[0]?=A? c0:=⟨_,Sn (by rw[SX];show 0<lt.length;lia)⟩
 have Mg:97<=c0/\c0<=122:=pk.low c0 (by
  show c0∈(lt.cps++dO.cps).toList;rw[U8];exact Tp _ (Sv Of))
 refine⟨_,D?,size,D?,by lia,by lia,?_⟩
 refine cO (n:=size.toNat) (λi Y H2=>Ex7 λ(Ct:Int)(kv mv pv nv:Option V)(as:List So)(ks:List (SG×Int))=>An6 (Y=[A? (.int cell),A? (.str lt),A? (.int Ct),A? (.int size),A? (.str more),A? (.str stem),A? (.int (a':Int)),A? (.int leaf),A? (.int turn),A? (.bl bg),A? (.ref kl),kv,mv,pv,nv]) (Zf H H2) (H2 kl=A? (.lst (as.map Ye))) (KsAt H2 ks as) (ks.length=i) (KInv (jT bg c0 stem (a':Int) (lt++dO).cps.toList) turn leaf m ks))
  ⟨rest,Am,Am,Am,Am,[],[],rfl,ag Ab _,ad,.nil,rfl,λj k hj=>by simp at hj⟩ ?_ ?_
 .rintro i Y H2 hi ⟨Ct,kv,mv,pv,nv,as,ks,rfl,sm,e,hp,IC,hinv⟩;have Gb:i<size.toNat:=hi;have hl:ks.length=as.length:=SJ hp;refine⟨_,D?,_,D?,_,_,D?,D?,_,_,D?,by lia,by lia,λyQ _ _=>?_⟩;have v0:=Tv yQ (show(5:Int)≠0 by decide);have v1:=Tu yQ (show(0:Int)<5 by decide);refine hid λZZ kZ=>?_
  obtain⟨v,hv,QE,QF⟩:∃v:Int,atI [Yh 0,Yh 2,Yh 1,Yh 3,Yh 2] (yQ%5)=A? (.int v)/\0<=v/\v<=3:=by
   rcases(by lia:yQ%5=0\/yQ%5=1\/yQ%5=2\/yQ%5=3\/yQ%5=4)with z|z|z|z|z <;> rw[z]
   .exact⟨0,D?,by decide,by decide⟩
   .exact⟨2,D?,by decide,by decide⟩
   .exact⟨1,D?,by decide,by decide⟩
   .exact⟨3,D?,by decide,by decide⟩
   .exact⟨2,D?,by decide,by decide⟩
  refine kZ ?_;refine⟨lnE rfl,λll Mh=>?_⟩;refine⟨_,D?,_,_,D?,D?,(by show(0:Int)<5;decide),ll,_,_,.int v,D?,D?,Zg ad,hv,_,D?,_,D?,D?,.inr ⟨_,D?,_,_,D?,D?,.inl ⟨by lia,by lia⟩,?_⟩⟩;refine gU Mh λH3 s3 _=>?_;have e3:=s3 _ _ e;have Fd:=hp.mono (Ze s3);have Og:=sm.trans s3
  have ID:0<=(v * (if(!decide (Yh (0+(i:Int))=Yh leaf))=B? then 1 else 0):Int)/\(v * (if(!decide (Yh (0+(i:Int))=Yh leaf))=B? then 1 else 0):Int)<=3/\((i:Int)=leaf->(v * (if(!decide (Yh (0+(i:Int))=Yh leaf))=B? then 1 else 0):Int)=0):=by
   by_cases c:(i:Int)=leaf
   .have:(!decide (Yh (0+(i:Int))=Yh leaf))=false:=by rw[Int.zero_add,c,Yc rfl];rfl
    rw[this];simp
   .have:(!decide (Yh (0+(i:Int))=Yh leaf))=true:=by
     rw[Int.zero_add,Zb (λz=>c (V.int.inj z))];rfl
    rw[this];simp;exact⟨QE,QF,λz=>Yd z c⟩
  generalize(v * (if(!decide (Yh (0+(i:Int))=Yh leaf))=B? then 1 else 0):Int)=Mi at ID |-;obtain⟨zS,QG,QH⟩:=ID;have p0:=Tv (3 * (0+(i:Int))+turn) (show(more.length:Int)≠0 by lia);have p1:=Tu (3 * (0+(i:Int))+turn) (show(0:Int)<(more.length:Int)by lia);refine⟨_,D?,_,_,D?,D?,.inl ⟨by decide,by decide⟩,_,D?,_,_,D?,D?,_,D?,_,D?,bi (by lia),_,_,D?,D?,(by show(0:Int)<(more.length:Int);lia),?_⟩;generalize QI:(3 * (0+(i:Int))+turn)%(more.length:Int)=xp at p0 p1 |-;obtain⟨pc,rfl⟩:∃n:Nat,xp=(n:Int):=⟨_,(Uy p0).symm⟩
  have Mj:((3 * (i:Int)+turn)%(m:Int)).toNat=pc:=by
   rw[cn,Int.zero_add]at QI;lia
  have QJ:pc<m:=by lia
  obtain⟨RU,QK⟩:=Ef pc QJ;have RV:=(fX stem Am (A? (a':Int)));have Ai:=(fX stem (A? (a':Int)) Am);refine⟨_,D?,_,D?,_,D?,_,D?,bi (by lia),_,D?,_,D?,_,_,_,D?,D?,bi (by lia),bQ QK,_,_,D?,D?,bi (by show(cM stem Am (A? (a':Int))).length+1<=1000000;lia),_,D?,_,D?,_,D?,_,D?,bi (by lia),_,_,D?,D?,bi (by rw[strLen_append];show(cM stem Am (A? (a':Int))).length+1+(cM stem (A? (a':Int)) Am).length<=1000000;lia),?_⟩;dsimp only[aE];refine bX (λxS H'=>An2 (H3=H') (xS=[A? (.int cell),A? (.str lt),A? (.int yQ),A? (.int size),A? (.str more),A? (.str stem),A? (.int (a':Int)),A? (.int leaf),A? (.int turn),A? (.bl bg),A? (.ref kl),A? (.int (0+(i:Int))),A? (.int Mi),A? (.int (pc:Int)),A? (.str (jT bg c0 stem (a':Int) (lt++dO).cps.toList pc))])) (λkk hk=>?_) ?_
  .refine⟨_,D?,bg,D?,?_⟩;cases bg with
   |false=>exact kN (hk _ _ ⟨rfl,rfl⟩)
   | true =>
     refine nt ⟨_,rfl,_,_,c0,rfl,rfl,bi (by lia),bQ (j:=0) Of,_,rfl,_,_,rfl,rfl,c0,_,rfl,rfl,by lia,by lia,hk _ _ ⟨rfl,?_⟩⟩;have:(1+(pc:Int)).toNat=1+pc:=by lia
     rw[this];rfl
  rintro xS H' ⟨rfl,rfl⟩;refine⟨_,D?,.inl ⟨D?,_,Zg e3⟩,_,D?,_,D?,lnE rfl,λp Bu=>?_⟩;have IB:kl≠p:=ao e3 Bu;refine⟨kl,_,_,D?,D?,by rw[aj IB];exact e3,lbE (by lia),?_⟩;refine⟨yQ,_,_,_,_,as++[p],ks++[(jT bg c0 stem (a':Int) (lt++dO).cps.toList pc,Mi)],D?,aJ (aJ Og (Og.free Bu)) Ab,?_,?_,?_,?_⟩
  .rw[ad,SI];rfl
  .have kt:KT H3 (upd (upd H3 p (.tup [.str (jT bg c0 stem (a':Int) (lt++dO).cps.toList pc),.int Mi])) kl (.lst (as.map Ye++[.ref p]))):=(fR Bu).trans (aU (xs:=as.map Ye) (by rw[aj IB];exact e3));refine Zj (Fd.mono kt) (.cons ?_ .nil);show(upd (upd H3 p _) kl _) p=_;rw[aj IB.symm,ad]
  .rw[SD,IC];rfl
  .intro j k hj;by_cases C4:j<ks.length
   .rw[Ts C4]at hj;exact hinv j k hj
   .rw[T5 (by lia)]at hj
    have Dm:j - ks.length=0:=by
     have:=(glE hj);simp at this;lia
    rw[Dm]at hj;cases hj;have Ml:j=i:=by lia
    subst Ml;exact⟨by rw[Mj],zS,QG,QH⟩
 .rintro Y H2 ⟨Ct,kv,mv,pv,nv,as,ks,rfl,sm,e,hp,IC,hinv⟩;refine⟨_,D?,kl,_,D?,.inl ⟨Zg e,λtp yP=>?_⟩⟩;have s3:=ag yP (.tup (as.map Ye));refine q tp as ks _ (sm.trans s3) ad (hp.mono (Ze s3)) ?_;refine hinv.good (by lia) (by lia) t0 ⟨l0,by lia⟩ (λp Bu=>⟨vW Mg Jn (λc hc=>pk.low c hc) (by rw[SX];show p<(lt++dO).length;lia),vA EE Mf (by lia)⟩) (λp r Bu z7 e'=>vT (λp r c h1 h2=>pk.inj p r c h1 h2) (by rw[SX];show p<(lt++dO).length;lia) (by rw[SX];show r<(lt++dO).length;lia) e')
inductive gu(vs:List V)(H:Hp)(Q:VK)(_E:XK):Prop
 |mk (l:So) (x m:Int):vs=[.ref l,.int m]->H l=A? (.lst [.int x])->0<m->m<1000000->(∀d x':Int,0<=d->d<m->Q (.int d) (upd H l (.lst [.int x'])))->gu  vs H Q _E
theorem dq:FnOk P w K mg base CX0 1 T.g_33.f T.g_33.d ["left","many"] gu:=by
 refine T.g_33.F.okA gj λxX A outer s H vs Q E hr h=>?_;obtain⟨l,x,m,rfl,e,h0,h1,q⟩:=h
 refine⟨_,(ae (ak 2 gj.nd (ap bB (au cw (pv 0) af (λ_ _=>rfl)) (pv 1)))
  (ae (eg (ap b9 (au cw (pv 0) af (λ_ _=>rfl)) (pv 1)) (vP (pv 0) af set_list))
  (ai (av (pv 2))))),?_⟩
 try dsimp only[ym,xW]
 refine⟨_,D?,l,_,0,.int x,D?,D?,Zg e,at0,_,D?,_,_,D?,D?,h0,?_⟩;refine⟨_,D?,l,_,0,.int x,D?,D?,Zg e,at0,_,D?,_,_,D?,D?,⟨h0,by lia⟩,?_⟩;refine⟨_,D?,l,_,0,0,D?,D?,e,D?,?_⟩;exact⟨_,D?,q _ _ (Tv _ (by lia)) (Tu _ h0)⟩
inductive fE(n:Nat)(vs:List V)(H:Hp)(Q:VK)(_E:XK):Prop
 |mk (cell:Int) (oa:So) (yl:List So) (outs:List (SG×Int)) (S C deep:Int):vs=[.int cell,.ref oa,.int S,.int C,.int deep]->H oa=A? (.tup (yl.map Ye))->KsAt H outs yl->aB outs->0<=deep->deep<(n:Int)->(∀(t:Th)(r:So)(H':Hp),Zf H H'->At H' t r->t.FitS outs S C->t.tall<=deep.toNat+1->Q (.ref r) H')->fE n vs H Q _E
theorem dF:∀n:Nat,FnOk P w K mg base CX0 (n+2) T.g_32.f T.g_32.d ["cell","outs","states","kids","deep"] (fE n)
 |0=>⟨λ_ _ _ _ h=>by obtain⟨_,_,_,_,_,_,_,_,_,_,_,h1,h2,_⟩:=h;lia,λ_ _ _ _ _ _ _ _ _ _ _ _ _ h=>by obtain⟨_,_,_,_,_,_,_,_,_,_,_,h1,h2,_⟩:=h;lia⟩
 | n+1=>by
   have ih:=dF n;refine T.g_32.F.okA bD λxX A outer s H vs Q E hr h=>?_;obtain⟨cell,oa,yl,outs,S,C,deep,rfl,eo,zp,g,d0,d1,q⟩:=h
   refine⟨_,(ae (ak 5 bD.nd (pcF T.g_29 (bP T) hr (aa (pv 0) (aa af ac))))
    (ae (bU (PW.pt (jb (aF cW (pv 2) af (aI _)) (jb (aF cW (pv 3) af (aI _)) (jI (aF ql (ap bB (pv 5) af) af (aI _)))))) (ai (av (aO (aa dX (aa (ap bB (ap b9 (pv 5) af) (pv 2)) (aa (ap bB (ap b9 (pv 5) af) (pv 3)) ac)))))) bp)
    (ae (ak 6 bD.nd (au aq (pv 1) (ap bB (ap b9 (pv 5) af) (aw ar rfl T.n_1 S8 (aa (pv 1) ac))) (λ_ _=>rfl)))
    (ae (bU (PW.pt (jb (aF fG (pv 4) af (aI _)) (jI (aF cW (au aq (pv 6) af (λ_ _=>rfl)) af (aI _))))) (ai (ak 6 bD.nd (pcF T.g_31 (fz T) hr (aa (pv 1) (aa (ap b9 (pv 5) af) ac))))) bp)
    (ae (ak 7 bD.nd (aZ ac))
    (ae (cE Tw rfl (cA rfl T.n_4 (aa (au aq (pv 6) af (λ_ _=>rfl)) ac)) (pgN 8 bD.nd) (ai (aY (bN SK S5 S4 aM (pv 7) (aa (bz (ih) (hr.mono (Su _)) rfl T.g_32.m T.g_32.F.kp T.g_32.b .nil dw (aa (pcF T.g_29 (bP T) hr (aa (pv 5) (aa (ap bA (pv 8) af) ac))) (aa (pv 1) (aa (pv 2) (aa (pv 3) (aa (ap gG (pv 4) af) ac)))))) ac)))))
    (ai (av (ap hW (aO (aa (au aq (pv 6) af (λ_ _=>rfl)) ac)) (aR aL rfl T.n_7 Tt (aa (pv 7) ac))))))))))),?_⟩
   try dsimp only[ym,xW]
   have Ab:outs.length=yl.length:=SJ zp;have Oa:=g.le;have Ec:=g.ne;refine⟨_,D?,_,_,D?,by decide,by decide,λrest r0 r1=>?_⟩;dsimp only[aE];refine bX (λxS H'=>An2 (H=H') (xS=[A? (.int cell),A? (.ref oa),A? (.int S),A? (.int C),A? (.int deep),A? (.int rest),Am,Am,Am])) (λkk hk=>?_) ?_
   .refine cX (λb H'=>An2 (H=H') ((b=B?->0<S/\0<C))) (λk2 yM=>?_) (λH' hb=>?_) (λH' hb=>?_)
    .refine⟨_,D?,_,_,D?,D?,_,D?,?_⟩;refine cK (λc1=>?_) (λc1=>yM _ _ ⟨rfl,λz=>by cases z⟩);refine⟨_,D?,_,_,D?,D?,_,D?,?_⟩;refine cK (λc2=>?_) (λc2=>yM _ _ ⟨rfl,λz=>by cases z⟩);exact⟨_,D?,_,_,D?,D?,(by show(0:Int)<5;decide),_,_,D?,D?,_,D?,yM _ _ ⟨D?,λ_=>⟨Zc c1,Zc c2⟩⟩⟩
    .obtain⟨rfl,hb⟩:=hb;obtain⟨hS,hC⟩:=hb rfl;refine⟨_,D?,_,_,D?,D?,⟨by decide,by decide⟩,_,D?,_,_,D?,D?,hS,_,D?,_,_,D?,D?,⟨by decide,by decide⟩,_,D?,_,_,D?,D?,hC,lnE rfl,λca AF=>?_⟩;refine q (.call (rest / 5%S) (rest / 97%C)) ca _ (ag AF _) ?_ ?_ ?_
     .rw[At];exact ad
     .rw[Zh];exact⟨Tv _ (by lia),Tu _ hS,Tv _ (by lia),Tu _ hC⟩
     .rw[Yi];lia
    .obtain⟨rfl,_⟩:=hb;exact hk _ _ ⟨rfl,rfl⟩
   rintro xS H' ⟨rfl,rfl⟩;have m0:=Tv (rest / 5) (show((yl.map Ye).length:Int)≠0 by rw[Sl];lia);have m1:=Tu (rest / 5) (show(0:Int)<((yl.map Ye).length:Int)by rw[Sl];lia);refine hid λZZ kZ=>?_;obtain⟨k0,zZ⟩:∃k0,outs[(rest / 5%((yl.map Ye).length:Int)).toNat]?=A? k0:=⟨_,Sn (by rw[Sl]at m0 m1 |-;lia)⟩;obtain⟨ka,zh,yZ⟩:=Yo zp zZ;refine kZ ?_;refine⟨_,D?,_,D?,_,_,D?,D?,⟨by decide,by decide⟩,_,D?,oa,_,D?,.inr (Yg eo),_,_,D?,D?,(by show(0:Int)<((yl.map Ye).length:Int);rw[Sl];lia),oa,_,_,.ref ka,D?,D?,Yg eo,at_nonneg m0 (gmE zh),?_⟩;dsimp only[aE];refine bX (λxS H'=>Ex2 λ(k0:SG×Int)(ka:So)=>An5 (k0∈outs) (KAt H' k0 ka) ((deep=0->k0.2=0)) (Zf H H') (xS=[A? (.int cell),A? (.ref oa),A? (.int S),A? (.int C),A? (.int deep),A? (.int rest),A? (.ref ka),Am,Am])) (λkk hk=>?_) ?_
   .refine cX (λb H'=>An2 (H=H') ((b=C?->deep=0->k0.2=0))) (λk2 yM=>?_) (λH' hb=>?_) (λH' hb=>?_)
    .refine⟨_,D?,D?,_,D?,?_⟩;refine cK (λc1=>?_) (λc1=>yM _ _ ⟨rfl,λ_ z=>Yd (Yc (Zd Yh z)) c1⟩);refine⟨_,D?,ka,_,1,_,D?,D?,Yg yZ,at1,_,_,D?,D?,_,D?,yM _ _ ⟨D?,λz _=>?_⟩⟩;have z':¬0<k0.2:=of_decide_eq_false z;have:=(g.num k0 (Sv zZ)).1;lia
    .obtain⟨rfl,_⟩:=hb;refine⟨_,D?,_,D?,_,_,D?,D?,⟨by decide,by decide⟩,oa,yl,outs,_,D?,eo,zp,g,λk1 Cc H1 s1 E3 Gi e1=>?_⟩;exact hk _ _ ⟨k1,Cc,E3,e1,λ_=>Gi,s1,rfl⟩
    .obtain⟨rfl,hb⟩:=hb;exact hk _ _ ⟨k0,ka,Sv zZ,yZ,hb rfl,.refl _,rfl⟩
   rintro xS H1 ⟨k0,ka,yB,yZ,hz,s1,rfl⟩;have Cu:=g.num k0 yB;refine⟨lnE rfl,λpl yN=>?_⟩;refine gU yN λH2 s2 e2=>?_;have IE:=s2 _ _ yZ;refine⟨_,D?,ka,_,1,_,D?,D?,Yg IE,at1,k0.2,D?,by lia,by lia,?_⟩
   refine cO (n:=k0.2.toNat) (λi Y H3=>Ex3 λ(kv:Option V)(bs:List So)(ts:List Th)=>An6 (Y=[A? (.int cell),A? (.ref oa),A? (.int S),A? (.int C),A? (.int deep),A? (.int rest),A? (.ref ka),A? (.ref pl),kv]) ((∀b o,b≠pl->H2 b=A? o->H3 b=A? o)) (H3 pl=A? (.lst (bs.map Ye))) (Ats H3 ts bs) (ts.length=i) (∀t∈ts,t.FitS outs S C/\t.tall<=(deep - 1).toNat+1))
    ⟨Am,[],[],rfl,λ_ _ _ e=>e,e2,.nil,rfl,λt ht=>by cases ht⟩ ?_ ?_
   .rintro i Y H3 hi ⟨kv,bs,ts,rfl,s3,e3,zV,yv,xV⟩;have Ff:i<k0.2.toNat:=hi;have sB:∀b o,H b=A? o->H3 b=A? o:=λb o e=>s3 b o (ao (s1 _ _ e) yN) (s2 _ _ (s1 _ _ e))
    have Cv:1<=deep:=by
     by_cases z:deep=0
     .have:=hz z;lia
     .lia
    refine⟨_,D?,.inl ⟨D?,_,Zg e3⟩,_,D?,_,D?,_,_,D?,D?,_,_,D?,by lia,by lia,λr2 _ _=>?_⟩;refine⟨_,D?,_,D?,_,D?,_,D?,_,_,D?,D?,r2,oa,yl,outs,S,C,deep - 1,D?,sB _ _ eo,zp.mono (λb ys e=>sB b _ e),g,by lia,by lia,λt r H4 s4 yx xU yJ=>?_⟩;have e4:=s4 _ _ e3;have AR:bs.length=ts.length:=zV.length;refine⟨pl,_,_,D?,D?,e4,lbE (by lia),?_⟩;have kt:KT H4 (upd H4 pl (.lst (bs.map Ye++[.ref r]))):=aU e4;refine⟨_,bs++[r],ts++[t],D?,λb o hb e=>?_,?_,?_,?_,?_⟩
    .rw[aj hb];exact s4 _ _ (s3 b o hb e)
    .rw[ad,SI];rfl
    .exact(zV.mono ((Ze s4).trans kt)).append (.cons (yx.mono kt) .nil)
    .rw[SD,yv];rfl
    .intro u hu;rcases S6.mp hu with hu|hu
     .exact xV u hu
     .rw[Sz.mp hu];exact⟨xU,yJ⟩
   .rintro Y H3 ⟨kv,bs,ts,rfl,s3,e3,zV,yv,xV⟩;have sH:Zf H H3:=λb o e=>s3 b o (ao (s1 _ _ e) yN) (s2 _ _ (s1 _ _ e));have zW:H3 ka=A? (.tup [.str k0.1,.int k0.2]):=s3 ka _ (ao yZ yN) IE;have AR:bs.length=ts.length:=zV.length;refine⟨_,D?,ka,_,0,.str k0.1,D?,D?,Yg zW,at0,lnE rfl,λp1 B8=>?_⟩;refine gU B8 λH4 s4 e4=>?_;refine⟨_,D?,pl,_,D?,.inl ⟨Zg (s4 _ _ e3),λtp yP=>?_⟩⟩;refine gU yP λH5 s5 e5=>?_;refine rh (s5 _ _ e4) e5 (by rw[Sl];show 1+bs.length<=1000000;lia) λp H6 s6 e6=>?_;have Ay:=(g.low k0 yB).1;refine q (.knot k0.1 ts) p H6 (sH.trans (s4.trans (s5.trans s6))) ?_ ?_ ?_
    .rw[At];exact⟨lz Ay,bs,e6,zV.mono (Ze (s4.trans (s5.trans s6)))⟩
    .rw[Zh];refine⟨?_,FitSs.of λt ht=>(xV t ht).1⟩
     have:(k0.1,(ts.length:Int))=k0:=by
      rw[yv];exact Wo rfl (by show((k0.2.toNat:Nat):Int)=k0.2;lia)
     rw[this];exact yB
    .rw[Yi];by_cases z:deep=0
     .have yM:=hz z;have:ts=[]:=Uj.mp (by lia);subst this;rw[aK];lia
     .have:=je (n:=(deep - 1).toNat+1) λt ht=>(xV t ht).2;lia
inductive d8(n:Nat)(vs:List V)(H:Hp)(Q:VK)(_E:XK):Prop
 |mk (l:So) (x:Int) (oa:So) (yl:List So) (outs:List (SG×Int)) (S C deep:Int):vs=[.ref l,.ref oa,.int S,.int C,.int deep]->H l=A? (.lst [.int x])->H oa=A? (.tup (yl.map Ye))->KsAt H outs yl->aB outs->S<1000000->C<1000000->0<=deep->deep<(n:Int)->(∀(t:Th)(r:So)(x':Int)(H':Hp),SameB l H H'->H' l=A? (.lst [.int x'])->At H' t r->t.FitS outs S C->t.tall<=deep.toNat+1->Q (.ref r) H')->d8 n vs H Q _E
theorem db:∀n:Nat,FnOk P w K mg base CX0 (n+2) T.g_34.f T.g_34.d ["left","outs","states","kids","deep"] (d8 n)
 |0=>⟨λ_ _ _ _ h=>by obtain⟨_,_,_,_,_,_,_,_,_,_,_,_,_,_,_,h1,h2,_⟩:=h;lia,λ_ _ _ _ _ _ _ _ _ _ _ _ _ h=>by obtain⟨_,_,_,_,_,_,_,_,_,_,_,_,_,_,_,h1,h2,_⟩:=h;lia⟩
 | n+1=>by
   have ih:=db n;refine T.g_34.F.okA bo λxX A outer s H vs Q E hr h=>?_;obtain⟨l,x,oa,yl,outs,S,C,deep,rfl,el,eo,zp,g,Oh,Oi,d0,d1,q⟩:=h
   refine⟨_,(ae (bU (PW.pt (jb (aF cW (pv 2) af (aI _)) (jb (aF cW (pv 3) af (aI _)) (jI (aF fG (pcF T.g_33 (dq T) hr (aa (pv 0) (aa af ac))) af (aI _)))))) (ae (ak 5 bo.nd (pcF T.g_33 (dq T) hr (aa (pv 0) (aa (pv 2) ac))))
    (ai (av (aO (aa dX (aa (pv 5) (aa (pcF T.g_33 (dq T) hr (aa (pv 0) (aa (pv 3) ac))) ac))))))) bp)
    (ae (gf (i:=6) (N:=["kind","deep"]) (js:=[Am,A? 4]) (g:=(aE 0)) (tt:=(tOr (nM (tOp (rEq) (tOp (iQ K) (bC 0) (tC (.int 1))) (tC (.int 0)))) (nM (tOp (rI0 λi j=>.bl (decide (j<i))) (bC 1) (tC (.int 0)))))) (te:=(bC 0)) bo.nd rfl (WT rfl) rfl (cF rfl (by decide +kernel) (by decide +kernel) rfl rfl rfl) (d3 (pv 1)) (λ_ _ _ _ _ _=>(pgN 0 w8)) (bf rfl) (λ_ _ _ _ _ _=>jJ (PW.pt (nk (aF fG (au aq (pv 0) af (λ_ _=>rfl)) af (aI _)) (kj (aF cW (pv 1) af (aI _)))))) (λ_ _ _ _ _ _=>(pv 0)))
    (ae (ak 7 bo.nd (au cw (pv 6) (pcF T.g_33 (dq T) hr (aa (pv 0) (aa (aw ar rfl T.n_1 S8 (aa (pv 6) ac)) ac))) (λ_ _=>rfl)))
    (ae (ak 8 bo.nd (aZ ac))
    (ae (cE Tw rfl (cA rfl T.n_4 (aa (au aq (pv 7) af (λ_ _=>rfl)) ac)) (pgN 9 bo.nd) (ai (aY (bN SK S5 S4 aM (pv 8) (aa (bz (ih) (hr.mono (Su _)) rfl T.g_34.m T.g_34.F.kp T.g_34.b .nil dw (aa (pv 0) (aa (pv 1) (aa (pv 2) (aa (pv 3) (aa (ap gG (pv 4) af) ac)))))) ac)))))
    (ai (av (ap hW (aO (aa (au aq (pv 7) af (λ_ _=>rfl)) ac)) (aR aL rfl T.n_7 Tt (aa (pv 8) ac)))))))))),?_⟩
   try dsimp only[ym,xW]
   have Ab:outs.length=yl.length:=SJ zp;have Oa:=g.le;have Ec:=g.ne;refine bX (λxS H'=>(∃x',SameB l H H'/\H' l=A? (.lst [.int x']))/\xS=[A? (.ref l),A? (.ref oa),A? (.int S),A? (.int C),A? (.int deep),Am,Am,Am,Am,Am]) (λkk hk=>?_) ?_
   .refine cX (λb H'=>(∃x',SameB l H H'/\H' l=A? (.lst [.int x']))/\(b=B?->0<S/\0<C)) (λk2 yM=>?_) (λH' hb=>?_) (λH' hb=>?_)
    .refine⟨_,D?,_,_,D?,D?,_,D?,?_⟩;refine cK (λc1=>?_) (λc1=>yM _ _ ⟨⟨x,.refl,el⟩,λz=>by cases z⟩);refine⟨_,D?,_,_,D?,D?,_,D?,?_⟩;refine cK (λc2=>?_) (λc2=>yM _ _ ⟨⟨x,.refl,el⟩,λz=>by cases z⟩);exact⟨_,D?,l,x,_,D?,el,by decide,by decide,λd x' _ _=>⟨D?,_,D?,yM _ _ ⟨⟨x',.set,ad⟩,λ_=>⟨Zc c1,Zc c2⟩⟩⟩⟩
    .refine hid λZZ kZ=>?_;obtain⟨⟨x1,s1,e1⟩,hb⟩:=hb;obtain⟨hS,hC⟩:=hb rfl;refine kZ ?_;refine⟨_,D?,_,D?,l,x1,_,D?,e1,hS,Oh,λd x2 Mm Mn=>?_⟩;refine⟨_,D?,_,D?,_,D?,l,x2,_,D?,ad,hC,Oi,λc x3 QL Ko=>?_⟩;refine⟨lnE rfl,λca AF=>?_⟩;have yw:l≠ca:=λz=>by rw[<-z,ad]at AF;cases AF
     refine q (.call d c) ca x3 _ (s1.trans (SameB.set.trans (SameB.set.trans (.of (ag AF _))))) (by rw[aj yw];exact ad) ?_ ?_ ?_
     .rw[At];exact ad
     .rw[Zh];exact⟨Mm,Mn,QL,Ko⟩
     .rw[Yi];lia
    .obtain⟨h1,_⟩:=hb;exact hk _ _ ⟨h1,rfl⟩
   rintro xS H1 ⟨⟨x1,s1,e1⟩,rfl⟩;have Mo:H1 oa=A? (.tup (yl.map Ye)):=s1 _ _ (de eo el (by intro z;cases z)) eo;have QM:KT H H1:=s1.kt el;have IF:=zp.mono QM;obtain⟨kz,Md,Fw⟩:=g.zero;refine⟨_,D?,oa,D?,⟨_,Yg Mo⟩,j0 (K:=K) (λk=>decide (Yh k.2=Yh 0) ||decide (0<deep)) Mo IF (by lia) ⟨kz,Md,by rw[Fw];rfl⟩ (λz ka H2 R sm hz r=>?_) (λka H2 R r=>⟨_,D?,r⟩) (λD bs H2 hD e' hb1 Ob yA=>?_)⟩
   .refine⟨_,D?,ka,_,1,_,D?,D?,Yg hz,at1,D?,_,D?,?_⟩;refine cK (λc=>?_) (λc=>?_)
    .rw[c]at r;exact r
    .rw[WA.mpr c]at r;exact⟨_,D?,_,_,D?,D?,_,D?,r⟩
   have s2:Zf H1 H2:=by rw[e'];exact ag hD _
   have eD:H2 D=A? (.lst (bs.map λz=>Ye z.2)):=by rw[e'];exact ad
   have QN:D≠l:=λz=>by rw[z,e1]at hD;cases hD
   have Oj:=s2 _ _ e1;clear e';have BL:0<((bs.map λz=>Ye z.2).length:Int):=by rw[Sl];lia
   refine⟨_,D?,_,D?,_,D?,D,_,D?,.inl (Zg eD),l,x1,_,D?,Oj,BL,(by rw[Sl];lia),λd x2 Mm Mn=>?_⟩;have s3:SameB l H2 (upd H2 l (.lst [.int x2])):=.set;have BM:(upd H2 l (.lst [.int x2])) l=A? (.lst [.int x2]):=ad;generalize(upd H2 l (.lst [.int x2]))=H3 at s3 BM |-;refine hid λZZ kZ=>?_;obtain⟨z,hz⟩:∃z,bs[d.toNat]?=A? z:=⟨_,Sn (by rw[Sl]at Mn;lia)⟩;obtain⟨yB,gp,yZ⟩:=yA z (Sv hz);obtain⟨k0,ka⟩:=z;refine kZ ?_;dsimp only at yB gp yZ hz;have Mp:KT H2 H3:=s3.kt Oj;have zW:H3 ka=A? (.tup [.str k0.1,.int k0.2]):=Mp _ _ (s2 _ _ yZ);have Dt:SameB l H H3:=s1.trans ((SameB.of s2).trans s3);have QO:H3 oa=A? (.tup (yl.map Ye)):=Mp _ _ (s2 _ _ Mo);have Mq:=IF.mono ((Ze s2).trans Mp)
   have EA:deep=0->k0.2=0:=λz=>by
    rw[z]at gp;have:decide (Yh k0.2=Yh 0)=true:=by simpa using gp
    exact V.int.inj (Zc this)
   refine⟨D,_,d,.ref ka,D?,D?,Zg (s3 _ _ QN eD),at_nonneg Mm (gmE hz),?_⟩;have Cu:=g.num k0 yB;refine⟨lnE rfl,λpl yN=>?_⟩;have IG:pl≠l:=λz=>by rw[z,BM]at yN;cases yN
   refine gU yN λH4 s4 e4=>?_;have IH:=s4 _ _ zW;have Iv:=s4 _ _ BM;have QP:=s4 _ _ QO;refine⟨_,D?,ka,_,1,_,D?,D?,Yg IH,at1,k0.2,D?,by lia,by lia,?_⟩
   refine cO (n:=k0.2.toNat) (λi Y H5=>Ex4 λ(kv:Option V)(bs:List So)(ts:List Th)(x':Int)=>An7 (Y=[A? (.ref l),A? (.ref oa),A? (.int S),A? (.int C),A? (.int deep),Am,A? (.ref D),A? (.ref ka),A? (.ref pl),kv]) ((∀b o,b≠pl->b≠l->H4 b=A? o->H5 b=A? o)) (H5 l=A? (.lst [.int x'])) (H5 pl=A? (.lst (bs.map Ye))) (Ats H5 ts bs) (ts.length=i) (∀t∈ts,t.FitS outs S C/\t.tall<=(deep - 1).toNat+1))
    ⟨Am,[],[],x2,rfl,λ_ _ _ _ e=>e,Iv,e4,.nil,rfl,λt ht=>by cases ht⟩ ?_ ?_
   .rintro i Y H5 hi ⟨kv,Bo,ts,x',rfl,s5,Du,e5,zV,yv,xV⟩;have Ff:i<k0.2.toNat:=hi;have BN:KT H4 H5:=λb ys e=>s5 b _ (de e e4 (by intro z;cases z)) (de e Iv (by intro z;cases z)) e
    have Cv:1<=deep:=by
     by_cases z:deep=0
     .have:=EA z;lia
     .lia
    refine⟨_,D?,.inl ⟨D?,_,Zg e5⟩,_,D?,_,D?,_,D?,_,D?,_,D?,_,_,D?,D?,l,x',oa,yl,outs,S,C,deep - 1,D?,Du,BN _ _ QP,Mq.mono ((Ze s4).trans BN),g,Oh,Oi,by lia,by lia,λt r x6 H6 s6 JK yx xU yJ=>?_⟩;have e6:=s6 _ _ IG e5;have Ak:KT H5 H6:=s6.kt Du;have AR:Bo.length=ts.length:=zV.length;refine⟨pl,_,_,D?,D?,e6,lbE (by lia),?_⟩;have kt:KT H6 (upd H6 pl (.lst (Bo.map Ye++[.ref r]))):=aU e6;refine⟨_,Bo++[r],ts++[t],x6,D?,λb o hb hb2 e=>?_,?_,?_,?_,?_,?_⟩
    .rw[aj hb];exact s6 _ _ hb2 (s5 b o hb hb2 e)
    .rw[aj IG.symm];exact JK
    .rw[ad,SI];rfl
    .exact(zV.mono (Ak.trans kt)).append (.cons (yx.mono kt) .nil)
    .rw[SD,yv];rfl
    .intro u hu;rcases S6.mp hu with hu|hu
     .exact xV u hu
     .rw[Sz.mp hu];exact⟨xU,yJ⟩
   .rintro Y H5 ⟨kv,Bo,ts,x',rfl,s5,Du,e5,zV,yv,xV⟩;have QQ:H pl=none:=Dt.free BM yN;have sH:SameB l H H5:=λb o hb e=>s5 b o (ao e QQ) hb (s4 _ _ (Dt b o hb e));have BN:KT H4 H5:=λb ys e=>s5 b _ (de e e4 (by intro z;cases z)) (de e Iv (by intro z;cases z)) e;have Mr:H5 ka=A? (.tup [.str k0.1,.int k0.2]):=BN _ _ IH;have AR:Bo.length=ts.length:=zV.length;refine⟨_,D?,ka,_,0,.str k0.1,D?,D?,Yg Mr,at0,lnE rfl,λp1 B8=>?_⟩;refine gU B8 λH6 s6 e6=>?_;refine⟨_,D?,pl,_,D?,.inl ⟨Zg (s6 _ _ e5),λtp yP=>?_⟩⟩;refine gU yP λH7 s7 e7=>?_;refine rh (s7 _ _ e6) e7 (by rw[Sl];show 1+Bo.length<=1000000;lia) λp H8 s8 e8=>?_;have Mt:=s6.trans (s7.trans s8);have Ay:=(g.low k0 yB).1;refine q (.knot k0.1 ts) p x' H8 (sH.trans (.of Mt)) (Mt _ _ Du) ?_ ?_ ?_
    .rw[At];exact⟨lz Ay,Bo,e8,zV.mono (Ze Mt)⟩
    .rw[Zh];refine⟨?_,FitSs.of λt ht=>(xV t ht).1⟩
     have:(k0.1,(ts.length:Int))=k0:=by
      rw[yv];exact Wo rfl (by show((k0.2.toNat:Nat):Int)=k0.2;lia)
     rw[this];exact yB
    .rw[Yi];by_cases z:deep=0
     .have yM:=EA z;have:ts=[]:=Uj.mp (by lia);subst this;rw[aK];lia
     .have:=je (n:=(deep - 1).toNat+1) λt ht=>(xV t ht).2;lia
inductive cY(vs:List V)(H:Hp)(Q:VK)(_E:XK):Prop
 |mk (cell:Int) (ia:So) (yc:List So) (ins:List (SG×Int)) (oa:So) (yl:List So) (outs:List (SG×Int)) (S deep:Int):vs=[.int cell,.ref ia,.ref oa,.int S,.int deep]->H ia=A? (.tup (yc.map Ye))->KsAt H ins yc->aB ins->H oa=A? (.tup (yl.map Ye))->KsAt H outs yl->aB outs->0<=S->S<=1000->0<=deep->deep<5->(∀(r ha ra:So)(ya:List So)(head:Th)(rows:List (List Th))(H':Hp),Zf H H'->BookAt H' ins outs head rows r ia oa ha ra yc yl ya->BookOk ins outs S deep.toNat head rows->Q (.ref r) H')->cY  vs H Q _E
theorem ff:FnOk P w K mg base CX0 8 T.g_35.f T.g_35.d ["cell","ins","outs","states","deep"] cY:=by
 refine T.g_35.F.okA aP λxX A outer s H vs Q E hr h=>?_;obtain⟨cell,ia,yc,ins,oa,yl,outs,S,deep,rfl,ei,AM,gi,eo,Eg,go,Ol,HM,d0,d1,q⟩:=h
 refine⟨_,(ae (ak 5 aP.nd (aZ (aa (pv 0) ac)))
  (ae (ak 6 aP.nd (aZ ac))
  (ae (cE Tw rfl (cA rfl T.n_4 (aa (pv 3) ac)) (pgN 7 aP.nd) (ae (ak 8 aP.nd (aZ ac))
  (ae (cE Tw rfl (cA rfl T.n_4 (aa (aw ar rfl T.n_1 S8 (aa (pv 1) ac)) ac)) (pgN 9 aP.nd) (ai (aY (bN SK S5 S4 aM (pv 8) (aa (pcF T.g_34 (db T 5) hr (aa (pv 5) (aa (pv 2) (aa (pv 3) (aa (au aq (au aq (pv 1) (pv 9) (λ_ _=>rfl)) af (λ_ _=>rfl)) (aa (pv 4) ac)))))) ac)))))
  (ai (aY (bN SK S5 S4 aM (pv 6) (aa (aR aL rfl T.n_7 Tt (aa (pv 8) ac)) ac)))))))
  (ai (av (aO (aa (pv 1) (aa (pv 2) (aa (pcF T.g_34 (db T 5) hr (aa (pv 5) (aa (pv 2) (aa (pv 3) (aa af (aa af ac)))))) (aa (aR aL rfl T.n_7 Tt (aa (pv 6) ac)) ac)))))))))),?_⟩
 try dsimp only[ym,xW]
 have Bx:ins.length=yc.length:=SJ AM;have Gb:=gi.le;have Bp:((yc.map Ye).length:Int)=(ins.length:Int):=by rw[Sl,Bx]
 refine⟨_,D?,lnE rfl,λlf Bi=>?_⟩;refine⟨lnE rfl,λrl Dw=>?_⟩;have Dx:rl≠lf:=λz=>by rw[z,ad]at Dw;cases Dw
 have AI:H rl=none:=(ag Bi _).free Dw;have JM:Zf H (upd (upd H lf (.lst [.int cell])) rl (.lst [])):=(ag Bi _).trans (ag Dw _);have Om:(upd (upd H lf (.lst [.int cell])) rl (.lst [])) lf=A? (.lst [.int cell]):=by rw[aj Dx.symm,ad]
 have Gr:(upd (upd H lf (.lst [.int cell])) rl (.lst [])) rl=A? (.lst []):=ad;generalize(upd (upd H lf (.lst [.int cell])) rl (.lst []))=H1 at JM Om Gr |-;refine⟨_,D?,S,D?,by lia,by lia,?_⟩
 refine cO (n:=S.toNat) (λi Y H3=>Ex6 λ(sv rv kv:Option V)(ya:List So)(rows:List (List Th))(x:Int)=>An7 (Y=[A? (.int cell),A? (.ref ia),A? (.ref oa),A? (.int S),A? (.int deep),A? (.ref lf),A? (.ref rl),sv,rv,kv]) (Zf H H3) (H3 lf=A? (.lst [.int x])) (H3 rl=A? (.lst (ya.map Ye))) (Tc (RowAt H3) rows ya) (rows.length=i) (∀row∈rows,rO ins outs S deep.toNat row))
  ⟨Am,Am,Am,[],[],cell,rfl,JM,Om,Gr,.nil,rfl,λt ht=>by cases ht⟩ ?_ ?_
 .rintro i Y H3 hi ⟨sv,rv,kv,ya,rows,x,rfl,s3,BM,zE,yK,Cg,xV⟩;have Ff:i<S.toNat:=hi;have Cw:rows.length=ya.length:=SJ yK;refine⟨lnE rfl,λyq Al=>?_⟩;have Fz:H yq=none:=s3.free Al;have FA:yq≠rl:=λz=>by rw[z,zE]at Al;cases Al
  have II:yq≠lf:=λz=>by rw[z,BM]at Al;cases Al
  refine gU Al λH4 s4 Mu=>?_;refine⟨_,D?,ia,_,D?,.inr (Yg (s4 _ _ (s3 _ _ ei))),_,D?,by lia,by lia,?_⟩
  refine cO (n:=((yc.map Ye).length:Int).toNat) (λj Y H5=>Ex4 λ(kv:Option V)(bs:List So)(ts:List Th)(x:Int)=>An9 (Y=[A? (.int cell),A? (.ref ia),A? (.ref oa),A? (.int S),A? (.int deep),A? (.ref lf),A? (.ref rl),A? (.int (0+(i:Int))),A? (.ref yq),kv]) (Zf H H5) (H5 lf=A? (.lst [.int x])) (H5 rl=A? (.lst (ya.map Ye))) (KT H4 H5) (H5 yq=A? (.lst (bs.map Ye))) (Ats H5 ts bs) (ts.length=j) (∀(j:Nat)(t:Th)(k:SG×Int),ts[j]?=A? t->ins[j]?=A? k->t.FitS outs S k.2/\t.tall<=deep.toNat+1))
   ⟨kv,[],[],x,rfl,s3.trans s4,s4 _ _ BM,s4 _ _ zE,λ_ _ e=>e,Mu,.nil,rfl,λj t k h=>by simp at h⟩ ?_ ?_
  .rintro j Y H5 hj ⟨kv,bs,ts,x5,rfl,s5,Du,z9,BN,Dy,zV,yv,zJ⟩
   have Mv:j<ins.length:=by
    have:j<((yc.map Ye).length:Int).toNat:=hj;lia
   refine hid λZZ kZ=>?_;obtain⟨k0,zZ⟩:∃k0,ins[j]?=A? k0:=⟨_,Sn Mv⟩;obtain⟨ka,zh,yZ⟩:=Yo AM zZ;refine kZ ?_;have Cu:=gi.num k0 (Sv zZ);have yx:atI (yc.map Ye) (0+(j:Int))=A? (.ref ka):=at_nonneg (by lia) (by rw[show(0+(j:Int)).toNat=j by lia,Sx,zh];rfl);refine⟨_,D?,.inl ⟨D?,_,Zg Dy⟩,_,D?,_,D?,_,D?,_,D?,_,D?,ia,_,_,.ref ka,D?,D?,Yg (s5 _ _ ei),yx,ka,_,1,_,D?,D?,Yg (s5 _ _ yZ),at1,_,D?,lf,x5,oa,yl,outs,S,k0.2,deep,D?,Du,s5 _ _ eo,Eg.mono (Ze s5),go,by lia,by lia,d0,by lia,λt r x6 H6 s6 JK yx xU yJ=>?_⟩;have IJ:=s6 _ _ II Dy;have zU:=s6 _ _ Dx z9;have Ak:KT H5 H6:=s6.kt Du;have FC:Zf H H6:=λb o e=>s6 b o (ao e Bi) (s5 b o e);have AR:bs.length=ts.length:=zV.length;refine⟨yq,_,_,D?,D?,IJ,lbE (by lia),?_⟩;have kt:KT H6 (upd H6 yq (.lst (bs.map Ye++[.ref r]))):=aU IJ;refine⟨_,bs++[r],ts++[t],x6,D?,aJ FC Fz,by rw[aj II.symm];exact JK,by rw[aj FA.symm];exact zU,BN.trans (Ak.trans kt),?_,?_,?_,?_⟩
   .rw[ad,SI];rfl
   .exact(zV.mono (Ak.trans kt)).append (.cons (yx.mono kt) .nil)
   .rw[SD,yv];rfl
   .intro j' t' k' BE yp;by_cases C4:j'<ts.length
    .rw[Ts C4]at BE;exact zJ j' t' k' BE yp
    .rw[T5 (by lia)]at BE
     have Dm:j' - ts.length=0:=by
      have:=(T2.mp BE).1;simp at this;lia
     rw[Dm]at BE;cases BE;have:j'=j:=by lia
     subst this;rw[zZ]at yp;cases yp;exact⟨xU,yJ⟩
  .rintro Y H5 ⟨kv,bs,ts,x5,rfl,s5,Du,z9,BN,Dy,zV,yv,zJ⟩;refine⟨_,D?,.inl ⟨D?,_,Zg z9⟩,_,D?,yq,_,D?,.inl ⟨Zg Dy,λtp yP=>?_⟩⟩;refine gU yP λH6 s6 e6=>?_;have zU:=s6 _ _ z9;refine⟨rl,_,_,D?,D?,zU,lbE (by lia),?_⟩;have kt:KT H6 (upd H6 rl (.lst (ya.map Ye++[.ref tp]))):=aU zU;have Mw:KT H3 (upd H6 rl (.lst (ya.map Ye++[.ref tp]))):=(Ze s4).trans (BN.trans ((Ze s6).trans kt));refine⟨_,_,_,ya++[tp],rows++[ts],x5,D?,aJ (s5.trans s6) AI,by rw[aj Dx.symm];exact s6 _ _ Du,?_,?_,?_,?_⟩
   .rw[ad,SI];rfl
   .exact Zj (Zk (λ_ _ e=>Yn Mw e) yK) (.cons ⟨bs,kt _ _ e6,zV.mono ((Ze s6).trans kt)⟩ .nil)
   .rw[SD,Cg];rfl
   .intro row xZ;rcases S6.mp xZ with xZ|xZ
    .exact xV row xZ
    .rw[Sz.mp xZ];exact⟨by rw[yv];lia,zJ⟩
 .rintro Y H3 ⟨sv,rv,kv,ya,rows,x,rfl,s3,BM,zE,yK,Cg,xV⟩;have Cw:rows.length=ya.length:=SJ yK;refine⟨_,D?,_,D?,_,D?,_,D?,_,D?,lf,x,oa,yl,outs,S,1,1,D?,BM,s3 _ _ eo,Eg.mono (Ze s3),go,by lia,by decide,by decide,by decide,λt ha x6 H6 s6 JK yx xU yJ=>?_⟩;have zU:=s6 _ _ Dx zE;have Ak:KT H3 H6:=s6.kt BM;have FC:Zf H H6:=λb o e=>s6 b o (ao e Bi) (s3 b o e);refine⟨_,D?,rl,_,D?,.inl ⟨Zg zU,λra Mx=>?_⟩⟩;refine gU Mx λH7 s7 e7=>?_;refine⟨lnE rfl,λr z7=>?_⟩;have s8:Zf H7 (upd H7 r (.tup [.ref ia,.ref oa,.ref ha,.ref ra])):=ag z7 _;have sA:=FC.trans (s7.trans s8);refine q r ha ra ya t rows _ sA ⟨ad,sA _ _ ei,AM.mono (Ze sA),sA _ _ eo,Eg.mono (Ze sA),yx.mono (Ze (s7.trans s8)),s8 _ _ e7,Zk (λ_ _ e=>Yn (Ak.trans (Ze (s7.trans s8))) e) yK⟩ ⟨by rw[Cg];lia,xV,xU,yJ⟩
inductive iD(vs:List V)(H:Hp)(Q:VK)(_E:XK):Prop
 |mk (cell:Int) (ia:So) (yc:List So) (ins:List (SG×Int)) (oa:So) (yl:List So) (outs:List (SG×Int)) (S deep:Int):vs=[.int cell,.ref ia,.ref oa,.int S,.int deep]->H ia=A? (.tup (yc.map Ye))->KsAt H ins yc->aB ins->H oa=A? (.tup (yl.map Ye))->KsAt H outs yl->aB outs->0<=S->S<=1000->0<=deep->deep<5->(∀(r ha ra:So)(ya:List So)(head:Th)(rows:List (List Th))(H':Hp),Zf H H'->BookAt H' ins outs head rows r ia oa ha ra yc yl ya->BookOk ins outs S deep.toNat head rows->Q (.ref r) H')->iD  vs H Q _E
theorem mG:FnOk P w K mg base CX0 9 T.g_36.f T.g_36.d ["cell","ins","outs","states","deep"] iD:=by
 refine T.g_36.F.okA cT λxX A outer s H vs Q E hr h=>?_;obtain⟨cell,ia,yc,ins,oa,yl,outs,S,deep,rfl,ei,AM,gi,eo,Eg,go,Ol,HM,d0,d1,q⟩:=h
 refine⟨_,(ae (bU (aF wq (pv 0) af (aI _)) (ai (av (pcF T.g_35 (ff T) hr (aa (ap sj (pv 0) af) (aa (pv 1) (aa (pv 2) (aa (pv 3) (aa (pv 4) ac)))))))) bp)
  (ae (ak 5 cT.nd (aZ ac))
  (ae (cE Tw rfl (cA rfl T.n_4 (aa (pv 3) ac)) (pgN 6 cT.nd) (ae (ak 7 cT.nd (aZ ac))
  (ae (cE Tw rfl (cA rfl T.n_4 (aa (aw ar rfl T.n_1 S8 (aa (pv 1) ac)) ac)) (pgN 8 cT.nd) (ai (aY (bN SK S5 S4 aM (pv 7) (aa (pcF T.g_32 (dF T 5) hr (aa (pcF T.g_29 (bP T) hr (aa (pv 0) (aa (ap bA (ap bA (ap eI af (pv 6)) (pv 8)) af) ac))) (aa (pv 2) (aa (pv 3) (aa (au aq (au aq (pv 1) (pv 8) (λ_ _=>rfl)) af (λ_ _=>rfl)) (aa (pv 4) ac)))))) ac)))))
  (ai (aY (bN SK S5 S4 aM (pv 5) (aa (aR aL rfl T.n_7 Tt (aa (pv 7) ac)) ac)))))))
  (ai (av (aO (aa (pv 1) (aa (pv 2) (aa (pcF T.g_32 (dF T 5) hr (aa (pcF T.g_29 (bP T) hr (aa (pv 0) (aa af ac))) (aa (pv 2) (aa (pv 3) (aa af (aa af ac)))))) (aa (aR aL rfl T.n_7 Tt (aa (pv 5) ac)) ac)))))))))),?_⟩
 try dsimp only[ym,xW]
 have Bx:ins.length=yc.length:=SJ AM;have Gb:=gi.le;have Bp:((yc.map Ye).length:Int)=(ins.length:Int):=by rw[Sl,Bx]
 refine bX (λxS H'=>An2 (H=H') (xS=[A? (.int cell),A? (.ref ia),A? (.ref oa),A? (.int S),A? (.int deep),Am,Am,Am,Am])) (λkk hk=>?_) ?_
 .refine⟨_,D?,_,_,D?,D?,_,D?,?_⟩;refine cK (λc1=>?_) (λc1=>hk _ _ ⟨rfl,rfl⟩);exact⟨_,D?,_,_,D?,D?,⟨by decide,by decide⟩,_,D?,_,D?,_,D?,_,D?,_,ia,yc,ins,oa,yl,outs,S,deep,D?,ei,AM,gi,eo,Eg,go,Ol,HM,d0,d1,λr ha ra ya head rows H' s1 b1 b2=>q r ha ra ya head rows H' s1 b1 b2⟩
 rintro xS H' ⟨rfl,rfl⟩;refine⟨lnE rfl,λrl AI=>?_⟩;refine gU AI λH1 JM Gr=>?_;refine⟨_,D?,S,D?,by lia,by lia,?_⟩
 refine cO (n:=S.toNat) (λi Y H3=>Ex5 λ(sv rv kv:Option V)(ya:List So)(rows:List (List Th))=>An6 (Y=[A? (.int cell),A? (.ref ia),A? (.ref oa),A? (.int S),A? (.int deep),A? (.ref rl),sv,rv,kv]) (Zf H H3) (H3 rl=A? (.lst (ya.map Ye))) (Tc (RowAt H3) rows ya) (rows.length=i) (∀row∈rows,rO ins outs S deep.toNat row))
  ⟨Am,Am,Am,[],[],rfl,JM,Gr,.nil,rfl,λt ht=>by cases ht⟩ ?_ ?_
 .rintro i Y H3 hi ⟨sv,rv,kv,ya,rows,rfl,s3,zE,yK,Cg,xV⟩;have Ff:i<S.toNat:=hi;have Cw:rows.length=ya.length:=SJ yK;refine⟨lnE rfl,λyq Al=>?_⟩;have Fz:H yq=none:=s3.free Al;have FA:yq≠rl:=λz=>by rw[z,zE]at Al;cases Al
  refine gU Al λH4 s4 Mu=>?_;refine⟨_,D?,ia,_,D?,.inr (Yg (s4 _ _ (s3 _ _ ei))),_,D?,by lia,by lia,?_⟩
  refine cO (n:=((yc.map Ye).length:Int).toNat) (λj Y H5=>Ex3 λ(kv:Option V)(bs:List So)(ts:List Th)=>An8 (Y=[A? (.int cell),A? (.ref ia),A? (.ref oa),A? (.int S),A? (.int deep),A? (.ref rl),A? (.int (0+(i:Int))),A? (.ref yq),kv]) (Zf H H5) (H5 rl=A? (.lst (ya.map Ye))) (KT H4 H5) (H5 yq=A? (.lst (bs.map Ye))) (Ats H5 ts bs) (ts.length=j) (∀(j:Nat)(t:Th)(k:SG×Int),ts[j]?=A? t->ins[j]?=A? k->t.FitS outs S k.2/\t.tall<=deep.toNat+1))
   ⟨kv,[],[],rfl,s3.trans s4,s4 _ _ zE,λ_ _ e=>e,Mu,.nil,rfl,λj t k h=>by simp at h⟩ ?_ ?_
  .rintro j Y H5 hj ⟨kv,bs,ts,rfl,s5,z9,BN,Dy,zV,yv,zJ⟩
   have Mv:j<ins.length:=by
    have:j<((yc.map Ye).length:Int).toNat:=hj;lia
   refine hid λZZ kZ=>?_;obtain⟨k0,zZ⟩:∃k0,ins[j]?=A? k0:=⟨_,Sn Mv⟩;obtain⟨ka,zh,yZ⟩:=Yo AM zZ;refine kZ ?_;have Cu:=gi.num k0 (Sv zZ);have yx:atI (yc.map Ye) (0+(j:Int))=A? (.ref ka):=at_nonneg (by lia) (by rw[show(0+(j:Int)).toNat=j by lia,Sx,zh];rfl);refine⟨_,D?,.inl ⟨D?,_,Zg Dy⟩,_,D?,_,D?,_,_,D?,D?,.inl ⟨by decide,by decide⟩,_,D?,_,_,D?,D?,_,_,D?,D?,_,_,D?,by lia,by lia,λr2 _ _=>?_⟩;refine⟨_,D?,_,D?,_,D?,_,D?,ia,_,_,.ref ka,D?,D?,Yg (s5 _ _ ei),yx,ka,_,1,_,D?,D?,Yg (s5 _ _ yZ),at1,_,D?,r2,oa,yl,outs,S,k0.2,deep,D?,s5 _ _ eo,Eg.mono (Ze s5),go,d0,by lia,λt r H6 s6 yx xU yJ=>?_⟩;have IJ:=s6 _ _ Dy;have zU:=s6 _ _ z9;have Ak:KT H5 H6:=Ze s6;have FC:Zf H H6:=s5.trans s6;have AR:bs.length=ts.length:=zV.length;refine⟨yq,_,_,D?,D?,IJ,lbE (by lia),?_⟩;have kt:KT H6 (upd H6 yq (.lst (bs.map Ye++[.ref r]))):=aU IJ;refine⟨_,bs++[r],ts++[t],D?,aJ FC Fz,by rw[aj FA.symm];exact zU,BN.trans (Ak.trans kt),?_,?_,?_,?_⟩
   .rw[ad,SI];rfl
   .exact(zV.mono (Ak.trans kt)).append (.cons (yx.mono kt) .nil)
   .rw[SD,yv];rfl
   .intro j' t' k' BE yp;by_cases C4:j'<ts.length
    .rw[Ts C4]at BE;exact zJ j' t' k' BE yp
    .rw[T5 (by lia)]at BE
     have Dm:j' - ts.length=0:=by
      have:=(T2.mp BE).1;simp at this;lia
     rw[Dm]at BE;cases BE;have:j'=j:=by lia
     subst this;rw[zZ]at yp;cases yp;exact⟨xU,yJ⟩
  .rintro Y H5 ⟨kv,bs,ts,rfl,s5,z9,BN,Dy,zV,yv,zJ⟩;refine⟨_,D?,.inl ⟨D?,_,Zg z9⟩,_,D?,yq,_,D?,.inl ⟨Zg Dy,λtp yP=>?_⟩⟩;refine gU yP λH6 s6 e6=>?_;have zU:=s6 _ _ z9;refine⟨rl,_,_,D?,D?,zU,lbE (by lia),?_⟩;have kt:KT H6 (upd H6 rl (.lst (ya.map Ye++[.ref tp]))):=aU zU;have Mw:KT H3 (upd H6 rl (.lst (ya.map Ye++[.ref tp]))):=(Ze s4).trans (BN.trans ((Ze s6).trans kt));refine⟨_,_,_,ya++[tp],rows++[ts],D?,aJ (s5.trans s6) AI,?_,?_,?_,?_⟩
   .rw[ad,SI];rfl
   .exact Zj (Zk (λ_ _ e=>Yn Mw e) yK) (.cons ⟨bs,kt _ _ e6,zV.mono ((Ze s6).trans kt)⟩ .nil)
   .rw[SD,Cg];rfl
   .intro row xZ;rcases S6.mp xZ with xZ|xZ
    .exact xV row xZ
    .rw[Sz.mp xZ];exact⟨by rw[yv];lia,zJ⟩
 .rintro Y H3 ⟨sv,rv,kv,ya,rows,rfl,s3,zE,yK,Cg,xV⟩;have Cw:rows.length=ya.length:=SJ yK;refine⟨_,D?,_,D?,_,D?,_,_,D?,by decide,by decide,λr2 _ _=>?_⟩;refine⟨_,D?,_,D?,r2,oa,yl,outs,S,1,1,D?,s3 _ _ eo,Eg.mono (Ze s3),go,by decide,by decide,λt ha H6 s6 yx xU yJ=>?_⟩;have zU:=s6 _ _ zE;have Ak:KT H3 H6:=Ze s6;have FC:Zf H H6:=s3.trans s6;refine⟨_,D?,rl,_,D?,.inl ⟨Zg zU,λra Mx=>?_⟩⟩;refine gU Mx λH7 s7 e7=>?_;refine⟨lnE rfl,λr z7=>?_⟩;have s8:Zf H7 (upd H7 r (.tup [.ref ia,.ref oa,.ref ha,.ref ra])):=ag z7 _;have sA:=FC.trans (s7.trans s8);refine q r ha ra ya t rows _ sA ⟨ad,sA _ _ ei,AM.mono (Ze sA),sA _ _ eo,Eg.mono (Ze sA),yx.mono (Ze (s7.trans s8)),s8 _ _ e7,Zk (λ_ _ e=>Yn (Ak.trans (Ze (s7.trans s8))) e) yK⟩ ⟨by rw[Cg];lia,xV,xU,yJ⟩
def EH(H:Hp)(t:Th)(a:So):Prop:=∃ta,H a=A? (.tup [.ref ta,.int (t.tall:Nat)])/\At H t ta
theorem EH.mono(k:KT H H'){t:Th}(h:EH H t a):EH H' t a:=by
 obtain⟨ta,h1,h2⟩:=h;exact⟨ta,k _ _ h1,h2.mono k⟩
theorem nE:∀{ts:List Th}{es:List So},Tc (EH H) ts es->∃yX:List So,Ats H ts yX/\yX.length=es.length/\∀(i:Nat)(e:So),es[i]?=A? e->∃ta t,yX[i]?=A? ta/\ts[i]?=A? t/\H e=A? (.tup [.ref ta,.int (t.tall:Nat)])
 |_,_,.nil=>⟨[],.nil,rfl,λi e h=>by simp at h⟩
 | _,_,.cons (a:=t) (b:=e) r h=>by
   refine hid λZZ kZ=>?_;obtain⟨ta,h1,h2⟩:=r;obtain⟨yX,g1,g2,g3⟩:=nE h;refine kZ ?_;refine⟨ta::yX,.cons h2 g1,by rw[SQ,SQ,g2],λi e' he=>?_⟩;cases i with
   | zero =>
     simp at he;subst he;exact⟨ta,t,D?,D?,h1⟩
   | succ i =>
     refine hid λZZ kZ=>?_;obtain⟨QR,t',q1,q2,q3⟩:=g3 i e' (by simpa using he);refine kZ ?_;exact⟨QR,t',by simpa using q1,by simpa using q2,q3⟩
theorem ki{M:Int}(h1:M∈(ts.map λt:Th=>((t.tall:Nat):Int))++[0])(h2:∀a∈(ts.map λt:Th=>((t.tall:Nat):Int))++[0],a<=M):M=((aK ts:Nat):Int):=by
 by_cases h:ts=[]
 .subst h;have:M=0:=by simpa using h1
  rw[this,aK];rfl
 .have h0:=h2 0 (by simp);obtain⟨t,ht,he⟩:=iJ h;have h3:=h2 _ (Tp _ (List.mem_map_of_mem (f:=λt:Th=>((t.tall:Nat):Int)) ht));rcases S6.mp h1 with h1|h1
  .obtain⟨u,hu,e⟩:=Tj.mp h1;have:=bW hu;lia
  .have h4:M=0:=Sz.mp h1;have h5:t.tall=0:=by lia
   cases t with
   |knot n ks=>rw[Yi]at h5;lia
   |call a b=>rw[Yi]at h5;lia
inductive ib(vs:List V)(H:Hp)(Q:VK)(_E:XK):Prop
 |mk (ka kl:So) (k0:SG×Int) (es:List So) (ts:List Th):vs=[.ref ka,.ref kl]->KAt H k0 ka->k0.1≠q->H kl=A? (.lst (es.map Ye))->Tc (EH H) ts es->ts.length<=1000->(∀(r:So)(H':Hp),Zf H H'->EH H' (.knot k0.1 ts) r->Q (.ref r) H')->ib  vs H Q _E
theorem dN:FnOk P w K mg base CX0 1 T.g_37.f T.g_37.d ["kind","kids"] ib:=by
 refine T.g_37.F.okA il λxX A outer s H vs Q E hr h=>?_;obtain⟨ka,kl,k0,es,ts,rfl,yZ,hq,Gs,zL,hlen,q⟩:=h
 refine⟨_,(ae (ak 2 il.nd (ap bA af (aw (lU rfl) rfl T.n_3 V3 (aa (ap i6 (cz (N:=["kid"]) (js:=[Am]) (g:=(aE 0)) (tt:=bv) (te:=(tOp (iQ K) (bC 0) (tC (.int 1)))) rfl (cF rfl (by decide +kernel) (by decide +kernel) rfl rfl rfl) (cJ (pv 1)) (λ_ _ _ _ _ _=>(pgN 0 wo)) (bf rfl) (λ_ _ _ _ _ _=>bH) (λ_ _ _ _ _ _=>(au aq (pv 0) af (λ_ _=>rfl)))) (aZ (aa af ac))) ac))))
  (ai (av (aO (aa (ap hW (aO (aa (au aq (pv 0) af (λ_ _=>rfl)) ac)) (aR aL rfl T.n_7 Tt (aa (cz (N:=["kid"]) (js:=[Am]) (g:=(aE 0)) (tt:=bv) (te:=(tOp (iQ K) (bC 0) (tC (.int 0)))) rfl (cF rfl (by decide +kernel) (by decide +kernel) rfl rfl rfl) (cJ (pv 1)) (λ_ _ _ _ _ _=>(pgN 0 wo)) (bf rfl) (λ_ _ _ _ _ _=>bH) (λ_ _ _ _ _ _=>(au aq (pv 0) af (λ_ _=>rfl)))) ac))) (aa (pv 2) ac)))))),?_⟩
 try dsimp only[ym,xW]
 have FD:ts.length=es.length:=SJ zL;refine⟨_,D?,kl,D?,⟨_,Zg Gs⟩,dM ts (λt:Th=>Yh (t.tall:Nat)) (Zg Gs) (by rw[Sl];exact FD) (by rw[Sl];lia) (λi x z H2 R W' hx hz s2 hR=>?_) (λD H1 hD s1 e1=>?_)⟩
 .refine hid λZZ kZ=>?_;obtain⟨e,rfl,he⟩:=aT hx;obtain⟨t,ht,ta,h1,_⟩:=Zo zL he;refine kZ ?_;rw[hz]at ht;cases ht;exact⟨_,D?,e,_,1,.int (z.tall:Nat),D?,D?,Yg (s2 _ _ h1),at1,hR H2 (.refl _)⟩
 refine⟨lnE rfl,λzl Ce=>?_⟩;have s2:=ag Ce (.lst [.int 0]);refine⟨D,zl,_,_,D?,D?,s2 _ _ e1,ad,bi (by rw[Sl];show ts.length+1<=1000000;lia),λcl yw=>?_⟩;have s3:Zf H _:=s1.trans (s2.trans (ag yw (.lst (ts.map (λt:Th=>Yh (t.tall:Nat))++[.int 0]))))
 have e3:(upd (upd H1 zl (.lst [.int 0])) cl (.lst (ts.map (λt:Th=>Yh (t.tall:Nat))++[.int 0]))) cl=A? (.lst (((ts.map λt:Th=>((t.tall:Nat):Int))++[0]).map Yh)):=by
  rw[ad,SI,Ur];rfl
 generalize(upd (upd H1 zl (.lst [.int 0])) cl (.lst (ts.map (λt:Th=>Yh (t.tall:Nat))++[.int 0])))=H3 at s3 e3 |-;refine⟨cl,(ts.map λt:Th=>((t.tall:Nat):Int))++[0],D?,Zg e3,by simp,λM hM FE=>⟨_,_,D?,D?,?_⟩⟩;have My:=ki hM FE;subst My;have zW:=s3 _ _ yZ;refine⟨_,D?,ka,_,0,.str k0.1,D?,D?,Yg zW,at0,lnE rfl,λp1 B8=>?_⟩;have s4:=s3.trans (ag B8 (.tup [.str k0.1]));have e4:(upd H3 p1 (.tup [.str k0.1])) p1=A? (.tup [.str k0.1]):=ad;generalize(upd H3 p1 (.tup [.str k0.1]))=H4 at s4 e4 |-;refine hid λZZ kZ=>?_;obtain⟨yX,y8,yv,Mz⟩:=nE (Zk (λ_ _ e=>EH.mono (Ze s4) e) zL);refine kZ ?_;have IK:=s4 _ _ Gs;refine⟨_,D?,kl,D?,⟨_,Zg IK⟩,dM yX Ye (Zg IK) (by rw[Sl];exact yv) (by rw[Sl];lia) (λi x z H5 R W' hx hz s5 hR=>?_) (λD5 H5 Oo s5 e5=>?_)⟩
 .refine hid λZZ kZ=>?_;obtain⟨e,rfl,he⟩:=aT hx;obtain⟨ta,t,g1,_,g3⟩:=Mz i e he;refine kZ ?_;rw[hz]at g1;cases g1;exact⟨_,D?,e,_,0,.ref z,D?,D?,Yg (s5 _ _ g3),at0,hR H5 (.refl _)⟩
 refine⟨D5,_,D?,.inl ⟨Zg e5,λtp yP=>?_⟩⟩;refine gU yP λH6 s6 e6=>?_;refine rh (s6 _ _ (s5 _ _ e4)) e6 (by rw[Sl];show 1+yX.length<=1000000;lia) λp H7 s7 e7=>?_;refine⟨_,D?,lnE rfl,λr z7=>?_⟩;have s8:=ag z7 (.tup [.ref p,.int (1+((aK ts:Nat):Int))]);have Oq:=s5.trans (s6.trans (s7.trans s8));refine q r _ (s4.trans Oq) ⟨p,?_,?_⟩
 .rw[ad,Yi];congr 4;simp;lia
 .rw[At];exact⟨hq,yX,s8 _ _ e7,y8.mono (Ze Oq)⟩
theorem tj{c:TT}{K:Bool->Hp->Prop}(R:Bool->Hp->Prop)(h1:∀k:Bool->Hp->Prop,(∀b H',R b H'->k b H')->c Y H k)(h2:∀b H',R b H'->K b H'):c Y H K:=h1 K h2
theorem ow{kr:So}{yn:List So}{ks:List (SG×Int)}(p:SG×Int->Bool)(e:H kr=A? (.tup (yn.map Ye)))(zp:KsAt H ks yn)(hl:ks.length<=1000)
 (EC:∀(z:SG×Int)(ka:So)(H2:Hp)(R:Bool->Hp->Prop),Zf H H2->KAt H2 z ka->R (p z) H2->tt ((cσ js Y).set 0 (A? (.ref ka))) H2 R)
 (ED:∀(ka:So)(H2:Hp)(R:VK),R (.ref ka) H2->te ((cσ js Y).set 0 (A? (.ref ka))) H2 R)
 (q:∀(D:So)(bs:List ((SG×Int)×So))(H':Hp),H D=Am->H'=upd H D (.lst (bs.map λz=>Ye z.2))->bs.length<=ks.length->(∀z∈bs,z.1∈ks/\p z.1=B?/\KAt H z.1 z.2)->fin D H') :
 ∀D,H D=Am->∃(n:Nat)(W:Nat->Hp->Prop),W 0 (upd H D (.lst []))/\fC js (aE 0) tt te Y (Itt K kr) D n W λH'=>fin D H':=by
 have Ab:ks.length=yn.length:=SJ zp;have Ce:(ks.zip yn).length=ks.length:=by rw[VL];lia
 have IA:∀(i:Nat)(x:V)(z:(SG×Int)×So),(yn.map Ye)[i]?=A? x->(ks.zip yn)[i]?=A? z->x=.ref z.2:=λi x z hx hz=>by
  obtain⟨ka,rfl,zh⟩:=aT hx;obtain⟨h1,h2⟩:=UB.mp hz;rw[zh]at h2;cases h2;rfl
 refine jj (ks.zip yn) (λz=>p z.1) (λz=>.ref z.2) (Yg e) (by rw[Ce,Sl];exact Ab) (by rw[Sl];lia) (λi x z H2 R hx hz sm r=>?_) (λi x z H2 R hx hz _ sm r=>?_) (λD hD=>?_)
 .rw[IA i x z hx hz];have:=(gZ zp z (Sv hz)).2;exact EC z.1 z.2 H2 R sm (sm _ _ this) r
 .rw[IA i x z hx hz];exact ED z.2 H2 R r
 .refine q D _ _ hD rfl ?_ ?_
  .exact Td (W9 _ _) (by lia)
  .intro z hz;obtain⟨h1,h2⟩:=Wh.mp hz;obtain⟨h3,h4⟩:=gZ zp z h1;exact⟨h3,h2,h4⟩
theorem jF(h:n<=xs.length):cL xs Am (A? (n:Int))=xs.take n:=by
 unfold cL;rw[Zl,Zp,VI h,XH,US]
theorem tD{u:Th}(h:u∈ts):u.size<=am ts:=by
 induction ts with
 |nil=>cases h
 | cons v ts ih =>
   rw[am];rcases SR.mp h with rfl|h
   .lia
   .have:=ih h;lia
inductive ij(K:Ss)(vs:List V)(H:Hp)(Q:VK)(_E:XK):Prop
 |mk (cl ia:So) (xs:List V) (yc:List So) (ins:List (SG×Int)):vs=[.ref cl,.ref ia]->H cl=A? (.lst xs)->(∀v∈xs,∃z,v=.int z)->xs.length<=61->H ia=A? (.tup (yc.map Ye))->KsAt H ins yc->aB ins->(∀(t:Th)(r:So)(H':Hp),Zf H H'->At H' t r->t.Fit ins->t.tall<=80->t.size<=1000->Q (.ref r) H')->ij K vs H Q _E
theorem mW:FnOk P w K mg base CX0 2 T.g_38.f T.g_38.d ["cells","ins"] (ij K):=by
 refine T.g_38.F.okA ba λxX A outer s H vs Q E hr h=>?_;obtain⟨cl,ia,xs,yc,ins,rfl,Ot,hint,Hu,ei,AM,gi,q⟩:=h
 refine⟨_,(ae (ak 2 ba.nd (pcF T.g_37 (dN T) hr (aa (pcF T.g_31 (fz T) hr (aa (pv 1) (aa (aw ar rfl T.n_1 S8 (aa (pv 0) ac)) ac))) (aa (aZ ac) ac))))
  (ae (gf (i:=3) (N:=["kind"]) (js:=[Am]) (g:=(aE 0)) (tt:=(nM (tOp (rI0 λi j=>.bl (decide (j<i))) (tOp (iQ K) (bC 0) (tC (.int 1))) (tC (.int 1))))) (te:=(bC 0)) ba.nd rfl (WT rfl) rfl (cF rfl (by decide +kernel) (by decide +kernel) rfl rfl rfl) (d3 (pv 1)) (λ_ _ _ _ _ _=>(pgN 0 sk)) (bf rfl) (λ_ _ _ _ _ _=>jJ (aF cW (au aq (pv 0) af (λ_ _=>rfl)) af (aI _))) (λ_ _ _ _ _ _=>(pv 0)))
  (ae (ak 4 ba.nd (aZ ac))
  (ae (cE Tw rfl (cJ (bd f8 (pv 0) bw (bq af))) (pgN 5 ba.nd) (ae (ak 6 ba.nd (pcF T.g_29 (bP T) hr (aa (pv 5) (aa (aw ar rfl T.n_1 S8 (aa (pv 4) ac)) ac))))
  (ae (ak 7 ba.nd (au aq (pv 1) (ap bB (pv 6) (aw ar rfl T.n_1 S8 (aa (pv 1) ac))) (λ_ _=>rfl)))
  (ae (ak 8 ba.nd (pcF T.g_37 (dN T) hr (aa (pv 7) (aa (ap vK (bd f8 (pv 4) (bq (aw (lI rfl) rfl T.n_3 V3 (aa af (aa (ap gG (aw ar rfl T.n_1 S8 (aa (pv 4) ac)) (au aq (pv 7) af (λ_ _=>rfl))) ac)))) bw) (aR iT rfl T.n_0 W7 (aa (d5 cW (au aq (pv 7) af (λ_ _=>rfl)) af (aI _)) ac))) ac))))
  (ai (bU (PW.pt (nk (aF cW (au aq (pv 7) af (λ_ _=>rfl)) (aw ar rfl T.n_1 S8 (aa (pv 4) ac)) (aI _)) (kj (aF cW (au aq (pv 8) af (λ_ _=>rfl)) af (aI _))))) (ai (aY (bN SK S5 S4 aM (pv 4) (aa (pcF T.g_37 (dN T) hr (aa (pcF T.g_31 (fz T) hr (aa (pv 1) (aa (ap b9 (pv 6) af) ac))) (aa (aZ ac) ac))) ac)))) (ai (ak 4 ba.nd (ap i6 (bd f8 (pv 4) bw (bq (ap gG (aw ar rfl T.n_1 S8 (aa (pv 4) ac)) (au aq (pv 7) af (λ_ _=>rfl))))) (aZ (aa (pv 8) ac)))))))))))
  (ae (dD Tw (PW.pt (jb (aF cW (aw ar rfl T.n_1 S8 (aa (pv 4) ac)) af (aI _)) (jI (aF cW (aw ar rfl T.n_1 S8 (aa (pv 3) ac)) af (aI _))))) (ae (ak 7 ba.nd (au cw (pv 3) (ap bB (aw ar rfl T.n_1 S8 (aa (pv 4) ac)) (aw ar rfl T.n_1 S8 (aa (pv 3) ac))) (λ_ _=>rfl)))
  (ai (ak 4 ba.nd (ap i6 (bd f8 (pv 4) (bq (au aq (pv 7) af (λ_ _=>rfl))) bw) (aZ (aa (pcF T.g_37 (dN T) hr (aa (pv 7) (aa (bd f8 (ap i6 (pv 4) (aZ (aa (pv 2) (aa (pv 2) ac)))) bw (bq (au aq (pv 7) af (λ_ _=>rfl)))) ac))) ac)))))))
  (ai (av (au aq (au cw (ap i6 (pv 4) (aZ (aa (pv 2) ac))) (aw (lI rfl) rfl T.n_3 V3 (aa af (aa (ap gG (aw ar rfl T.n_1 S8 (aa (pv 4) ac)) af) ac))) (λ_ _=>rfl)) af (λ_ _=>rfl))))))))),?_⟩
 try dsimp only[ym,xW]
 have Bx:ins.length=yc.length:=SJ AM;have Gb:=gi.le;have RW:=gi.ne
 have Br:∀k0:SG×Int,k0∈ins->k0.2=0->(Yk k0.1 []).Fit ins:=λk0 hm hz=>by
  rw[Zn,Fits];refine⟨?_,trivial⟩;have:(k0.1,((([]:List Th).length:Nat):Int))=k0:=Wo rfl hz.symm;rw[this];exact hm
 refine⟨_,D?,_,D?,cl,_,D?,.inl (Zg Ot),ia,yc,ins,_,D?,ei,AM,gi,λk0 ka H1 s1 zS EA yZ=>?_⟩;refine⟨lnE rfl,λel FD=>?_⟩;have s2:=s1.trans (ag FD (.lst []));refine⟨ka,el,k0,[],[],D?,ag FD _ _ _ yZ,lz (gi.low k0 zS).1,ad,.nil,Tn _,λlf H2 Ou Bi=>?_⟩;have AL:Zf H H2:=s2.trans Ou;have Cy:=Br k0 zS EA;have MC:(Yk k0.1 []).tall<=1:=by rw[Yi,aK];exact Su _
 have MD:(Yk k0.1 []).size<=1:=by rw[Zi,am];exact Su _
 generalize Yk k0.1 []=zt at Bi Cy MC MD;clear s2 Ou yZ zS EA s1 FD
 have ME:=AL _ _ ei;have IL:=AM.mono (Ze AL);refine⟨_,D?,ia,D?,⟨_,Yg ME⟩,ow (K:=K) (λk=>decide (1<k.2)) ME IL (by lia) (λz ka H2 R sm hz r=>⟨_,D?,ka,_,1,_,D?,D?,Yg hz,at1,_,_,D?,D?,_,D?,r⟩) (λka H2 R r=>⟨_,D?,r⟩) (λwd bs H3 hD e' Ob yA=>?_)⟩;have s3:Zf H2 H3:=by rw[e'];exact ag hD _
 have QS:H3 wd=A? (.lst (bs.map λz=>Ye z.2)):=by rw[e'];exact ad
 clear e';refine⟨lnE rfl,λEh IM=>?_⟩;have MF:=s3 _ _ (AL _ _ Ot);have s4:Zf H3 (upd H3 Eh (.lst [])):=ag IM _;refine⟨_,D?,_,D?,cl,_,D?,Zg (s4 _ _ MF),λcc zK=>?_⟩;have Ov:Eh≠cc:=λz=>by rw[<-z,ad]at zK;cases zK
 have s5:Zf H3 (upd (upd H3 Eh (.lst [])) cc (.lst (cL xs Am (A? 96)))):=s4.trans (ag zK _);have z9:(upd (upd H3 Eh (.lst [])) cc (.lst (cL xs Am (A? 96)))) Eh=A? (.lst []):=by rw[aj Ov,ad]
 have JN:(upd (upd H3 Eh (.lst [])) cc (.lst (cL xs Am (A? 96)))) cc=A? (.lst (cL xs Am (A? 96))):=ad;generalize(upd (upd H3 Eh (.lst [])) cc (.lst (cL xs Am (A? 96))))=H5 at s5 z9 JN |-;have Ei:∀v∈cL xs Am (A? 96),∃z,v=.int z:=λv hv=>hint v (Vw (U2 hv));have yw:=fF xs Am (A? 96);generalize cL xs Am (A? 96)=ys at JN Ei yw |-;have MG:=Bi.mono (Ze s3);have sb:Zf H H3:=AL.trans s3;have Ow:=sb _ _ ei;have IP:=AM.mono (Ze sb)
 have MH:∀z∈bs,z.1∈ins/\1<z.1.2/\KAt H3 z.1 z.2:=λz hz=>by
  obtain⟨h1,h2,h3⟩:=yA z hz;exact⟨h1,Zc h2,s3 _ _ h3⟩
 clear yA Bi IL ME s4;refine⟨cc,D?,⟨_,Zg JN⟩,?_⟩
 refine dY (K:=K) (a:=cc) (xs:=ys) (λi Y H6=>Ex7 λ(yq:So)(es:List So)(ts:List Th)(c5 c6 c7 c8:Option V)=>wF (Y=[A? (.ref cl),A? (.ref ia),A? (.ref lf),A? (.ref wd),A? (.ref yq),c5,c6,c7,c8]) (Zf H3 H6) (H3 yq=Am) (yq≠cc) (H6 cc=A? (.lst ys)) (H6 yq=A? (.lst (es.map Ye))) (Tc (EH H6) ts es) ((∀t∈ts,t.Fit ins)) ((∀t∈ts,t.tall<=20)) (ts.length<=i) (am ts<=i))
  ⟨Eh,[],[],Am,Am,Am,Am,rfl,s5,IM,Ov,JN,z9,.nil,(λt ht=>by cases ht),(λt ht=>by cases ht),Su _,by rw[am];exact Su _⟩ (λi Y H6 _⟨_,_,_,_,_,_,_,_,_,_,_,h,_,_,_,_,_,_⟩=>Zg h) ?_ ?_
 .rintro i x Y H6 hx ⟨yq,es,ts,c5,c6,c7,c8,rfl,s6,Al,Dz,MI,erw,zL,xU,Dn,Ox,hsz⟩;obtain⟨c,rfl⟩:=Ei x (Sv hx);have F3:i<ys.length:=(glE hx);have FD:ts.length=es.length:=SJ zL;have MJ:((es.map Ye).length:Int)=(es.length:Int):=by rw[Sl]
  refine⟨_,D?,_,D?,yq,_,D?,.inl (Zg erw),_,_,D?,by lia,by lia,λrest r0 r1=>?_⟩;have Oy:=s6 _ _ Ow;have m0:=Tv rest (show((yc.map Ye).length:Int)≠0 by rw[Sl];lia);have m1:=Tu rest (show(0:Int)<((yc.map Ye).length:Int)by rw[Sl];lia);refine hid λZZ kZ=>?_;obtain⟨k0,zZ⟩:∃k0,ins[(rest%((yc.map Ye).length:Int)).toNat]?=A? k0:=⟨_,Sn (by rw[Sl]at m0 m1 |-;lia)⟩;obtain⟨ka,zh,zW⟩:=Yo IP zZ;refine kZ ?_;have zS:=Sv zZ;have Cu:=gi.num k0 zS;have yZ:=s6 _ _ zW;refine⟨_,D?,_,D?,_,D?,ia,_,D?,.inr (Yg Oy),_,_,D?,D?,(by show(0:Int)<((yc.map Ye).length:Int);rw[Sl];lia),ia,_,_,.ref ka,D?,D?,Yg Oy,at_nonneg m0 (gmE zh),?_⟩
  obtain⟨lo,Nm,QT⟩:∃lo:Nat,(if((es.map Ye).length:Int) - k0.2 > 0 then((es.map Ye).length:Int) - k0.2 else 0)=(lo:Int)/\lo=es.length - k0.2.toNat:=by
   refine⟨es.length - k0.2.toNat,?_,D?⟩;rw[MJ];split <;> lia
  have FG:cL (es.map Ye) (A? (lo:Int)) Am=(es.drop lo).map Ye:=by rw[lQ (by rw[Sl];lia),List.map_drop]
  refine⟨_,D?,_,D?,_,D?,yq,_,D?,.inl (Zg erw),_,D?,ka,_,1,_,D?,D?,Yg yZ,at1,_,_,D?,D?,_,_,D?,_,D?,yq,_,D?,Zg erw,λQU DK=>?_⟩;dsimp only;rw[Nm,FG];refine gU DK λH7 sA eA=>?_
  have MK:(TJ (if decide ((0:Int)<k0.2)=B? then(1:Int)else 0).toNat ((es.drop lo).map Ye)).flatten=(es.drop lo).map Ye:=by
   by_cases hc:(0:Int)<k0.2
   .rw[Yc hc];simp
   .have:es.drop lo=[]:=List.drop_eq_nil_of_le (by lia);rw[this];simp
  have ML:(if decide ((0:Int)<k0.2)=B? then(1:Int)else 0)=0\/(if decide ((0:Int)<k0.2)=B? then(1:Int)else 0)=1:=by split <;> simp
  refine⟨_,D?,ka,_,1,_,D?,D?,Yg (sA _ _ yZ),at1,_,_,D?,D?,.inr ⟨_,D?,QU,_,_,D?,D?,eA,by lia,by lia,bi ?_,λrp QV=>?_⟩⟩
  .have:((es.drop lo).map Ye).length<=1000:=by rw[Sl,Tz];lia
   rcases ML with z|z <;> rw[z] <;> simp <;> lia
  dsimp only;rw[MK];have sB:=sA.trans (ag QV (.lst ((es.drop lo).map Ye)));have eB:(upd H7 rp (.lst ((es.drop lo).map Ye))) rp=A? (.lst ((es.drop lo).map Ye)):=ad;generalize(upd H7 rp (.lst ((es.drop lo).map Ye)))=H8 at sB eB |-;refine⟨ka,rp,k0,es.drop lo,ts.drop lo,D?,sB _ _ yZ,lz (gi.low k0 zS).1,eB,Zk (λ_ _ e=>EH.mono (Ze sB) e) (P2.drop lo zL),by rw[Tz];lia,λmd H9 s9 JO=>?_⟩;have BF:Zf H6 H9:=sB.trans s9;have BG:=BF _ _ erw;have FH:=BF _ _ MI;have IQ:=BF _ _ yZ;have DA:=Zk (λ_ _ e=>EH.mono (Ze BF) e) zL;have IT:=s6.trans BF;obtain⟨RX,QW,RY⟩:=id JO;dsimp only[aE];refine cX (λb H'=>An2 (H9=H') ((b=C?->k0.2<=(es.length:Int)/\(Yk k0.1 (ts.drop lo)).tall<=20))) (λk2 yM=>?_) (λH' hb=>?_) (λH' hb=>?_)
  .refine⟨_,D?,ka,_,1,_,D?,D?,Yg IQ,at1,_,D?,yq,_,D?,.inl (Zg BG),_,_,D?,D?,_,D?,?_⟩;refine cK (λc1=>yM _ _ ⟨rfl,λz=>by cases z⟩) (λc1=>?_);refine⟨_,D?,md,_,1,_,D?,D?,Yg QW,at1,_,_,D?,D?,_,D?,yM _ _ ⟨D?,λz2=>⟨?_,?_⟩⟩⟩
   .have:¬((es.map Ye).length:Int)<k0.2:=λz=>c1 (Yc z);lia
   .have:=of_decide_eq_false z2;lia
  .obtain⟨rfl,_⟩:=hb;refine⟨_,D?,.inl ⟨D?,_,Zg BG⟩,_,D?,_,D?,_,_,D?,D?,⟨by decide,by decide⟩,ia,yc,ins,_,D?,IT _ _ Ow,IP.mono (Ze IT),gi,λk1 Cc Ez Bv E3 Gi MM=>?_⟩;refine⟨lnE rfl,λel IU=>?_⟩;refine⟨Cc,el,k1,[],[],D?,ag IU _ _ _ MM,lz (gi.low k1 E3).1,ad,.nil,Tn _,λl2 DI GS Bj=>?_⟩;have sC:Zf H9 DI:=Bv.trans ((ag IU _).trans GS);refine⟨yq,_,_,D?,D?,sC _ _ BG,lbE (by lia),?_⟩;have kt:KT DI (upd DI yq (.lst (es.map Ye++[.ref l2]))):=aU (sC _ _ BG);refine⟨yq,es++[l2],ts++[.knot k1.1 []],_,_,_,_,D?,aJ (IT.trans sC) Al,Al,Dz,by rw[aj Dz.symm];exact sC _ _ FH,uAE,Zj (Zk (λ_ _ e=>EH.mono ((Ze sC).trans kt) e) DA) (.cons (Bj.mono kt) .nil),λt ht=>?_,λt ht=>?_,by rw[SD];show ts.length+1<=i+1;lia,by rw[aG,am,am,Zi,am];lia⟩
   rotate_left
   .rcases S6.mp ht with ht|ht
    .exact Dn t ht
    .rw[Sz.mp ht,Yi,aK];decide
   rcases S6.mp ht with ht|ht
   .exact xU t ht
   .rw[Sz.mp ht];exact Br k1 E3 Gi
  .obtain⟨rfl,hb⟩:=hb;obtain⟨hle,CK⟩:=hb rfl;have hn:(((es.map Ye).length:Int) - k0.2)=(lo:Int):=by rw[MJ];lia
   refine⟨_,D?,_,D?,yq,_,D?,.inl (Zg BG),_,D?,ka,_,1,_,D?,D?,Yg IQ,at1,_,_,D?,D?,_,D?,yq,_,D?,Zg BG,λQX DG=>?_⟩;dsimp only;rw[hn,jF (by rw[Sl];lia)];refine gU DG λEz sC eC=>?_;refine⟨_,D?,lnE rfl,λMN DB=>?_⟩;have sD:=sC.trans (ag DB (.lst [.ref md]));refine⟨QX,MN,_,_,D?,D?,ag DB _ _ _ eC,ad,bi (by rw[S9,Sl];show min lo es.length+1<=1000000;lia),λnr JP=>?_⟩;have sE:=sD.trans (ag JP (.lst ((es.map Ye).take lo++[.ref md])));have FI:H9 nr=none:=sD.free JP;have zc:am (ts.take lo)+am (ts.drop lo)=am ts:=by rw[<-aG,UT]
   refine⟨nr,es.take lo++[md],ts.take lo++[.knot k0.1 (ts.drop lo)],_,_,_,_,D?,IT.trans sE,IT.free FI,(λz=>by rw[z,FH]at FI;cases FI),sE _ _ FH,by rw[ad,SI,List.map_take];rfl,Zj (Zk (λ_ _ e=>EH.mono (Ze sE) e) (P2.take lo DA)) (.cons (JO.mono (Ze sE)) .nil),λt ht=>?_,λt ht=>?_,by rw[SD,S9];show min lo ts.length+1<=i+1;lia,by rw[aG,am,am,Zi];lia⟩
   rotate_left
   .rcases S6.mp ht with ht|ht
    .exact Dn t (U2 ht)
    .rw[Sz.mp ht];exact CK
   rcases S6.mp ht with ht|ht
   .exact xU t (U2 ht)
   .rw[Sz.mp ht,Zn];refine⟨?_,Fits.of λu hu=>xU u (Vw hu)⟩;have:(k0.1,((ts.drop lo).length:Int))=k0:=Wo rfl (by show(((ts.drop lo).length:Nat):Int)=k0.2;rw[Tz];lia);rw[this];exact zS
 .rintro Y H6 ⟨yq,es,ts,c5,c6,c7,c8,rfl,s6,Al,Dz,MI,erw,zL,xU,Dn,Ox,hsz⟩;have FJ:ts.length<=1000:=by lia
  have MO:ts.length=es.length:=SJ zL
  have Gu:∀t∈ts,t.tall+es.length<=81:=λt ht=>by
   have:=Dn t ht;lia
  have Cz:es.length<=61:=by lia
  have MP:am ts+4 * es.length<=400:=by lia
  clear Ox MI Dz Dn MO hsz;refine⟨λm Y H6=>Ex7 λ(yq:So)(es:List So)(ts:List Th)(c5 c6 c7 c8:Option V)=>qm (Y=[A? (.ref cl),A? (.ref ia),A? (.ref lf),A? (.ref wd),A? (.ref yq),c5,c6,c7,c8]) (Zf H3 H6) (H6 yq=A? (.lst (es.map Ye))) (Tc (EH H6) ts es) ((∀t∈ts,t.Fit ins)) ((∀t∈ts,t.tall+es.length<=81)) (es.length<=61) (ts.length<=1000) (am ts+4 * es.length<=400) (m=es.length),⟨_,yq,es,ts,c5,c6,c7,c8,D?,s6,erw,zL,xU,Gu,Cz,FJ,MP,D?⟩,?_⟩;clear s6 Al erw zL xU FJ Gu Cz MP;rintro m Y H6 ⟨yq,es,ts,c5,c6,c7,c8,rfl,s6,erw,zL,xU,Gu,Cz,FJ,MP,rfl⟩;have FD:ts.length=es.length:=SJ zL;have MJ:((es.map Ye).length:Int)=(es.length:Int):=by rw[Sl]
  have FK:=s6 _ _ QS;have BV:((bs.map λz=>Ye z.2).length:Int)=(bs.length:Int):=by rw[Sl]
  have Bi:=MG;refine tj (λb H'=>An2 (H6=H') ((b=B?->(1:Int)<((es.map Ye).length:Int)/\(0:Int)<((bs.map λz=>Ye z.2).length:Int)))) (λk2 yM=>?_) (λb H' hb=>?_)
  .refine⟨_,D?,yq,_,D?,.inl (Zg erw),_,_,D?,D?,_,D?,?_⟩;refine cK (λc1=>?_) (λc1=>yM _ _ ⟨rfl,λz=>Yd z SW⟩);exact⟨_,D?,wd,_,D?,.inl (Zg FK),_,_,D?,D?,_,D?,yM _ _ ⟨D?,λz=>⟨Zc c1,Zc z⟩⟩⟩
  obtain⟨rfl,hb⟩:=hb;cases b with
  | true =>
    obtain⟨Ko,Oz⟩:=hb rfl;refine nt ?_;refine⟨λxS H'=>∃m',m'<es.length/\Ex7 λ(yq:So)(es:List So)(ts:List Th)(c5 c6 c7 c8:Option V)=>qm (xS=[A? (.ref cl),A? (.ref ia),A? (.ref lf),A? (.ref wd),A? (.ref yq),c5,c6,c7,c8]) (Zf H3 H') (H' yq=A? (.lst (es.map Ye))) (Tc (EH H') ts es) ((∀t∈ts,t.Fit ins)) ((∀t∈ts,t.tall+es.length<=81)) (es.length<=61) (ts.length<=1000) (am ts+4 * es.length<=400) (m'=es.length),λxS H' h=>h,?_⟩;have m0:=Tv ((es.map Ye).length:Int) (show((bs.map λz=>Ye z.2).length:Int)≠0 by lia);have m1:=Tu ((es.map Ye).length:Int) Oz;refine hid λZZ kZ=>?_;obtain⟨z,hz⟩:∃z,bs[(((es.map Ye).length:Int)%((bs.map λz=>Ye z.2).length:Int)).toNat]?=A? z:=⟨_,Sn (by lia)⟩;obtain⟨zS,Ec,zW⟩:=MH z (Sv hz);obtain⟨k0,ka⟩:=z;refine kZ ?_;dsimp only at zS Ec zW hz;have Cu:=gi.num k0 zS;have yZ:=s6 _ _ zW;refine⟨_,D?,_,D?,yq,_,D?,.inl (Zg erw),_,D?,wd,_,D?,.inl (Zg FK),_,_,D?,D?,Oz,wd,_,_,.ref ka,D?,D?,Zg FK,at_nonneg m0 (gmE hz),?_⟩;obtain⟨kn,IC⟩:∃kn:Nat,k0.2=(kn:Int):=⟨k0.2.toNat,by lia⟩
    have FG:cL (es.map Ye) (A? (kn:Int)) Am=(es.drop kn).map Ye:=by
     by_cases hc:kn<=es.length
     .rw[lQ (by rw[Sl];exact hc),List.map_drop]
     .have h1:es.drop kn=[]:=List.drop_eq_nil_of_le (by lia);have h2:Yj (es.map Ye).length 0 (A? (kn:Int))=(es.map Ye).length:=by rw[Zl,Sl];lia
      unfold cL;rw[h1,h2,List.drop_length];simp
    refine⟨_,D?,_,D?,ka,_,1,_,D?,D?,Yg yZ,at1,_,D?,yq,_,D?,Zg erw,λdl B1=>?_⟩;dsimp only;rw[IC,FG];refine gU B1 λH7 sA eA=>?_;refine⟨_,D?,_,D?,_,D?,_,D?,lnE rfl,λll Mh=>?_⟩;have OA:=ag Mh (.lst [.ref lf,.ref lf]);have sB:=sA.trans OA;refine⟨yq,ll,_,_,D?,D?,sB _ _ erw,ad,bi (by rw[Sl];show es.length+2<=1000000;lia),λJQ Ar=>?_⟩;have MQ:=OA.trans (ag Ar (.lst (es.map Ye++[.ref lf,.ref lf])));have eC:(upd (upd H7 ll (.lst [.ref lf,.ref lf])) JQ (.lst (es.map Ye++[.ref lf,.ref lf]))) JQ=A? (.lst ((es++[lf,lf]).map Ye)):=by rw[ad,SI];exact rfl
    generalize(upd (upd H7 ll (.lst [.ref lf,.ref lf])) JQ (.lst (es.map Ye++[.ref lf,.ref lf])))=H8 at MQ eC |-;have sC:=sA.trans MQ;refine⟨_,D?,ka,_,1,_,D?,D?,Yg (sC _ _ yZ),at1,_,D?,JQ,_,D?,Zg eC,λtl yv=>?_⟩;have QY:(es++[lf,lf]).length=es.length+2:=by rw[SD];rfl
    dsimp only;rw[IC,jF (by rw[Sl];lia),<-List.map_take];have MR:=MQ.trans (ag yv (.lst (((es++[lf,lf]).take kn).map Ye)));have eD:(upd H8 tl (.lst (((es++[lf,lf]).take kn).map Ye))) tl=A? (.lst (((es++[lf,lf]).take kn).map Ye)):=ad;generalize(upd H8 tl (.lst (((es++[lf,lf]).take kn).map Ye)))=H9 at MR eD |-;have sD:=sA.trans MR;have IV:=Bi.mono (Ze (s6.trans sD));have DA:Tc (EH H9) (ts++[zt,zt]) (es++[lf,lf]):=Zj (Zk (λ_ _ e=>EH.mono (Ze sD) e) zL) (.cons IV (.cons IV .nil));refine⟨ka,tl,k0,(es++[lf,lf]).take kn,(ts++[zt,zt]).take kn,D?,sD _ _ yZ,lz (gi.low k0 zS).1,eD,P2.take kn DA,by rw[S9,SD];show min kn (ts.length+2)<=1000;lia,λmd Ez Bv JO=>?_⟩;have sE:=sD.trans Bv;have MS:=Bv _ _ (MR _ _ eA);refine⟨lnE rfl,λMN DB=>?_⟩;have sF:=ag DB (.lst [.ref md]);refine⟨dl,MN,_,_,D?,D?,sF _ _ MS,ad,bi (by rw[Sl,Tz];show es.length - kn+1<=1000000;lia),λnr JP=>?_⟩;have sG:=sF.trans (ag JP (.lst ((es.drop kn).map Ye++[.ref md])));have sH:=sE.trans sG
    have zT:am (ts.drop kn++[.knot k0.1 ((ts++[zt,zt]).take kn)])<=am ts+3:=by
     have h1:am (ts.take kn)+am (ts.drop kn)=am ts:=by rw[<-aG,UT]
     have h2:am ((ts++[zt,zt]).take kn)<=am (ts.take kn)+2:=by
      rw[List.take_append,aG];have h3:am ([zt,zt].take (kn - ts.length))+am ([zt,zt].drop (kn - ts.length))=am [zt,zt]:=by rw[<-aG,UT]
      rw[am,am,am]at h3;lia
     rw[aG,am,am,Zi];lia
    refine⟨(es.drop kn++[md]).length,?_,nr,es.drop kn++[md],ts.drop kn++[.knot k0.1 ((ts++[zt,zt]).take kn)],_,_,_,_,D?,s6.trans sH,uAE,Zj (Zk (λ_ _ e=>EH.mono (Ze sH) e) (P2.drop kn zL)) (.cons (JO.mono (Ze sG)) .nil),λt ht=>?_,λt ht=>?_,by rw[SD,Tz];show es.length - kn+1<=61;lia,by rw[SD,Tz];show ts.length - kn+1<=1000;lia,?_,D?⟩
    .rw[SD,Tz];show es.length - kn+1<es.length;lia
    rotate_left
    rotate_left
    .rw[SD,Tz];show _+4 * (es.length - kn+1)<=400;lia
    rotate_left
    .have Bj:(es.drop kn++[md]).length=es.length - kn+1:=by rw[SD,Tz];rfl
     rw[Bj];rcases S6.mp ht with ht|ht
     .have:=Gu t (Vw ht);lia
     .rw[Sz.mp ht,Yi]
      have h1:aK ((ts++[zt,zt]).take kn)<=81 - es.length:=je λu hu=>by
       rcases S6.mp (U2 hu)with hu|hu
       .have:=Gu u hu;lia
       .have:u=zt:=by
         rcases SR.mp hu with h|h
         .exact h
         .exact Sz.mp h
        rw[this];lia
      lia
    .rcases S6.mp ht with ht|ht
     .exact xU t (Vw ht)
     .rw[Sz.mp ht,Zn];refine⟨?_,Fits.of λu hu=>?_⟩
      .have:(k0.1,(((ts++[zt,zt]).take kn).length:Int))=k0:=Wo rfl (by
        show((((ts++[zt,zt]).take kn).length:Nat):Int)=k0.2;rw[S9,SD];show((min kn (ts.length+2):Nat):Int)=k0.2;lia)
       rw[this];exact zS
      .rcases S6.mp (U2 hu)with hu|hu
       .exact xU u hu
       .have:u=zt:=by
         rcases SR.mp hu with h|h
         .exact h
         .exact Sz.mp h
        rw[this];exact Cy
  | false =>
    refine kN ?_;refine⟨_,D?,_,D?,lnE rfl,λl1 Im=>?_⟩;have s7:=ag Im (.lst [.ref lf]);refine⟨yq,l1,_,_,D?,D?,s7 _ _ erw,ad,bi (by rw[Sl];show es.length+1<=1000000;lia),λcr G8=>?_⟩;have s8:=s7.trans (ag G8 (.lst (es.map Ye++[.ref lf])));have MT:=s8 _ _ erw;refine hid λZZ kZ=>?_
    obtain⟨e0,t0,FY,MU,QZ,Q0,Q1⟩:∃e0 t0,(es++[lf])[es.length - 1]?=A? e0/\EH H6 t0 e0/\t0.Fit ins/\t0.tall<=80/\t0.size<=1000:=by
     by_cases hz:es.length=0
     .refine⟨lf,_,?_,Bi.mono (Ze s6),Cy,by lia,by lia⟩;rw[Uj.mp hz];rfl
     .obtain⟨e0,FY⟩:∃e0,es[es.length - 1]?=A? e0:=⟨_,Sn (by lia)⟩;obtain⟨t0,MV,MU⟩:=Zo zL FY;exact⟨e0,t0,by rw[Ts (by lia)];exact FY,MU,xU t0 (Sv MV),by have:=Gu t0 (Sv MV);lia,by have:=tD (Sv MV);lia⟩
    obtain⟨OB,Q2,Lk⟩:=MU;refine kZ ?_
    have F3:atI (es.map Ye++[.ref lf]) (if((es.map Ye).length:Int) - 1 > 0 then((es.map Ye).length:Int) - 1 else 0)=A? (.ref e0):=by
     have hi:(if((es.map Ye).length:Int) - 1 > 0 then((es.map Ye).length:Int) - 1 else 0)=((es.length - 1:Nat):Int):=by
      rw[Sl];split <;> lia
     rw[hi];refine bQ ?_;have:es.map Ye++[Ye lf]=(es++[lf]).map Ye:=by rw[SI];rfl
     rw[this,Sx,FY];rfl
    refine⟨_,D?,yq,_,D?,.inl (Zg MT),_,_,D?,D?,_,_,D?,cr,_,_,.ref e0,D?,D?,Zg ad,F3,e0,_,0,.ref OB,D?,D?,Yg (s8 _ _ Q2),at0,?_⟩;exact q t0 OB _ ((sb.trans s6).trans s8) (Lk.mono (Ze s8)) QZ Q0 Q1
def qq(H:Hp)(o:Th)(r:So):Prop:=H r=A? (.tup [.int (o.size:Nat),.int (o.tall:Nat)])
def fw:Nat->Sp
 |0=>λ_ _ _ _=>False
 |n+1=>λvs H Q _=>∃(pa kl:So)(ins outs:List (SG×Int))(rows:List (List Th))(S C:Int)(p:Th)(nm:SG)(ks:List Th)(yn:List So)(o:Th),vs=[.ref pa,.ref kl]/\At H p pa/\H kl=A? (.lst (yn.map Ye))/\Tc (SzAt H ins rows) ks yn/\Out ins rows p (.knot nm ks) o/\p.tall<=n+1/\p.FitS outs S C/\aB outs/\∀(r:So)(H':Hp),Zf H H'->qq H' o r->Q (.ref r) H'
theorem fb:∀n:Nat,FnOk P w K mg base CX0 n T.g_39.f T.g_39.d ["pattern","kids"] (fw n)
 |0=>⟨λ_ _ _ _ h=>h.elim,λ_ _ _ _ _ _ _ _ _ _ _ _ _ h=>h.elim⟩
 | n+1=>by
   have ih:=fb n;refine T.g_39.F.ok im (λvs H Q E h=>?_) (λxX A outer s H vs Q E hr h=>?_)
   .obtain⟨pa,kl,ins,outs,rows,S,C,p,nm,ks,yn,o,rfl,_⟩:=h;rfl
   obtain⟨pa,kl,ins,outs,rows,S,C,p,nm,ks,yn,o,rfl,hA,Gs,zp,zI,yv,xU,go,k⟩:=h
   refine⟨_,(ae (bU (aF fG (au aq (pv 0) af (λ_ _=>rfl)) dX (aI _)) (ai (av (au cw (au cw (pv 1) (au aq (pv 0) af (λ_ _=>rfl)) (λ_ _=>rfl)) (au aq (pv 0) af (λ_ _=>rfl)) (λ_ _=>rfl)))) bp)
    (ae (gf (i:=2) (N:=["part","kids"]) (js:=[Am,A? 1]) (g:=(aE 0)) (tt:=bv) (te:=(fD (fw _) [] E0 (bG (bC 0) (bG (bC 1) fU)))) im.nd rfl (WT rfl) rfl (cF rfl (by decide +kernel) (by decide +kernel) rfl rfl rfl) (d3 (bd gI (pv 0) (bq af) bw)) (λ_ _ _ _ _ _=>(pgN 0 xH)) (bf rfl) (λ_ _ _ _ _ _=>bH) (λ_ _ _ _ _ _=>(bz (ih) (hr.mono (Su _)) rfl T.g_39.m T.g_39.F.kp T.g_39.b .nil dw (aa (pv 0) (aa (pv 1) ac)))))
    (ai (av (aO (aa (ap bA af (aw (qZ rfl) rfl T.n_6 PyProof.Rows.boot_sum (aa (cz (N:=["size"]) (js:=[Am]) (g:=(aE 0)) (tt:=bv) (te:=(tOp (iQ K) (bC 0) (tC (.int 0)))) rfl (cF rfl (by decide +kernel) (by decide +kernel) rfl rfl rfl) (cJ (pv 2)) (λ_ _ _ _ _ _=>(pgN 0 wS)) (bf rfl) (λ_ _ _ _ _ _=>bH) (λ_ _ _ _ _ _=>(au aq (pv 0) af (λ_ _=>rfl)))) ac))) (aa (ap bA af (aw (lU rfl) rfl T.n_3 V3 (aa (ap i6 (cz (N:=["size"]) (js:=[Am]) (g:=(aE 0)) (tt:=bv) (te:=(tOp (iQ K) (bC 0) (tC (.int 1)))) rfl (cF rfl (by decide +kernel) (by decide +kernel) rfl rfl rfl) (cJ (pv 2)) (λ_ _ _ _ _ _=>(pgN 0 wS)) (bf rfl) (λ_ _ _ _ _ _=>bH) (λ_ _ _ _ _ _=>(au aq (pv 0) af (λ_ _=>rfl)))) (aZ (aa af ac))) ac))) ac))))))),?_⟩
   try dsimp only[ym,xW]
   cases p with
   | call sn cn =>
     rw[At]at hA;refine hid λZZ kZ=>?_;obtain⟨p',h,st,ho⟩:=zI.unstep;obtain⟨s0,c0,F1,_⟩:=id st;obtain⟨ka,zh,es,Q3,_,zL⟩:=Yo zp F1;obtain⟨e,he,ee⟩:=zL sn o (Out.step (su st) ho);refine kZ ?_;refine⟨_,D?,pa,_,0,.str q,D?,D?,Yg hA,at0,D?,_,D?,?_⟩;refine cK (λ_=>?_) (λc=>Yd (Yc rfl) c);exact⟨_,D?,_,D?,pa,_,2,.int cn,D?,D?,Yg hA,at2,kl,_,cn,.ref ka,D?,D?,Zg Gs,at_nonneg c0 (gmE zh),_,D?,pa,_,1,.int sn,D?,D?,Yg hA,at1,ka,_,sn,.ref e,D?,D?,Zg Q3,at_nonneg s0 (gmE he),k e H (.refl _) ee⟩
   | knot m ts =>
     refine hid λZZ kZ=>?_;obtain⟨os,rfl,yE⟩:=zI.unknot;have OC:=yE.length;rw[Yi]at yv;rw[Zh]at xU
     have hw:ts.length<=3:=by
      have:=(go.num _ xU.1).2;have h2:((ts.length:Nat):Int)<=3:=this;lia
     rw[At]at hA;obtain⟨Fu,yX,ea,zG⟩:=hA;refine kZ ?_;have MW:yX.length=ts.length:=zG.length;refine⟨_,D?,pa,_,0,.str m,D?,D?,Yg ea,at0,D?,_,D?,?_⟩;refine cK (λc=>Yd (Zc c) (λz=>Fu (V.str.inj z))) (λ_=>?_);refine⟨_,D?,1,D?,pa,_,D?,Yg ea,?_,λp2 Av=>?_⟩
     .rintro⟨z,_⟩;rw[SQ,show(1:Int)=((1:Nat):Int)by rfl,Zl]at z;lia
     dsimp only;rw[eL];refine gU Av λH1 s1 e1=>?_;refine⟨p2,D?,⟨_,Yg e1⟩,gd (F:=qq) (xs:=yX.map Ye) os (λH1 H2 z p kt h=>kt _ _ h) (by rw[Sl];lia) (by rw[Sl];lia) (λi Hx sx hi=>⟨_,_,Yg (sx _ _ e1),Sn hi⟩) (λHx sx=>⟨_,Yg (sx _ _ e1),Su _⟩) (λi Hx x Hy sx hi hy=>⟨hy.1,hy.2 _ (Yg (sx _ _ e1))⟩) (λi x z Hx R W' hx zT sx hR=>?_) (λD H2 as hD s2 eD Ac=>?_)⟩
     .obtain⟨ua,rfl,Cb⟩:=aT hx;obtain⟨u,hu,Dj⟩:=zG.get Cb;have zo:u∈ts:=Sv hu;have Q4:=bW zo;have MX:=s1.trans sx;cases n with
      | zero =>
        have:=u.tall_eq;lia
      |succ n =>
      refine⟨_,D?,_,D?,ua,kl,ins,outs,rows,S,C,u,nm,ks,yn,z,D?,Dj.mono (Ze MX),MX _ _ Gs,Zk (λ_ _ e=>e.same MX) zp,yE.get i hu zT,by lia,lG xU.2 u zo,go,λr H3 s3 Df=>?_⟩;exact hR H3 r s3 Df
     have zQ:os.length=as.length:=SJ Ac;have CA:=s1.trans s2;refine⟨_,D?,D,D?,⟨_,Zg eD⟩,dM os (λo:Th=>Yh (o.size:Nat)) (Zg eD) (by rw[Sl];exact zQ) (by rw[Sl];lia) (λi x z Hx R W' hx hz sx hR=>?_) (λD2 H3 RZ s3 e3=>?_)⟩
     .obtain⟨e,rfl,he⟩:=aT hx;obtain⟨t,ht,h1⟩:=Zo Ac he;rw[hz]at ht;cases ht;exact⟨_,D?,e,_,0,.int (z.size:Nat),D?,D?,Yg (sx _ _ h1),at0,hR Hx (.refl _)⟩
     refine⟨D2,os.map (λo=>((o.size:Nat):Int)),D?,Zg (by rw[<-ints_map];exact e3),⟨_,_,D?,D?,?_⟩⟩;rw[lx];have OD:=s3 _ _ eD;have MY:Tc (qq H3) os as:=Zk (λ_ _ e=>s3 _ _ e) Ac;refine⟨_,D?,D,D?,⟨_,Zg OD⟩,dM os (λo:Th=>Yh (o.tall:Nat)) (Zg OD) (by rw[Sl];exact zQ) (by rw[Sl];lia) (λi x z Hx R W' hx hz sx hR=>?_) (λD4 H4 R0 s4 e4=>?_)⟩
     .obtain⟨e,rfl,he⟩:=aT hx;obtain⟨t,ht,h1⟩:=Zo MY he;rw[hz]at ht;cases ht;exact⟨_,D?,e,_,1,.int (z.tall:Nat),D?,D?,Yg (sx _ _ h1),at1,hR Hx (.refl _)⟩
     refine⟨lnE rfl,λzl Ce=>?_⟩;have s5:=ag Ce (.lst [.int 0]);refine⟨D4,zl,_,_,D?,D?,s5 _ _ e4,ad,bi (by rw[Sl];show os.length+1<=1000000;lia),λcl yw=>?_⟩;have s6:Zf H _:=CA.trans (s3.trans (s4.trans (s5.trans (ag yw (.lst (os.map (λt:Th=>Yh (t.tall:Nat))++[.int 0]))))))
     have e6:(upd (upd H4 zl (.lst [.int 0])) cl (.lst (os.map (λt:Th=>Yh (t.tall:Nat))++[.int 0]))) cl=A? (.lst (((os.map λt:Th=>((t.tall:Nat):Int))++[0]).map Yh)):=by
      rw[ad,SI,Ur];rfl
     generalize(upd (upd H4 zl (.lst [.int 0])) cl (.lst (os.map (λt:Th=>Yh (t.tall:Nat))++[.int 0])))=H6 at s6 e6 |-;refine⟨cl,(os.map λt:Th=>((t.tall:Nat):Int))++[0],D?,Zg e6,by simp,λM hM FE=>⟨_,_,D?,D?,?_⟩⟩;have My:=ki hM FE;subst My;refine⟨lnE rfl,λr z7=>?_⟩;refine k r _ (s6.trans (ag z7 _)) ?_;unfold qq;rw[ad,Zi,Yi];congr 4
     .simp;lia
     .simp;lia
def gv:Nat->Sp
 |0=>λ_ _ _ _=>False
 |n+1=>λvs H Q _=>∃(b ta:So)(ins outs:List (SG×Int))(head:Th)(rows:List (List Th))(S:Int)(d:Nat)(t:Th),vs=[.ref b,.ref ta]/\Bk H ins outs head rows b/\aB ins/\aB outs/\BookOk ins outs S d head rows/\d<=18/\S<=1000/\At H t ta/\t.Fit ins/\t.tall<=n+1/\∀(r:So)(H':Hp),Zf H H'->H r=Am->SzAt H' ins rows t r->Q (.ref r) H'
theorem gr:∀n:Nat,FnOk P w K mg base CX0 (21+n) T.g_40.f T.g_40.d ["book","tree"] (gv n)
 |0=>⟨λ_ _ _ _ h=>h.elim,λ_ _ _ _ _ _ _ _ _ _ _ _ _ h=>h.elim⟩
 | n+1=>by
   have ih:=gr n;refine T.g_40.F.ok eF (λvs H Q E h=>?_) (λxX A outer s H vs Q E hr h=>?_)
   .obtain⟨b,ta,ins,outs,head,rows,S,d,t,rfl,_⟩:=h;rfl
   obtain⟨b,ta,ins,outs,head,rows,S,d,t,rfl,hb,gi,go,ok,hd,hS,hA,xU,yv,k⟩:=h
   refine⟨_,(ae (ak 2 eF.nd (cz (N:=["kind"]) (js:=[Am]) (g:=(aE 0)) (tt:=bv) (te:=(tOp (iQ K) (bC 0) (tC (.int 0)))) rfl (cF rfl (by decide +kernel) (by decide +kernel) rfl rfl rfl) (d3 (au aq (pv 0) af (λ_ _=>rfl))) (λ_ _ _ _ _ _=>(pgN 0 sk)) (bf rfl) (λ_ _ _ _ _ _=>bH) (λ_ _ _ _ _ _=>(au aq (pv 0) af (λ_ _=>rfl)))))
    (ae (ak 3 eF.nd (cz (N:=["kid","book"]) (js:=[Am,A? 0]) (g:=(aE 0)) (tt:=bv) (te:=(fD (gv _) [] E0 (bG (bC 1) (bG (bC 0) fU)))) rfl (cF rfl (by decide +kernel) (by decide +kernel) rfl rfl rfl) (d3 (bd gI (pv 1) (bq af) bw)) (λ_ _ _ _ _ _=>(pgN 0 wc)) (bf rfl) (λ_ _ _ _ _ _=>bH) (λ_ _ _ _ _ _=>(bz (ih) (hr.mono (Su _)) rfl T.g_40.m T.g_40.F.kp T.g_40.b .nil dw (aa (pv 1) (aa (pv 0) ac))))))
    (ai (av (cz (N:=["row","kids","names","tree"]) (js:=[Am,A? 3,A? 2,A? 1]) (g:=(aE 0)) (tt:=bv) (te:=(fD (fw _) [] E0 (bG (tOp (iQ K) (bC 0) (tBM K "list" (pG K) (bC 2) (bG (tOp (iQ K) (bC 3) (tC (.int 0))) fU))) (bG (bC 1) fU)))) rfl (cF rfl (by decide +kernel) (by decide +kernel) rfl rfl rfl) (d3 (au aq (pv 0) af (λ_ _=>rfl))) (λ_ _ _ _ _ _=>(pgN 0 wT)) (bf rfl) (λ_ _ _ _ _ _=>bH) (λ_ _ _ _ _ _=>(bz (fb T 20) (hr.mono (Td (by decide:20<=21) (Nat.le_add_right 21 n))) rfl T.g_39.m T.g_39.F.kp T.g_39.b .nil dw (aa (au aq (pv 0) (bN SK VQ WK iL (pv 2) (aa (au aq (pv 3) af (λ_ _=>rfl)) ac)) (λ_ _=>rfl)) (aa (pv 1) ac))))))))),?_⟩
   try dsimp only[ym,xW]
   refine hid λZZ kZ=>?_;obtain⟨ia,oa,CQ,ra,yc,yl,ya,bk⟩:=id hb;refine kZ ?_;have Bx:ins.length=yc.length:=SJ bk.inK;have Gb:=gi.le;have Bp:rows.length=ya.length:=SJ bk.rw;have R1:=ok.len;cases t with
   |call a b=>rw[Zn]at xU;exact xU.elim
   |knot m hs =>
   have OE:=xU;rw[Zn]at xU;refine hid λZZ kZ=>?_;obtain⟨j,hj⟩:=Tg.mp xU.1;rw[At]at hA;obtain⟨Fu,has,ea,Ed⟩:=hA;refine kZ ?_;have R3:has.length=hs.length:=Ed.length
   have hw:hs.length<=3:=by
    have:=(gi.num _ xU.1).2;have h2:((hs.length:Nat):Int)<=3:=this;lia
   rw[Yi]at yv
   refine⟨_,D?,b,_,0,.ref ia,D?,D?,Yg bk.bk,at0,ia,D?,⟨_,Yg bk.inE⟩,fN ins (λk=>Yp k.1) (Yg bk.inE) (by rw[Sl];exact Bx) (by rw[Sl];lia) (λi x z H2 R W' hx hz s2 hR=>?_) (λD H1 hD s1 e1=>?_)⟩
   .obtain⟨ka,rfl,zh⟩:=aT hx;obtain⟨z',Ax,ez⟩:=Zo bk.inK zh;rw[hz]at Ax;cases Ax;exact⟨_,D?,ka,_,0,.str z.1,D?,D?,Yg (s2 _ _ ez),at0,hR H2 (.refl _)⟩
   have en:ins.map (λk=>Yp k.1)=(ins.map (·.1)).map Yp:=by rw[Ur];rfl
   rw[en]at e1
   refine⟨_,D?,1,D?,ta,_,D?,Yg (s1 _ _ ea),?_,λp2 Av=>?_⟩
   .rintro⟨z,_⟩;rw[SQ,show(1:Int)=((1:Nat):Int)by rfl,Zl]at z;lia
   dsimp only;rw[eL];refine gU Av λH2 s2 e2=>?_;have CA:=s1.trans s2;refine⟨p2,D?,⟨_,Yg e2⟩,tL (F:=λH h a=>SzAt H ins rows h a) (xs:=has.map Ye) hs (λH1 H2 z p kt hk h=>h.keep kt hk) (by rw[Sl];lia) (by rw[Sl];lia) (λi Hx sx hi=>⟨_,_,Yg (sx _ _ e2),Sn hi⟩) (λHx sx=>⟨_,Yg (sx _ _ e2),Su _⟩) (λi Hx x Hy sx hi hy=>⟨hy.1,hy.2 _ (Yg (sx _ _ e2))⟩) (λi x z Hx R W' hx zT sx hR=>?_) (λkd H3 yn DP s3 Q5 Bg=>?_)⟩
   .obtain⟨ua,rfl,Cb⟩:=aT hx;obtain⟨u,hu,Dj⟩:=Ed.get Cb;rw[zT]at hu;cases hu;have zo:z∈hs:=Sv zT;have Q4:=bW zo;have DC:=CA.trans sx;cases n with
    | zero =>
      have:=z.tall_eq;lia
    |succ n =>
    refine⟨_,D?,_,D?,b,ua,ins,outs,head,rows,S,d,z,D?,hb.mono (Ze DC),gi,go,ok,hd,hS,Dj.mono (Ze DC),fV xU.2 z zo,by lia,λr H4 s4 nr Io=>?_⟩;exact hR H4 r s4 nr Io
   have DZ:=CA.trans s3
   obtain⟨os,OC,yE⟩:∃os:List Th,os.length=rows.length/\∀(i:Nat)(row:List Th)(o:Th),rows[i]?=A? row->os[i]?=A? o->∃p,row[j]?=A? p/\Out ins rows p (.knot m hs) o/\p.FitS outs S (hs.length:Int)/\p.tall<=d+1:=by
    refine p8 rows λrow xZ=>?_;have G1:=ok.row row xZ;have zb:=(glE hj);obtain⟨p,hp⟩:∃p,row[j]?=A? p:=⟨_,Sn (by rw[G1.len];exact zb)⟩;obtain⟨h1,h2⟩:=G1.fit j p _ hp hj;obtain⟨o,g1,_⟩:=rf ok _ m hs (Su _) (fV xU.2) _ p (Su _) h1;exact⟨o,p,hp,g1,h1,h2⟩
   have Gv:=bk.mono (Ze DZ);refine⟨_,D?,b,_,3,.ref ra,D?,D?,Yg Gv.bk,bQ (j:=3) rfl,ra,D?,⟨_,Yg Gv.rl⟩,gd (F:=qq) (xs:=ya.map Ye) os (λH1 H2 z p kt h=>kt _ _ h) (by rw[Sl];lia) (by rw[Sl];lia) (λi Hx sx hi=>⟨_,_,Yg (sx _ _ Gv.rl),Sn hi⟩) (λHx sx=>⟨_,Yg (sx _ _ Gv.rl),Su _⟩) (λi Hx x Hy sx hi hy=>⟨hy.1,hy.2 _ (Yg (sx _ _ Gv.rl))⟩) (λi x z Hx R W' hx zT sx hR=>?_) (λD5 H5 as Oo s5 e5 OF=>?_)⟩
   .refine hid λZZ kZ=>?_;obtain⟨yI,rfl,y6⟩:=aT hx;obtain⟨row,xZ,yX,zF,zq⟩:=Zo Gv.rw y6;obtain⟨p,hp,zI,KY,JF⟩:=yE i row z xZ zT;have Bj:=zq.length;have Q6:=(glE hp);obtain⟨Bf,DD⟩:∃a,yX[j]?=A? a:=⟨_,Sn (by lia)⟩;obtain⟨t2,F8,MZ⟩:=zq.get DD;refine kZ ?_;rw[hp]at F8;cases F8;have DC:=DZ.trans sx;have OG:=sx _ _ (s3 _ _ (s2 _ _ e1));refine⟨_,D?,_,D?,.inl ⟨D?,_,Zg OG⟩,_,D?,ta,_,0,.str m,D?,D?,Yg (DC _ _ ea),at0,?_⟩;refine⟨D,ins.map (·.1),m,j,D?,D?,Zg OG,by rw[Sx,hj];rfl,λi hi hz=>?_,by rw[Sl];lia,?_⟩
    .rw[Sx]at hz;obtain⟨k',yp,e⟩:=TM.mp hz;have:=gi.nd i j k' _ yp hj e;lia
    refine⟨yI,_,(j:Int),.ref Bf,D?,D?,Yg (sx _ _ zF),bQ (gmE DD),?_⟩;refine⟨_,D?,Bf,kd,ins,outs,rows,S,(hs.length:Int),p,m,hs,yn,z,D?,MZ.mono (Ze sx),sx _ _ Q5,Zk (λ_ _ e=>e.same sx) Bg,zI,(by show p.tall<=20;lia),KY,go,λr H6 s6 Q7=>?_⟩;exact hR H6 r s6 Q7
   .have zQ:=SJ OF;refine k D5 H5 (DZ.trans s5) (DZ.free Oo) ⟨as,e5,by lia,λst o ho=>?_⟩;refine hid λZZ kZ=>?_;obtain⟨p,h,Q8,yD⟩:=ho.unstep;obtain⟨s0,_,OH,m',AQ,c',j',row,rfl,zN,xZ,hp⟩:=Q8;refine kZ ?_;simp at OH;obtain⟨rfl,rfl⟩:=OH;have Q9:=gi.nd j j' _ _ hj zN rfl;subst Q9;have yb:=(glE xZ);refine hid λZZ kZ=>?_;obtain⟨z,hz⟩:∃z,os[st.toNat]?=A? z:=⟨_,Sn (by lia)⟩;obtain⟨p',Bu,IX,_⟩:=yE _ row z xZ hz;refine kZ ?_;rw[hp]at Bu;cases Bu;have:=jM gi yD IX;subst this;obtain⟨e,he,Ra⟩:=Yo OF hz;exact⟨e,he,Ra⟩
def gR:Nat->Sp
 |0=>λ_ _ _ _=>False
 |n+1=>λvs H Q _=>∃(b pa tr:So)(ins outs:List (SG×Int))(head:Th)(rows:List (List Th))(p:Th)(nm:SG)(ks:List Th)(yn:List So)(o:Th),vs=[.ref b,.ref pa,.ref tr]/\Bk H ins outs head rows b/\aB ins/\At H p pa/\H tr=A? (.tup (yn.map Ye))/\Ats H ks yn/\Out ins rows p (.knot nm ks) o/\o.tall+aK ks<=n+1/\o.size<=2000/\∀(r:So)(H':Hp),Zf H H'->At H' o r->Q (.ref r) H'
theorem iy:∀n:Nat,FnOk P w K mg base CX0 n T.g_41.f T.g_41.d ["book","pattern","trees"] (gR n)
 |0=>⟨λ_ _ _ _ h=>h.elim,λ_ _ _ _ _ _ _ _ _ _ _ _ _ h=>h.elim⟩
 | n+1=>by
   have ih:=iy n;refine T.g_41.F.ok fu (λvs H Q E h=>?_) (λxX A outer s H vs Q E hr h=>?_)
   .obtain⟨b,pa,tr,ins,outs,head,rows,p,nm,ks,yn,o,rfl,_⟩:=h;rfl
   obtain⟨b,pa,tr,ins,outs,head,rows,p,nm,ks,yn,o,rfl,hb,gi,hA,OI,zp,zI,yv,hsz,k⟩:=h
   refine⟨_,(ae (bU (aF fG (au aq (pv 1) af (λ_ _=>rfl)) dX (aI _)) (ae (ak 3 fu.nd (au aq (pv 2) (au aq (pv 1) af (λ_ _=>rfl)) (λ_ _=>rfl)))
    (ae (gf (i:=4) (N:=["kind"]) (js:=[Am]) (g:=(aE 0)) (tt:=bv) (te:=(tOp (iQ K) (bC 0) (tC (.int 0)))) fu.nd rfl (WT rfl) rfl (cF rfl (by decide +kernel) (by decide +kernel) rfl rfl rfl) (d3 (au aq (pv 0) af (λ_ _=>rfl))) (λ_ _ _ _ _ _=>(pgN 0 sk)) (bf rfl) (λ_ _ _ _ _ _=>bH) (λ_ _ _ _ _ _=>(au aq (pv 0) af (λ_ _=>rfl))))
    (ai (av (bz (ih) (hr.mono (Su _)) rfl T.g_41.m T.g_41.F.kp T.g_41.b .nil dw (aa (pv 0) (aa (au aq (au aq (au aq (pv 0) af (λ_ _=>rfl)) (au aq (pv 1) af (λ_ _=>rfl)) (λ_ _=>rfl)) (bN SK VQ WK iL (pv 4) (aa (au aq (pv 3) af (λ_ _=>rfl)) ac)) (λ_ _=>rfl)) (aa (bd gI (pv 3) (bq af) bw) ac)))))))) bp)
    (ai (av (ap hW (aO (aa (au aq (pv 1) af (λ_ _=>rfl)) ac)) (aR aL rfl T.n_7 Tt (aa (cz (N:=["part","book","trees"]) (js:=[Am,A? 0,A? 2]) (g:=(aE 0)) (tt:=bv) (te:=(fD (gR _) [] E0 (bG (bC 1) (bG (bC 0) (bG (bC 2) fU))))) rfl (cF rfl (by decide +kernel) (by decide +kernel) rfl rfl rfl) (d3 (bd gI (pv 1) (bq af) bw)) (λ_ _ _ _ _ _=>(pgN 0 wt)) (bf rfl) (λ_ _ _ _ _ _=>bH) (λ_ _ _ _ _ _=>(bz (ih) (hr.mono (Su _)) rfl T.g_41.m T.g_41.F.kp T.g_41.b .nil dw (aa (pv 1) (aa (pv 0) (aa (pv 2) ac)))))) ac)))))),?_⟩
   try dsimp only[ym,xW]
   have R4:=o.tall_eq;cases p with
   | call sn cn =>
     rw[At]at hA;refine hid λZZ kZ=>?_;obtain⟨p',h,st,ho⟩:=zI.unstep;obtain⟨s0,c0,F1,m,hs,c',j,row,rfl,hj,xZ,hp⟩:=id st;have HN:Yk m hs∈ks:=Sv F1;have ze:=bW HN;rw[Yi]at ze;obtain⟨ha,Ed,yx⟩:=zp.at F1;have Cs:=yx;rw[At]at Cs;obtain⟨Fu,bs,JJ,yA⟩:=Cs;obtain⟨ia,oa,CQ,ra,yc,yl,ya,bk⟩:=id hb;refine kZ ?_;have Bx:ins.length=yc.length:=SJ bk.inK;have Gb:=gi.le;refine⟨_,D?,pa,_,0,.str q,D?,D?,Yg hA,at0,D?,_,D?,?_⟩;refine cK (λ_=>?_) (λc=>Yd (Yc rfl) c);refine⟨_,D?,_,D?,pa,_,2,.int cn,D?,D?,Yg hA,at2,tr,_,cn,.ref ha,D?,D?,Yg OI,at_nonneg c0 (gmE Ed),?_⟩;refine⟨_,D?,b,_,0,.ref ia,D?,D?,Yg bk.bk,at0,ia,D?,⟨_,Yg bk.inE⟩,fN ins (λk=>Yp k.1) (Yg bk.inE) (by rw[Sl];exact Bx) (by rw[Sl];lia) (λi x z H2 R W' hx hz s2 hR=>?_) (λD H1 hD s1 e1=>?_)⟩
     .obtain⟨ka,rfl,zh⟩:=aT hx;obtain⟨z',Ax,ez⟩:=Zo bk.inK zh;rw[hz]at Ax;cases Ax;exact⟨_,D?,ka,_,0,.str z.1,D?,D?,Yg (s2 _ _ ez),at0,hR H2 (.refl _)⟩
     have en:ins.map (λk=>Yp k.1)=(ins.map (·.1)).map Yp:=by rw[Ur];rfl
     rw[en]at e1;have AS:=bk.mono (Ze s1);refine hid λZZ kZ=>?_;obtain⟨yI,y6,yX,zF,zq⟩:=Yo AS.rw xZ;obtain⟨Bf,DD,M0⟩:=zq.at hp;refine kZ ?_;refine⟨_,D?,_,D?,b,_,3,.ref ra,D?,D?,Yg AS.bk,bQ (j:=3) rfl,_,D?,pa,_,1,.int sn,D?,D?,Yg (s1 _ _ hA),at1,ra,_,_,.ref yI,D?,D?,Yg AS.rl,at_nonneg s0 (gmE y6),_,D?,.inl ⟨D?,_,Zg e1⟩,_,D?,ha,_,0,.str m,D?,D?,Yg (s1 _ _ JJ),at0,?_⟩;refine⟨D,ins.map (·.1),m,j,D?,D?,Zg e1,by rw[Sx,hj];rfl,λi hi hz=>?_,by rw[Sl];lia,?_⟩
     .rw[Sx]at hz;obtain⟨k',yp,e⟩:=TM.mp hz;have:=gi.nd i j k' _ yp hj e;lia
     refine⟨yI,_,(j:Int),.ref Bf,D?,D?,Yg zF,bQ (gmE DD),?_⟩;refine⟨_,D?,1,D?,ha,_,D?,Yg (s1 _ _ JJ),?_,λp2 Av=>?_⟩
     .rintro⟨z,_⟩;rw[SQ,show(1:Int)=((1:Nat):Int)by rfl,Zl]at z;lia
     dsimp only;rw[eL];have s2:Zf H1 (upd H1 p2 (.tup (bs.map Ye))):=ag Av _;have CA:=s1.trans s2;cases n with
     |zero=>lia
     |succ n =>
     refine⟨b,Bf,p2,ins,outs,head,rows,p',m,hs,bs,o,D?,hb.mono (Ze CA),gi,M0.mono (Ze s2),ad,yA.mono (Ze CA),ho,by lia,hsz,λr H' s'=>k r H' (CA.trans s')⟩
   | knot m ts =>
     refine hid λZZ kZ=>?_;obtain⟨os,rfl,yE⟩:=zI.unknot;have OC:=yE.length;have R5:=eJ os;rw[Yi]at yv;rw[Zi]at hsz;rw[At]at hA;obtain⟨Fu,yX,ea,zG⟩:=hA;refine kZ ?_;have MW:yX.length=ts.length:=zG.length;refine⟨_,D?,pa,_,0,.str m,D?,D?,Yg ea,at0,D?,_,D?,?_⟩;refine cK (λc=>Yd (Zc c) (λz=>Fu (V.str.inj z))) (λ_=>?_);refine⟨_,D?,pa,_,0,.str m,D?,D?,Yg ea,at0,lnE rfl,λp1 B8=>?_⟩;dsimp only;refine gU B8 λH1 s1 e1=>?_;refine⟨_,D?,1,D?,pa,_,D?,Yg (s1 _ _ ea),?_,λp2 Av=>?_⟩
     .rintro⟨z,_⟩;rw[SQ,show(1:Int)=((1:Nat):Int)by rfl,Zl]at z;lia
     dsimp only;rw[eL];refine gU Av λH2 s2 e2=>?_;have CA:=s1.trans s2;refine⟨p2,D?,⟨_,Yg e2⟩,gd (F:=λH o a=>At H o a) (xs:=yX.map Ye) os (λH1 H2 z p kt h=>h.mono kt) (by rw[Sl];lia) (by rw[Sl];lia) (λi Hx sx hi=>⟨_,_,Yg (sx _ _ e2),Sn hi⟩) (λHx sx=>⟨_,Yg (sx _ _ e2),Su _⟩) (λi Hx x Hy sx hi hy=>⟨hy.1,hy.2 _ (Yg (sx _ _ e2))⟩) (λi x z Hx R W' hx zT sx hR=>?_) (λD H3 as hD s3 eD Ac=>?_)⟩
     .obtain⟨ua,rfl,Cb⟩:=aT hx;obtain⟨u,hu,Dj⟩:=zG.get Cb;have OJ:z∈os:=Sv zT;have R6:=bW OJ;have B2:=l7 OJ;have N8:=z.tall_eq;have DC:=CA.trans sx;cases n with
      |zero=>lia
      |succ n =>
      refine⟨_,D?,_,D?,_,D?,b,ua,tr,ins,outs,head,rows,u,nm,ks,yn,z,D?,hb.mono (Ze DC),gi,Dj.mono (Ze DC),DC _ _ OI,zp.mono (Ze DC),yE.get i hu zT,by lia,by lia,λr H4 s4 Io=>?_⟩;exact hR H4 r s4 Io
     have zQ:os.length=as.length:=SJ Ac;refine⟨D,_,D?,.inl ⟨Zg eD,λtp yP=>?_⟩⟩;refine gU yP λH4 s4 e4=>?_;refine rh (s4 _ _ (s3 _ _ (s2 _ _ e1))) e4 (by rw[Sl];show 1+as.length<=1000000;lia) λp H5 s5 e5=>?_;refine k p H5 (CA.trans (s3.trans (s4.trans s5))) ?_;rw[At];exact⟨Fu,as,e5,sM (Zk (λ_ _ e=>e.mono (Ze (s4.trans s5))) Ac)⟩
inductive fW(tp:So)(vs:List V)(H:Hp)(Q:VK)(_E:XK):Prop
 |mk (b1 b2:So) (ins mid outs:List (SG×Int)) (S1 S2:Int) (xR xQ:Th) (xO f':List (List Th)):vs=[.ref b1,.ref b2]->Bk H ins mid xR xO b1->Bk H mid outs xQ f' b2->JoinW ins mid outs S1 S2 xR xQ xO f'->TabSt H tp (G.ndPos G.nd_joined) G.ndQ->(uO mid xR xQ xO f'->∀(r:So)(H':Hp),SameT tp H H'->TabSt H' tp (G.ndPos G.nd_joined) G.ndQ->Bk H' ins outs (cZ (joR mid f' xO) (joH mid f' xQ xR)) (ce (joR mid f' xO) (joH mid f' xQ xR)) r->Q (.ref r) H')->(∀H':Hp,SameT tp H H'->TabSt H' tp (G.ndPos G.nd_joined) G.ndQ->Q .non H')->fW tp vs H Q _E
theorem fP(L:Lam mg base T.g_26.tc T.g_26.tp):FnOk P w K mg base CX0 16 T.g_42.f T.g_42.d ["first","second"] (fW T.g_26.tp):=by
 refine T.g_42.F.okA ck λxX A outer s H vs Q E hr h=>?_;obtain⟨b1,b2,ins,mid,outs,S1,S2,xR,xQ,xO,f',rfl,⟨D8,Gk,Gm,Ip,BC,Co,Cp,AS⟩,⟨Gn,D9,Gp,Iq,Cq,BD,Cr,BA⟩,J,yW,q,qn⟩:=h
 refine⟨_,(ae (ak 2 ck.nd kD)
  (ae (tI (C1:=T.e_Great) (C2:=T.e_Many) (tb:=λR=>(nU (sd (G.sp_joinedX T.e_Great T.e_Many T.g_26.tp) [] R (bG (bC 0) (bG (bC 1) fU))) (aE 2))) (t1:=(nU (tC .non) (aE 2))) (t2:=(nU (tC .non) (aE 2))) (λZ R=>(ai (ak 2 ck.nd (sy (G.ok_joinedX T L) (hr.mono (by first|decide|lia)) rfl T.g_26.m T.g_26.F.kp T.g_26.b .nil (aa (pv 0) (aa (pv 1) ac)))))) (λea oe=>(ai (ak 2 ck.nd kD))) (λea oe=>(ai (ak 2 ck.nd kD))) rfl rfl rfl T.x_Great rfl T.x_Many)
  (ai (av (pv 2))))),?_⟩
 try dsimp only[ym,xW]
 dsimp only[nU,tC,aE,oh];refine o7 (λyt c H2=>An4 (yt=[A? (.ref b1),A? (.ref b2),A? .non]) ((c=.ref T.e_Great\/c=.ref T.e_Many)) (SameT T.g_26.tp H H2) (TabSt H2 T.g_26.tp (G.ndPos G.nd_joined) G.ndQ)) (λR' hR=>?_) ?_
 .refine⟨_,D?,_,D?,b1,b2,D8,Gk,Gm,Ip,Gn,D9,Gp,Iq,BC,Co,Cp,Cq,BD,Cr,ins,mid,outs,S1,S2,xR,xQ,xO,f',D?,AS,BA,J,yW,λhT r fh rl Ae H2 s2 t2 er Dp M1 Bp=>?_,λC H2 hC s2 t2=>hR _ _ _ ⟨D?,hC.imp (λe=>by rw[e]) (λe=>by rw[e]),s2,t2⟩⟩;have DJ:=AS.mono (yW.kt s2);have Ho:=BA.mono (yW.kt s2);exact⟨_,D?,q hT r H2 s2 t2 ⟨D8,D9,fh,rl,BC,BD,Ae,er,DJ.inE,DJ.inK,Ho.outE,Ho.outK,Dp,M1,Bp⟩⟩
 .rintro yt c H2 ⟨rfl,hc,s2,t2⟩;rcases hc with rfl|rfl
  .exact⟨_,D?,.inl ⟨T.hit_Great_Great,_,D?,qn H2 s2 t2⟩⟩
  .exact⟨_,D?,.inr ⟨T.hit_Many_Great,T.hit_Many_Many,_,D?,qn H2 s2 t2⟩⟩
def qX(K:Ss)(yz:List (So×So)):Sp:=λvs H Q _=>∃(a:So)(ns:List Int),vs=[.ref a]/\SqL K H a (ns.map Yh)/\ns.length<=63/\(∀p∈yz,H p.2=A? (.tbl #[]))/\∀H',Q (.bl B?) H'
theorem vb(yU:T.g_26.tp≠T.g_27.tp)(LJ:Lam mg base T.g_26.tc T.g_26.tp)(LT:Lam mg base T.g_27.tc T.g_27.tp):FnOk P w K mg base CX0 220 T.g_43.f T.g_43.d ["script"] (qX K [(T.g_26.tc,T.g_26.tp),(T.g_27.tc,T.g_27.tp)]):=by
 refine T.g_43.F.ok di (λvs H Q E h=>?_) (λxX A outer s H vs Q E hr h=>?_)
 .obtain⟨a,ns,e,_⟩:=h;subst e;rfl
 obtain⟨a,ns,rfl,hS,Bt,yP,q⟩:=h
 refine⟨_,(ae (ak 1 di.nd (pcF T.g_30 (lr T) hr (aa (pcF T.g_28 (iF T) hr (aa (pv 0) (aa af ac))) (aa dX ac))))
  (ae (ak 2 di.nd (pcF T.g_28 (iF T) hr (aa (pv 0) (aa af ac))))
  (ae (ak 3 di.nd (pcF T.g_36 (mG T) hr (aa (pv 2) (aa (pv 1) (aa (pv 1) (aa (ap bB (ap b9 (pv 2) af) af) (aa af ac)))))))
  (ae (ak 4 di.nd (pcF T.g_38 (mW T) hr (aa (bd f8 (pv 0) (bq af) bw) (aa (pv 1) ac))))
  (ae (ak 5 di.nd (pv 4))
  (ae (ak 6 di.nd (pcF T.g_27.1 (oI T LT) hr (aa (pv 3) ac)))
  (ae (cE Tw rfl (cA rfl T.n_4 (aa af ac)) (pgN 7 di.nd) (ae (ak 8 di.nd (pcF T.g_39 (fb T 20) hr (aa (au aq (pv 3) af (λ_ _=>rfl)) (aa (aZ (aa (pcF T.g_40 (gr T 100) hr (aa (pv 3) (aa (pv 5) ac))) ac)) ac))))
  (ae (bU (PW.pt (nk (aF cW (au aq (pv 8) af (λ_ _=>rfl)) af (aI _)) (kj (aF cW (au aq (pv 8) af (λ_ _=>rfl)) af (aI _))))) (ai (av nY)) bp)
  (ae (ak 5 di.nd (pcF T.g_41 (iy T 210) hr (aa (pv 3) (aa (au aq (pv 3) af (λ_ _=>rfl)) (aa (aO (aa (pv 5) ac)) ac)))))
  (ae (bU (aF (o8 (B:=150) (j9 hr)) (pcF T.g_23 (qo T) hr (aa (pv 6) (aa (pv 4) ac))) (pv 5) (aI _)) (ai (av nY)) bp)
  (ae (ak 9 di.nd (pcF T.g_42 (fP T LJ) hr (aa (pv 6) (aa (pv 3) ac))))
  (ae (ak 10 di.nd (pcF T.g_42 (fP T LJ) hr (aa (pv 3) (aa (pv 6) ac))))
  (ae (bU (PW.pt (nk (aF rE (pv 9) kD (aI _)) (kj (aF rE (pv 10) kD (aI _))))) (ai (av nY)) bp)
  (ae (bU (aF (o8 (B:=150) (j9 hr)) (pv 9) (pv 10) (aI _)) (ai (av nY)) bp)
  (ai (ak 6 di.nd (pv 9))))))))))))
  (ai (av nY))))))))),?_⟩
 try dsimp only[ym,xW]
 refine⟨_,D?,a,ns,0,D?,hS,by decide,λc0=>?_⟩;refine⟨_,_,D?,tV,λia yc ks H1 s1 ei AM gk=>?_⟩;dsimp only[aE];refine⟨_,D?,a,ns,1,D?,s1.seq hS,by decide,λcell=>?_⟩;have z0:=Tv (cell / 5) (show(3:Int)≠0 by decide);have z1:=Tu (cell / 5) (show(0:Int)<3 by decide);refine⟨_,D?,_,D?,_,D?,_,D?,_,_,D?,D?,⟨by decide,by decide⟩,_,_,D?,D?,by decide,cell,ia,yc,ks,ia,yc,ks,_,1,D?,ei,AM,gk,ei,AM,gk,z0,by lia,by decide,by decide,λb ha ra ya b0 rowsB H2 s2 bk ok=>?_⟩;have CJ:((1:Int).toNat)=1:=rfl;rw[CJ]at ok;have Kx:cell / 5%3<=2:=by lia
 generalize cell / 5%3=S at ok Kx z0;dsimp only[aE];have AL:=s1.trans s2;refine⟨_,D?,2,D?,a,_,D?,AL.seq hS,λl2 Bj=>?_⟩
 obtain⟨zs,Rb,Ce⟩:∃zs:List Int,cL (ns.map Yh) (A? 2) Am=zs.map Yh/\zs.length<=61:=by
  unfold cL;rw[<-List.map_drop,<-List.map_take,show(2:Int)=((2:Nat):Int)from rfl,Zl,Sl];exact⟨_,D?,by rw[S9,Tz];lia⟩
 rw[Rb];refine nwT Bj λH3 s3 e3=>?_;have Gq:=s2.trans s3;refine⟨_,D?,l2,ia,zs.map Yh,yc,ks,D?,e3,λv hv=>?_,by rw[Sl];exact Ce,Gq _ _ ei,AM.mono (Ze Gq),gk,λt ta H4 s4 hA hF hT _=>?_⟩
 .obtain⟨z,_,rfl⟩:=Tj.mp hv;exact⟨z,D?⟩
 dsimp only[aE];have OK:=s3.trans s4;have BK:=AL.trans OK;have Rc:H4 T.g_26.tp=A? (.tbl #[]):=BK _ _ (yP (T.g_26.tc,T.g_26.tp) (SU ..));have OL:H4 T.g_27.tp=A? (.tbl #[]):=BK _ _ (yP (T.g_27.tc,T.g_27.tp) (SN _ (SU ..)));have IY:=bk.mono (Ze OK);have R7:=ok.hdt;refine⟨_,D?,_,D?,b,ia,ia,ha,ra,ya,b0,rowsB,D?,IY.bk,IY.hd,IY.rl,IY.rw,(sL gk ok).1,wC ok (by lia),λrow hr=>⟨((sL gk ok).2 row hr).1,((sL gk ok).2 row hr).2 (by decide)⟩,.inl OL,λOM fh rl Ae H5 s5 R8 ep Dp M1 M3=>?_⟩;dsimp only[aE];have Gg:KT H4 H5:=s5.kt OL;have IZ:=IY.mono Gg;have ON:=hA.mono Gg;have Rf:TabSt H5 T.g_26.tp (G.ndPos G.nd_joined) G.ndQ:=.inl (s5 _ _ yU Rc);have Rg:Bk H5 ks ks b0 rowsB b:=⟨_,_,_,_,_,_,_,IZ⟩;have Rh:Bk H5 ks ks (fA b0 rowsB) (iz b0 rowsB) OM:=⟨ia,ia,fh,rl,yc,yc,Ae,ep,IZ.inE,IZ.inK,IZ.outE,IZ.outK,Dp,M1,M3⟩;refine⟨5,D?,by decide,by decide,?_⟩
 refine cO (n:=5) (λi Y H6=>Ex9 λ(da pa:So)(d h:Th)(rows:List (List Th))(c7 c8 c9 OO:Option V)=>An9 (Y=[A? (.ref a),A? (.ref ia),A? (.int cell),A? (.ref b),A? (.ref ta),A? (.ref da),A? (.ref pa),c7,c8,c9,OO]) (KT H5 H6) (At H6 d da) (d.Fit ks) (d.tall<=100) (Bk H6 ks ks h rows pa) (PwI ks S b0 rowsB h rows) ((∀o,Out ks rowsB b0 (.knot (SE "") [d]) o->Out ks rows h (.knot (SE "") [t]) o)) (TabSt H6 T.g_26.tp (G.ndPos G.nd_joined) G.ndQ))
  ⟨ta,OM,t,fA b0 rowsB,iz b0 rowsB,Am,Am,Am,Am,rfl,λ_ _ e=>e,ON,hF,by lia,Rh,tP gk ok (by decide) (by lia),λo ho=>qT gk ok (by decide) (by lia) hF ho,Rf⟩ ?_ ?_
 rotate_left
 .intro Y H6 _;exact q H6
 rintro i Y H6 hi ⟨da,pa,d,h,rows,c7,c8,c9,OO,rfl,M4,hD,OP,By,hP,pw,yy,Ri⟩;dsimp only[aE,j3,oh];have M5:=Rg.mono M4;have Rj:=ON.mono M4;refine hid λZZ kZ=>?_;obtain⟨R9,Sa,CQ,Sb,Rk,Rl,Rm,M6⟩:=id M5;have I0:∀u∈[d],u.Fit ks:=λu hu=>by rw[Sz.mp hu];exact OP
 obtain⟨o,ho,JR⟩:=rf ok _ (SE "") [d] (Su _) I0 _ b0 (Su _) ok.hdf;refine kZ ?_;refine⟨_,D?,b,_,2,.ref CQ,D?,D?,Yg M6.bk,at2,_,D?,_,D?,b,da,ks,ks,b0,rowsB,S,1,d,D?,M5,gk,gk,ok,by decide,by lia,hD,OP,By,λsz H7 s7 Sd hsz=>⟨lnE rfl,λl1 Im=>?_⟩⟩;refine nwT Im λH8 s8 e8=>?_;have OQ:=s7.trans s8;refine⟨CQ,l1,ks,ks,rowsB,S,1,b0,SE "",[d],[sz],o,D?,M6.hd.mono (Ze OQ),e8,.cons (hsz.same s8) .nil,ho,(by show b0.tall<=20;lia),ok.hdf,gk,λpr H9 s9 C9=>?_⟩;dsimp only[aE];have BF:=OQ.trans s9;unfold qq at C9;refine cX (λbb H'=>An2 (H9=H') ((bb=C?->o.size<=300/\o.tall<=100))) (λk2 yM=>?_) (λH' hb=>q _) (λH' hb=>?_)
 .refine⟨_,D?,pr,_,0,_,D?,D?,Yg C9,at0,_,_,D?,D?,_,D?,?_⟩;refine cK (λc=>yM _ _ ⟨rfl,λz=>nomatch z⟩) (λc=>?_);have c':¬(300:Int)<((o.size:Nat):Int):=λz=>c (Yc z);refine⟨_,D?,pr,_,1,_,D?,D?,Yg C9,at1,_,_,D?,D?,_,D?,yM _ _ ⟨D?,λz=>?_⟩⟩;have:=of_decide_eq_false z;lia
 obtain⟨rfl,hb⟩:=hb;obtain⟨Se,OR⟩:=hb rfl;dsimp only[j3,oh,aE];have OS:=M5.mono (Ze BF);have Rn:=Rj.mono (Ze BF);have Ro:=hD.mono (Ze BF);have Rp:=hP.mono (Ze BF);have OT:=M6.mono (Ze BF);have Rq:=Ri.mono BF;have Rr:KT H5 H9:=M4.trans (Ze BF);have t1:aK [d]=d.tall:=by rw[aK,aK];exact Nat.max_zero _
 refine⟨_,D?,_,D?,b,_,2,.ref CQ,D?,D?,Yg OT.bk,at2,_,D?,lnE rfl,λtp yP=>?_⟩;refine nwT yP λEz Bv Rt=>?_;refine⟨b,CQ,tp,ks,ks,b0,rowsB,b0,SE "",[d],[da],o,D?,OS.mono (Ze Bv),gk,OT.hd.mono (Ze Bv),Rt,.cons (Ro.mono (Ze Bv)) .nil,ho,(by show o.tall+aK [d]<=210;lia),(by lia),λdr DI GS E5=>?_⟩;dsimp only[aE];have Ja:=Bv.trans GS;have M7:=OS.mono (Ze Ja);have M8:=Rn.mono (Ze Ja);have Jb:=Rp.mono (Ze Ja);have M9:=Rq.mono Ja;have M':KT H5 DI:=Rr.trans (Ze Ja);have BI:=yy o ho;refine⟨_,D?,_,D?,pa,ta,ks,ks,h,rows,t,o,D?,Jb,gk,gk,M8,BI,JR,⟨by lia,by lia⟩,λr JS AL Jc=>?_⟩;have Jd:=E5.mono (Ze AL);refine hid λZZ kZ=>?_
 obtain⟨n,os,rfl⟩:∃n os,o=.knot n os:=by
  cases o with
  |knot n os=>exact⟨n,os,D?⟩
  |call a b=>rw[Zn]at JR;exact JR.elim
 have Cv:b7 (.str n::dvs os)<=150:=by
  have h4:=g8 os;rw[Yi]at OR;rw[b7,Dv.deep];lia
 rw[At]at Jc;have CB:=Jd;rw[At]at CB;obtain⟨_,Ru,Gr,Na⟩:=Jc;obtain⟨_,Di,Rv,Nb⟩:=CB;refine kZ ?_;have d1:DAts JS (.str n::dvs os) (.str n::Ru.map Ye):=.cons (by rw[DAt]) Na.dvs;have d2:DAts JS (.str n::dvs os) (.str n::Di.map Ye):=.cons (by rw[DAt]) Nb.dvs;refine⟨_,D?,r,dr,_,_,_,_,D?,D?,Yg Gr,Yg Rv,d1,d2,Cv,λbb EX=>⟨_,D?,?_⟩⟩
 have:bb=false:=by
  cases bb with
  |false=>rfl
  |true=>exact Yd rfl (EX.mp rfl)
 subst this;refine kN ?_;dsimp only[j3,oh];have FL:=M7.mono (Ze AL);have FN:=Jb.mono (Ze AL);have FO:=M9.mono AL;obtain⟨j1,j2⟩:=pw.j1 gk;refine⟨_,D?,_,D?,pa,b,ks,ks,ks,_,_,h,b0,rows,rowsB,D?,FN,FL,j1,FO,λJe r1 JT Dt DE Rw=>?_,λJT Dt DE=>?_⟩
 .have Gw:KT JS JT:=FO.kt Dt;have Nc:=FL.mono Gw;have Nd:=FN.mono Gw;refine⟨_,D?,_,D?,b,pa,ks,ks,ks,_,_,b0,h,rowsB,rows,D?,Nc,Nd,j2,DE,λNf r2 Jf Ee DF Ga=>?_,λJf Ee DF=>?_⟩
  .have OU:KT JT Jf:=DE.kt Ee;refine⟨_,D?,D?,_,D?,?_⟩;refine cK (λc=>nomatch Zc c) (λ_=>?_);refine⟨_,D?,D?,_,D?,?_⟩;refine cK (λc=>nomatch Zc c) (λ_=>?_);dsimp only[j3,oh];refine hid λZZ kZ=>?_;obtain⟨e1,e2⟩:=pw.sym gk Je.len Nf.len;rw[<-e1,<-e2]at Ga;have Jg:=Rw.mono OU;obtain⟨xi,xo,xh,xr,Sf,Sg,Sh,bx⟩:=id Jg;obtain⟨yi,yo,yh,yr,Si,Sj,Sk,bY⟩:=Ga;refine kZ ?_;refine⟨_,D?,_,D?,r1,r2,_,_,_,_,D?,D?,Yg bx.bk,Yg bY.bk,pP bx,pP bY,Td (oy (m:=20) (by decide) ?_ λrow hr t ht=>?_) (by decide),λbb EX=>⟨_,D?,?_⟩⟩
   .unfold cZ;rw[(g5 _ _).2];exact Je.smH.tall
   .obtain⟨sv,hs,rfl⟩:=Tj.mp hr;obtain⟨u,hu,rfl⟩:=Tj.mp ht;rw[(g5 _ _).2];exact(Je.smR sv hs u hu).tall
   have:bb=false:=by
    cases bb with
    |false=>rfl
    |true=>exact Yd rfl (EX.mp rfl)
   subst this;refine kN ?_;have Ej:KT DI Jf:=((Ze AL).trans Gw).trans OU;exact⟨_,D?,dr,r1,.knot n os,_,_,_,_,_,_,D?,M'.trans Ej,E5.mono Ej,JR,OR,Jg,pw.next gk Je.len Nf.len,λo' yD=>rm gk j1 Je.len hF BI yD,DF⟩
  .refine⟨_,D?,D?,_,D?,?_⟩;refine cK (λc=>nomatch Zc c) (λ_=>?_);refine⟨_,D?,D?,_,D?,?_⟩;exact cK (λ_=>q _) (λc=>Yd (Yc rfl) c)
 .have Gw:KT JS JT:=FO.kt Dt;refine⟨_,D?,_,D?,b,pa,ks,ks,ks,_,_,b0,h,rowsB,rows,D?,FL.mono Gw,FN.mono Gw,j2,DE,λNf r2 Jf Ee DF Ga=>?_,λJf Ee DF=>?_⟩
  all_goals
   refine⟨_,D?,D?,_,D?,?_⟩;exact cK (λ_=>q _) (λc=>Yd (Yc rfl) c)
end
theorem walk{l:PySem.W.OpenLaw}{q:SH}{d:DefRec}{K:Params->Ss}(hn:l.most=A? 63)(hdf:d.params.defaults=[])(hd:d.name="law")(hq:∀t∈(["joined","trimmed"]:List SG),∃dt,(PyProof.Rows.recsOf q).find? (λe=>e.name == t)=A? dt)(hY:∀(w:S0)(h:TL),YP w h->(K w.params).In h)
 (F:∀(w:S0)(mg:SG->Option Sq)(h:TL),(K w.params).In h->h.Ns TR mg->TX (K w.params) mg):PySem.W.WalkO q loose XP YP l.row.toRowW d [] (λf vs=>PySem.call f vs) :=
 L2.qQ (n:=63) (k:=220) (x:="script") (tns:=["joined","trimmed"]) (CX:=λ_=>CX0) (sp:=λw yz=>qX (K w.params) yz) hn (by decide) hdf ⟨rfl,by decide,by decide⟩ hq hY (λw mg fa h KX G hm=>by
  have T:=F w mg h KX G;obtain⟨_,_,_,_,_,_,_,_,_,e,_⟩:=T.g_43.F.ex;rw[hd]at hm;have e2:T.g_43.f=fa:=(Value.ref.inj (Tq (hm.symm.trans T.g_43.m))).symm;subst e2;refine⟨_,[(T.g_26.tc,T.g_26.tp),(T.g_27.tc,T.g_27.tp)],λs v=>by rw[e];exact .of_eq rfl,λp hp=>?_,λbase _ _ L=>vb T T.ne (L _ (SU ..)) (L _ (SN _ (SU ..)))⟩;rcases SR.mp hp with rfl|hp
  .exact⟨⟨"joined",SU ..,T.g_26.t⟩,T.g_26.u⟩
  rcases SR.mp hp with rfl|hp
  .exact⟨⟨"trimmed",SN _ (SU ..),T.g_27.t⟩,T.g_27.u⟩
  cases hp) (λ_ _ _ a ns hl hS hT=>⟨a,ns,rfl,hS,hl,hT,λ_=>rfl⟩) λ_ _ _ _ _ z=>z
end LAW
open PySem PySem.W PyProof.Rows
set_option maxRecDepth 100000 in
theorem PySem.Challenge.cw_boughbook_k44_whole_many_times_over_holds : PySem.Challenge.rw_boughbook_k44_whole_many_times_over.Holds := by
 w_on;(refine holds_law LAW.ws λRx=>?_);(refine holds_open (q:=LAW.vw) (N:=90000) (loose:=[]) (XP:=XL LAW.vw []) (Yf:=Hook.obs (kHook LAW.d0.heap_1 LAW.ks LAW.ke)) (Ya:=Hook.val (kHook LAW.d0.heap_1 LAW.ks LAW.ke)) (YP:=Hook.says (kHook LAW.d0.heap_1 LAW.ks LAW.ke)) (Xt:=LAW.xt) (HD.qK (by kernel_rfl) (by kernel_rfl) (λ_=>by kernel_rfl) LAW.lk0 LAW.lk1 LAW.lk2 LAW.lk3 LAW.lk4 LAW.lk5 (HD.Pc.k LAW.kp)) (Hook.of (kHook LAW.d0.heap_1 LAW.ks LAW.ke)) (Hook.keeps (kHook LAW.d0.heap_1 LAW.ks LAW.ke)) (λs e=>xl_of s (Xj.mp e).1) XL.keeps (by rfl) (by rfl) (by rfl) (λs e=>recFacts_of (Xj.mp e).2) (by rfl) (by assumption) (by decide +kernel) ⟨rfl,rfl,rfl,rfl,rfl,by decide +kernel⟩ ?_ ?_);w_witness2
 k_fill
 exact LAW.walk (l:=PySem.Challenge.rw_boughbook_k44_whole_many_times_over) rfl rfl rfl (λt ht=>by
  rcases SR.mp ht with rfl|ht
  .exact⟨_,rfl⟩
  rcases SR.mp ht with rfl|ht
  .exact⟨_,rfl⟩
  cases ht) (λw h Y=>PySem.W.kIn_of Y) λw mg h x g=>by(constructor <;> first|exact LAW.fx x g|exact by k_is|exact LAW.bn x g|exact LAW.ci x g|kts_exm|exact LAW.gn x g|k_exc|exact LAW.ft x g|exact LAW.fm|exact LAW.na|exact LAW.cs x g|exact⟨by k_is,by k_is,by k_is,by k_is⟩|exact⟨by k_is,by k_is⟩|skip);exact Zc rfl
