import PyProof.Rows.All
import Wide.All
import OpenK.AllK
import Wide.FinOn
import Lean
import PyProof.EqAt
import PyProof.EqKinds
import PyProof.TupleCall
import KE.KNestM
import KE.KRevIter
import PyProof.ListNew
import PyProof.Draws
import PyProof.EnumMake
import PyProof.Rows.EnumRows
import PyProof.ZipIter
import PyProof.ConsumeWalk
import KE.LcSums
import PyProof.AttrMissHeap
import KE.KDictOf
import PyProof.DictWalks
import PyProof.ListMulRoad
import PyProof.FactsAll.tuple
import PyProof.NeKinds
import KE.RegKTryMore
import KE.RegKIsAll
import PyProof.StrWalks
import PyProof.Rows.SetFrom
import PyProof.FString5
import Wide.Txt
import PyProof.Rows.SeqMore
import PyProof.StrOps2
import KE.KEqDict
import PyProof.CollectIter
import PyProof.JoinWalk
import PyProof.CallStr
import PyProof.DictRoadsH
import PyProof.MeetsDictList
import PyProof.DictTruth
import PyProof.StrLawsChain
import PyProof.StrCalls6
import PyProof.ToksMono
import PyProof.StrCalls2
import KE.KWords
import PyProof.MeetsStr2
import KE.KLam
import KE.KDictLaws
import PyProof.DictItems
import PyProof.DictValues
import PyProof.DictItemsLoops
import KE.BitLaws
import KE.KMinKey
import PyProof.ListRange
import PySem.Challenge.RW_boughbook_k50_many_notes
set_option maxHeartbeats 0
set_option Elab.async false
set_option linter.all false
set_option maxRecDepth 100000
set_option genInjectivity false
set_option genSizeOf false
open PySem renaming wpAny_bind->Rv,Addr->Ry,Value->Rz,wpAny_pure->RD,Shared->RE,wpAny->RQ,sizeLine->RZ,Str->R1,Program->R3,model->R7,Paired->Sb,World->Se,Around->Si,starEach->Sk,Expr->Su,wpAny_newObj_type->Sv,wpAny_field->Sy,wpAny_callSpecial?_slot->SF,wpAny_call_entry->SI,Heap->SM,wpAny_holding->SN,wpAny_Call_Name_kw->SX,wpAny_seqItems->Tc,mainGlobals->Te,wpAny_mono->Tq,sysModules->Tv,wpAny_updateSeq->Tx,mem_of_lookup->Tz,Obj->TC,boot_len->TF,eval->TN,wpAny_setField_rec->T8,rawInt->Ud,wpAny_dictEntries->Uh,NameKind->Um,FuncData->Up,Builtin->Ur,IsPair->Uz,compareOp->UB,codeAny_builtin->UC,wpAny_letGo->UH,plainId_quiet->UO,backTo->UP,Scope->UR,codeAny->UW,Pos->UX,wpAny_typeNameOfWhole_itemiter->UY,pyNext->UZ,binaryOp->U0,wpAny_typeNameOfWhole_keyiter->U7,wpAny_pyIter_tuple->Vb,wpAny_passesOwn->Vd,cLine->Ve,wpAny_truthy_bool->Vj,wpAny_typeNameOf_itemiter->Vv,wpAny_typeNameOf_keyiter->Vy,attributeBase->Vz,wpAny_dictEpoch->VE,tupleKind_room_in1->VF,sizeLine_eq->VG,wpAny_typeOf->VP,wpAny_tryCatch->VQ,wpAny_pyIter_slot->VR,getItem->VS,firstArgMember->VT,codeAny_mono->VU,Stmt->V0,wpAny_rule->V7,DictEntry->Wc,wpAny_attempt->Wd,OsState->We,sliceBounds->Wg,bindArgs->Wh,wpAny_execs_nil->Wq,bootBuiltins->Wz,updateSeq->WC,tupleKind->WD,Arguments->WE,wpAny_setField->WG,IsItemIter->WQ,wpAny_pyIter_enum->WX,atKey_none_of_get->WY,wpAny_onRaise->W3,behindInMarks->W4,wpAny_isInstance->W8,wpAny_Call_method0_late->W9,wpAny_isOneOf_itemiter->Xh,holding->Xi,call_meets->Xj,assignEach->Xk,evalArgs_none->Xl,IsPart->Xo,wpAny_specialOf->Xp,wpAny_loadPart'->Xq,letOwnedTupleGo->Xr,importedModules->Xs,wpAny_notOrdered_dict->Xu,Env->Xz,wpAny_updateSeq_pair->XA,wpAny_fieldsOf->XB,unbindBehindTheSuite->XC,slicePicked->XD,richCompare->XE,atKey->XF,Result->XH,Params->XO
open List renaming length_map->Rw,mem_of_getElem?->Rx,getElem?_eq_getElem->RA,mem_singleton->RC,getElem?_map->RG,length_append->RK,mem_append_left->RL,mem_append->RM,size_toArray->RO,mem_map->RP,mem_cons->RR,mem_iff_getElem?->RS,mem_cons_of_mem->RT,length_cons->RV,mem_cons_self->RX,map_append->R4,mem_append_right->R5,map_cons->R6,length_singleton->R8,getD_eq_getElem?_getD->Sf,replicate->Sh,getElem?_append_left->Sl,length_take->Sq,map_map->Sr,getElem?_append_right->Sx,nodup_cons->Sz,reverse_cons->SJ,range->SK,getElem?_set_self->SS,getElem?_set_ne->SU,nodup_append->SW,length->S4,getElem?_eq_some_iff->Td,replicate_succ->Ti,getElem?_eq_none->Tj,take_of_length_le->Tt,lookup_cons->Tu,length_range->TB,dropLast_concat_getLast->TJ,take_add_one->TY,mem_range->TZ,append_nil->T1,getElem?_zip_eq_some->T2,take_length->T3,map_nil->T5,reverse_reverse->T6,nodup_nil->T7,length_eq_zero_iff->T9,reverse_append->Ue,length_drop->Uj,take_zero->Uo,append_assoc->Uy,length_reverse->UD,getElem?_range->UE,filterMap_cons->UG,mem_flatMap->UL,reverse_singleton->UT,filter_append->UU,mem_zipIdx_iff_getElem?->U2,length_set->U3,length_nil->U4,singleton_append->U5,flatten_cons->U8,ext_getElem?->U9,range'->Vf,pairwise_append->Vg,map_congr_left->Vl,eq_of_mem_replicate->Vm,of_mem_zip->Vq,mem_filter->Vr,forIn_cons->Vs,find?_cons->Vt,lookup->Vw,getElem?_cons_succ->Vx,drop_zero->VB,length_replicate->VJ,getElem_mem->VL,filter_cons->VM,any_eq_true->VN,nil_append->V3,length_zip->V4,idxOf_lt_length_of_mem->Wa,zip_cons_cons->Wl,mem_filterMap->Wm,Nodup->Wn,pairwise_iff_getElem->Wr,filter->Ww,flatMap_def->WN,all_eq_true->WO,mem_of_mem_take->Xd,map->Xe,forIn_nil->Xf,drop_succ_cons->Xn,zipIdx_append->Xw,map_singleton->Xx,getElem?_set->XS,flatMap_cons->XT
open PySem.Heap renaming get?_push_of_some->RB,get?_push_size->RJ,lt_size->RY,get?_update_self->SO,size_push->SV,SameBut->S0,get?_update_other->S8,size_update->Wb,get?_push_ne->W0,ExtBut->XW
open PySem.Str renaming ofString->RF
open PySem.W renaming Frag->RH,findIn->TH,emptyDict->TR,kla_obj->Uu,instObj->Uv,boot_heap->Ux,keepIn->UI,fnOf->V8,tabObj->Wi,callWith_K->Wj,plainGet->WH,envX->WU,makesIn->WZ,lookIn->Xa,kitOne->Xb,plainGet_of->Xm,methodObj->XI,hasDictIn->XJ
open Nat renaming le_refl->RI,ne_of_lt->Sa,zero_le->Sn,lt_of_lt_of_le->So,le_trans->Ss,lt_irrefl->S7,le_of_lt->TV,lt_succ_self->UK,ne_of_gt->US,lt_trans->Vi,not_lt_zero->Vp,sub_self->VA,mul_le_mul_right->VX,two_pow_pos->V2,succ_mul->V9,not_lt->Wk,pow_le_pow_right->Xc,lt_of_le_of_lt->Xv,lt_succ_of_lt->XQ,le_of_eq->XR
open Option.some renaming inj->RN
open Int renaming toNat_natCast->RU,emod_nonneg->Tr,emod_lt_of_pos->T4,natCast_nonneg->Wo,ediv_one->XU
open Option renaming map_eq_some_iff->RW
open Bool renaming false_ne_true->R0,false_eq_true->Uq,and_eq_true->UM,eq_iff_iff->V5,and_eq_true_iff->Xg,not_eq_true'->XY
open PySem.Paired renaming length->R9
open Array renaming length_toList->Sd,getElem?_eq_getElem->Ut,getElem?_toList->U6,getElem?_eq_some_iff->Vh,getElem?_eq_none->VD,toList->XZ
open PySem.Value renaming ref->Sg,none->SY,bool->UQ,type->Vc,builtin->W5
open Sum renaming inl->Sj,inr->XG
open PySem.F renaming plainAttrs_list->Sm,type_list_append->S5,slot_list_append->S6,slot_dict_itemiterator_next->Tf,plain_extend_loop->TL,plain_min_loop->TU,slot_dict_keyiterator_next->Uk,slot_dict_itemiterator_iter->Va,slot_tuple_iterator_next->Vn,type_list_pop->VH,slot_list_pop->VI,slot_dict_setdefault->V1,slot_zip_next->Wt,entry_extend_loop->Wx,args_tuple_add_2->WA,plainAttrs_dict->WJ,entry_tuple_add->WK,slot_tuple_add->WV,entry_min_loop->WW,slot_dict_items->W2,slot_dict_get->W6
open PySem.Builtin.SmallTypes renaming nextOf->Sw,ownedTupleIsFree->SG
open PyProof.Rows renaming slot_tuple_getitem->SD,callWith_type1->SR,boot_tuple->UJ,envOfC->UN,boot_isinstance->U1,IntsAre->WR,AllBare->Xy
open PySem.PassesOwn renaming never->SE,leaving->VW
open PySem.Builtin renaming bitAnd->SH,bitNot->S9,bitOr->Ua
open PySem.Obj renaming mapSeq->SQ,data_mapFields->WM
open PySem.NameKind renaming free->S3,cell->Wf
open PySem.Heap.SameBut renaming update->Ta
open PySem.Builtin.Slice renaming slicePlaces->Tg,sliceAdjust->UA,sliceApplied->Vo
open Ne renaming symm->Tn
open PySem.Builtin.Tuple renaming tupleExact->Tp,tupleItemsOf->WT
open PySem.Value.type renaming inj->Tw
open False renaming elim->TM
open PySem.Calls renaming spliced_cons->TQ,spliced_nil->Ui,callWith_builtin->VY,Name_function_global->WS,evalArgs_plain->XX
open PySem.Builtin.List renaming listTooLong->Ub,listExtendWith->Vk,listSameRef->VC,listItems->VZ
open PySem.AutoSeq1 renaming wpAny_loadPart'->Uc,sub_tuple_tuple->W7
open PySem.Around renaming under_plainId->Ug
open PySem.Builtin.Dict_items renaming ownsTuple->Ul
open ForInStep renaming yield->Uw
open True renaming intro->Vu
open List.cons renaming inj->VO
open PySem.Builtin.Dict renaming showsAll->V6
open Classical renaming byContradiction->Wu
open Sum.inl renaming inj->Wv
open PySem.Builtin.Str renaming strSliceIndices->WB
open Prod renaming fst->WL,snd->XM,ext->XN
open Option renaming some->A?,none->B?
open Bool renaming true->Bz,false->C?
theorem CA.{u}{α:Sort u}{a:α}:a=a:=rfl
variable{w:Se}{m i t' j n ep s0:Nat}{h base h':SM}{α β κ:Type}{a f b c it pl C sl d z tp l1 l2 i1 i2 ea nl al wl CT CW:Ry}{loose N ps:List R1}{K:RH}{e tg iter elt:Su}{P prog:R3}{l:List α}{x qual name nm k0 p1 p2 k1 k2:R1}{us its:List Rz}{u vl vu:Rz}{ch fp S:List Ry}{M:Model}{A:Si}{E Q:Rz->RE->Prop}{s' s:RE}{pos pos':UX}{pins:List (Ry×TC)}{op:CmpOp}{st:V0}{body:List V0}{R:XH->RE->Prop}{lo hi:Option Int}{tk:Tok}{ns Z:List Int}{kw:List (R1×Rz)}{env:Xz}{mg:R1->Option Rz}{outer:List Xz}{fd:Up}{kindOf:R1->Option Um}{sc scope:UR}{params:WE}{items ys:Array Rz}{XP:(R1->Option Rz)->SM->Prop}{YP:Se->SM->Prop}{B:Prop}{js:List (Option Nat)}{cl:List (R1×Ry)}{ifs elts:List Su}{W:List (Int×Int×Ry)}{oe:TC}{ids:List Nat}{ar:R1->Nat}{ins:List (R1×Int)}{vs:List (κ×Rz)}
def Za:=@if_neg
def Yb:=@if_pos
def Zb:=@decide_eq_false
def Yc:=@decide_eq_true
def Zc:=@of_decide_eq_true
def Yd:=@absurd
def Zd:=@congrArg
namespace HD
open PySem PySem.W PySem.Calls PyProof.Rows
def iD(tb:String->Option Ur)(p:R3)(w:Se)(m:Nat)(ann:Option Rz):Nat->SharedT->Thread->Option SharedT
 |0,_,_=>B?
 | n+1,s,t=>match through t with
   |true=>A? s
   | false=>match stepOk m ann t with
     |false=>B?
     | true=>match stepT (denote tb) p w s t with
       |some (s',t')=>iD tb p w m ann n s' t'
       |none=>B?
theorem jt{tb:String->Option Ur}{p:R3}{ann:Option Rz}:∀{n:Nat}{s s':SharedT}{t:Thread},iD tb p w m ann n s t=A? s'->topRun tb p w m ann n s.abs t=A? s'.abs
 |0,_,_,_,h=>by cases h
 | n+1,s,s',t,h=>by
   unfold iD at h;unfold topRun;cases he:through t with
   |true=>rw[he]at h;cases h;rfl
   | false =>
     rw[he]at h;cases hk:stepOk m ann t with
     |false=>rw[hk]at h;cases h
     | true =>
       rw[hk]at h;cases hs:stepT (denote tb) p w s t with
       |none=>rw[hs]at h;cases h
       | some r =>
         obtain⟨s2,t2⟩:=r;rw[hs]at h;rw[stepT_spec hs];exact jt h
def rF:List TC->Nat->BT->BT
 | [],_,t=>t
 |o::l,n,t=>rF l (n+1) (t.ins n o)
def tO:List TC->Nat->BT->Bool
 | [],_,_=>Bz
 |o::l,n,t=>((t.ins n o).get n).isSome && tO l (n+1) (t.ins n o)
theorem kl:∀(l:List TC)(n:Nat)(t:BT),tO l n t=Bz->(rF l n t).list (n+l.length)=t.list n++l
 | [],n,t,_=>by rw[T1];rfl
 | o::l,n,t,h=>by
   obtain⟨h1,h2⟩:=Xg.mp h;have e:=absHeap_ins (life:=default) h1
   have e2:(t.ins n o).list (n+1)=t.list n++[o]:=by
    have:=Zd (λx:SM=>x.objs.toList) e;simpa[absHeap,Heap.push]using this
   have ih:=kl l (n+1) (t.ins n o) h2;rw[e2,Uy]at ih;rw[RV,show n+(l.length+1)=n+1+l.length by lia];exact ih
theorem vi(ok:tO h.objs.toList 0 .nil=Bz):absHeap (rF h.objs.toList 0 .nil) h.objs.size h.life=h:=by
 have e:=kl _ _ _ ok;rw[Nat.zero_add]at e;unfold absHeap;rw[<-Sd,e];rfl
noncomputable abbrev jM(p:R3)(N:Nat)(w:Se)(os:We):Option SharedT :=
 iD treeTable p w 11 (A? (.ref 6)) N ⟨rF (Ux w.params).objs.toList 0 .nil,11,(Ux w.params).life,Array.mk [],boot_drawn,boot_toks,os⟩ (topStub p)
theorem tH(P:XO):(tO (Ux P).objs.toList 0 .nil,(Ux P).isNs Te,(Ux P).objs.size,(Ux P).nsMap Te "__annotations__")=(Bz,Bz,11,A? (.ref 6)):=by kernel_rfl
theorem map_some{o:Option α}{a:α}{f:α->β}{b:β}(h:o=A? a)(e:o.map f=A? b):f a=b:=by rw[h]at e;exact RN e
abbrev Tr0(p q:R3)(loose:List R1)(Xt:RE->Bool)(N:Nat)(g0:Bool):Prop:=∀(w:Se)(os:We),((jM p N w os).map λs=>(staticsOk (Xs p.main.body) (Ux w.params) s.abs.heap && namesBound p s.abs.heap && gensDone s.abs && laidKept (Ux w.params) s.abs.heap,s.abs.heap.bltView,pinSeenD q (drecsOf q) s.abs,plainSeenD q loose s.abs,clsSeenW q loose s.abs,(s.abs.heap.accountedOkI (Xs p.main.body),s.abs.heap.isNs Te,s.abs.heap.isNs builtinsNs,tablesOk q s.abs.heap,Xt s.abs,(if g0 then s.abs.gens.size == 0 else !leftWithCleanup s.abs.gens))))=A? (Bz,bltViewBooted,pinGoodD (drecsOf q),plainGoodD q loose,clsGoodW q loose,(Bz,Bz,Bz,Bz,Bz,Bz))
abbrev Tr1(p q:R3)(N:Nat):Prop:=∀(w:Se)(os:We),((jM p N w os).map λs=>seen ((recsOf q).map (·.name)) (ownsOf q) [] {s.abs with gens:=#[]})=A? (expectedOf q)
abbrev Tr2(p q:R3)(loose:List R1)(N:Nat):Prop:=∀(w:Se)(os:We),((jM p N w os).map λs=>s.abs.heap.keysOk (looseW q loose) ((recsOf q).map (·.name)) ((litsOf q).map (·.1)) ((clssOf q (looseW q loose)).map (·.name)))=A? Bz
abbrev Tr3(p q:R3)(N:Nat):Prop:=∀(w:Se)(os:We),((jM p N w os).map λs=>tabsOk q s.abs)=A? Bz
abbrev Tr4(p q:R3)(loose:List R1)(N:Nat):Prop:=∀(w:Se)(os:We),((jM p N w os).map λs=>plainSeenE q (looseW q loose) s.abs)=A? (plainGoodE q (looseW q loose))
abbrev Tr5(p q:R3)(N:Nat):Prop:=∀(w:Se)(os:We),((jM p N w os).map λs=>wideSeen q s.abs)=A? (wideGood q)
theorem pH{p q:R3}{Xt:RE->Bool}{Yf:RE->α}{Ya:Se->α}{N:Nat}{g0:Bool}
 (e:opening p=plainProg p.main.scope.names) (hN:Nat.ble 600 N=Bz) (f:∀s,fenceModules? p s=A? s)
 (r0:Tr0 p q loose Xt N g0)
 (r1:Tr1 p q N)
 (r2:Tr2 p q loose N)
 (r3:Tr3 p q N)
 (r4:Tr4 p q loose N)
 (r5:Tr5 p q N)
 (rY:∀(w:Se)(os:We),((jM p N w os).map λs=>Yf s.abs)=A? (Ya w)) :
 LeftO p q loose Xt Yf Ya N g0:=λw=>by
 obtain⟨⟨h,gs,d,k,os⟩,e1,e'⟩:=RW.mp (boot_open e hN f w);obtain⟨rfl,rfl,rfl,rfl⟩:h=Ux w.params/\gs=Array.mk []/\d=boot_drawn/\k=boot_toks:=by simpa using e'
 have Gw:=tH w.params;have z0:=Zd WL Gw;have z1:=Zd (λx=>x.2.1) Gw;have z2:=Zd (λx=>x.2.2.1) Gw;have z3:=Zd (λx=>x.2.2.2) Gw;dsimp only at z0 z1 z2 z3;obtain⟨s1,Cw,hY⟩:=RW.mp (rY w os);have q0:=map_some Cw (r0 w os);have q1:=map_some Cw (r1 w os);have q2:=map_some Cw (r2 w os);have q3:=map_some Cw (r3 w os);have q4:=map_some Cw (r4 w os);have q5:=map_some Cw (r5 w os);have rr:=jt Cw
 have HP:SharedT.abs ⟨rF (Ux w.params).objs.toList 0 .nil,11,(Ux w.params).life,Array.mk [],boot_drawn,boot_toks,os⟩=⟨Ux w.params,Array.mk [],boot_drawn,boot_toks,os⟩:=by
  unfold SharedT.abs;dsimp only;rw[<-z2,vi z0]
 rw[HP]at rr;have a0:=Zd WL q0;have a1:=Zd (λx=>x.2.1) q0;have a2:=Zd (λx=>x.2.2.1) q0;have a3:=Zd (λx=>x.2.2.2.1) q0;have a4:=Zd (λx=>x.2.2.2.2.1) q0;have b0:=Zd (λx=>x.2.2.2.2.2.1) q0;have b1:=Zd (λx=>x.2.2.2.2.2.2.1) q0;have b2:=Zd (λx=>x.2.2.2.2.2.2.2.1) q0;have b3:=Zd (λx=>x.2.2.2.2.2.2.2.2.1) q0;have b4:=Zd (λx=>x.2.2.2.2.2.2.2.2.2.1) q0;have b5:=Zd (λx=>x.2.2.2.2.2.2.2.2.2.2) q0;dsimp only at a0 a1 a2 a3 a4 b0 b1 b2 b3 b4 b5
 have l2:openSeen q loose (Xs p.main.body) Xt g0 s1.abs=openGood q loose:=by
  unfold openSeen openGood;rw[q1,a1,q2,b0,b1,b2,b3,b4,b5,q3,a2,q4,a3,q5,a4];rfl
 have t:topFrom treeTable p w N ⟨Ux w.params,Array.mk [],boot_drawn,boot_toks,os⟩=A? s1.abs:=by
  unfold topFrom;dsimp only;rw[z1,z2,z3,rr];show(match staticsOk (Xs p.main.body) (Ux w.params) s1.abs.heap && namesBound p s1.abs.heap && gensDone s1.abs && laidKept (Ux w.params) s1.abs.heap with|true=>_|false=>_)=_;rw[a0]
 unfold openEnds;rw[e1];show(topFrom treeTable p w N _).map _=_;rw[t];exact Zd A? (XN l2 hY)
def p0:XO:={strHash:=λ_=>0,shareClass:=λ_=>0,mergeTok:=λt=>t,idOf:=λ_=>0,idOfShared:=λ_ _=>0,followText:=λ_=>C?,idOfImm:=λ_=>0}
structure Pc(p:R3)(N:Nat)(as:List Ry)(vs:Se->List (Option TC)):Prop where
 out:∀(w:Se)(os:We),((jM p N w os).map λs=>as.map s.abs.heap.get?)=A? (vs w)
theorem Pc.k{p:R3}{N:Nat}{as:List Ry}{K:XO->Frag}{e:∀P,as=(K P).map (·.1)}(h:Pc p N as λw=>(K w.params).map λp=>A? p.2):∀(w:Se)(os:We),((jM p N w os).map λs=>(kHook K as e).obs s.abs)=A? ((kHook K as e).val w):=h.out
def i6(K:Frag):List Ry:=K.filterMap λp=>match p.2 with
 | ⟨.type "code",_,.fields vs,_⟩=>(match(vs[11]?:Option Rz)with
   |some (.ref P)=>A? P
   |_=>B?)
 |_=>B?
theorem mK{K:Frag}{P:Ry}(h:codeHdIn K c P=Bz):P∈i6 K:=by
 unfold codeHdIn at h;split at h
 .rename_i od vs sl e
  have hm:=mem_of_lookupK e;refine Wm.mpr ⟨_,hm,?_⟩;simp only[UM]at h;have h1:=h.1.1.1.1.1;show(match(vs[11]?:Option Rz)with|some (.ref P)=>A? P|_=>B?)=A? P;split at h1
  .rename_i P' e2
   rw[e2];exact Zd A? (beq_iff_eq.mp h1)
  .cases h1
 .cases h
theorem Pc.km{p:R3}{N:Nat}{as ts:List Ry}{K:XO->Frag}{e:∀P,as=(K P).map (·.1)}(h:Pc p N as λw=>(K w.params).map λp=>A? p.2)(t:Pc p N ts λ_=>ts.map λ_=>A? (tabObj #[])):∀(w:Se)(os:We),((jM p N w os).map λs=>(kmHook K as e ts).obs s.abs)=A? ((kmHook K as e ts).val w):=λw os=>by
 obtain⟨s,e1,a1⟩:=RW.mp (h.out w os);have a2:=map_some e1 (t.out w os);rw[e1];exact Zd A? (XN a1 a2)
end HD
section
open PySem PySem.W PyProof.Rows
def LAW.vw:R3:=PySem.W.view PySem.Challenge.pw_boughbook_k50_many_notes [1,2,3,4,6,7,8,10,11,13,14,15,16,18,19,20,22,23,24,25,26,27,28,29,30,32,33,34,35,36]
def LAW.xt(s:RE):Bool:=xlAt LAW.vw [] s && recOk (RowW.records (OpenRow.toRowW (OpenLaw.row PySem.Challenge.rw_boughbook_k50_many_notes))) s
theorem LAW.ws:OpenLaw.wellSaid PySem.Challenge.rw_boughbook_k50_many_notes=true:=by kernel_rfl
theorem LAW.lk0:HD.Tr0 PySem.Challenge.pw_boughbook_k50_many_notes LAW.vw [] LAW.xt 90000 true:=λ_ _=>by kernel_rfl
theorem LAW.lk1:HD.Tr1 PySem.Challenge.pw_boughbook_k50_many_notes LAW.vw 90000:=λ_ _=>by kernel_rfl
theorem LAW.lk2:HD.Tr2 PySem.Challenge.pw_boughbook_k50_many_notes LAW.vw [] 90000:=λ_ _=>by kernel_rfl
theorem LAW.lk3:HD.Tr3 PySem.Challenge.pw_boughbook_k50_many_notes LAW.vw 90000:=λ_ _=>by kernel_rfl
theorem LAW.lk4:HD.Tr4 PySem.Challenge.pw_boughbook_k50_many_notes LAW.vw [] 90000:=λ_ _=>by kernel_rfl
theorem LAW.lk5:HD.Tr5 PySem.Challenge.pw_boughbook_k50_many_notes LAW.vw 90000:=λ_ _=>by kernel_rfl
section
local macro_rules | `(tactic| o_head $_H) => `(tactic| assumption)
theorem LAW.d0(h:OpenRow.Holds (OpenLaw.row PySem.Challenge.rw_boughbook_k50_many_notes)):OpenRow.Holds (OpenLaw.row PySem.Challenge.rw_boughbook_k50_many_notes):=by
 k_head
end
noncomputable def LAW.ks:List Ry:=(LAW.d0.heap_1 HD.p0).map (·.1)
theorem LAW.ke:∀P,LAW.ks=(LAW.d0.heap_1 P).map (·.1):=λ_=>by kernel_rfl
theorem LAW.kp:HD.Pc PySem.Challenge.pw_boughbook_k50_many_notes 90000 LAW.ks λw=>(LAW.d0.heap_1 w.params).map λp=>A? p.2:=⟨λ_ _=>by kernel_rfl⟩
noncomputable def LAW.ts:List Ry:=HD.i6 (LAW.d0.heap_1 HD.p0)
theorem LAW.te:∀P,LAW.ts=HD.i6 (LAW.d0.heap_1 P):=λ_=>by kernel_rfl
theorem LAW.kt:HD.Pc PySem.Challenge.pw_boughbook_k50_many_notes 90000 LAW.ts λ_=>LAW.ts.map λ_=>A? (tabObj #[]):=⟨λ_ _=>by kernel_rfl⟩
end
namespace L2
open PySem PySem.Spec PyProof.Rows
theorem gmE{f:α->β}{x:α}(h:l[i]?=A? x):(l.map f)[i]?=A? (f x):=by rw[RG,h];rfl
theorem glE{x:α}(h:l[i]?=A? x):i<l.length:=(Td.mp h).1
abbrev Key:=Sum Int R1
def kb:Key->Rz->Bool
 |.inl k,v=>Value.isInt k v
 |.inr x,v=>Value.isStrOf x v
def wM(w:Se):Key->Int
 |.inl k=>hashInt k
 |.inr x=>hashStr w x
theorem bg:∀{k:Key}{v:Rz},kb k v=Bz->(∃i t,k=Sj i/\v=Value.int i t)\/(∃x t,k=XG x/\v=Value.str x t)
 | .inl i,v,h=>by
   obtain⟨t,e⟩:=Value.isInt_shape (k:=i) (v:=v) h;exact .inl ⟨i,t,rfl,e⟩
 | .inr x,v,h=>by
   obtain⟨t,e⟩:=Value.isStrOf_shape (x:=x) (v:=v) h;exact .inr ⟨x,t,rfl,e⟩
theorem oY(i:Int)(t:Tok):kb (.inl i) (.int i t)=true:=by simp[kb,Value.isInt]
theorem pZ(x:R1)(t:Tok):kb (.inr x) (.str x t)=true:=by simp[kb,Value.isStrOf]
theorem uZ(a b:Int):decide ((Sj a:Key)=Sj b)=(a == b):=by
 by_cases e:a=b
 .subst e;simp
 .have h:¬(Sj a:Key)=Sj b:=λq=>e (Wv q);rw[Zb h];exact(beq_eq_false_iff_ne.mpr e).symm
theorem vo(a b:R1):decide ((XG a:Key)=XG b)=decide (a=b):=by
 by_cases e:a=b
 .subst e;simp
 .have h:¬(XG a:Key)=XG b:=λq=>e (Sum.inr.inj q);rw[Zb h,Zb e]
theorem uF(a:Int)(b:R1):decide ((Sj a:Key)=XG b)=false:=Zb (λq=>nomatch q)
theorem u7(a:R1)(b:Int):decide ((XG a:Key)=Sj b)=false:=Zb (λq=>nomatch q)
def aQ(prog:R3)(w:Se):PySem.KeyKind prog w Key where
 is:=kb
 hash:=wM w
 inj:=λv a b ha hb=>by
  rcases bg ha with⟨i,t,rfl,rfl⟩|⟨x,t,rfl,rfl⟩
  .rcases bg hb with⟨j,u,rfl,e⟩|⟨y,u,rfl,e⟩
   .injection e with e1 _;rw[e1]
   .exact nomatch e
  .rcases bg hb with⟨j,u,rfl,e⟩|⟨y,u,rfl,e⟩
   .exact nomatch e
   .injection e with e1 _;rw[e1]
 byValue:=λk v h=>by
  rcases bg h with⟨i,t,rfl,rfl⟩|⟨x,t,rfl,rfl⟩ <;> rfl
 pyHash:=λhv h=>by
  rcases bg hv with⟨i,t,rfl,rfl⟩|⟨x,t,rfl,rfl⟩
  .exact wpAny_pyHash_int h
  .exact wpAny_pyHash_str h
 eqBool:=λhu hv h=>by
  rcases bg hu with⟨i,t,rfl,rfl⟩|⟨x,t,rfl,rfl⟩
  .rcases bg hv with⟨j,u,rfl,rfl⟩|⟨y,u,rfl,rfl⟩
   .rw[uZ]at h;exact wpAny_eqBool_int h
   .rw[uF]at h;exact SeqAt.EqAt.int_str i t y u _ _ _ _ h
  .rcases bg hv with⟨j,u,rfl,rfl⟩|⟨y,u,rfl,rfl⟩
   .rw[u7]at h;exact SeqAt.EqAt.str_int x t j u _ _ _ _ h
   .rw[vo]at h;exact wpAny_eqBool_str h
 «strs»:=λk x t v h=>by
  rcases bg h with⟨i,u,rfl,e⟩|⟨y,u,rfl,e⟩
  .exact nomatch e
  .injection e with e1 _;subst e1;cases v <;> rfl
theorem lH(prog:R3)(w:Se)(i:Int)(t:Tok):(aQ prog w).is (.inl i) (.int i t)=true:=oY i t
theorem lP(prog:R3)(w:Se)(x:R1)(t:Tok):(aQ prog w).is (.inr x) (.str x t)=true:=pZ x t
set_option genInjectivity true in
inductive V where
 |non|bl (b:Bool)|int (i:Int)|str (x:R1)|byt (b:Array UInt8)|flt (b:UInt64)|ref (a:Ry)|ty (n:String)
 deriving DecidableEq
def RelV:V->Rz->Prop
 |.non,u=>u=SY
 |.bl b,u=>u=UQ b
 |.int i,u=>∃t,u=Value.int i t
 |.str x,u=>∃t,u=Value.str x t
 |.byt b,u=>∃t,u=Value.bytes b t
 |.flt b,u=>∃t,u=Value.float b t
 |.ref a,u=>u=Sg a
 |.ty n,u=>u=Vc n
abbrev Vals:List V->List Rz->Prop:=Sb RelV
theorem Vals.length{xs:List V}(r:Vals xs us):xs.length=us.length:=R9 r
theorem Vals.get:∀{xs:List V}{us:List Rz}{i:Nat}{x:V},Vals xs us->xs[i]?=A? x->∃u,us[i]?=A? u/\RelV x u
 |_,_,_,_,.nil,e=>by simp at e
 |_,_,0,_,.cons r _,e=>by simp at e;subst e;exact⟨_,CA,r⟩
 | _,_,i+1,x,.cons _ t,e=>by
   obtain⟨u,h1,h2⟩:=Vals.get (i:=i) (x:=x) t (by simpa using e);exact⟨u,by simpa using h1,h2⟩
theorem Vals.set{x:V}(r:RelV x u):∀{xs:List V}{us:List Rz}(i:Nat),Vals xs us->Vals (xs.set i x) (us.set i u)
 |_,_,_,.nil=>.nil
 |_,_,0,.cons _ t=>.cons r t
 |_,_,i+1,.cons q t=>.cons q (Vals.set r i t)
theorem Vals.append:∀{xs ys:List V}{us ws:List Rz},Vals xs us->Vals ys ws->Vals (xs++ys) (us++ws)
 |_,_,_,_,.nil,s=>s
 |_,_,_,_,.cons r t,s=>.cons r (Vals.append t s)
theorem Vals.take:∀{xs:List V}{us:List Rz}(n:Nat),Vals xs us->Vals (xs.take n) (us.take n)
 |_,_,0,_=>.nil
 |_,_,_+1,.nil=>.nil
 |_,_,n+1,.cons r t=>.cons r (Vals.take n t)
theorem Vals.drop:∀{xs:List V}{us:List Rz}(n:Nat),Vals xs us->Vals (xs.drop n) (us.drop n)
 |_,_,0,r=>r
 |_,_,_+1,.nil=>.nil
 |_,_,n+1,.cons _ t=>Vals.drop n t
def RelO:Option V->Option Rz->Prop
 |some v,A? u=>RelV v u
 |none,B?=>True
 |_,_=>False
def KV{κ:Type}:List (κ×V)->List (κ×Rz)->Prop:=Sb λ(p:κ×V)(q:κ×Rz)=>p.1=q.1/\RelV p.2 q.2
def kV:Key->V
 |.inl i=>.int i
 |.inr x=>.str x
set_option genSizeOf true in
inductive HO where
 |lst (xs:List V)
 |tup (xs:List V)
 |dK (kvs:List (Key×V))|dT (kvs:List (List Key×V))
 |set (S:Int->Bool) (n:Nat)
 |ins (C dx:Ry) (fs:List (R1×V))
 |own (x:Ry)
 |xd (fs:List (R1×V))
 |met (f x:Ry)
 |rng (lo hi:Int)
 |frz (o:TC) (u:HO)
 |tbl (ps:Array Rz)
 |ext (φ:SM->Prop)
abbrev Hp:=Ry->Option HO
def upd(H:Hp)(a:Ry)(o:HO):Hp:=λb=>if b=a then A? o else H b
theorem ad{H:Hp}{o:HO}:upd H a o a=A? o:=by unfold upd;rw[Yb rfl]
theorem ac{H:Hp}{o:HO}(h:b≠a):upd H a o b=H b:=by unfold upd;rw[Za h]
theorem r6{H:Hp}{o u:HO}:upd (upd H a o) a u=upd H a u:=by
 funext b;unfold upd;split <;> rfl
theorem aC{H:Hp}{o u:HO}(h:H a=A? o)(h':H b=A? u)(d:o≠u):a≠b:=by
 intro e;subst e;rw[h]at h';exact d (RN h')
theorem aq{H:Hp}{o:HO}(h:H a=A? o)(h':H b=B?):a≠b:=by
 intro e;subst e;rw[h]at h';cases h'
section
variable(P:R3)(w:Se)
def ObjOk(H:Hp)(h:SM)(a:Ry):HO->Prop
 |.lst xs=>xs.length<=RZ/\∃(its:List Rz)(n:Nat),Vals xs its/\h.get? a=A? {cls:=.type "list",data:=.seq its.toArray n}
 |.tup xs=>xs.length<=RZ/\∃(its:List Rz)(n:Nat),Vals xs its/\h.get? a=A? {cls:=.type "tuple",data:=.seq its.toArray n}
 |.dK kvs=>kvs.length<=RZ/\(a == Tv)=C?/\∃vs,KV kvs vs/\h.DictOf (aQ P w) a vs
 |.dT kvs=>kvs.length<=RZ/\(a == Tv)=C?/\∃xs:List (List Key×Ry×Rz),
  Sb (λ(p:List Key×V)(q:List Key×Ry×Rz)=>p.1=q.1/\H q.2.1=A? (.tup (p.1.map kV))/\RelV p.2 q.2.2) kvs xs /\
  ∃o es ep,h.get? a=A? o/\o.ExactDict/\o.data=.dict es ep/\es.toList=xs.map (entryOfKey (WD (aQ P w)))/\(xs.map (·.1)).Nodup
 |.set S n=>h.SetOf (intKind P w) a S n
 |.ins C dx fs=>H dx=A? (.own a)/\fs.length<=1000/\dx≠a/\h.get? a=A? (Uv C dx) /\
  ∃mA,h.Ns1 dx mA/\(∀f,RelO (fs.lookup f) (mA f))/\PySem.Within mA (fs.map (·.1))
 |.own _=>∃o,h.get? a=A? o
 |.xd fs=>∃mA,h.Ns1 a mA/\∀f,RelO (fs.lookup f) (mA f)
 |.rng lo hi=>∃t u v,h.get? a=A? {cls:=.type "range",data:=.fields #[.int lo t,.int hi u,.int 1 v]}
 |.frz o u=>h.get? a=A? o/\ObjOk H h a u
 |.tbl ps=>h.get? a=A? {cls:=.none,data:=.fields ps}
 |.met f x=>h.get? a=A? (XI (.ref f) (.ref x))
 |.ext φ=>φ h/\(∃o,h.get? a=A? o)/\∀h1 h2:SM,φ h1->(∀o,h1.get? a=A? o->h2.get? a=A? o)->φ h2
def HOk(H:Hp)(h:SM):Prop:=∀a o,H a=A? o->ObjOk P w H h a o
end
section
variable{H H':Hp}{o:HO}
theorem ObjOk.lt(x:ObjOk P w H h a o):a<h.objs.size:=by
 cases o with
 |lst xs=>obtain⟨_,_,_,_,e⟩:=x;exact RY e
 |tup xs=>obtain⟨_,_,_,_,e⟩:=x;exact RY e
 |dK kvs=>obtain⟨_,_,_,_,o,_,_,e,_⟩:=x;exact RY e
 |dT kvs=>obtain⟨_,_,_,_,o,_,_,e,_⟩:=x;exact RY e
 |set S n=>obtain⟨o,_,_,_,e,_⟩:=x;exact RY e
 |ins C dx fs=>obtain⟨_,_,_,e,_⟩:=x;exact RY e
 |own y=>obtain⟨_,e⟩:=x;exact RY e
 |xd fs=>obtain⟨_,⟨_,_,_,e,_⟩,_⟩:=x;exact RY e
 |rng lo hi=>obtain⟨_,_,_,e⟩:=x;exact RY e
 |frz ob u=>obtain⟨e,_⟩:=x;exact RY e
 |tbl ps=>exact RY (show h.get? a=A? _ from x)
 |met f y=>exact RY (show h.get? a=A? _ from x)
 |ext φ=>obtain⟨_,⟨_,e⟩,_⟩:=x;exact RY e
theorem Sb.mapP{F G:α->β->Prop}:∀{El:List α}{l₂:List β},Sb F El l₂->(∀a b,F a b->G a b)->Sb G El l₂
 |_,_,.nil,_=>.nil
 |_,_,.cons r t,f=>.cons (f _ _ r) (Sb.mapP t f)
theorem ObjOk.stay(x:ObjOk P w H h a o)(k:∀b u,(b=a\/H b=A? (.own a))->h.get? b=A? u->h'.get? b=A? u)
 (ho:∀b,H b=A? (.own a)->H' b=A? (.own a)) (ht:∀b xs,H b=A? (.tup xs)->H' b=A? (.tup xs)):ObjOk P w H' h' a o:=by
 induction o with
 |lst xs=>obtain⟨z,its,n,r,e⟩:=x;exact⟨z,its,n,r,k _ _ (.inl rfl) e⟩
 |tup xs=>obtain⟨z,its,n,r,e⟩:=x;exact⟨z,its,n,r,k _ _ (.inl rfl) e⟩
 |dK kvs=>obtain⟨z,y,vs,r,ob,es,ep,e,c⟩:=x;exact⟨z,y,vs,r,ob,es,ep,k _ _ (.inl rfl) e,c⟩
 | dT kvs =>
   obtain⟨z,y,xs,r,ob,es,ep,e,c⟩:=x;exact⟨z,y,xs,Sb.mapP r λp q z=>⟨z.1,ht _ _ z.2.1,z.2.2⟩,ob,es,ep,k _ _ (.inl rfl) e,c⟩
 |set S n=>obtain⟨ob,es,ep,t,e,c⟩:=x;exact⟨ob,es,ep,t,k _ _ (.inl rfl) e,c⟩
 | ins C dx fs =>
   obtain⟨d,z,ne,e,mA,⟨od,es,ep,e2,c⟩,r⟩:=x;exact⟨ho _ d,z,ne,k _ _ (.inl rfl) e,mA,⟨od,es,ep,k _ _ (.inr d) e2,c⟩,r⟩
 |own y=>obtain⟨ob,e⟩:=x;exact⟨ob,k _ _ (.inl rfl) e⟩
 |xd fs=>obtain⟨mA,⟨od,es,ep,e,c⟩,r⟩:=x;exact⟨mA,⟨od,es,ep,k _ _ (.inl rfl) e,c⟩,r⟩
 |rng lo hi=>obtain⟨t,u,v,e⟩:=x;exact⟨t,u,v,k _ _ (.inl rfl) e⟩
 |frz ob u ih=>obtain⟨e,q⟩:=x;exact⟨k _ _ (.inl rfl) e,ih q⟩
 | tbl ps =>
   have e:h.get? a=A? {cls:=.none,data:=.fields ps}:=x;show h'.get? a=A? {cls:=.none,data:=.fields ps};exact k a _ (.inl rfl) e
 | met f y =>
   have e:h.get? a=A? (XI (.ref f) (.ref y)):=x;show h'.get? a=A? (XI (.ref f) (.ref y));exact k a _ (.inl rfl) e
 |ext φ=>obtain⟨p,⟨o,e⟩,st⟩:=x;exact⟨st _ _ p λo q=>k _ _ (.inl rfl) q,⟨o,k _ _ (.inl rfl) e⟩,st⟩
theorem HOk.lt(x:HOk P w H h)(e:H a=A? o):a<h.objs.size:=(x a o e).lt
theorem HOk.fresh(x:HOk P w H h)(e:h.objs.size<=a):H a=none:=by
 cases q:H a with
 |none=>rfl
 |some u=>exact Yd (So (x.lt q) e) (S7 _)
theorem HOk.kept(x:HOk P w H h)(k:∀b u,h.get? b=A? u->h'.get? b=A? u):HOk P w H h':=λa o e =>
 (x a o e).stay (λb u _ q=>k b u q) (λ_ q=>q) λ_ _ q=>q
theorem HOk.laid(x:HOk P w H h)(k:∀b u,h.get? b=A? u->h'.get? b=A? u)(hp:h.objs.size<=a)(new:ObjOk P w (upd H a o) h' a o):HOk P w (upd H a o) h':=λb u e=>by
 have hn:=x.fresh hp;by_cases hb:b=a
 .subst hb;rw[ad]at e;cases e;exact new
 .rw[ac hb]at e;exact(x b u e).stay (λc v _ q=>k c v q) (λc q=>by rw[ac (aq q hn)];exact q) λc xs q=>by rw[ac (aq q hn)];exact q
end
def Rd(H:Hp)(a:Ry)(u:HO):Prop:=H a=A? u\/∃o,H a=A? (.frz o u)
theorem Rd.ok{H:Hp}{u:HO}(r:Rd H a u)(x:HOk P w H h):ObjOk P w H h a u:=by
 rcases r with r|⟨o,r⟩
 .exact x a u r
 .obtain⟨_,q⟩:=x a _ r;exact q
def Mut:Option HO->Prop
 |some (.lst _)=>True
 |some (.dK _)=>True
 |some (.dT _)=>True
 |some (.set _ _)=>True
 |some (.ins _ _ _)=>True
 |some (.ext _)=>True
 |_=>False
section
variable{H:Hp}{x e:Ry}{o':HO}
theorem HOk.write(ok:HOk P w H h)(mu:Mut (H x))(he:e=x\/H e=A? (.own x))(k:∀b u,b≠e->h.get? b=A? u->h'.get? b=A? u)(DC:∃u,h'.get? e=A? u)
 (new:ObjOk P w (upd H x o') h' x o'):HOk P w (upd H x o') h':=λb u q=>by
 have Em:∀c y,H c=A? (.own y)->c≠x:=λc y r z=>by subst z;rw[r]at mu;exact mu
 have HQ:∀c xs,H c=A? (.tup xs)->c≠x:=λc xs r z=>by subst z;rw[r]at mu;exact mu
 by_cases hb:b=x
 .subst hb;rw[ad]at q;cases q;exact new
 .rw[ac hb]at q;by_cases zY:b=e
  .have q':H b=A? (.own x):=by
    rcases he with z|z
    .exact Yd (zY.trans z) hb
    .rw[zY];exact z
   rw[q]at q';cases q';obtain⟨v,hv⟩:=DC;exact⟨v,by rw[zY];exact hv⟩
  .refine(ok b u q).stay (λc v hc r=>k c v ?_ r) (λc r=>by rw[ac (Em c b r)];exact r) λc xs r=>by rw[ac (HQ c xs r)];exact r
   rcases hc with rfl|hc
   .exact zY
   .rintro rfl;rcases he with z|z
    .exact Em c b hc z
    .rw[hc]at z;cases z;exact hb rfl
end
structure Un(fs ex:List Ry)(H H':Hp)(h h':SM):Prop where
 keep:∀b o,h.get? b=A? o->H b=B?->b∉fs->b∉ex->h'.get? b=A? o
 slot:∀b o,h.get? b=A? o->H b=B?->b∈fs->b∉ex->∃sl,h'.get? b=A? {o with slots:=sl}
 free:∀b o,h.get? b=A? o->H b=B?->b∉ex->H' b=B?
 there:∀b o,h.get? b=A? o->b∉ex->∃o',h'.get? b=A? o'
 tups:∀b xs,H b=A? (.tup xs)->H' b=A? (.tup xs)
 frzs:∀b o u,H b=A? (.frz o u)->H' b=A? (.frz o u)
 tbls:∀b ps,H b=A? (.tbl ps)->∃more,H' b=A? (.tbl (ps++more))
section
variable{fs MV ex QL:List Ry}{H H1 H2:Hp}{h1 h2:SM}{x e:Ry}{o:HO}
theorem Un.any(u:Un fs ex H H1 h h1){ob:TC}(q:h.get? b=A? ob)(n:H b=B?)(hx:b∉ex):∃sl,h1.get? b=A? {ob with slots:=sl}:=by
 by_cases hb:b∈fs
 .exact u.slot b ob q n hb hx
 .exact⟨ob.slots,u.keep b ob q n hb hx⟩
theorem Un.kept(k:∀b u,h.get? b=A? u->h'.get? b=A? u):Un fs ex H H h h' :=
 ⟨λb ob q _ _ _=>k b ob q,λb ob q _ _ _=>⟨ob.slots,k b ob q⟩,λ_ _ _ n _=>n,λb ob q _=>⟨ob,k b ob q⟩,λ_ _ q=>q,λ_ _ _ q=>q,λ_ ps q=>⟨#[],by rw[q];simp⟩⟩
theorem Un.refl:Un fs ex H H h h:=Un.kept λ_ _ q=>q
theorem Un.laid(k:∀b u,h.get? b=A? u->h'.get? b=A? u)(hp:h.objs.size<=a)(hn:H a=B?):Un fs ex H (upd H a o) h h' where
 keep:=λb u q _ _ _=>k b u q
 slot:=λb u q _ _ _=>⟨u.slots,k b u q⟩
 free:=λb u q n _=>by rw[ac (Sa (So (RY q) hp))];exact n
 there:=λb u q _=>⟨u,k b u q⟩
 tups:=λb xs q=>by rw[ac (aq q hn)];exact q
 frzs:=λb u xs q=>by rw[ac (aq q hn)];exact q
 tbls:=λb ps q=>⟨#[],by rw[ac (aq q hn),q];simp⟩
theorem Un.write(mu:Mut (H x))(he:e=x\/H e=A? (.own x))(k:∀b u,b≠e->h.get? b=A? u->h'.get? b=A? u)(DC:∃u,h'.get? e=A? u):Un fs ex H (upd H x o) h h':=by
 have hx:∀b,H b=B?->b≠x:=λb n z=>by subst z;rw[n]at mu;exact mu
 have hb:∀b,H b=B?->b≠e:=λb n z=>by
  subst z;rcases he with r|r
  .exact hx b n r
  .rw[n]at r;cases r
 have hm:∀b u,H b=A? u->¬Mut (A? u)->b≠x:=λb u q nm z=>by subst z;rw[q]at mu;exact nm mu
 refine⟨λb u q n _ _=>k b u (hb b n) q,λb u q n _ _=>⟨u.slots,k b u (hb b n) q⟩,λb u q n _=>by rw[ac (hx b n)];exact n,λb u q _=>?_,
  λb xs q=>by rw[ac (hm b _ q λz=>z)];exact q,λb u xs q=>by rw[ac (hm b _ q λz=>z)];exact q,λb ps q=>⟨#[],by rw[ac (hm b _ q λz=>z),q];simp⟩⟩
 by_cases zY:b=e
 .subst zY;exact DC
 .exact⟨u,k b u zY q⟩
end
def trk(h:SM)(H:Hp):List Ry:=(SK h.objs.size).filter λa=>(H a).isSome
def jI(h:SM)(H:Hp):SM:=PySem.W.hideAll h (trk h H)
theorem pL(h:SM)(H:Hp):(jI h H).objs.size=h.objs.size:=PySem.W.hideAll_size _ _
theorem qH{H:Hp}{o:TC}(e:h.get? b=A? o)(n:H b=B?):(jI h H).get? b=A? o :=
 PySem.W.hideAll_get _ e λhm=>by
  have q:(H b).isSome=true:=(Vr.mp hm).2;rw[n]at q;simp at q
theorem tM{H:Hp}{o:TC}(e:(jI h H).get? b=A? o):h.get? b=A? o/\H b=none:=by
 have e':h.get? b=A? o:=PySem.W.of_hideAll (trk h H) e;refine⟨e',?_⟩;cases q:H b with
 |none=>rfl
 | some x =>
   have hm:b∈trk h H:=Vr.mpr ⟨TZ.mpr (RY e'),by simp[q]⟩;have z:(jI h H).get? b=none:=PySem.W.hideAll_none (trk h H) hm;rw[z]at e;cases e
end L2
open L2.V renaming ref->Zf,int->Yh,str->Yq
variable{o:L2.HO}{xs:List L2.V}{H H' H1 H2 H8:L2.Hp}{v y:L2.V}{kvs:List (List L2.Key×L2.V)}{fin:Ry->L2.Hp->Prop}
namespace L2
open PySem PySem.Spec PyProof.Rows
structure Mod(K:RH)(mg:R1->Option Rz)(base:SM):Prop where
 kin:K.In base
 glob:base.Ns Te mg
 blt:∃mb,base.Ns builtinsNs mb/\∀x:R1,x≠"__name__"->mb x=Wz x
 nolimit:base.NoLimit
set_option genInjectivity true in
structure Cx where
 prog:R3
 w:Se
 K:RH
 mg:R1->Option Rz
 base:SM
 A:Si
 N:List R1
 s₀:RE
 H₀:Hp
 env:Xz
 outer:List Xz
 stack:List Xz
 ex:List Ry
 fn:R1->Bool
 calm:Bool
 pn:List (Ry×TC)
 xe:Rz->RE->Prop
def frs(l:List Xz):List Ry:=l.filterMap (·.frame)
abbrev Cx.fs(X:Cx):List Ry:=frs X.outer
def Vis(sc:UR)(x:R1):Prop:=sc.names.lookup x=A? .local\/sc.names.lookup x=A? .cell\/sc.names.lookup x=A? .free
def Loc(sc:UR)(x:R1):Prop:=sc.names.lookup x=A? .local\/sc.names.lookup x=A? .cell
def Look(env:Xz)(h:SM)(m:R1->Option Rz)(x:R1)(u:Rz):Prop :=
 (env.kindOf x=A? .local/\m x=A? u)\/((env.kindOf x=A? .cell\/env.kindOf x=A? .free)/\∃c,env.cells.lookup x=A? c/\h.IsCell c (A? u))
structure Cx.Ok(X:Cx):Prop where
 mod:Mod X.K X.mg X.base
 kind:X.env.scope.kind=.function
 glob:X.env.globals=Te
 blt:X.env.builtins=builtinsNs
 above:X.s₀.heap.1.size<=X.env.locals
 inj:∀x y c,X.env.cells.lookup x=A? c->X.env.cells.lookup y=A? c->x=y
 has:∀x,(X.env.kindOf x=A? .cell\/X.env.kindOf x=A? .free)->∃c,X.env.cells.lookup x=A? c
 cab:∀x c,X.fn x=Bz->X.env.cells.lookup x=A? c->X.s₀.heap.1.size<=c
 hd:X.calm=Bz->X.A.handled=B?
 frames:X.A.frames=A? X.stack
 stk:X.stack=X.outer\/(X.stack=X.env::X.outer/\X.env.frame=A? X.env.locals)
 exf:∀b∈X.ex,b≠X.env.locals/\∀x c,X.env.cells.lookup x=A? c->c≠b
 bs:∀b o,X.base.get? b=A? o->X.s₀.heap.get? b=A? o/\X.H₀ b=B?
 bsz:X.base.objs.size<=X.s₀.heap.1.size
 noex:∀b o,X.base.get? b=A? o->b∉X.ex
 exfs:∀b∈X.ex,b∉X.fs
 funs:X.s₀.heap.FunFrames X.base X.outer
 frf:∀b∈X.fs,X.H₀ b=B?
structure Inv(X:Cx)(Y:List (Ry×TC))(σ:List (Option V))(H:Hp)(s:RE):Prop where
 ok:X.Ok
 os:s.os=X.s₀.os
 bare:Xy s.gens
 base:Un X.fs X.ex X.H₀ H X.s₀.heap s.1
 loc:∃m,s.1.Ns X.env.locals m/\∀(i:Nat)(x:R1)(v:V),X.N[i]?=A? x->σ[i]?=A? (A? v)->Vis X.env.scope x->∃u,RelV v u/\Look X.env s.1 m x u
 cell:∀x c,X.env.cells.lookup x=A? c->∃v,s.1.IsCell c v
 free:H X.env.locals=B?
 freeC:∀x c,X.env.cells.lookup x=A? c->H c=B?
 pin:∀p∈X.pn++Y,s.1.get? p.1=A? p.2/\H p.1=B?/\p.1≠X.env.locals/\p.1∉X.fs/\∀v,p.2.data≠.cell v
 hok:HOk X.prog X.w H s.1
 len:σ.length=X.N.length
section
variable{X:Cx}{σ:List (Option V)}
theorem Cx.Ok.nofr(ok:X.Ok){o:TC}(e:X.base.get? b=A? o):b∉X.fs:=λhb=>by
 have:=(ok.funs.mem hb).1;rw[e]at this;cases this
theorem Inv.bs(I:Inv X Y σ H s):∀b o,X.base.get? b=A? o->s.1.get? b=A? o/\H b=none:=λb o e =>
 ⟨I.base.keep b o (I.ok.bs b o e).1 (I.ok.bs b o e).2 (I.ok.nofr e) (I.ok.noex b o e),I.base.free b o (I.ok.bs b o e).1 (I.ok.bs b o e).2 (I.ok.noex b o e)⟩
theorem Inv.bk(I:Inv X Y σ H s):∀b o,X.base.get? b=A? o->s.1.get? b=A? o:=λb o e=>(I.bs b o e).1
theorem Inv.mod(I:Inv X Y σ H s):Mod X.K X.mg X.base:=I.ok.mod
theorem Inv.kIn(I:Inv X Y σ H s):X.K.In s.1:=I.ok.mod.kin.keeps I.bk
theorem Inv.lt(I:Inv X Y σ H s):X.env.locals<s.1.1.size:=let⟨_,hn,_⟩:=I.loc;hn.lt
theorem Inv.sz(I:Inv X Y σ H s):X.s₀.heap.1.size<=s.1.1.size:=Ss I.ok.above (TV I.lt)
theorem Inv.nofs(I:Inv X Y σ H s)(h:s.1.1.size<=a):a∉X.fs:=λhb=>by
 obtain⟨_,o,ho,_⟩:=I.ok.funs.mem hb;exact Yd (So (RY ho) (Ss I.sz h)) (S7 _)
theorem Inv.cne(I:Inv X Y σ H s):∀x c,X.env.cells.lookup x=A? c->c≠X.env.locals:=λx c e z=>by
 obtain⟨v,o,ho,hd⟩:=I.cell x c e;obtain⟨m,⟨o',es,ep,zo,En,_⟩,_⟩:=I.loc;rw[z,zo]at ho;cases ho;rw[En]at hd;cases hd
theorem Inv.funs(I:Inv X Y σ H s):s.1.FunFrames X.base X.outer:=by
 have all:∀(l:List Xz),(∀b∈frs l,b∈X.fs)->X.s₀.heap.FunFrames X.base l->s.1.FunFrames X.base l:=by
  intro l;induction l with
  |nil=>intro _ _;trivial
  | cons env r ih =>
    intro hs hl;obtain⟨hk,⟨L,o,hf,hn,ho,hd⟩,hr⟩:=hl;have hL:L∈X.fs:=hs L (by unfold frs;rw[UG,hf];exact RX);obtain⟨sl,e⟩:=I.base.slot L o ho (I.ok.frf L hL) hL λz=>I.ok.exfs L z hL;exact⟨hk,⟨L,_,hf,hn,e,hd⟩,ih (λb hb=>hs b (by unfold frs;rw[UG,hf];exact RT _ hb)) hr⟩
 exact all X.outer (λ_ hb=>hb) I.ok.funs
theorem Inv.stack(I:Inv X Y σ H s):s.1.FunFrames X.base X.stack:=by
 rcases I.ok.stk with e|⟨e,hf⟩
 .rw[e];exact I.funs
 .rw[e];obtain⟨m,hn,_⟩:=I.loc;refine .cons (by rw[I.ok.kind];decide) hf hn ?_ I.funs;exact Heap.get?_none_of_le (Ss I.ok.bsz I.ok.above)
theorem Inv.stkSub(I:Inv X Y σ H s):∀b∈frs X.stack,b∈X.env.locals::X.fs:=λb hb=>by
 rcases I.ok.stk with e|⟨e,hf⟩
 .rw[e]at hb;exact RT _ hb
 .rw[e]at hb;unfold frs at hb;rw[UG,hf]at hb;exact hb
theorem Inv.stkFree(I:Inv X Y σ H s):∀b∈frs X.stack,H b=none:=λb hb=>by
 rcases RR.mp (I.stkSub b hb)with e|hb
 .rw[e];exact I.free
 .obtain⟨_,o,ho,_⟩:=I.ok.funs.mem hb;exact I.base.free b o ho (I.ok.frf b hb) λz=>I.ok.exfs b z hb
theorem Inv.step{g':Array GenState}{d':Drawn}(I:Inv X Y σ H s)
 (Bk:∀b∈ch,(b∈X.ex\/X.s₀.heap.1.size<=b)/\b≠X.env.locals/\(∀x c,X.env.cells.lookup x=A? c->c≠b)/\∀p∈X.pn++Y,p.1≠b)
 (keep:∀b o,b≠X.env.locals->b∉X.fs->b∉ch->s.1.get? b=A? o->H b=B?->h'.get? b=A? o)
 (slot:∀b o,b≠X.env.locals->b∈X.fs->b∉ch->s.1.get? b=A? o->H b=B?->∃sl,h'.get? b=A? {o with slots:=sl}) (free:∀b o,b∉ch->s.1.get? b=A? o->H b=B?->H' b=B?)
 (there:∀b o,b∉ch->s.1.get? b=A? o->∃o',h'.get? b=A? o')
 (tups:∀b xs,H b=A? (.tup xs)->H' b=A? (.tup xs)) (frzs:∀b o u,H b=A? (.frz o u)->H' b=A? (.frz o u)) (tbls:∀b ps,H b=A? (.tbl ps)->∃more,H' b=A? (.tbl (ps++more)))
 (ns:∀m,s.1.Ns X.env.locals m->h'.Ns X.env.locals m) (hok:HOk X.prog X.w H' h') (hg:Xy g') :
 Inv X Y σ H' {s with heap:=h',gens:=g',drawn:=d',toks:=t'}:=by
 have DD:∀b o,X.s₀.heap.get? b=A? o->b≠X.env.locals:=λb o e=>Sa (So (RY e) I.ok.above)
 have Gx:∀b o,X.s₀.heap.get? b=A? o->b∉X.ex->b∉ch:=λb o e hx hb=>by
  rcases(Bk b hb).1 with z|z
  .exact hx z
  .exact Yd (So (RY e) z) (S7 _)
 have cellK:∀x c,X.env.cells.lookup x=A? c->∀v,s.1.IsCell c v->h'.IsCell c v:=λx c e v⟨o,ho,hd⟩=>by
  have Eo:c∉ch:=λz=>(Bk c z).2.2.1 x c e rfl;by_cases hc:c∈X.fs
  .obtain⟨sl,q⟩:=slot c o (I.cne x c e) hc Eo ho (I.freeC x c e);exact⟨_,q,hd⟩
  .exact⟨o,keep c o (I.cne x c e) hc Eo ho (I.freeC x c e),hd⟩
 refine⟨I.ok,I.os,hg,⟨λb o e n hb hx=>?_,λb o e n hb hx=>?_,λb o e n hx=>?_,λb o e hx=>?_,λb xs e=>tups b xs (I.base.tups b xs e),λb o xs e=>frzs b o xs (I.base.frzs b o xs e),λb ps e=>?_⟩,?_,λx c e=>?_,?_,λx c e=>?_,λp hp=>?_,hok,I.len⟩
 .exact keep b o (DD b o e) hb (Gx b o e hx) (I.base.keep b o e n hb hx) (I.base.free b o e n hx)
 .obtain⟨sl,e1⟩:=I.base.slot b o e n hb hx;obtain⟨HR,e2⟩:=slot b _ (DD b o e) hb (Gx b o e hx) e1 (I.base.free b o e n hx);exact⟨HR,e2⟩
 .obtain⟨o',e1⟩:=I.base.there b o e hx;exact free b o' (Gx b o e hx) e1 (I.base.free b o e n hx)
 .obtain⟨o',e1⟩:=I.base.there b o e hx;exact there b o' (Gx b o e hx) e1
 .obtain⟨m1,e1⟩:=I.base.tbls b ps e;obtain⟨m2,e2⟩:=tbls b _ e1;exact⟨m1++m2,by rw[e2,Array.append_assoc]⟩
 .obtain⟨m,hn,hl⟩:=I.loc;refine⟨m,ns m hn,λi x v e1 e2 e3=>?_⟩;obtain⟨u,r,l⟩:=hl i x v e1 e2 e3;refine⟨u,r,?_⟩;rcases l with l|⟨k,c,e,z⟩
  .exact .inl l
  .exact .inr ⟨k,c,e,cellK x c e _ z⟩
 .obtain⟨v,z⟩:=I.cell x c e;exact⟨v,cellK x c e v z⟩
 .obtain⟨m,⟨o,_,_,ho,_⟩,_⟩:=I.loc;exact free _ o (λz=>(Bk _ z).2.1 rfl) ho I.free
 .obtain⟨v,o,ho,hd⟩:=I.cell x c e;exact free c o (λz=>(Bk c z).2.2.1 x c e rfl) ho (I.freeC x c e)
 .obtain⟨e,n,ne,nf,d⟩:=I.pin p hp;have Eo:p.1∉ch:=λz=>(Bk p.1 z).2.2.2 p hp rfl;exact⟨keep p.1 p.2 ne nf Eo e n,free p.1 p.2 Eo e n,ne,nf,d⟩
theorem Inv.un(I:Inv X Y σ H s)(u:Un X.fs [] H H' s.1 h')(hok:HOk X.prog X.w H' h'):Inv X Y σ H' {s with heap:=h',toks:=t'}:=by
 obtain⟨m,⟨o,es,ep,ho,r⟩,_⟩:=id I.loc;obtain⟨sl,hL⟩:=u.any ho I.free (by simp)
 exact I.step (g':=s.gens) (d':=s.drawn) (ch:=[]) (λ_ z=>nomatch z) (λb o _ hb _ e n=>u.keep b o e n hb (by simp)) (λb o _ hb _ e n=>u.slot b o e n hb (by simp)) (λb o _ e n=>u.free b o e n (by simp)) (λb o _ e=>u.there b o e (by simp)) u.tups u.frzs u.tbls (λm' hm=>by
  obtain⟨o',DE,DF,zo,r'⟩:=hm;rw[ho]at zo;cases zo;exact⟨_,DE,DF,hL,r'⟩) hok I.bare
theorem Inv.call{g':Array GenState}{d':Drawn}(I:Inv X Y σ H s)(u:Un (frs X.stack) ch H H' s.1 h')(hok:HOk X.prog X.w H' h')(hg:Xy g')
 (Bk:∀b∈ch,(b∈X.ex\/X.s₀.heap.1.size<=b)/\b≠X.env.locals/\(∀x c,X.env.cells.lookup x=A? c->c≠b)/\∀p∈X.pn++Y,p.1≠b) :
 Inv X Y σ H' {s with heap:=h',gens:=g',drawn:=d',toks:=t'}:=by
 obtain⟨m,⟨o,es,ep,ho,r⟩,_⟩:=id I.loc;obtain⟨sl,hL⟩:=u.any ho I.free λz=>(Bk _ z).2.1 rfl
 exact I.step (ch:=ch) Bk (λb o hL hb hc e n=>u.keep b o e n (λz=>(RR.mp (I.stkSub b z)).elim hL hb) hc) (λb o _ _ hc e n=>u.any e n hc) (λb o hc e n=>u.free b o e n hc) (λb o hc e=>u.there b o e hc) u.tups u.frzs u.tbls (λm' hm=>by
  obtain⟨o',DE,DF,zo,r'⟩:=hm;rw[ho]at zo;cases zo;exact⟨_,DE,DF,hL,r'⟩) hok hg
theorem Inv.turned(I:Inv X Y σ H s)(k:∀b o,b≠it->s.1.get? b=A? o->h'.get? b=A? o)(hn:H it=B?)(hL:it≠X.env.locals)
 (h1:it∈X.ex\/X.s₀.heap.1.size<=it) (h2:∀x c,X.env.cells.lookup x=A? c->c≠it) (h3:∀p∈X.pn++Y,p.1≠it):Inv X Y σ H {s with heap:=h',toks:=t'}:=by
 have Ep:∀b u,H b=A? u->b≠it:=λb u e z=>by rw[z,hn]at e;cases e
 refine I.step (g':=s.gens) (d':=s.drawn) (ch:=[it]) (λb hb=>?_) (λb o _ _ hc e _=>k b o (λz=>hc (by simp[z])) e) (λb o _ _ hc e _=>⟨o.slots,k b o (λz=>hc (by simp[z])) e⟩) (λ_ _ _ _ n=>n)
  (λb o hc e=>⟨o,k b o (λz=>hc (by simp[z])) e⟩) (λ_ _ e=>e) (λ_ _ _ e=>e) (λb ps e=>⟨#[],by rw[e];simp⟩) (λm hm=>?_) (λb u e=>?_) I.bare
 .have e:b=it:=by simpa using hb
  subst e;exact⟨h1,hL,h2,h3⟩
 .obtain⟨o,es,ep,ho,r⟩:=hm;exact⟨o,es,ep,k _ o (Tn hL) ho,r⟩
 .refine(I.hok b u e).stay (λc v hc q=>k c v ?_ q) (λ_ q=>q) λ_ _ q=>q;rcases hc with z|z
  .rw[z];exact Ep b u e
  .exact Ep c _ z
theorem Inv.tok(I:Inv X Y σ H s)(t:Nat):Inv X Y σ H {s with toks:=t}:=I.un (h':=s.1) (t':=t) Un.refl I.hok
theorem Inv.kept(I:Inv X Y σ H s)(k:∀b u,s.1.get? b=A? u->h'.get? b=A? u):Inv X Y σ H {s with heap:=h',toks:=t'}:=I.un (Un.kept k) (I.hok.kept k)
theorem Inv.laid(I:Inv X Y σ H s)(k:∀b u,s.1.get? b=A? u->h'.get? b=A? u)(hp:s.1.1.size<=a)(new:ObjOk X.prog X.w (upd H a o) h' a o) :
 Inv X Y σ (upd H a o) {s with heap:=h',toks:=t'}:=I.un (Un.laid k hp (I.hok.fresh hp)) (I.hok.laid k hp new)
theorem Inv.write{x e:Ry}(I:Inv X Y σ H s)(mu:Mut (H x))(he:e=x\/H e=A? (.own x))(k:∀b u,b≠e->s.1.get? b=A? u->h'.get? b=A? u)(DC:∃u,h'.get? e=A? u)
 (new:ObjOk X.prog X.w (upd H x o) h' x o):Inv X Y σ (upd H x o) {s with heap:=h',toks:=t'}:=I.un (Un.write mu he k DC) (I.hok.write mu he k DC new)
theorem Inv.weak{i':List (Option V)}(I:Inv X Y σ H s)(hl:i'.length=σ.length)(w:∀(i:Nat)v,i'[i]?=A? (A? v)->σ[i]?=A? (A? v)):Inv X Y i' H s :=
 ⟨I.ok,I.os,I.bare,I.base,let⟨m,hn,HS⟩:=I.loc;⟨m,hn,λi x v e1 e2 e3=>HS i x v e1 (w i v e2) e3⟩,I.cell,I.free,I.freeC,I.pin,I.hok,hl.trans I.len⟩
theorem Inv.pins_of{yA:List (Ry×TC)}(I:Inv X Y σ H s)(h:∀p∈yA,s.1.get? p.1=A? p.2/\H p.1=B?/\p.1≠X.env.locals/\p.1∉X.fs/\∀v,p.2.data≠.cell v):Inv X yA σ H s :=
 ⟨I.ok,I.os,I.bare,I.base,I.loc,I.cell,I.free,I.freeC,λp hp=>(RM.mp hp).elim (λz=>I.pin p (RL _ z)) (h p),I.hok,I.len⟩
theorem iJ(hN:N.Nodup)(a:N[i]?=A? x)(b:N[j]?=A? x):i=j:=by
 obtain⟨h1,e1⟩:=Td.mp a;obtain⟨h2,e2⟩:=Td.mp b;exact(List.getElem_inj hN).mp (e1.trans e2.symm)
theorem j6{Q:Unit->RE->Prop}(I:Inv X Y σ H s)(hN:X.N.Nodup)(hi:X.N[i]?=A? x)(hx:Loc X.env.scope x)(r:RelV v u)
 (h:∀s',Inv X Y (σ.set i (A? v)) H s'->(∃a,S0 a s.1 s'.1/\(a=X.env.locals\/X.env.cells.lookup x=A? a))->Q () s') (hf:X.fn x=Bz\/X.env.scope.names.lookup x=A? .local:=by first|exact .inl rfl|exact .inr rfl|assumption):RQ M A (storeName X.env x u) Q E s:=by
 obtain⟨m,hn,hl⟩:=id I.loc;have Cy:(X.env.scope.kind == .class ||(X.env.scope.kind == .module && X.env.locals != X.env.globals))=false:=by rw[I.ok.kind];rfl
 have Ax:i<σ.length:=by rw[I.len];exact(glE hi)
 have cne:=I.cne
 have tracked:∀{a:Ry}{h':SM},(∃o,s.1.get? a=A? o/\H a=B?)->S0 a s.1 h'->HOk X.prog X.w H h':=λ{a h'}ha hs b ob e=>by
  obtain⟨_,_,yV⟩:=ha;refine(I.hok b ob e).stay (λc w' hc q=>(hs.2 c ?_).trans q) (λ_ q=>q) λ_ _ q=>q;rintro rfl;rcases hc with rfl|hc
  .rw[yV]at e;cases e
  .rw[yV]at hc;cases hc
 rcases hx with hk|hk
 .refine wpAny_storeName_local hk hn (λh' Bl hs=>?_) Cy;obtain⟨oL,_,_,KZ,_⟩:=id hn;refine h _ ⟨I.ok,I.os,I.bare,⟨λb o e n hb hx=>?_,λb o e n hb hx=>?_,I.base.free,λb o e hx=>?_,I.base.tups,I.base.frzs,I.base.tbls⟩,⟨_,Bl,λj y v' e1 e2 e3=>?_⟩,λy c e=>?_,I.free,I.freeC,λp hp=>?_,tracked ⟨oL,KZ,I.free⟩ hs,by simpa using I.len⟩ ⟨_,hs,.inl rfl⟩
  .exact(hs.2 b (Sa (So (RY e) I.ok.above))).trans (I.base.keep b o e n hb hx)
  .obtain⟨sl,e1⟩:=I.base.slot b o e n hb hx;exact⟨sl,(hs.2 b (Sa (So (RY e) I.ok.above))).trans e1⟩
  .obtain⟨o',e1⟩:=I.base.there b o e hx;exact⟨o',(hs.2 b (Sa (So (RY e) I.ok.above))).trans e1⟩
  .by_cases hj:j=i
   .subst hj;rw[hi]at e1;cases e1;rw[SS Ax]at e2;cases e2;exact⟨u,r,.inl ⟨hk,by simp⟩⟩
   .rw[SU (Tn hj)]at e2;obtain⟨u',r',q⟩:=hl j y v' e1 e2 e3;refine⟨u',r',?_⟩;rcases q with⟨k,e⟩|⟨k,c,e,z⟩
    .refine .inl ⟨k,?_⟩;have:y≠x:=λe=>hj (iJ hN e1 (e ▸ hi));simp[this,e]
    .exact .inr ⟨k,c,e,z.sameBut hs (cne y c e)⟩
  .obtain⟨w',z⟩:=I.cell y c e;exact⟨w',z.sameBut hs (cne y c e)⟩
  .obtain⟨e,n,ne,nf,d⟩:=I.pin p hp;exact⟨(hs.2 p.1 ne).trans e,n,ne,nf,d⟩
 .have Cz:X.fn x=true:=by
   rcases hf with z|z
   .exact z
   .rw[z]at hk;cases hk
  obtain⟨c,hc⟩:=I.ok.has x (.inl hk);obtain⟨w',z⟩:=I.cell x c hc;refine wpAny_storeName_cell I.ok.kind hk hc z (λh' xP hs=>?_);obtain⟨oc,zJ,HU⟩:=id z;refine h {s with heap:=h'} ⟨I.ok,I.os,I.bare,⟨λb o e n hb hx=>?_,λb o e n hb hx=>?_,I.base.free,λb o e hx=>?_,I.base.tups,I.base.frzs,I.base.tbls⟩,⟨m,hn.sameBut hs (Tn (cne x c hc)),λj y v' e1 e2 e3=>?_⟩,λy c' e=>?_,I.free,I.freeC,λp hp=>?_,tracked ⟨oc,zJ,I.freeC x c hc⟩ hs,by simpa using I.len⟩ ⟨c,hs,.inr hc⟩
  .exact(hs.2 b (Sa (So (RY e) (I.ok.cab x c Cz hc)))).trans (I.base.keep b o e n hb hx)
  .obtain⟨sl,e1⟩:=I.base.slot b o e n hb hx;exact⟨sl,(hs.2 b (Sa (So (RY e) (I.ok.cab x c Cz hc)))).trans e1⟩
  .obtain⟨o',e1⟩:=I.base.there b o e hx;exact⟨o',(hs.2 b (Sa (So (RY e) (I.ok.cab x c Cz hc)))).trans e1⟩
  .by_cases hj:j=i
   .subst hj;rw[hi]at e1;cases e1;rw[SS Ax]at e2;cases e2;exact⟨u,r,.inr ⟨.inl hk,c,hc,xP⟩⟩
   .rw[SU (Tn hj)]at e2;obtain⟨u',r',q⟩:=hl j y v' e1 e2 e3;refine⟨u',r',?_⟩;rcases q with q|⟨k,c',e,z'⟩
    .exact .inl q
    .refine .inr ⟨k,c',e,z'.sameBut hs ?_⟩;rintro rfl;exact hj (iJ hN e1 (I.ok.inj _ _ _ e hc ▸ hi))
  .by_cases BA:c'=c
   .subst BA;exact⟨_,xP⟩
   .obtain⟨w2,z2⟩:=I.cell y c' e;exact⟨w2,z2.sameBut hs BA⟩
  .obtain⟨e,n,ne,nf,d⟩:=I.pin p hp;refine⟨(hs.2 p.1 ?_).trans e,n,ne,nf,d⟩;intro q;rw[q,zJ]at e;have q':oc=p.2:=RN e;exact d w' (by rw[<-q'];exact HU)
theorem ei{Q:Unit->RE->Prop}(I:Inv X Y σ H s)(hN:X.N.Nodup)(hi:X.N[i]?=A? x)(hx:Loc X.env.scope x)(r:RelV v u)
 (h:∀s',Inv X Y (σ.set i (A? v)) H s'->Q () s') (hf:X.fn x=Bz\/X.env.scope.names.lookup x=A? .local:=by first|exact .inl rfl|exact .inr rfl|assumption):RQ M A (storeName X.env x u) Q E s :=
 j6 I hN hi hx r (λs' I' _=>h s' I') hf
theorem Inv.call'(I:Inv X Y σ H s)(ho:s'.os=s.os)(u:Un (frs X.stack) ch H H' s.1 s'.1)(hok:HOk X.prog X.w H' s'.1)(hg:Xy s'.gens)
 (Bk:∀b∈ch,(b∈X.ex\/X.s₀.heap.1.size<=b)/\b≠X.env.locals/\(∀x c,X.env.cells.lookup x=A? c->c≠b)/\∀p∈X.pn++Y,p.1≠b):Inv X Y σ H' s':=by
 obtain⟨h',g',d',t',o'⟩:=s';have e:o'=s.os:=ho;subst e;exact I.call (g':=g') (t':=t') (d':=d') u hok hg Bk
end
abbrev XK:=Rz->Option Ry->Hp->Prop
abbrev St:=List (Option V)
abbrev VK:=V->Hp->Prop
abbrev TE:=St->Hp->VK->Prop
abbrev TT:=St->Hp->(Bool->Hp->Prop)->Prop
abbrev TA:=St->Hp->(List V->Hp->Prop)->Prop
structure Ends where
 nx:St->Hp->Prop
 rt:VK
 bk:St->Hp->Prop:=λ_ _=>False
 ct:St->Hp->Prop:=λ_ _=>False
abbrev TS:=Ends->St->Hp->Prop
def EP(X:Cx)(Y:List (Ry×TC))(σ:St)(Q:VK)(u:Rz)(s':RE):Prop:=∃v H',Inv X Y σ H' s'/\RelV v u/\Q v H'
def TP(X:Cx)(Y:List (Ry×TC))(σ:St)(Q:Bool->Hp->Prop)(b:Bool)(s':RE):Prop:=∃H',Inv X Y σ H' s'/\Q b H'
def AP(X:Cx)(Y:List (Ry×TC))(σ:St)(Q:List V->Hp->Prop)(us:List Rz)(s':RE):Prop:=∃vs H',Inv X Y σ H' s'/\Vals vs us/\Q vs H'
def SP(X:Cx)(Y:List (Ry×TC))(D:Ends)(f:Flow)(s':RE):Prop :=
 match f with
 |.next=>∃i' H',Inv X Y i' H' s'/\D.nx i' H'
 |.brk=>∃i' H',Inv X Y i' H' s'/\D.bk i' H'
 |.cont=>∃i' H',Inv X Y i' H' s'/\D.ct i' H'
 |.ret u=>∃v i' H',Inv X Y i' H' s'/\RelV v u/\D.rt v H'
def PE(X:Cx)(e:Su)(t:TE):Prop :=
 ∀(Y:List (Ry×TC))(s:RE)(σ:St)(H:Hp)(Q:VK),Inv X Y σ H s->t σ H Q->RQ (R7 X.prog X.w) X.A (TN e X.env) (EP X Y σ Q) X.xe s
def PT(X:Cx)(e:Su)(t:TT):Prop :=
 ∀(Y:List (Ry×TC))(s:RE)(σ:St)(H:Hp)(Q:Bool->Hp->Prop),Inv X Y σ H s->t σ H Q->RQ (R7 X.prog X.w) X.A (isTrue e X.env (TN e X.env)) (TP X Y σ Q) X.xe s
def PW(X:Cx)(e:Su)(t:TT):Prop :=
 ∀(whole:Sem Rz)(Y:List (Ry×TC))(s:RE)(σ:St)(H:Hp)(Q:Bool->Hp->Prop),Inv X Y σ H s->t σ H Q->RQ (R7 X.prog X.w) X.A (isTrue e X.env whole) (TP X Y σ Q) X.xe s
theorem PW.pt{X:Cx}{t:TT}(h:PW X e t):PT X e t:=h _
def PA(X:Cx)(es:List Su)(t:TA):Prop :=
 ∀(pos:UX)(Y:List (Ry×TC))(s:RE)(σ:St)(H:Hp)(Q:List V->Hp->Prop),Inv X Y σ H s->t σ H Q->RQ (R7 X.prog X.w) X.A (spliced (UP pos (Sk es X.env))) (AP X Y σ Q) X.xe s
def PS(X:Cx)(st:V0)(t:TS):Prop :=
 ∀(Y:List (Ry×TC))(s:RE)(σ:St)(H:Hp)(D:Ends),Inv X Y σ H s->t D σ H->RQ (R7 X.prog X.w) X.A (exec st X.env) (SP X Y D) X.xe s
def PSs(X:Cx)(st:List V0)(t:TS):Prop :=
 ∀(Y:List (Ry×TC))(s:RE)(σ:St)(H:Hp)(D:Ends),Inv X Y σ H s->t D σ H->RQ (R7 X.prog X.w) X.A (execs st X.env) (SP X Y D) X.xe s
theorem thn{t:Sem α}{Q Q':α->RE->Prop}(h:RQ M A t Q E s)(hQ:∀a s,Q a s->Q' a s):RQ M A t Q' E s:=Tq h hQ λ_ _ x=>x
end L2
variable{tb:L2.TS}{σ:L2.St}{D:L2.Ends}{tl:L2.TE}{tt:L2.TT}
namespace L2
open PySem PySem.Spec PyProof.Rows
section
variable{X:Cx}
inductive tX(i:Nat)(σ:St)(H:Hp)(Q:VK):Prop
 |mk (v:_) (yH:σ[i]?=A? (A? v)) (yI:Q v H):tX i σ H Q
def bP(i:Nat):TE:=tX i
def tC(v:V):TE:=λ_ H Q=>Q v H
theorem va(hN:X.N[i]?=A? x)(hv:Vis X.env.scope x)(hd:(x == ("__debug__":R1))=false:=by decide)(yf:(x == ("__classdict__":R1))=false:=by decide):PE X (.Name x pos) (bP i):=by
 intro Y s σ H Q I h;obtain⟨v,e,h⟩:=h;obtain⟨m,hn,hl⟩:=I.loc;obtain⟨u,r,l⟩:=hl i x v hN e hv;have fin:EP X Y σ Q u s:=⟨v,H,I,r,h⟩;rcases l with⟨hk,hm⟩|⟨hk,c,hc,yB⟩
 .exact wpAny_Name (wpAny_loadName_local I.ok.kind hk hn hm fin) hd
 .rcases hk with hk|hk
  .exact wpAny_Name (wpAny_loadName_cell I.ok.kind hk hc yB fin) hd
  .exact wpAny_Name (wpAny_loadName_free I.ok.kind hk hc yB fin yf) hd
theorem aj{i j pos}:PE X (.Constant (.int i) j pos) (tC (.int i)):=λ_ _ _ H _ I h=>wpAny_Constant_int ⟨.int i,H,I.tok _,⟨_,rfl⟩,h⟩
theorem ik{b j pos}:PE X (.Constant (.bool b) j pos) (tC (.bl b)):=λ_ _ _ H _ I h=>Constant_bool ⟨.bl b,H,I,rfl,h⟩
theorem iI{j pos}:PE X (.Constant .none j pos) (tC .non):=λ_ _ _ H _ I h=>Constant_none ⟨.non,H,I,rfl,h⟩
theorem cA{x j pos}:PE X (.Constant (.str x) j pos) (tC (.str x)):=λ_ _ _ H _ I h=>Calls.Constant_str ⟨.str x,H,I.tok _,⟨_,rfl⟩,h⟩
def Gl(X:Cx)(x:R1):Prop:=X.env.kindOf x=A? .globalImplicit
theorem gj(I:Inv X Y σ H s)(hg:Gl X x)(hm:X.mg x=A? u)(h:Q u s)
 (hd:(x == ("__debug__":R1))=false:=by decide):RQ (R7 X.prog X.w) X.A (TN (.Name x pos) X.env) Q E s :=
 WS I.ok.kind hg (Calls.loadGlobal_global (by rw[I.ok.glob];exact I.mod.glob.keeps I.bk) hm h) hd
theorem cy(I:Inv X Y σ H s)(hg:Gl X x)(hm:X.mg x=B?)(hv:Wz x=A? u)(h:Q u s)
 (hn:x≠"__name__":=by decide) (hd:(x == ("__debug__":R1))=false:=by decide):RQ (R7 X.prog X.w) X.A (TN (.Name x pos) X.env) Q E s:=by
 obtain⟨mb,h1,h2⟩:=I.mod.blt;exact WS I.ok.kind hg (Calls.loadGlobal_builtin (by rw[I.ok.glob];exact I.mod.glob.keeps I.bk) hm (by rw[I.ok.blt];exact h1.keeps I.bk) ((h2 x hn).trans hv) h) hd
theorem eR(hg:Gl X x)(hm:X.mg x=A? u)(r:RelV v u)(hd:(x == ("__debug__":R1))=false:=by decide):PE X (.Name x pos) (tC v) :=
 λ_ _ _ H _ I h=>gj I hg hm ⟨v,H,I,r,h⟩ hd
theorem tP(hg:Gl X x)(hm:X.mg x=B?)(hv:Wz x=A? u)(r:RelV v u)(hn:x≠"__name__":=by decide)(hd:(x == ("__debug__":R1))=false:=by decide):PE X (.Name x pos) (tC v) :=
 λ_ _ _ H _ I h=>cy I hg hm hv ⟨v,H,I,r,h⟩ hn hd
variable{a b:Su}{ta tb:TE}
def PC(X:Cx)(op:CmpOp)(a b:Su)(t:TE):Prop :=
 ∀(Y:List (Ry×TC))(s:RE)(σ:St)(H:Hp)(Q:VK),Inv X Y σ H s->t σ H Q ->
   RQ (R7 X.prog X.w) X.A (TN a X.env) (λv l'=>RQ (R7 X.prog X.w) X.A (TN b X.env) (λu xM=>RQ (R7 X.prog X.w) X.A (UB op v u) (EP X Y σ Q) X.xe xM) X.xe l') X.xe s
def tB(t:TE):TT:=λσ H Q=>t σ H λx H1=>∃c,x=.bl c/\Q c H1
theorem li{t:TE}(h:PC X op a b t)(h1:W4 op b=false:=by first|exact Er _ (by decide) (by decide)|rfl):PT X (.Compare a [op] [b] pos) (tB t):=by
 intro Y s σ H Q I hw;refine wpAny_isTrue_Compare1 (thn (h Y s σ H _ I hw) λv s1 h1=>thn h1 λu s2 h2=>thn h2 λc s3⟨x,H1,I1,r1,q1⟩=>?_) h1;obtain⟨d,rfl,q⟩:=q1;cases r1;exact Vj ⟨H1,I1,q⟩
variable{tA Gy:TT}{rest:List Su}
def wC(t u:TT):TT:=λσ H Q=>t σ H λc H1=>if c=Bz then u σ H1 Q else Q C? H1
def tOr(t u:TT):TT:=λσ H Q=>t σ H λc H1=>if c=Bz then Q Bz H1 else u σ H1 Q
def wI(t:TT):TT:=λσ H Q=>t σ H λc H1=>Q (!c) H1
theorem lg(ha:PT X a tA):PW X (.BoolOp .And [a] pos) tA:=by
 intro wh Y s σ H Q I h;refine isTrue_and (thn (ha Y s σ H Q I h) λc s1 e=>?_);cases c with
 |true=>exact isTrue_and_nil e
 |false=>exact e
theorem qT(ha:PT X a tA):PW X (.BoolOp .Or [a] pos) tA:=by
 intro wh Y s σ H Q I h;refine isTrue_or (thn (ha Y s σ H Q I h) λc s1 e=>?_);cases c with
 |false=>exact isTrue_or_nil e
 |true=>exact e
theorem nj(ha:PT X a tA)(hb:PW X (.BoolOp .And (b::rest) pos) Gy):PW X (.BoolOp .And (a::b::rest) pos) (wC tA Gy):=by
 intro wh Y s σ H Q I h;refine isTrue_and (thn (ha Y s σ H _ I h) λc s1⟨H1,I1,q1⟩=>?_);cases c with
 |true=>exact hb wh Y s1 σ H1 Q I1 q1
 |false=>exact⟨H1,I1,q1⟩
theorem t5(ha:PT X a tA)(hb:PW X (.BoolOp .Or (b::rest) pos) Gy):PW X (.BoolOp .Or (a::b::rest) pos) (tOr tA Gy):=by
 intro wh Y s σ H Q I h;refine isTrue_or (thn (ha Y s σ H _ I h) λc s1⟨H1,I1,q1⟩=>?_);cases c with
 |true=>exact⟨H1,I1,q1⟩
 |false=>exact hb wh Y s1 σ H1 Q I1 q1
theorem qL(ha:PT X a tA):PT X (.UnaryOp .Not a pos) (wI tA):=by
 intro Y s σ H Q I h;exact isTrue_not (ha Y s σ H (λc H1=>Q (!c) H1) I h)
def vB(ta tb:TE):TE:=λσ H Q=>ta σ H λx H1=>∃c,x=.bl c/\if c=Bz then tb σ H1 Q else Q (.bl C?) H1
theorem ut{op}{t:TE}(h:PE X a t):PE X (.BoolOp op [a] pos) t:=λY s σ H Q I hw=>BoolOp_one (h Y s σ H Q I hw)
theorem uD(ha:PE X a ta)(hb:PE X (.BoolOp .And (b::rest) pos) tb):PE X (.BoolOp .And (a::b::rest) pos) (vB ta tb):=by
 intro Y s σ H Q I h;refine BoolOp_and (thn (ha Y s σ H _ I h) λv s1⟨x,H1,I1,r1,q1⟩=>?_);obtain⟨c,rfl,q1⟩:=q1;cases r1;refine Vj ?_;cases c with
 |true=>exact hb Y s1 σ H1 Q I1 q1
 |false=>exact⟨.bl C?,H1,I1,CA,q1⟩
def tIf(t:TT)(ta tb:TE):TE:=λσ H Q=>t σ H λc H1=>if c=Bz then ta σ H1 Q else tb σ H1 Q
theorem l5{c:Su}(hc:PT X c tA)(ha:PE X a ta)(hb:PE X b tb):PE X (.IfExp c a b pos) (tIf tA ta tb):=by
 intro Y s σ H Q I h;refine wpAny_IfExp (thn (hc Y s σ H _ I h) λd s1⟨H1,I1,q1⟩=>?_);cases d with
 |true=>exact ha Y s1 σ H1 Q I1 q1
 |false=>exact hb Y s1 σ H1 Q I1 q1
end
def SqL(K:RH)(H:Hp)(a:Ry)(xs:List V):Prop :=
 Rd H a (.lst xs) \/
  ∃(o:TC)(its:Array Rz)(n:Nat),K.lookup a=A? o/\o.cls=.type "list"/\o.dict=B?/\o.data=.seq its n/\its.size<=RZ/\Vals xs its.toList
def SqT(K:RH)(H:Hp)(a:Ry)(xs:List V):Prop :=
 Rd H a (.tup xs) \/
  ∃(o:TC)(its:Array Rz)(n:Nat),K.lookup a=A? o/\o.cls=.type "tuple"/\o.data=.seq its n/\its.size<=RZ/\Vals xs its.toList
def wZ:Rz->Option V
 |.none=>A? .non
 |.bool b=>A? (.bl b)
 |.int i _=>A? (.int i)
 |.str x _=>A? (.str x)
 |.bytes b _=>A? (.byt b)
 |.float b _=>A? (.flt b)
 |.ref a=>A? (.ref a)
 |.type n=>A? (.ty n)
 |_=>B?
theorem RelV.abs{x:V}(r:RelV x u):wZ u=A? x:=by
 cases x with
 |non=>cases r;rfl
 |bl _=>cases r;rfl
 |int _=>obtain⟨t,rfl⟩:=r;rfl
 |str _=>obtain⟨t,rfl⟩:=r;rfl
 |byt _=>obtain⟨t,rfl⟩:=r;rfl
 |flt _=>obtain⟨t,rfl⟩:=r;rfl
 |ref _=>cases r;rfl
 |ty _=>cases r;rfl
theorem RelV.inj{x:V}(r:RelV x u)(q:RelV y u):x=y:=RN (r.abs.symm.trans q.abs)
theorem Vals.inj:∀{xs ys:List V}{us:List Rz},Vals xs us->Vals ys us->xs=ys
 |_,_,_,.nil,.nil=>rfl
 |_,_,_,.cons r t,.cons r' t'=>by rw[r.inj r',Vals.inj t t']
section
variable{X:Cx}{ys:List V}
theorem SqL.of(h:H a=A? (.lst xs)):SqL K H a xs:=.inl (.inl h)
theorem SqT.of(h:H a=A? (.tup xs)):SqT K H a xs:=.inl (.inl h)
theorem Inv.list(I:Inv X Y σ H s)(h:SqL X.K H a xs):∃its:List Rz,Vals xs its/\PlainL s.1 a its.toArray/\xs.length<=RZ:=by
 rcases h with h|⟨o,its,n,hk,hc,hd,hs,hz,r⟩
 .obtain⟨z,its,n,r,e⟩:=h.ok I.hok;exact⟨its,r,⟨_,n,e,CA,CA,CA⟩,z⟩
 .refine⟨its.toList,r,⟨o,n,I.kIn a o hk,hc,hd,by simpa using hs⟩,?_⟩;have e:=r.length;simp only[Sd]at e;lia
theorem Inv.tuple(I:Inv X Y σ H s)(h:SqT X.K H a xs):∃its:List Rz,Vals xs its/\IsTup s.1 a its.toArray/\xs.length<=RZ:=by
 rcases h with h|⟨o,its,n,hk,hc,hs,hz,r⟩
 .obtain⟨z,its,n,r,p⟩:=h.ok I.hok;exact⟨its,r,⟨_,p,CA,n,CA⟩,z⟩
 .refine⟨its.toList,r,⟨o,I.kIn a o hk,hc,n,by simpa using hs⟩,?_⟩;have e:=r.length;simp only[Sd]at e;lia
theorem Inv.list_inj(I:Inv X Y σ H s)(h:SqL X.K H a xs)(h':SqL X.K H a ys):xs=ys:=by
 obtain⟨its,r,⟨o,n,e,_,_,d⟩,_⟩:=I.list h;obtain⟨its',r',⟨o',n',e',_,_,d'⟩,_⟩:=I.list h';rw[e]at e';cases e';rw[d]at d';injection d' with d1 _;have:its=its':=by simpa using Zd XZ d1
 subst this;exact r.inj r'
theorem Inv.tuple_inj(I:Inv X Y σ H s)(h:SqT X.K H a xs)(h':SqT X.K H a ys):xs=ys:=by
 obtain⟨its,r,⟨o,e,_,n,d⟩,_⟩:=I.tuple h;obtain⟨its',r',⟨o',e',_,n',d'⟩,_⟩:=I.tuple h';rw[e]at e';cases e';rw[d]at d';injection d' with d1 _;have:its=its':=by simpa using Zd XZ d1
 subst this;exact r.inj r'
end
abbrev Cx.wish(X:Cx)(E:Rz->RE->Prop):Cx:={X with xe:=E}
abbrev Cx.nox(X:Cx):Cx:=X.wish λ_ _=>False
theorem Cx.Ok.wish{X:Cx}(ok:X.Ok)(E:Rz->RE->Prop):(X.wish E).Ok :=
 ⟨ok.mod,ok.kind,ok.glob,ok.blt,ok.above,ok.inj,ok.has,ok.cab,ok.hd,ok.frames,ok.stk,ok.exf,ok.bs,ok.bsz,ok.noex,ok.exfs,ok.funs,ok.frf⟩
theorem Cx.Ok.unwish{X:Cx}(ok:(X.wish E).Ok):X.Ok :=
 ⟨ok.mod,ok.kind,ok.glob,ok.blt,ok.above,ok.inj,ok.has,ok.cab,ok.hd,ok.frames,ok.stk,ok.exf,ok.bs,ok.bsz,ok.noex,ok.exfs,ok.funs,ok.frf⟩
section
variable{X:Cx}
theorem Inv.wish(I:Inv X Y σ H s)(E:Rz->RE->Prop):Inv (X.wish E) Y σ H s:=⟨I.ok.wish E,I.os,I.bare,I.base,I.loc,I.cell,I.free,I.freeC,I.pin,I.hok,I.len⟩
theorem Inv.unwish(I:Inv (X.wish E) Y σ H s):Inv X Y σ H s:=⟨I.ok.unwish,I.os,I.bare,I.base,I.loc,I.cell,I.free,I.freeC,I.pin,I.hok,I.len⟩
theorem SP.unwish{f:Flow}(h:SP (X.wish E) Y D f s'):SP X Y D f s':=by
 cases f with
 |next=>obtain⟨i',H',I,q⟩:=h;exact⟨i',H',I.unwish,q⟩
 |brk=>obtain⟨i',H',I,q⟩:=h;exact⟨i',H',I.unwish,q⟩
 |cont=>obtain⟨i',H',I,q⟩:=h;exact⟨i',H',I.unwish,q⟩
 |ret u=>obtain⟨v,i',H',I,r,q⟩:=h;exact⟨v,i',H',I.unwish,r,q⟩
theorem PSs.nox{st:List V0}{t:TS}(h:PSs X.nox st t):PSs X st t:=λY s σ H D I hw =>
 Tq (h Y s σ H D (I.wish _) hw) (λ_ _ q=>q.unwish) λ_ _ z=>TM z
end
section
variable{X:Cx}{rest:List V0}{t u:TS}{te:TE}
def vD:TS:=λD σ H=>D.nx σ H
def vn(t u:TS):TS:=λD σ H=>t {D with nx:=u D} σ H
theorem bA:PSs X [] vD:=λ_ _ σ H _ I h=>Wq ⟨σ,H,I,h⟩
theorem af(h1:PS X st t)(h2:PSs X rest u):PSs X (st::rest) (vn t u):=by
 intro Y s σ H D I h;refine wpAny_execs_cons (thn (h1 Y s σ H {D with nx:=u D} I h) λf s1 q=>?_);cases f with
 | next =>
   obtain⟨i',H',I',q⟩:=q;exact h2 Y s1 i' H' D I' q
 |ret v=>exact q
 |brk=>exact q
 |cont=>exact q
theorem ak(h1:PS X st t):PSs X [st] t:=by
 intro Y s σ H D I h;refine wpAny_execs_cons (thn (h1 Y s σ H D I h) λf s1 q=>?_);cases f with
 |next=>exact Wq q
 |ret v=>exact q
 |brk=>exact q
 |cont=>exact q
theorem Inv.quiet(I:Inv X Y σ H s):interactive X.env=false:=by simp[interactive,I.ok.kind]
def rf(te:TE):TS:=λD σ H=>te σ H λ_ H1=>D.nx σ H1
theorem aY(he:PE X e te)(hs:swapsWith e B? pos.line X.env=pure false:=by rfl):PS X (.Expr e pos) (rf te):=by
 intro Y s σ H D I h;exact wpAny_Expr_any (thn (he Y s σ H _ I h) λv s1⟨x,H1,I1,r1,q1⟩=>⟨σ,H1,I1,q1⟩) I.quiet hs
def wH(te:TE):TS:=λD σ H=>te σ H D.rt
theorem aP(he:PE X e te):PS X (.Return (A? e) pos) (wH te):=by
 intro Y s σ H D I h;exact wpAny_Return_some (thn (he Y s σ H _ I h) λv s1⟨x,H1,I1,r1,q1⟩=>⟨x,σ,H1,I1,r1,q1⟩)
def vj(c:TT)(t u:TS):TS:=λD σ H=>c σ H λb H1=>if b=Bz then t D σ H1 else u D σ H1
theorem bT{c:Su}{a b:List V0}{tc:TT}(hc:PT X c tc)(ha:PSs X a t)(hb:PSs X b u):PS X (.If c a b pos) (vj tc t u):=by
 intro Y s σ H D I h;refine wpAny_If (thn (hc Y s σ H _ I h) λd s1⟨H1,I1,q1⟩=>?_);cases d with
 |true=>exact ha Y s1 σ H1 D I1 q1
 |false=>exact hb Y s1 σ H1 D I1 q1
end
abbrev TG:=V->St->Hp->(St->Hp->Prop)->Prop
abbrev TGs:=List V->St->Hp->(St->Hp->Prop)->Prop
def PG(X:Cx)(target:Su)(t:TG):Prop :=
 ∀(Y:List (Ry×TC))(s:RE)(σ:St)(H:Hp)(v:V)(u:Rz)(Q:St->Hp->Prop),Inv X Y σ H s->RelV v u->t v σ H Q ->
   RQ (R7 X.prog X.w) X.A (assign target X.env u) (λ_ s'=>∃i' H',Inv X Y i' H' s'/\Q i' H') X.xe s
def PGs(X:Cx)(ts:List Su)(t:TGs):Prop :=
 ∀(Y:List (Ry×TC))(s:RE)(σ:St)(H:Hp)(vs:List V)(us:List Rz)(Q:St->Hp->Prop),Inv X Y σ H s->Vals vs us->t vs σ H Q ->
   RQ (R7 X.prog X.w) X.A (assignInOrder ((Xk ts X.env).map (·.2)) us) (λ_ s'=>∃i' H',Inv X Y i' H' s'/\Q i' H') X.xe s
abbrev ux:=V->V->V->Hp->(Hp->Prop)->Prop
def v8(X:Cx)(t:ux):Prop :=
 ∀(Y:List (Ry×TC))(s:RE)(σ:St)(H:Hp)(o i v:V)(ov iv u:Rz)(Q:Hp->Prop),Inv X Y σ H s->RelV o ov->RelV i iv->RelV v u->t o i v H Q ->
   RQ (R7 X.prog X.w) X.A (setItem ov iv u) (λ_ s'=>∃H',Inv X Y σ H' s'/\Q H') X.xe s
abbrev TIp:=V->V->Hp->VK->Prop
def PIp(X:Cx)(op:Operator)(t:TIp):Prop :=
 ∀(Y:List (Ry×TC))(s:RE)(σ:St)(H:Hp)(x y:V)(v u:Rz)(Q:VK),Inv X Y σ H s->RelV x v->RelV y u->t x y H Q ->
   RQ (R7 X.prog X.w) X.A (inplaceOp op v u) (EP X Y σ Q) X.xe s
section
variable{X:Cx}
def aw(i:Nat):TG:=λv σ H Q=>Q (σ.set i (A? v)) H
theorem tE(hN:X.N.Nodup)(hi:X.N[i]?=A? x)(hx:Loc X.env.scope x)(hf:X.fn x=Bz\/X.env.scope.names.lookup x=A? .local:=by first|exact .inl rfl|exact .inr rfl|assumption):PG X (.Name x pos) (aw i):=by
 intro Y s σ H v u Q I r h;exact wpAny_assign_Name (ei I hN hi hx r (λs' I'=>⟨_,H,I',h⟩) hf)
def jF:TGs:=λvs σ H Q=>vs=[]/\Q σ H
def bU(t:TG)(u:TGs):TGs:=λvs σ H Q=>∃v r,vs=v::r/\t v σ H λi' H'=>u r i' H' Q
theorem aN:PGs X [] jF:=by
 intro Y s σ H vs us Q I r h;obtain⟨e,h⟩:=h;subst e;cases r;exact assignInOrder_nil ⟨σ,H,I,h⟩
theorem am{es:List Su}{t:TG}{u:TGs}(h1:PG X e t)(h2:PGs X es u)
 (hs:(Xk (e::es) X.env).map (·.2)=assign e X.env::(Xk es X.env).map (·.2):=by rfl):PGs X (e::es) (bU t u):=by
 intro Y s σ H vs us Q I r h;obtain⟨v,vr,e1,h⟩:=h;subst e1;cases r with
 | cons r rr =>
   rw[hs];refine assignInOrder_cons (thn (h1 Y s σ H _ _ _ I r h) λ_ s1⟨xA,H1,I1,q1⟩=>?_);exact h2 Y s1 xA H1 _ _ Q I1 rr q1
def jG(K:RH)(n:Nat)(t:TGs):TG:=λv σ H Q=>∃a xs,v=.ref a/\SqT K H a xs/\xs.length=n/\t xs σ H Q
theorem bc{es:List Su}{k:Nat}{t:TGs}(hc:X.calm=Bz)(h:PGs X es t)
 (hn:(Xk es X.env).length=n:=by rfl) (xB:(Xk es X.env).findIdx? (·.1)=none:=by rfl):PG X (.Tuple es k pos) (jG X.K n t):=by
 intro Y s σ H v u Q I r hw;obtain⟨a,xs,e1,hq,hl,hw⟩:=hw;subst e1;cases r;obtain⟨its,rv,ht,hz⟩:=I.tuple hq;refine assign_Tuple_tuple (I.ok.hd hc) ht (by simp[hn,<-hl,rv.length]) xB λh' hx=>?_;have I1:Inv X Y σ H {s with heap:=h'}:=I.kept (t':=s.toks) λb o e=>hx b o (Sa (RY e)) e;exact h Y _ σ H xs _ Q I1 (by simpa using rv) hw
def wO(to ti:TE)(t:ux):TG:=λv σ H Q=>to σ H λo H1=>ti σ H1 λi H2=>t o i v H2 λH3=>Q σ H3
theorem uN{o i:Su}{to ti:TE}{t:ux}(ho:PE X o to)(hi:PE X i ti)(hs:v8 X t)
 (ha:∀v,assign (.Subscript o i pos) X.env v=(do
  let ov <-Xi [v] (TN o X.env)
  let iv <-Xi [v,ov] (TN i X.env)
  standAt pos
  Xi [v,ov,iv] (setItem ov iv v)
  release [v,ov,iv] []):=by intro _;rfl):PG X (.Subscript o i pos) (wO to ti t):=by
 intro Y s σ H v u Q I r h;rw[ha];refine Rv (SN (thn (ho Y s σ H _ I h) λov s1⟨x,H1,I1,r1,q1⟩=>?_));refine Rv (SN (thn (hi Y s1 σ H1 _ I1 q1) λiv s2⟨y,H2,I2,r2,q2⟩=>?_));refine Rv (wpAny_standAt (Rv (SN (thn (hs Y s2 σ H2 x y v ov iv u _ I2 r1 r2 r q2) λ_ s3⟨H3,I3,q3⟩=>?_))));exact wpAny_release ⟨σ,H3,I3,q3⟩
def p8(te:TE)(g:TG):TS:=λD σ H=>te σ H λx H1=>g x σ H1 D.nx
theorem kP{te:TE}{g:TG}(he:PE X e te)(hg:PG X tg g)(hs:swapsWithSole [tg] e pos.line X.env=pure false:=by rfl)(hw:swappedStores [tg] e X.env=pure none:=by rfl)
 (h1:(Xk [tg] X.env).map (·.2)=[assign tg X.env]:=by rfl):PS X (.Assign [tg] e pos) (p8 te g):=by
 intro Y s σ H D I h;refine wpAny_Assign_stores (thn (he Y s σ H _ I h) λv s1⟨x,H1,I1,r1,q1⟩=>?_) hs hw;rw[h1];exact thn (hg Y s1 σ H1 x v _ I1 r1 q1) λ_ s2 q=>q
theorem uY{te:TE}(hN:X.N.Nodup)(hi:X.N[i]?=A? x)(hx:Loc X.env.scope x)(he:PE X e te)(hs:swapsWith e (A? (.Name x pos')) pos.line X.env=pure false:=by rfl)(hf:X.fn x=Bz\/X.env.scope.names.lookup x=A? .local:=by first|exact .inl rfl|exact .inr rfl|assumption) :
 PS X (.Assign [.Name x pos'] e pos) (p8 te (aw i)):=by
 intro Y s σ H D I h;refine wpAny_Assign_Name (thn (he Y s σ H _ I h) λv s1⟨y,H1,I1,r1,q1⟩=>?_) hs;exact ei I1 hN hi hx r1 (λs2 I2=>⟨_,H1,I2,q1⟩) hf
def wE(i:Nat)(te:TE)(ti:TIp):TS:=λD σ H=>∃x,σ[i]?=A? (A? x)/\te σ H λy H1=>ti x y H1 λz H2=>D.nx (σ.set i (A? z)) H2
theorem u6{te:TE}{op:Operator}{ti:TIp}(hN:X.N.Nodup)(hi:X.N[i]?=A? x)(hx:Loc X.env.scope x)(he:PE X e te)(ho:PIp X op ti)(hf:X.fn x=Bz\/X.env.scope.names.lookup x=A? .local:=by first|exact .inl rfl|exact .inr rfl|assumption) :
 PS X (.AugAssign (.Name x pos') op e pos) (wE i te ti):=by
 intro Y s σ H D I h;obtain⟨v,e1,h⟩:=h;obtain⟨m,hn,hl⟩:=I.loc;have K0:Vis X.env.scope x:=by rcases hx with k|k;exact .inl k;exact .inr (.inl k)
 obtain⟨u,r,l⟩:=hl i x v hi e1 K0;refine wpAny_AugAssign_Name ?_
 have go:RQ (R7 X.prog X.w) X.A (TN e X.env) (λw xM=>RQ (R7 X.prog X.w) X.A (inplaceOp op u w) (λr yJ=>RQ (R7 X.prog X.w) X.A (storeName X.env x r) (λ_=>SP X Y D .next) X.xe yJ) X.xe xM) X.xe s:=by
  refine thn (he Y s σ H _ I h) λw s1⟨y,H1,I1,r1,q1⟩=>?_;refine thn (ho Y s1 σ H1 v y u w _ I1 r r1 q1) λz s2⟨zv,H2,I2,r2,q2⟩=>?_;exact ei I2 hN hi hx r2 (λs3 I3=>⟨_,H2,I3,q2⟩) hf
 rcases l with⟨hk,hm⟩|⟨hk,c,hc,yB⟩
 .exact wpAny_loadName_local I.ok.kind hk hn hm go
 .rcases hk with hk|hk
  .exact wpAny_loadName_cell I.ok.kind hk hc yB go
  .rcases hx with k|k
   .have:X.env.scope.names.lookup x=A? .free:=hk;rw[k]at this;cases this
   .have:X.env.scope.names.lookup x=A? .free:=hk;rw[k]at this;cases this
def ipI(f:Int->Int->Int):TIp:=λx y H Q=>∃i j,x=.int i/\y=.int j/\Q (.int (f i j)) H
end
section
variable{X:Cx}
def uR(c:TT)(tb:TS):TS:=λD σ H=>∃W:Nat->St->Hp->Prop,(∃m,W m σ H)/\∀m σ H,W m σ H ->
 c σ H λb H1=>if b=Bz then∃N:St->Hp->Prop,(∀i' H',N i' H'->∃m',m'<m/\W m' i' H')/\tb {D with nx:=N,ct:=N,bk:=D.nx} σ H1 else D.nx σ H1
theorem gp{c:Su}{tc:TT}(hp:PassesOwn (R7 X.prog X.w) X.A X.env X.xe)(hc:PT X c tc)(hb:PSs X body tb):PS X (.While c body [] pos) (uR tc tb):=by
 intro Y s σ H D I h;obtain⟨W,⟨m0,w0⟩,turn⟩:=h;refine wpAny_While (codeAny_whileLoop (λn s'=>∃i' H',Inv X Y i' H' s'/\W n i' H') ?_ m0 ⟨σ,H,I,w0⟩);rintro n s1 ⟨xA,H1,I1,w1⟩;refine Vd hp (thn (hc Y s1 xA H1 _ I1 (turn n xA H1 w1)) λb s2⟨H2,I2,q2⟩=>?_);cases b with
 | true =>
   obtain⟨N,hN,q2⟩:=q2;rw[Yb rfl];refine Vd hp (thn (hb Y s2 xA H2 _ I2 q2) λf s3 q3=>?_);cases f with
   | next =>
     obtain⟨Ay,H3,I3,n3⟩:=q3;obtain⟨m',hm,w3⟩:=hN Ay H3 n3;exact⟨m',hm,Ay,H3,I3,w3⟩
   | cont =>
     obtain⟨Ay,H3,I3,n3⟩:=q3;obtain⟨m',hm,w3⟩:=hN Ay H3 n3;exact⟨m',hm,Ay,H3,I3,w3⟩
   |brk=>exact q3
   |ret v=>exact q3
 | false =>
   rw[Za R0];exact Wq ⟨xA,H2,I2,q2⟩
end
structure It where
 go:Nat->Hp->Prop
 yld:Nat->Hp->V->Hp->Prop
 stop:Nat->Hp->Prop
def FpOk(X:Cx)(Y:List (Ry×TC))(H:Hp)(b:Ry):Prop :=
 H b=B?/\b≠X.env.locals/\b∉X.fs/\(b∈X.ex\/X.s₀.heap.1.size<=b)/\(∀x c,X.env.cells.lookup x=A? c->c≠b)/\∀p∈X.pn++Y,p.1≠b
theorem Inv.fpOk{X:Cx}(I:Inv X Y σ H s)(hb:s.1.1.size<=b)(hn:H' b=B?):FpOk X Y H' b:=by
 refine⟨hn,US (So I.lt hb),I.nofs hb,.inr (Ss I.sz hb),λx c e z=>?_,λp hp z=>?_⟩
 .obtain⟨v,q⟩:=I.cell x c e;exact Yd (So q.lt (by rw[z];exact hb)) (S7 _)
 .exact Yd (So (RY (I.pin p hp).1) (by rw[z];exact hb)) (S7 _)
structure Turn(P:R3)(w:Se)(K:RH)(tg:Su)(J:It)(fp:List Ry)(it:Ry)(tn:Nat->SM->Prop):Prop where
 mem:it∈fp
 obj:∀i h,tn i h->∀b∈fp,∃o,h.get? b=A? o/\∀v,o.data≠.cell v
 keep:∀i h h',tn i h->(∀b∈fp,∀o,h.get? b=A? o->h'.get? b=A? o)->tn i h'
 item:∀(X:Cx),X.prog=P->X.w=w->X.K=K->X.calm=Bz->∀(i:Nat)(Y:List (Ry×TC))(s:RE)(σ:St)(H:Hp)(E:Rz->RE->Prop),Inv X Y σ H s->(∀b∈fp,FpOk X Y H b)->tn i s.1->J.go i H ->
  RQ (R7 P w) X.A (UZ (.ref it)) (λr s1=>∃u,r=A? u /\
   RQ (R7 P w) X.A (Xr tg (.ref it) u) (λ_ s2=>∃x H',Inv X Y σ H' s2/\RelV x u/\J.yld i H x H'/\tn (i+1) s2.1/\∀b∈fp,H' b=B?) E s1) E s
 done:∀(X:Cx),X.prog=P->X.w=w->X.K=K->X.calm=Bz->∀(i:Nat)(Y:List (Ry×TC))(s:RE)(σ:St)(H:Hp)(E:Rz->RE->Prop),Inv X Y σ H s->(∀b∈fp,FpOk X Y H b)->tn i s.1->J.stop i H ->
  RQ (R7 P w) X.A (UZ (.ref it)) (λr s1=>r=B?/\Inv X Y σ H s1) E s
 self:∀(A:Si)(i:Nat)(s:RE)(Q:Rz->RE->Prop)(E:Rz->RE->Prop),tn i s.1->Q (.ref it) s->RQ (R7 P w) A (pyIter (.ref it)) Q E s
abbrev TI:=St->Hp->(It->Hp->Prop)->Prop
def PIE(X:Cx)(Y:List (Ry×TC))(σ:St)(tg:Su)(R:It->Hp->Prop)(Gz:Rz)(s2:RE):Prop :=
 ∃(it:Ry)(fp:List Ry)(tn:Nat->SM->Prop)(J:It)(H':Hp),Gz=.ref it/\Inv X Y σ H' s2/\Turn X.prog X.w X.K tg J fp it tn/\tn 0 s2.1/\(∀b∈fp,FpOk X Y H' b)/\R J H'
def PI(X:Cx)(tg iter:Su)(wi:TI):Prop :=
 ∀(Y:List (Ry×TC))(s:RE)(σ:St)(H:Hp)(R:It->Hp->Prop),Inv X Y σ H s->wi σ H R ->
   RQ (R7 X.prog X.w) X.A (TN iter X.env) (λv s1=>RQ (R7 X.prog X.w) X.A (pyIter v) (PIE X Y σ tg R) X.xe s1) X.xe s
theorem oP{o:TC}{n:String}{vs:Array Rz}{Q:Unit->RE->Prop}(ho:s.1.get? it=A? o)(hc:o.cls=.type n)(hd:o.data=.fields vs)
 (hn:["enumerate","zip","dict_itemiterator","dict_reverseitemiterator","odict_iterator","itertools.zip_longest","itertools.pairwise"].contains n=C?) (hQ:Q () s):RQ M A (Xr tg (.ref it) u) Q E s:=by
 unfold Xr
 cases tg <;> first
  |exact RD hQ
  |(cases u <;> first
   |exact RD hQ
   | (refine Rv (wpAny_load ho ?_)
      rw[hc,hd];show RQ M A (if(["enumerate","zip","dict_itemiterator","dict_reverseitemiterator","odict_iterator","itertools.zip_longest","itertools.pairwise"].contains n && vs[0]? == A? (Ud _))=Bz then _ else _) Q E s;rw[Za (by intro h;rw[hn,Bool.false_and]at h;cases h)];exact RD hQ))
def Itl(K:RH)(a:Ry):It :=
 ⟨λi H=>∃xs x,SqL K H a xs/\xs[i]?=A? x,λi H x H'=>H'=H/\∀xs,SqL K H a xs->xs[i]?=A? x,λi H=>∃xs,SqL K H a xs/\xs.length<=i⟩
def Itt(K:RH)(a:Ry):It :=
 ⟨λi H=>∃xs x,SqT K H a xs/\xs[i]?=A? x,λi H x H'=>H'=H/\∀xs,SqT K H a xs->xs[i]?=A? x,λi H=>∃xs,SqT K H a xs/\xs.length<=i⟩
def Itr(lo:Int)(n:Nat):It:=⟨λi _=>i<n,λi H x H'=>H'=H/\x=.int (lo+i),λi _=>n<=i⟩
theorem o6(a it:Ry):Turn P w K tg (Itl K a) [it] it (λi h=>h.IsListIter it a i) where
 mem:=by simp
 obj:=λi h st b hb=>by
  have e:b=it:=by simpa using hb
  subst e;obtain⟨o,e,c,d⟩:=st;exact⟨o,e,λv z=>by rw[d]at z;cases z⟩
 keep:=λi h h' st k=>st.at λo e=>k it (by simp) o e
 item:=by
  intro X hP hw hK hc i Y s σ H E I hf st hg;subst hP hw hK;obtain⟨xs,x,hq,hx⟩:=hg;obtain⟨its,rv,p,hz⟩:=I.list hq;obtain⟨u,hu,ru⟩:=rv.get hx;obtain⟨f0,f1,f2,f3,f4,f5⟩:=hf it (by simp);refine wpAny_pyNext_list_item st p.isList (x:=u) (by simpa using hu) λh' Am sb=>?_;have I1:Inv X Y σ H {s with heap:=h'}:=I.turned (t':=s.toks) (λb o hb e=>(sb.2 b hb).trans e) f0 f1 f3 f4 f5;obtain⟨o,e,c,d⟩:=id Am;exact⟨u,CA,oP (s:={s with heap:=h'}) e c d (by decide) ⟨x,H,I1,ru,⟨CA,λys hy=>by rw[I.list_inj hy hq];exact hx⟩,Am,λb hb=>(hf b hb).1⟩⟩
 done:=by
  intro X hP hw hK hc i Y s σ H E I hf st hg;subst hP hw hK;obtain⟨xs,hq,hx⟩:=hg;obtain⟨its,rv,p,hz⟩:=I.list hq;obtain⟨f0,f1,f2,f3,f4,f5⟩:=hf it (by simp);have hl:=rv.length;exact wpAny_pyNext_list_end (I.ok.hd hc) st p.isList (by simp;lia) λh' eb=>⟨rfl,I.turned (t':=s.toks) (λb o hb e=>eb b o hb e) f0 f1 f3 f4 f5⟩
 self:=λ_ _ _ _ _ st h=>wpAny_pyIter_listiter st h
theorem m9(a it:Ry):Turn P w K tg (Itt K a) [it] it (λi h=>h.IsTupleIter it a i) where
 mem:=by simp
 obj:=λi h st b hb=>by
  have e:b=it:=by simpa using hb
  subst e;obtain⟨o,e,c,d⟩:=st;exact⟨o,e,λv z=>by rw[d]at z;cases z⟩
 keep:=λi h h' st k=>st.at λo e=>k it (by simp) o e
 item:=by
  intro X hP hw hK hc i Y s σ H E I hf st hg;subst hP hw hK;obtain⟨xs,x,hq,hx⟩:=hg;obtain⟨its,rv,p,hz⟩:=I.tuple hq;obtain⟨u,hu,ru⟩:=rv.get hx;obtain⟨f0,f1,f2,f3,f4,f5⟩:=hf it (by simp);refine wpAny_pyNext_tuple_item st (show s.1.IsTuple a its.toArray from p) (x:=u) (by simpa using hu) λh' Am sb=>?_;have I1:Inv X Y σ H {s with heap:=h'}:=I.turned (t':=s.toks) (λb o hb e=>(sb.2 b hb).trans e) f0 f1 f3 f4 f5;obtain⟨o,e,c,d⟩:=id Am;exact⟨u,CA,oP (s:={s with heap:=h'}) e c d (by decide) ⟨x,H,I1,ru,⟨CA,λys hy=>by rw[I.tuple_inj hy hq];exact hx⟩,Am,λb hb=>(hf b hb).1⟩⟩
 done:=by
  intro X hP hw hK hc i Y s σ H E I hf st hg;subst hP hw hK;obtain⟨xs,hq,hx⟩:=hg;obtain⟨its,rv,p,hz⟩:=I.tuple hq;obtain⟨f0,f1,f2,f3,f4,f5⟩:=hf it (by simp);have hl:=rv.length;exact wpAny_pyNext_tuple_end (I.ok.hd hc) st (show s.1.IsTuple a its.toArray from p) (by simp;lia) λh' eb=>⟨rfl,I.turned (t':=s.toks) (λb o hb e=>eb b o hb e) f0 f1 f3 f4 f5⟩
 self:=λ_ _ _ _ _ st h=>wpAny_pyIter_tupleiter st h
theorem nn(it:Ry)(lo:Int)(n:Nat):Turn P w K tg (Itr lo n) [it] it (λi h=>IsRangeIter h it (lo+(i:Nat) * 1) ((n:Int) - (i:Nat)) 1) where
 mem:=by simp
 obj:=λi h st b hb=>by
  have e:b=it:=by simpa using hb
  subst e
  exact⟨_,st,λv z=>by
   have z':Data.fields _=Data.cell v:=z;cases z'⟩
 keep:=λi h h' st k=>k it (by simp) _ st
 item:=by
  intro X hP hw hK hc i Y s σ H E I hf st hg;subst hP hw hK;obtain⟨f0,f1,f2,f3,f4,f5⟩:=hf it (by simp);have W:=Walks.range (prog:=X.prog) (w:=X.w) (I.ok.hd hc) it lo 1 n;refine W.item i s _ _ hg st λv h' tk hv Am kk=>?_;obtain⟨t,rfl⟩:=hv;have I1:Inv X Y σ H {s with heap:=h',toks:=tk}:=I.turned (λb o hb e=>kk b o (by simpa using hb) e) f0 f1 f3 f4 f5;refine⟨_,CA,oP (s:={s with heap:=h',toks:=tk}) (n:="range_iterator") Am rfl rfl (by decide) ⟨.int (lo+i),H,I1,⟨t,?_⟩,⟨CA,CA⟩,Am,λb hb=>(hf b hb).1⟩⟩;rw[Int.mul_one]
 done:=by
  intro X hP hw hK hc i Y s σ H E I hf st hg;subst hP hw hK;obtain⟨f0,f1,f2,f3,f4,f5⟩:=hf it (by simp);exact wpAny_pyNext_range_end (I.ok.hd hc) st (by have:n<=i:=hg;lia) λh' eb=>⟨rfl,I.turned (t':=s.toks) (λb o hb e=>eb b o hb e) f0 f1 f3 f4 f5⟩
 self:=λ_ _ _ _ _ st h=>wpAny_pyIter_rangeiter st h
end L2
open L2.SqT renaming of->Ze
open L2.SqL renaming of->Yg
variable{wi:L2.TI}{J:L2.It}
namespace L2
open PySem PySem.Spec PyProof.Rows
section
variable{X:Cx}
def wz(K:RH)(tl:TE):TI:=λσ H R=>tl σ H λx H1=>∃a,x=.ref a/\(∃xs,SqL K H1 a xs)/\R (Itl K a) H1
def w6(K:RH)(tl:TE):TI:=λσ H R=>tl σ H λx H1=>∃a,x=.ref a/\(∃xs,SqT K H1 a xs)/\R (Itt K a) H1
theorem cK{l:Su}(hl:PE X l tl):PI X tg l (wz X.K tl):=by
 intro Y s σ H R I h;refine thn (hl Y s σ H _ I h) λv s1⟨x,H1,I1,r1,q1⟩=>?_;obtain⟨a,e,⟨xs,hq⟩,q⟩:=q1;subst e;cases r1;obtain⟨its,rv,p,hz⟩:=I1.list hq;refine wpAny_pyIter_list p.isList ?_;refine⟨s1.1.1.size,[s1.1.1.size],_,_,H1,CA,I1.kept (t':=s1.toks) λb o e=>RB _ e,o6 a _,⟨_,RJ _ rfl,CA,CA⟩,λb hb=>?_,q⟩;have e:b=s1.1.1.size:=by simpa using hb
 subst e;exact I1.fpOk (RI _) (I1.hok.fresh (RI _))
theorem je{l:Su}(hl:PE X l tl):PI X tg l (w6 X.K tl):=by
 intro Y s σ H R I h;refine thn (hl Y s σ H _ I h) λv s1⟨x,H1,I1,r1,q1⟩=>?_;obtain⟨a,e,⟨xs,hq⟩,q⟩:=q1;subst e;cases r1;obtain⟨its,rv,p,hz⟩:=I1.tuple hq;refine Vb (show s1.1.IsTuple a its.toArray from p) ?_;refine⟨s1.1.1.size,[s1.1.1.size],_,_,H1,CA,I1.kept (t':=s1.toks) λb o e=>RB _ e,m9 a _,⟨_,RJ _ rfl,CA,CA⟩,λb hb=>?_,q⟩;have e:b=s1.1.1.size:=by simpa using hb
 subst e;exact I1.fpOk (RI _) (I1.hok.fresh (RI _))
theorem qP{R:It->Hp->Prop}{lo hi:Int}{t u v:Tok}{tk:Nat}(I:Inv X Y σ H s)(h1:-(2 ^ 62)<=lo)(h2:lo<2 ^ 62)(h3:-(2 ^ 62)<=hi)(h4:hi<2 ^ 62)
 (q:R (Itr lo (hi - lo).toNat) H):RQ (R7 X.prog X.w) X.A (pyIter (.ref s.1.1.size)) (PIE X Y σ tg R) E {s with heap:=s.1.push {cls:=.type "range",data:=.fields #[.int lo t,.int hi u,.int 1 v]},toks:=tk}:=by
 refine wpAny_pyIter_range (IsRange.new ..) (small_one h1 h2 h3 h4) ?_;have I1:Inv X Y σ H {s with heap:=s.1.push {cls:=.type "range",data:=.fields #[.int lo t,.int hi u,.int 1 v]},toks:=tk}:=I.kept λb o e=>RB _ e
 refine⟨(s.1.push {cls:=.type "range",data:=.fields #[.int lo t,.int hi u,.int 1 v]}).objs.size,[(s.1.push {cls:=.type "range",data:=.fields #[.int lo t,.int hi u,.int 1 v]}).objs.size],_,_,H,CA,
  I1.kept (t':=tk) λb o e=>RB _ e,nn _ lo (hi - lo).toNat,?_,λb hb=>?_,q⟩
 .have e1:lo+((0:Nat):Int) * 1=lo:=by simp
  have e2:(((hi - lo).toNat:Nat):Int) - ((0:Nat):Int)=Builtin.Range.rangeSize lo hi 1:=by rw[rangeSize_one];split <;> lia
  show IsRangeIter _ _ (lo+((0:Nat):Int) * 1) ((((hi - lo).toNat:Nat):Int) - ((0:Nat):Int)) 1;rw[e1,e2];exact RJ _ rfl
 .have e:b=(s.1.push {cls:=.type "range",data:=.fields #[.int lo t,.int hi u,.int 1 v]}).objs.size:=by simpa using hb
  subst e;exact I1.fpOk (RI _) (I1.hok.fresh (RI _))
def wc(ta:TA):TI:=λσ H R=>ta σ H λvs H1=>∃j:Int,vs=[.int j]/\-(2 ^ 62)<=j/\j<2 ^ 62/\R (Itr 0 j.toNat) H1
theorem cN{a:Su}{ta:TA}{p:UX}(hg:Gl X "range")(hm:X.mg "range"=B?)(ha:PA X [a] ta)(hs:Sk [a] X.env=[(C?,TN a X.env)]:=by rfl):PI X tg (.Call (.Name "range" p) [a] [] pos) (wc ta):=by
 intro Y s σ H R I h;refine Call_ (cy I hg hm boot_range (SR (thn (ha pos Y s σ H _ I h) λus s1⟨vs,H1,I1,r1,q1⟩=>?_) hs rfl));obtain⟨j,e,q1,q2,q⟩:=q1;subst e;cases r1 with
 | cons r rr =>
   cases rr;obtain⟨t,rfl⟩:=r;exact call_range_1 (qP I1 (by lia) (by lia) q1 q2 (by simpa using q))
def wY(wi:TI)(g:TG)(tb:TS):TS:=λD σ H=>wi σ H λJ H1=>∃W:Nat->Nat->St->Hp->Prop,(∃m,W 0 m σ H1)/\∀i m σ H,W i m σ H ->
 (J.stop i H/\D.nx σ H)\/(J.go i H/\∃N:St->Hp->Prop,(∀i' H',N i' H'->∃m',m'<m/\W (i+1) m' i' H')/\∀x H',J.yld i H x H'->g x σ H' λxl H2=>tb {D with nx:=N,ct:=N,bk:=D.nx} xl H2)
def jz(fp:List Ry)(h:SM):List (Ry×TC):=fp.filterMap λb=>(h.get? b).map λo=>(b,o)
theorem cn{o:TC}(hb:b∈fp)(e:h.get? b=A? o):(b,o)∈jz fp h:=Wm.mpr ⟨b,hb,by rw[e];rfl⟩
theorem px{p:Ry×TC}(hp:p∈jz fp h):p.1∈fp/\h.get? p.1=A? p.2:=by
 obtain⟨b,hb,e⟩:=Wm.mp hp;cases q:h.get? b with
 |none=>rw[q]at e;cases e
 | some o =>
   rw[q]at e;have e':(b,o)=p:=RN e;subst e';exact⟨hb,q⟩
theorem Inv.pinned(I:Inv X Y σ H s)(hf:∀b∈fp,FpOk X Y H b)(ho:∀b∈fp,∃o,s.1.get? b=A? o/\∀v,o.data≠.cell v):Inv X (Y++jz fp s.1) σ H s :=
 I.pins_of λp hp=>(RM.mp hp).elim (λz=>I.pin p (R5 _ z)) λz=>by
  obtain⟨hb,e⟩:=px z;obtain⟨f0,f1,f2,_⟩:=hf p.1 hb;obtain⟨o,e',d⟩:=ho p.1 hb;rw[e]at e';cases e';exact⟨e,f0,f1,f2,d⟩
theorem Inv.unpinned{pl:List (Ry×TC)}(I:Inv X (Y++pl) σ H s):Inv X Y σ H s:=I.pins_of λp hp=>I.pin p (R5 _ (RL _ hp))
theorem bC{g:TG}(hp:PassesOwn (R7 X.prog X.w) X.A X.env X.xe)(hc:X.calm=Bz)(hi:PI X tg iter wi)(hg:PG X tg g)(hb:PSs X body tb)
 (hs:∀x,foldedSetIterable iter X.env x=pure x:=by intro _;rfl):PS X (.For tg iter body [] pos) (wY wi g tb):=by
 intro Y s σ H D I h;refine wpAny_For (thn (hi Y s σ H _ I h) λv s1 h1=>thn h1 λGz s2 h2=>?_) hs;obtain⟨it,fp,tn,J,H2,e,I2,T,BC,f2,W,⟨m0,w0⟩,turn⟩:=h2;subst e
 have zu:∀{H':Hp},(∀b∈fp,H' b=B?)->∀b∈fp,FpOk X Y H' b:=λhn b hb=>⟨hn b hb,(f2 b hb).2⟩;refine codeAny_forLoop_any (λn s'=>∃i i' H',Inv X Y i' H' s'/\tn i s'.1/\(∀b∈fp,H' b=B?)/\W i n i' H') ?_ m0 ⟨0,σ,H2,I2,BC,λb hb=>(f2 b hb).1,w0⟩;rintro n s3 ⟨i,Ay,H3,I3,K1,K2,w3⟩;rcases turn i n Ay H3 w3 with⟨stop,qn⟩|⟨go,N,hN,step⟩
 .refine Vd hp (thn (T.done X rfl rfl rfl hc i Y s3 Ay H3 X.xe I3 (zu K2) K1 stop) λr s4⟨hr,I4⟩=>?_);subst hr;exact Wq ⟨Ay,H3,I4,qn⟩
 .refine Vd hp (thn (T.item X rfl rfl rfl hc i Y s3 Ay H3 X.xe I3 (zu K2) K1 go) λr s4⟨u,hr,h4⟩=>?_);subst hr;refine Vd hp (thn h4 λ_ s5⟨x,H5,I5,r5,y5,DG,GA⟩=>?_);have MW:=I5.pinned (zu GA) (T.obj _ _ DG);refine Vd hp (thn (hg _ s5 Ay H5 x u _ MW r5 (step x H5 y5)) λ_ s6⟨MX,H6,I6,q6⟩=>?_);refine Vd hp (thn (hb _ s6 MX H6 _ I6 q6) λf s7 q7=>?_)
  have again:∀{Az:St}{H7:Hp},Inv X (Y++jz fp s5.1) Az H7 s7->N Az H7->∃m,m<n/\∃i i' H',Inv X Y i' H' s7/\tn i s7.1/\(∀b∈fp,H' b=B?)/\W i m i' H':=λ{Az H7}I7 n7=>by
   obtain⟨m',hm,w7⟩:=hN Az H7 n7;refine⟨m',hm,i+1,Az,H7,I7.unpinned,T.keep _ _ _ DG λb hb o e=>(I7.pin (b,o) (R5 _ (R5 _ (cn hb e)))).1,λb hb=>?_,w7⟩;obtain⟨o,e,d⟩:=T.obj _ _ DG b hb;exact(I7.pin (b,o) (R5 _ (R5 _ (cn hb e)))).2.1
  cases f with
  |next=>obtain⟨Az,H7,I7,n7⟩:=q7;exact again I7 n7
  |cont=>obtain⟨Az,H7,I7,n7⟩:=q7;exact again I7 n7
  |brk=>obtain⟨Az,H7,I7,q7⟩:=q7;exact⟨Az,H7,I7.unpinned,q7⟩
  |ret v=>obtain⟨x7,Az,H7,I7,r7,q7⟩:=q7;exact⟨x7,Az,H7,I7.unpinned,r7,q7⟩
end
theorem dL{g:TG}(Pv:Nat->St->Hp->Prop)(h0:Pv 0 σ H)(hl:∀i σ H,i<=xs.length->Pv i σ H->SqL K H a xs)
 (hs:∀i x σ H,xs[i]?=A? x->Pv i σ H->g x σ H λxl H2=>tb {D with nx:=Pv (i+1),ct:=Pv (i+1),bk:=D.nx} xl H2) (hd:∀σ H,Pv xs.length σ H->D.nx σ H) :
 ∃W:Nat->Nat->St->Hp->Prop,(∃m,W 0 m σ H)/\∀i m σ H,W i m σ H ->
   ((Itl K a).stop i H/\D.nx σ H)\/((Itl K a).go i H/\∃N:St->Hp->Prop,(∀i' H',N i' H'->∃m',m'<m/\W (i+1) m' i' H')/\∀x H',(Itl K a).yld i H x H'->g x σ H' λxl H2=>tb {D with nx:=N,ct:=N,bk:=D.nx} xl H2):=by
 refine⟨λi m σ H=>m=xs.length - i/\i<=xs.length/\Pv i σ H,⟨xs.length,by simp,Sn _,h0⟩,?_⟩;rintro i m σ H ⟨rfl,hi,p⟩;have q:=hl i σ H hi p;by_cases xf:i<xs.length
 .refine .inr ⟨⟨xs,xs[i],q,by simp[xf]⟩,Pv (i+1),λi' H' p'=>⟨xs.length - (i+1),by lia,rfl,xf,p'⟩,λx H' y=>?_⟩;obtain⟨e,y⟩:=y;subst e;exact hs i x σ _ (y xs q) p
 .have e:i=xs.length:=by lia
  subst e;exact .inl ⟨⟨xs,q,RI _⟩,hd σ H p⟩
theorem gB{lo:Int}{g:TG}(Pv:Nat->St->Hp->Prop)(h0:Pv 0 σ H)
 (hs:∀i σ H,i<n->Pv i σ H->g (.int (lo+i)) σ H λxl H2=>tb {D with nx:=Pv (i+1),ct:=Pv (i+1),bk:=D.nx} xl H2) (hd:∀σ H,Pv n σ H->D.nx σ H) :
 ∃W:Nat->Nat->St->Hp->Prop,(∃m,W 0 m σ H)/\∀i m σ H,W i m σ H ->
   ((Itr lo n).stop i H/\D.nx σ H)\/((Itr lo n).go i H/\∃N:St->Hp->Prop,(∀i' H',N i' H'->∃m',m'<m/\W (i+1) m' i' H')/\∀x H',(Itr lo n).yld i H x H'->g x σ H' λxl H2=>tb {D with nx:=N,ct:=N,bk:=D.nx} xl H2):=by
 refine⟨λi m σ H=>m=n - i/\i<=n/\Pv i σ H,⟨n,by simp,Sn _,h0⟩,?_⟩;rintro i m σ H ⟨rfl,hi,p⟩;by_cases xf:i<n
 .refine .inr ⟨xf,Pv (i+1),λi' H' p'=>⟨n - (i+1),by lia,rfl,xf,p'⟩,λx H' y=>?_⟩;obtain⟨e,y⟩:=y;subst e y;exact hs i σ _ xf p
 .have e:i=n:=by lia
  subst e;exact .inl ⟨RI _,hd σ H p⟩
abbrev R2:=V->V->Hp->VK->Prop
def OpR(X:Cx)(f:Rz->Rz->Sem Rz)(r:R2):Prop :=
 ∀(Y:List (Ry×TC))(s:RE)(σ:St)(H:Hp)(x y:V)(v u:Rz)(Q:VK),Inv X Y σ H s->RelV x v->RelV y u->r x y H Q ->
   RQ (R7 X.prog X.w) X.A (f v u) (EP X Y σ Q) X.xe s
def UnR(X:Cx)(f:Rz->Sem Rz)(r:V->Hp->VK->Prop):Prop :=
 ∀(Y:List (Ry×TC))(s:RE)(σ:St)(H:Hp)(x:V)(v:Rz)(Q:VK),Inv X Y σ H s->RelV x v->r x H Q ->
   RQ (R7 X.prog X.w) X.A (f v) (EP X Y σ Q) X.xe s
def io(X:Cx)(f:Rz)(r:List V->Hp->VK->Prop):Prop :=
 ∀(Y:List (Ry×TC))(s:RE)(σ:St)(H:Hp)(xs:List V)(us:List Rz)(Q:VK),Inv X Y σ H s->Vals xs us->r xs H Q ->
   RQ (R7 X.prog X.w) X.A (call f us) (EP X Y σ Q) X.xe s
def wT(X:Cx)(r:V->Hp->(Bool->Hp->Prop)->Prop):Prop :=
 ∀(Y:List (Ry×TC))(s:RE)(σ:St)(H:Hp)(x:V)(v:Rz)(Q:Bool->Hp->Prop),Inv X Y σ H s->RelV x v->r x H Q ->
   RQ (R7 X.prog X.w) X.A (truthy v) (TP X Y σ Q) X.xe s
def tOp(r:R2)(ta tb:TE):TE:=λσ H Q=>ta σ H λx H1=>tb σ H1 λy H2=>r x y H2 Q
def tUn(r:V->Hp->VK->Prop)(ta:TE):TE:=λσ H Q=>ta σ H λx H1=>r x H1 Q
inductive IrI(C:Int->Int->Prop)(g:Int->Int->V)(x:V)(y:V)(H:Hp)(Q:VK):Prop
 |mk (i:_) (j:_) (yH:x=.int i) (yI:y=.int j) (zZ:C i j) (B5:Q (g i j) H):IrI C g x y H Q
def rI(C:Int->Int->Prop)(g:Int->Int->V):R2:=IrI C g
inductive vH(g:Int->Int->V)(x:V)(y:V)(H:Hp)(Q:VK):Prop
 |mk (i:_) (j:_) (yH:x=.int i) (yI:y=.int j) (zZ:Q (g i j) H):vH g x y H Q
def rI0(g:Int->Int->V):R2:=vH g
inductive IrU(g:Int->V)(x:V)(H:Hp)(Q:VK):Prop
 |mk (i:_) (yH:x=.int i) (yI:Q (g i) H):IrU g x H Q
def rU(g:Int->V):V->Hp->VK->Prop:=IrU g
section
variable{X:Cx}{a b c:Su}{ta tb tc:TE}
theorem uA(ha:PE X a ta)(hb:PE X b tb){R:V->V->Hp->Prop}(I:Inv X Y σ H s)
 (h:ta σ H λx H1=>tb σ H1 λy H2=>R x y H2) {f:Rz->Rz->Sem Rz}
 (hf:∀v u s2 x y H2,Inv X Y σ H2 s2->RelV x v->RelV y u->R x y H2->RQ (R7 X.prog X.w) X.A (f v u) Q X.xe s2) :
 RQ (R7 X.prog X.w) X.A (TN a X.env) (λv l'=>RQ (R7 X.prog X.w) X.A (TN b X.env) (λu xM=>RQ (R7 X.prog X.w) X.A (f v u) Q X.xe xM) X.xe l') X.xe s:=by
 refine thn (ha Y s σ H _ I h) λv s1⟨x,H1,I1,r1,q1⟩=>?_;refine thn (hb Y s1 σ H1 _ I1 q1) λu s2⟨y,H2,I2,r2,q2⟩=>?_;exact hf v u s2 x y H2 I2 r1 r2 q2
theorem aJ{op:Operator}{r:R2}(ho:OpR X (U0 op) r)(ha:PE X a ta)(hb:PE X b tb):PE X (.BinOp a op b pos) (tOp r ta tb):=by
 intro Y s σ H Q I h;exact wpAny_BinOp (uA ha hb I h λv u s2 x y H2 I2 rx ry q=>ho Y s2 σ H2 x y v u Q I2 rx ry q)
theorem oo{op:UnaryOp}{r:V->Hp->VK->Prop}(ho:UnR X (unaryOp op) r)(ha:PE X a ta):PE X (.UnaryOp op a pos) (tUn r ta):=by
 intro Y s σ H Q I h;exact UnaryOp_ (thn (ha Y s σ H _ I h) λv s1⟨x,H1,I1,r1,q1⟩=>ho Y s1 σ H1 x v Q I1 r1 q1)
theorem opI{f:Rz->Rz->Sem Rz}{C:Int->Int->Prop}{g:Int->Int->Int}
 (rule:∀(i j:Int)(t u:Tok)(s:RE)(Q:Rz->RE->Prop)(E:Rz->RE->Prop),C i j->Q (.int (g i j) s.toks) {s with toks:=s.toks+1}->RQ (R7 X.prog X.w) X.A (f (.int i t) (.int j u)) Q E s) :
 OpR X f (rI C λi j=>.int (g i j)):=by
 intro Y s σ H x y v u Q I rx ry h;obtain⟨i,j,rfl,rfl,hc,q⟩:=h;obtain⟨t,rfl⟩:=rx;obtain⟨t',rfl⟩:=ry;exact rule i j t t' s _ _ hc ⟨.int (g i j),H,I.tok _,⟨_,rfl⟩,q⟩
theorem sM{f:Rz->Rz->Sem Rz}{g:Int->Int->Int}
 (rule:∀(i j:Int)(t u:Tok)(s:RE)(Q:Rz->RE->Prop)(E:Rz->RE->Prop),Q (.int (g i j) s.toks) {s with toks:=s.toks+1}->RQ (R7 X.prog X.w) X.A (f (.int i t) (.int j u)) Q E s) :
 OpR X f (rI0 λi j=>.int (g i j)):=by
 intro Y s σ H x y v u Q I rx ry h;obtain⟨i,j,rfl,rfl,q⟩:=h;obtain⟨t,rfl⟩:=rx;obtain⟨t',rfl⟩:=ry;exact rule i j t t' s _ _ ⟨.int (g i j),H,I.tok _,⟨_,rfl⟩,q⟩
theorem vX{f:Rz->Rz->Sem Rz}{g:Int->Int->Bool}
 (rule:∀(i j:Int)(t u:Tok)(s:RE)(Q:Rz->RE->Prop)(E:Rz->RE->Prop),Q (.bool (g i j)) s->RQ (R7 X.prog X.w) X.A (f (.int i t) (.int j u)) Q E s) :
 OpR X f (rI0 λi j=>.bl (g i j)):=by
 intro Y s σ H x y v u Q I rx ry h;obtain⟨i,j,rfl,rfl,q⟩:=h;obtain⟨t,rfl⟩:=rx;obtain⟨t',rfl⟩:=ry;exact rule i j t t' s _ _ ⟨.bl (g i j),H,I,rfl,q⟩
def wU(i j:Int):Prop:=0<j/\j<1073741824
def vY(i j:Int):Prop:=0<=j/\j<=1000000/\i.natAbs<2 ^ 64
theorem mP(k:Nat):(0:Int)<=2 ^ k:=by
 rw[two_pow_cast];exact Wo _
theorem cT:OpR X (U0 .Add) (rI0 λi j=>.int (i+j)):=sM λ_ _ _ _ _ _ _ q=>add_int q
theorem qu:OpR X (U0 .Sub) (rI0 λi j=>.int (i - j)):=sM λ_ _ _ _ _ _ _ q=>sub_int q
theorem eQ:OpR X (U0 .FloorDiv) (rI wU λi j=>.int (i / j)):=opI λi j _ _ _ _ _ hc q=>by
 have h1:(0:Int)<j:=hc.1;have h2:j<1073741824:=hc.2;exact floordiv_int (by lia) (by rw[Int.fdiv_eq_ediv_of_nonneg i (by lia)];exact q) (.inl (PyProof.noPylong_small (by lia)))
theorem cq:OpR X (U0 .Mod) (rI (λ_ j=>0<j) λi j=>.int (i%j)):=opI λi j _ _ _ _ _ hc q=>by
 have h1:(0:Int)<j:=hc;exact mod_int' (by lia) (by rw[Int.fmod_eq_emod_of_nonneg i (by lia)];exact q)
theorem uq:OpR X (U0 .Pow) (rI vY λi j=>.int (i ^ j.toNat)):=opI λ_ _ _ _ _ _ _ hc q=>pow_int_small hc.1 hc.2.1 hc.2.2 q
theorem rA:OpR X (U0 .LShift) (rI vY λi j=>.int (i * 2 ^ j.toNat)):=opI λ_ _ _ _ _ _ _ hc q=>lshift_int_small hc.1 hc.2.1 hc.2.2 q
theorem ve:OpR X (U0 .RShift) (rI (λ_ j=>0<=j) λi j=>.int (i / 2 ^ j.toNat)):=opI λi j _ _ _ _ _ hc q =>
 rshift_int hc (by rw[Int.fdiv_eq_ediv_of_nonneg i (mP _)];exact q)
theorem nK:OpR X (U0 .BitAnd) (rI0 λi j=>.int (SH i j)):=sM λ_ _ _ _ _ _ _ q=>and_int q
theorem vK:OpR X (U0 .BitOr) (rI0 λi j=>.int (Ua i j)):=sM λ_ _ _ _ _ _ _ q=>or_int q
theorem unI{f:Rz->Sem Rz}{g:Int->Int}
 (rule:∀(i:Int)(t:Tok)(s:RE)(Q:Rz->RE->Prop)(E:Rz->RE->Prop),Q (.int (g i) s.toks) {s with toks:=s.toks+1}->RQ (R7 X.prog X.w) X.A (f (.int i t)) Q E s) :
 UnR X f (rU λi=>.int (g i)):=by
 intro Y s σ H x v Q I rx h;obtain⟨i,rfl,q⟩:=h;obtain⟨t,rfl⟩:=rx;exact rule i t s _ _ ⟨.int (g i),H,I.tok _,⟨_,rfl⟩,q⟩
theorem nk:UnR X (unaryOp .USub) (rU λi=>.int (-i)):=unI λ_ _ _ _ _ q=>neg_int q
theorem vx:UnR X (unaryOp .Invert) (rU λi=>.int (S9 i)):=unI λ_ _ _ _ _ q=>invert_int q
end
def wq:V->V->Bool
 |.non,.non=>Bz|.non,.int _=>Bz|.int _,.non=>Bz|.non,.bl _=>Bz|.bl _,.non=>Bz|.non,.str _=>Bz|.str _,.non=>Bz
 |.int _,.int _=>Bz|.bl _,.bl _=>Bz|.str _,.str _=>Bz|.byt _,.byt _=>Bz
 |.int _,.str _=>Bz|.str _,.int _=>Bz|.bl _,.str _=>Bz|.str _,.bl _=>Bz
 |_,_=>C?
inductive wo(x:V)(y:V)(H:Hp)(Q:VK):Prop
 |mk  (yH:wq x y=Bz) (yI:Q (.bl (decide (x=y))) H):wo  x y H Q
def rEq:R2:=wo
inductive wb(x:V)(y:V)(H:Hp)(Q:VK):Prop
 |mk  (yH:wq x y=Bz) (yI:Q (.bl (!decide (x=y))) H):wb  x y H Q
def rNe:R2:=wb
theorem iH{i j:Int}:decide (Yh i=Yh j)=(i == j):=by
 rw[V5];simp
theorem qN{i j:Bool}:decide (V.bl i=V.bl j)=(i == j):=by
 rw[V5];simp
theorem oi{i j:R1}:decide (Yq i=Yq j)=(i == j):=by
 rw[V5];simp
theorem ox{i j:Array UInt8}:decide (V.byt i=V.byt j)=(i.toList == j.toList):=by
 rw[V5];cases i;cases j;simp
section
variable{X:Cx}{a b c:Su}{ta tb tc:TE}
theorem aO{Q:VK}{k k':Bool}(I:Inv X Y σ H s)(q:Q (.bl k) H)(e:k=k'):EP X Y σ Q (.bool k') s:=by
 subst e;exact⟨.bl k,H,I,CA,q⟩
theorem dY:OpR X (UB .Eq) rEq:=by
 intro Y s σ H x y v u Q I rx ry h;obtain⟨hs,q⟩:=h;cases x with
 | non =>
   cases rx;cases y with
   |non=>cases ry;exact PySem.EqNone.eq_none_none (aO I q (by simp))
   |bl j=>cases ry;exact PySem.EqNone.eq_none_bool (aO I q (by simp))
   |int j=>obtain⟨t',rfl⟩:=ry;exact PySem.EqNone.eq_none_int (aO I q (by simp))
   |str j=>obtain⟨t',rfl⟩:=ry;exact PySem.EqNone.eq_none_str (aO I q (by simp))
   |_=>exact Yd (show C?=Bz from hs) R0
 | bl i =>
   cases rx;cases y with
   |non=>cases ry;exact PySem.EqNone.eq_bool_none (aO I q (by simp))
   |bl j=>cases ry;exact eq_bool (aO I q qN)
   |str j=>obtain⟨t',rfl⟩:=ry;exact PySem.EqMixed.eq_bool_str (aO I q (by simp))
   |_=>exact Yd (show C?=Bz from hs) R0
 | int i =>
   obtain⟨t,rfl⟩:=rx;cases y with
   |non=>cases ry;exact PySem.EqNone.eq_int_none (aO I q (by simp))
   |int j=>obtain⟨t',rfl⟩:=ry;exact eq_int (aO I q iH)
   |str j=>obtain⟨t',rfl⟩:=ry;exact PySem.EqMixed.eq_int_str (aO I q (by simp))
   |_=>exact Yd (show C?=Bz from hs) R0
 | str i =>
   obtain⟨t,rfl⟩:=rx;cases y with
   |non=>cases ry;exact PySem.EqNone.eq_str_none (aO I q (by simp))
   |bl j=>cases ry;exact PySem.EqMixed.eq_str_bool (aO I q (by simp))
   |int j=>obtain⟨t',rfl⟩:=ry;exact PySem.EqMixed.eq_str_int (aO I q (by simp))
   |str j=>obtain⟨t',rfl⟩:=ry;exact eq_str (aO I q oi)
   |_=>exact Yd (show C?=Bz from hs) R0
 | byt i =>
   obtain⟨t,rfl⟩:=rx;cases y with
   |byt j=>obtain⟨t',rfl⟩:=ry;exact PySem.W.eq_bytes (aO I q ox)
   |_=>exact Yd (show C?=Bz from hs) R0
 |_=>cases y <;> exact Yd (show C?=Bz from hs) R0
theorem rG:OpR X (UB .NotEq) rNe:=by
 intro Y s σ H x y v u Q I rx ry h;obtain⟨hs,q⟩:=h;cases x with
 | non =>
   cases rx;cases y with
   |non=>cases ry;exact PySem.EqNone.ne_none_none (aO I q (by simp))
   |bl j=>cases ry;exact PySem.EqNone.ne_none_bool (aO I q (by simp))
   |int j=>obtain⟨t',rfl⟩:=ry;exact PySem.EqNone.ne_none_int (aO I q (by simp))
   |str j=>obtain⟨t',rfl⟩:=ry;exact PySem.EqNone.ne_none_str (aO I q (by simp))
   |_=>exact Yd (show C?=Bz from hs) R0
 | bl i =>
   cases rx;cases y with
   |non=>cases ry;exact PySem.EqNone.ne_bool_none (aO I q (by simp))
   |bl j=>cases ry;exact ne_bool (aO I q (Zd not qN))
   |str j=>obtain⟨t',rfl⟩:=ry;exact PySem.EqMixed.ne_bool_str (aO I q (by simp))
   |_=>exact Yd (show C?=Bz from hs) R0
 | int i =>
   obtain⟨t,rfl⟩:=rx;cases y with
   |non=>cases ry;exact PySem.EqNone.ne_int_none (aO I q (by simp))
   |int j=>obtain⟨t',rfl⟩:=ry;exact ne_int (aO I q (Zd not iH))
   |str j=>obtain⟨t',rfl⟩:=ry;exact PySem.EqMixed.ne_int_str (aO I q (by simp))
   |_=>exact Yd (show C?=Bz from hs) R0
 | str i =>
   obtain⟨t,rfl⟩:=rx;cases y with
   |non=>cases ry;exact PySem.EqNone.ne_str_none (aO I q (by simp))
   |bl j=>cases ry;exact PySem.EqMixed.ne_str_bool (aO I q (by simp))
   |int j=>obtain⟨t',rfl⟩:=ry;exact PySem.EqMixed.ne_str_int (aO I q (by simp))
   |str j=>obtain⟨t',rfl⟩:=ry;exact ne_str (aO I q (Zd not oi))
   |_=>exact Yd (show C?=Bz from hs) R0
 | byt i =>
   obtain⟨t,rfl⟩:=rx;cases y with
   |byt j=>obtain⟨t',rfl⟩:=ry;exact PySem.W.ne_bytes (aO I q (Zd not ox))
   |_=>exact Yd (show C?=Bz from hs) R0
 |_=>cases y <;> exact Yd (show C?=Bz from hs) R0
theorem oq:OpR X (UB .Lt) (rI0 λi j=>.bl (decide (i<j))):=vX λ_ _ _ _ _ _ _ q=>lt_int q
theorem vI:OpR X (UB .Gt) (rI0 λi j=>.bl (decide (j<i))):=vX λ_ _ _ _ _ _ _ q=>gt_int q
theorem oj:OpR X (UB .IsNot) (λx y H Q=>y=.non/\Q (.bl (!decide (x=.non))) H):=by
 intro Y s σ H x y v u Q I rx ry h;obtain⟨rfl,q⟩:=h;cases ry;refine isnot_none_gen (aO I q ?_)
 cases x <;> first
  |(cases rx;rfl)
  |(obtain⟨t,rfl⟩:=rx;rfl)
theorem bj(b:Su)(h:op≠.In:=by decide)(h2:op≠.NotIn:=by decide):W4 op b=false:=by
 have e1:(op == CmpOp.In)=false:=by cases op <;> first|rfl|exact Yd rfl h
 have e2:(op == CmpOp.NotIn)=false:=by cases op <;> first|rfl|exact Yd rfl h2
 cases b <;> simp[W4,e1,e2]
theorem iA{r:R2}(ho:OpR X (UB op) r)(ha:PE X a ta)(hb:PE X b tb)(hm:W4 op b=C?):PE X (.Compare a [op] [b] pos) (tOp r ta tb):=by
 intro Y s σ H Q I h;exact wpAny_Compare1 (uA ha hb I h λv u s2 x y H2 I2 rx ry q=>ho Y s2 σ H2 x y v u Q I2 rx ry q) hm
inductive t7(x:V)(Q:Bool->Hp->Prop)(H':Hp):Prop
 |mk (k:Bool) (yH:x=.bl k) (yI:Q k H'):t7 x Q H'
def tR(t:TE):TT:=λσ H Q=>t σ H λx H'=>t7 x Q H'
theorem be{r:R2}(ho:OpR X (UB op) r)(ha:PE X a ta)(hb:PE X b tb)(hm:W4 op b=C?):PT X (.Compare a [op] [b] pos) (tR (tOp r ta tb)):=by
 intro Y s σ H Q I h
 refine wpAny_isTrue_Compare1 (thn (ha Y s σ H _ I h) λv s1⟨x,H1,I1,r1,q1⟩=>thn (hb Y s1 σ H1 _ I1 q1) λu s2⟨y,H2,I2,r2,q2⟩ =>
  thn (ho Y s2 σ H2 x y v u _ I2 r1 r2 q2) λc s3⟨z,H3,I3,r3,k,e,q3⟩=>?_) hm
 subst e;cases r3;exact Vj ⟨H3,I3,q3⟩
def uP(K:RH)(x:V)(H:Hp)(k:Bool):Prop :=
 match x with
 |.non=>k=C?
 |.bl b=>k=b
 |.int i=>k=(i != 0)
 |.str y=>y.length<=RZ/\k=((y.length:Int) != 0)
 |.byt y=>y.size<=RZ/\k=((y.size:Int) != 0)
 |.ref p=>(∃xs,SqL K H p xs/\k=!xs.isEmpty)\/(∃xs,SqT K H p xs/\k=!xs.isEmpty)\/∃kvs,H p=A? (.dK kvs)/\k=!kvs.isEmpty
 |_=>False
theorem ni{kvs:List (κ×V)}(r:KV kvs vs):(!vs.isEmpty)=!kvs.isEmpty:=by
 cases r <;> rfl
theorem jy(r:Vals xs its):(!its.toArray.isEmpty)=!xs.isEmpty:=by
 cases r <;> simp
theorem gv:(RZ:Nat)<2 ^ 63:=by rw[VG];decide
theorem uz:wT X (λx H Q=>∃k,uP X.K x H k/\Q k H):=by
 intro Y s σ H x v Q I rx h;obtain⟨k,e,q⟩:=h;have hl:=gv;have hs:RZ=16777216:=VG;cases x with
 | non =>
   cases rx;have e':k=false:=e;subst e';exact truthy_none ⟨H,I,q⟩
 | bl b =>
   cases rx;have e':k=b:=e;subst e';exact Vj ⟨H,I,q⟩
 | int i =>
   obtain⟨t,rfl⟩:=rx;have e':k=(i != 0):=e;subst e';exact PySem.P.truthy_int ⟨H,I,q⟩
 | str y =>
   obtain⟨t,rfl⟩:=rx;obtain⟨hy,e'⟩:y.length<=RZ/\k=((y.length:Int) != 0):=e;subst e';exact PySem.P.truthy_str (by lia) ⟨H,I.tok _,q⟩
 | byt y =>
   obtain⟨t,rfl⟩:=rx;obtain⟨hy,e'⟩:y.size<=RZ/\k=((y.size:Int) != 0):=e;subst e';exact PySem.W.truthy_bytes (by lia) ⟨H,I.tok _,q⟩
 | ref p =>
   cases rx;have e':(∃xs,SqL X.K H p xs/\k=!xs.isEmpty)\/(∃xs,SqT X.K H p xs/\k=!xs.isEmpty)\/∃kvs,H p=A? (.dK kvs)/\k=!kvs.isEmpty:=e;rcases e' with⟨xs,hx,e'⟩|⟨xs,hx,e'⟩|⟨kvs,hx,e'⟩
   .subst e';obtain⟨its,r,pl,hz⟩:=I.list hx;have hlen:=r.length;exact wpAny_truthy_list pl.isList (by simp only[RO];lia) ⟨H,I.tok _,by rw[jy r];exact q⟩
   .subst e';obtain⟨its,r,pl,hz⟩:=I.tuple hx;have hlen:=r.length;exact truthy_tuple pl (by simp only[RO];lia) ⟨H,I.tok _,by rw[jy r];exact q⟩
   .subst e';obtain⟨hz,hS,vs,r,m⟩:kvs.length<=RZ/\(p == Tv)=C?/\∃vs,KV kvs vs/\s.1.DictOf (aQ X.prog X.w) p vs:=I.hok p _ hx;have hlen:kvs.length=vs.length:=R9 r;exact wpAny_truthy_dict hS m (by lia) ⟨H,I.tok _,by rw[ni r];exact q⟩
 |_=>exact(show False from e).elim
theorem bS(ha:PE X a ta)(he:∀whole,isTrue a X.env whole=(do let v <-whole;standAt a.pos;Xi [v] (truthy v))) :
 PT X a (λσ H Q=>ta σ H λx H'=>∃k,uP X.K x H' k/\Q k H'):=by
 intro Y s σ H Q I h;exact isTrue_plain (thn (ha Y s σ H _ I h) λv s1⟨x,H1,I1,r1,q1⟩=>uz Y s1 σ H1 x v Q I1 r1 q1) (he _)
theorem fF:OpR X (U0 .Add) (λx y H Q=>∃i j,x=.str i/\y=.str j/\i.length+j.length<=RZ/\Q (.str (i++j)) H):=by
 intro Y s σ H x y v u Q I rx ry h;obtain⟨i,j,rfl,rfl,hz,q⟩:=h;obtain⟨t,rfl⟩:=rx;obtain⟨t',rfl⟩:=ry;exact add_str (λt' tk=>⟨.str (i++j),H,I.tok _,⟨_,rfl⟩,q⟩) hz
theorem vals1{x:V}(r:Vals [x] us):∃u,us=[u]/\RelV x u:=by
 cases r with
 |cons r1 r2=>cases r2;exact⟨_,CA,r1⟩
theorem vals2{x:V}(r:Vals [x,y] us):∃u w',us=[u,w']/\RelV x u/\RelV y w':=by
 cases r with
 | cons r1 r2 =>
   cases r2 with
   |cons r3 r4=>cases r4;exact⟨_,_,CA,r1,r3⟩
end
end L2
variable{r:L2.R2}
namespace L2
open PySem PySem.Spec PyProof.Rows
structure ObjM(h:SM)(x dx C:Ry)(mA:R1->Option Rz):Prop where
 obj:h.get? x=A? (Uv C dx)
 ns:h.Ns1 dx mA
 ne:dx≠x
theorem pW{dx:Ry}{mA:R1->Option Rz}(n:h.Ns1 dx mA):∃od,h.get? dx=A? od/\∀name,Xa name od=A? (mA name):=by
 obtain⟨o,es,ep,ho,hd,hk,_,hm⟩:=n;refine⟨o,ho,λname=>?_⟩;have e:=hm name;unfold nsFind findBy at e;rw[<-Array.find?_toList]at e;unfold Xa;rw[hd];dsimp only;split
 .rename_i y q
  rw[q]at e;exact Zd A? e
 .rename_i q
  rw[q]at e
  have a:es.toList.any (·.refKey)=false:=by
   rw[List.any_eq_false];intro y hy;obtain⟨z,t,yK⟩:=hk y (Array.mem_toList_iff.mp hy);simp[DictEntry.refKey,yK]
  have a':¬es.toList.any (·.refKey)=true:=by rw[a];exact R0
  rw[Za a'];exact Zd A? e
theorem ObjM.look{x dx:Ry}{mA:R1->Option Rz}(I:ObjM h x dx C mA):∃od,PySem.W.InstAt h x (Uv C dx) C (A? od)/\∀name,Xa name od=A? (mA name) :=
 let⟨od,ho,hl⟩:=pW I.ns
 ⟨od,⟨I.obj,rfl,rfl,ho⟩,hl⟩
section
variable{x dx:Ry}{mA:R1->Option Rz}{v:Rz}
theorem get_map{expr:Bool}(X:K.In s.1)(I:ObjM s.1 x dx C mA)(hg:WH K C name=Bz)(hh:XJ K C=Bz)
 (ha:TH K (.ref C) name=A? B?) (hv:mA name=A? v) (An:PySem.W.handedIn v=Bz) (h:Q v {s with toks:=s.toks+1}) :
 RQ (R7 prog w) A (getAttr (.ref x) name expr) Q E s:=by
 obtain⟨od,J,hl⟩:=I.look;exact PySem.W.get_value X J (Xm hg).1 (PySem.W.findObj_own hh ha rfl (by rw[hl,hv])) An h
theorem qJ{pl:Sem Bool}{Q:Rz×List Rz->RE->Prop}(X:K.In s.1)(I:ObjM s.1 x dx C mA)(hg:WH K C name=Bz)
 (hf:TH K (.ref C) name=A? (A? (.ref f))) (ht:PySem.W.isFn K (.ref f)=Bz) (hv:mA name=B?) (h:Q (.ref f,[.ref x]) s) :
 RQ (R7 prog w) A (getMethod (.ref x) name pl) Q E s:=by
 obtain⟨od,J,hl⟩:=I.look;exact PySem.W.method_fn X J (Xm hg).1 (Xm hg).2 hf (beq_iff_eq.mp ht) (by show(Xa name od).map (·.isSome)=A? C?;rw[hl,hv];rfl) h
theorem tm{ns:List R1}{Q:Unit->RE->Prop}(X:K.In s.1)(I:ObjM s.1 x dx C mA)
 (hs:TH K (.ref C) "__setattr__"=A? (A? (.builtin "object.__setattr__"))) (hp:PySem.W.plainOver K C=Bz) (ht:PySem.W.takerIn K C name=A? B?) (hh:XJ K C=Bz)
 (hw:PySem.Within mA ns) (hsz:ns.length<=RZ)
 (h:∀h',ObjM h' x dx C (λy=>if y=name then A? v else mA y)->S0 dx s.1 h'->Q () {s with heap:=h',toks:=s.toks+2}) :
 RQ (R7 prog w) A (setAttr (.ref x) name v) Q E s:=by
 obtain⟨od,J,hl⟩:=I.look;refine PySem.W.set_plain X J hs (PySem.W.osa_open (s:={s with toks:=s.toks+1}) (r:=B?) X J hp ht λb=>?_);obtain⟨cd,hc,En⟩:=PySem.W.any_some hh;have hx:s.1.get? x=A? ⟨.ref C,A? dx,.plain,#[]⟩:=I.obj;refine Rv (RD (Rv (Rv (wpAny_loadPart hx (Rv (PySem.W.Looks.here (s:={s with toks:=s.toks+1}) (PySem.W.looks_clsIn X hc) ?_))))));rw[En];refine RD (a:=A? dx) (Rv (RD (Rv ?_)));refine wpAny_nsSet1 (s:={s with toks:=s.toks+1}) I.ns λh' GB K3=>?_;obtain⟨oD,QM,QN,MY,MZ,M0⟩:=GB.count (PySem.Within.cons name v hw);refine Rv (wpAny_lookBehind MY (by rw[MZ];exact pastItsLine_dict (Ss M0 (by rw[RV];lia))) ?_);exact RD (h _ ⟨(K3.2 _ (Tn I.ne)).trans I.obj,GB,I.ne⟩ K3)
theorem qg{vs:List Rz}(X:K.In s.1)(hm:WZ K C=Bz)
 (hi:TH K (.ref C) "__init__"=A? (A? (.ref f))) (hf:PySem.W.typeIn K (.ref f)=A? (.type "function"))
 (h:UW (R7 prog w) (A.under (.builtin "type.__call__" ⟨.ref C::vs,kw⟩)) (.call (.ref f) ⟨.ref (s.1.1.size+1)::vs,kw⟩) (PySem.W.InitBack (s.1.1.size+1) R)
  {s with heap:=(s.1.push TR).push (Uv C s.1.1.size)}) :
 UW (R7 prog w) A (.call (.ref C) ⟨vs,kw⟩) R s:=by
 obtain⟨hh,g,d,t,os⟩:=s;exact PySem.W.make_core (PySem.W.makes_of X hm) (PySem.W.looks_findIn X hi) (λself=>PySem.W.bind_fn X self hf) (.inl rfl) h
end
def aF(f:R1)(v:V):List (R1×V)->List (R1×V)
 | []=>[(f,v)]
 |(g,x)::r=>if g=f then(g,v)::r else(g,x)::aF f v r
theorem hV(f g:R1)(v:V):∀fs:List (R1×V),(aF f v fs).lookup g=if g=f then A? v else fs.lookup g
 | []=>by
   show Vw g [(f,v)]=_;by_cases h:g=f
   .have hb:(g == f)=true:=beq_iff_eq.mpr h;simp only[Vw,hb,Yb h]
   .have hb:(g == f)=false:=beq_eq_false_iff_ne.mpr h;simp only[Vw,hb,Za h]
 | (k,x)::r=>by
   have ih:=hV f g v r;rw[show aF f v ((k,x)::r)=(if k=f then(k,v)::r else(k,x)::aF f v r)from rfl];by_cases hk:k=f
   .rw[Yb hk];by_cases h:g=k
    .have hb:(g == k)=true:=beq_iff_eq.mpr h;simp only[Vw,hb,Yb (h.trans hk)]
    .have hb:(g == k)=false:=beq_eq_false_iff_ne.mpr h;simp only[Vw,hb,Za (λe:g=f=>h (e.trans hk.symm))]
   .rw[Za hk];by_cases h:g=k
    .have hb:(g == k)=true:=beq_iff_eq.mpr h;simp only[Vw,hb,Za (λe:g=f=>hk (h.symm.trans e))]
    .have hb:(g == k)=false:=beq_eq_false_iff_ne.mpr h;simp only[Vw,hb];exact ih
theorem gP(f:R1)(v:V):∀fs:List (R1×V),f∈(aF f v fs).map (·.1)/\∀g,g∈fs.map (·.1)->g∈(aF f v fs).map (·.1)
 | []=>⟨by simp[aF],λg h=>by simp at h⟩
 | (k,x)::r=>by
   obtain⟨i1,i2⟩:=gP f v r;rw[show aF f v ((k,x)::r)=(if k=f then(k,v)::r else(k,x)::aF f v r)from rfl];by_cases hk:k=f
   .rw[Yb hk];subst hk;exact⟨by simp,λg h=>by simpa using h⟩
   .rw[Za hk];refine⟨?_,λg h=>?_⟩
    .rw[R6];exact RT _ i1
    .rw[R6]at h |-;rcases RR.mp h with e|e
     .exact RR.mpr (.inl e)
     .exact RT _ (i2 g e)
theorem ii(f:R1)(v:V):∀fs:List (R1×V),(aF f v fs).length<=fs.length+1
 | []=>by simp[aF]
 | (k,x)::r=>by
   have ih:=ii f v r;rw[show aF f v ((k,x)::r)=(if k=f then(k,v)::r else(k,x)::aF f v r)from rfl];by_cases hk:k=f
   .rw[Yb hk,RV,RV];lia
   .rw[Za hk,RV,RV];lia
theorem RelO.some_of{o:Option Rz}(r:RelO (A? v) o):∃u,o=A? u/\RelV v u:=by
 cases o with
 |none=>exact(show False from r).elim
 |some u=>exact⟨u,CA,r⟩
theorem RelO.none_of{o:Option Rz}(r:RelO B? o):o=none:=by
 cases o with
 |none=>rfl
 |some u=>exact(show False from r).elim
theorem pQ(r:RelV v u):PySem.W.handedIn u=true:=by
 cases v with
 |non=>cases(show u=SY from r);rfl
 |bl b=>cases(show u=UQ b from r);rfl
 |int i=>obtain⟨t,e⟩:=(show∃t,u=Value.int i t from r);cases e;rfl
 |str x=>obtain⟨t,e⟩:=(show∃t,u=Value.str x t from r);cases e;rfl
 |byt b=>obtain⟨t,e⟩:=(show∃t,u=Value.bytes b t from r);cases e;rfl
 |flt b=>obtain⟨t,e⟩:=(show∃t,u=Value.float b t from r);cases e;rfl
 |ref a=>cases(show u=Sg a from r);rfl
 |ty n=>cases(show u=Vc n from r);rfl
section
variable{dx:Ry}{fs MV:List (R1×V)}
theorem kA(hok:HOk P w H h)(e:H a=A? (.ins C dx fs)):∃mA,ObjM h a dx C mA/\(∀f,RelO (fs.lookup f) (mA f))/\PySem.Within mA (fs.map (·.1))/\fs.length<=1000/\H dx=A? (.own a):=by
 obtain⟨d,z,ne,ob,mA,n,r,q⟩:=(show ObjOk P w H h a (.ins C dx fs)from hok a _ e);exact⟨mA,⟨ob,n,ne⟩,r,q,z,d⟩
end
structure Cls(K:RH)(C:Ry):Prop where
 pg:WH K C Str.empty=Bz
 hd:XJ K C=Bz
 po:PySem.W.plainOver K C=Bz
 sa:TH K (.ref C) "__setattr__"=A? (A? (.builtin "object.__setattr__"))
theorem Cls.get(c:Cls K C)(f:R1):WH K C f=true:=c.pg
def NoAttr(K:RH)(C:Ry)(f:R1):Prop:=TH K (.ref C) f=A? B?
theorem NoAttr.taker{f:R1}(n:NoAttr K C f):PySem.W.takerIn K C f=A? none:=by
 unfold PySem.W.takerIn;rw[show TH K (.ref C) f=A? B? from n];rfl
structure Meth(K:RH)(C:Ry)(m:R1)(f:Ry):Prop where
 at_:TH K (.ref C) m=A? (A? (.ref f))
 fn:PySem.W.isFn K (.ref f)=Bz
 kp:UI K (.ref f)=Bz
section
variable{X:Cx}{dx:Ry}{fs:List (R1×V)}{f:R1}
theorem nC{b:Bool}(I:Inv X Y σ H s)(e:H a=A? (.ins C dx fs))(c:Cls X.K C)(n:NoAttr X.K C f)(l:fs.lookup f=A? v)
 (h:∀u s',Inv X Y σ H s'->RelV v u->Q u s'):RQ (R7 X.prog X.w) A (getAttr (.ref a) f b) Q E s:=by
 obtain⟨mA,O,r,_,_,_⟩:=kA I.hok e;obtain⟨u,hu,ru⟩:=RelO.some_of (v:=v) (o:=mA f) (by rw[<-l];exact r f);exact get_map I.kIn O (c.get f) c.hd n hu (pQ ru) (h u _ (I.tok _) ru)
theorem iN{m:R1}{g:Ry}{pl:Sem Bool}{Q:Rz×List Rz->RE->Prop}(I:Inv X Y σ H s)(e:H a=A? (.ins C dx fs))(c:Cls X.K C)(k:Meth X.K C m g)(l:fs.lookup m=B?)
 (h:Q (.ref g,[.ref a]) s):RQ (R7 X.prog X.w) A (getMethod (.ref a) m pl) Q E s:=by
 obtain⟨mA,O,r,_,_,_⟩:=kA I.hok e;have hn:mA m=none:=RelO.none_of (by rw[<-l];exact r m);exact qJ I.kIn O (c.get m) k.at_ k.fn hn h
theorem nF{Q:Unit->RE->Prop}(I:Inv X Y σ H s)(e:H a=A? (.ins C dx fs))(c:Cls X.K C)(n:NoAttr X.K C f)(hl:fs.length<1000)(ry:RelV y u)
 (h:∀s',Inv X Y σ (upd H a (.ins C dx (aF f y fs))) s'->Q () s'):RQ (R7 X.prog X.w) A (setAttr (.ref a) f u) Q E s:=by
 obtain⟨mA,O,r,wi,_,ho⟩:=kA I.hok e;have hz:(fs.map (·.1)).length<=RZ:=by rw[Rw,VG];lia
 refine tm I.kIn O c.sa c.po n.taker c.hd wi hz λh' O' sb=>h _ ?_;have hd:∃o,h'.get? dx=A? o:=let⟨o,_,_,e',_⟩:=O'.ns;⟨o,e'⟩
 refine I.write (x:=a) (e:=dx) (by rw[e];exact Vu) (.inr ho) (λb q hb z=>(sb.2 b hb).trans z) hd ?_;refine⟨by rw[ac O.ne];exact ho,?_,O.ne,O'.obj,_,O'.ns,λg=>?_,λg hg=>?_⟩
 .have:=ii f y fs;lia
 .show RelO ((aF f y fs).lookup g) (if g=f then A? u else mA g);rw[hV];by_cases q:g=f
  .rw[Yb q,Yb q];exact ry
  .rw[Za q,Za q];exact r g
 .by_cases q:g=f
  .rw[q];exact(gP f y fs).1
  .refine(gP f y fs).2 g (wi g λz=>hg ?_);show(if g=f then A? u else mA g)=B?;rw[Za q];exact z
theorem Inv.made(I:Inv X Y σ H s):Inv X Y σ (upd (upd H s.1.1.size (.own (s.1.1.size+1))) (s.1.1.size+1) (.ins C s.1.1.size []))
 {s with heap:=(s.1.push TR).push (Uv C s.1.1.size)}:=by
 have e1:(s.1.push TR).get? s.1.1.size=A? TR:=RJ s.1 rfl
 have e2:((s.1.push TR).push (Uv C s.1.1.size)).get? (s.1.1.size+1)=A? (Uv C s.1.1.size):=by
  have:=RJ (s.1.push TR) (o:=Uv C s.1.1.size) rfl
  rwa [SV]at this
 have e3:(s.1.push TR).Ns s.1.1.size (λ_=>B?):=⟨TR,#[],_,e1,rfl,(λe he=>Yd he (by simp)),λ_=>rfl⟩;have I1:=I.laid (a:=s.1.1.size) (o:=.own (s.1.1.size+1)) (h':=s.1.push TR) (t':=s.toks) (λb u q=>RB _ q) (RI _) ⟨_,e1⟩;refine I1.laid (a:=s.1.1.size+1) (o:=.ins C s.1.1.size []) (t':=s.toks) (λb u q=>RB _ q) (XR (SV _ _)) ?_;have ne:s.1.1.size≠s.1.1.size+1:=Sa (UK _);refine⟨by rw[ac ne,ad],Sn _,ne,e2,λ_=>B?,(Heap.Ns1.of_empty e3).at λo q=>RB _ q,λ_=>Vu,λy hy=>Yd rfl hy⟩
theorem tw{f:R1}(hb:Vz e f env (TN e env)=TN e env)
 (h:RQ (R7 prog w) A (TN e env) (λo l'=>RQ (R7 prog w) A (getAttr o f Bz) Q E l') E s):RQ (R7 prog w) A (TN (.Attribute e f pos) env) Q E s :=
 Attribute_any_ h (by rw[arm_eval_Attribute,hb])
end
def vR(K:RH)(ta:TE)(f:R1):TE:=λσ H Q=>ta σ H λx H1=>∃a C dx fs v,x=.ref a/\H1 a=A? (.ins C dx fs)/\Cls K C/\NoAttr K C f/\fs.lookup f=A? v/\Q v H1
def wN(K:RH)(ta tv:TE)(f:R1):TS:=λD σ H=>tv σ H λy H1=>ta σ H1 λx H2=>∃a C dx fs,x=.ref a/\H2 a=A? (.ins C dx fs)/\Cls K C/\NoAttr K C f/\fs.length<1000 /\
 D.nx σ (upd H2 a (.ins C dx (aF f y fs)))
section
variable{X:Cx}{o value:Su}{f:R1}{HV:UX}{ta tv:TE}
theorem aT(he:PE X e ta)(hb:Vz e f X.env (TN e X.env)=TN e X.env):PE X (.Attribute e f pos) (vR X.K ta f):=by
 intro Y s σ H Q I h;refine tw hb (thn (he Y s σ H _ I h) λu s1⟨x,H1,I1,rx,a,C,dx,fs,v,ex,ea,c,n,l,q⟩=>?_);subst ex;obtain rfl:u=Sg a:=rx;exact nC I1 ea c n l λu' s2 I2 ru=>⟨v,H1,I2,ru,q⟩
theorem eK(ha:PE X o ta)(hv:PE X value tv)(hs:swapsWith value (A? (.Attribute o f pos')) pos.line X.env=pure C?):PS X (.Assign [.Attribute o f pos'] value pos) (wN X.K ta tv f):=by
 intro Y s σ H D I h;refine plainObj_wpAny_Assign_Attribute (thn (hv Y s σ H _ I h) λu s1⟨y,H1,I1,ry,q⟩=>thn (ha Y s1 σ H1 _ I1 q) λov s2⟨x,H2,I2,rx,a,C,dx,fs,ex,ea,c,n,l,q2⟩=>?_) hs;subst ex;obtain rfl:ov=Sg a:=rx;exact nF I2 ea c n l ry λs3 I3=>⟨σ,_,I3,q2⟩
end
section
variable{X:Cx}{c:Rz}{b:Bool}
end
structure Room(k:Nat)(A:Si):Prop where
 hd:A.handled=B?
 dp:A.depth+3 * k+5<recursionLimit
 un:A.units+16 * k+200<Ve
theorem Room.mono{k:Nat}(r:Room k A)(h:j<=k):Room j A:=⟨r.hd,by have:=r.dp;lia,by have:=r.un;lia⟩
theorem Room.deeper{k:Nat}(r:Room (k+1) A)(env:Xz):Room k (A.deeper env) :=
 ⟨r.hd,by have:=r.dp;show A.depth+1+3 * k+5<_;lia,by have:=r.un;show A.units+3+16 * k+200<_;lia⟩
theorem Room.in1{k:Nat}(r:Room (k+1) A):Room k A.in1 :=
 ⟨r.hd,by have:=r.dp;show A.depth+3 * k+5<_;lia,by have:=r.un;show A.units+1+16 * k+200<_;lia⟩
theorem mS:(A.under (.builtin "type.__call__" ⟨.ref C::us,kw⟩)).depth=A.depth+1:=by
 first|rfl|simp[Around.under,Code.weight,Code.isCreation,Code.isGuard,Code.isCaller,Code.frames,Code.isFrame,guardIds]
theorem nL:(A.under (.builtin "type.__call__" ⟨.ref C::us,kw⟩)).units=A.units+1:=by
 first|rfl|simp[Around.under,Code.cUnits,Code.frames,Code.isFrame]
theorem Room.make{k:Nat}(r:Room (k+1) A)(C:Ry)(us:List Rz)(kw:List (R1×Rz)):Room k (A.under (.builtin "type.__call__" ⟨.ref C::us,kw⟩)) :=
 ⟨r.hd,by have:=r.dp;rw[mS];lia,by have:=r.un;rw[nL];lia⟩
theorem Room.depth{k:Nat}(r:Room k A):A.depth<recursionLimit:=by have:=r.dp;lia
theorem Room.units{k:Nat}(r:Room k A):A.units+64<Ve:=by have:=r.un;lia
def iV:TA:=λ_ H Q=>Q [] H
def b9(ta:TE)(tr:TA):TA:=λσ H Q=>ta σ H λx H1=>tr σ H1 λxs H2=>Q (x::xs) H2
section
variable{X:Cx}{es:List Su}{te:TE}{t:TA}
theorem ae:PA X [] iV:=λ_ _ _ _ H Q I h=>Ui ⟨[],H,I,.nil,h⟩
theorem aa(ha:PE X e te)(hr:PA X es t)(hs:Sk (e::es) X.env=(C?,TN e X.env)::Sk es X.env:=by rfl):PA X (e::es) (b9 te t):=by
 intro pos Y s σ H Q I h;rw[hs];show RQ _ _ (spliced ((C?,TN e X.env)::UP pos (Sk es X.env))) _ _ s;refine TQ (thn (ha Y s σ H _ I h) λu s1⟨x,H1,I1,r1,q1⟩=>?_);exact thn (hr pos Y s1 σ H1 _ I1 q1) λus s2⟨xs,H2,I2,r2,q2⟩=>⟨x::xs,H2,I2,.cons r1 r2,q2⟩
def vQ(t:TA):TE:=λσ H Q=>t σ H λxs H1=>xs.length<=RZ/\∀p,H1 p=B?->Q (.ref p) (upd H1 p (.tup xs))
def uJ(t:TA):TE:=λσ H Q=>t σ H λxs H1=>xs.length<=RZ/\∀p,H1 p=B?->Q (.ref p) (upd H1 p (.lst xs))
theorem aE{x1}(h:PA X es t):PE X (.Tuple es x1 pos) (vQ t):=by
 intro Y s σ H Q I hq;refine wpAny_Tuple_spliced (thn (h pos Y s σ H _ I hq) λus s1⟨xs,H1,I1,r,z,q⟩=>⟨by rw[<-r.length];exact z,?_⟩);have hf:H1 s1.1.1.size=none:=I1.hok.fresh (RI _);refine⟨.ref s1.1.1.size,upd H1 s1.1.1.size (.tup xs),I1.laid (t':=s1.toks) (λb u e=>RB _ e) (RI _) ?_,CA,q _ hf⟩;exact⟨z,us,0,r,RJ _ rfl⟩
theorem bY(h:PA X es t):PE X (.List es pos) (uJ t):=by
 intro Y s σ H Q I hq;refine wpAny_List_spliced (thn (h pos Y s σ H _ I hq) λus s1⟨xs,H1,I1,r,z,q⟩=>⟨by rw[<-r.length];exact z,?_⟩);have hf:H1 s1.1.1.size=none:=I1.hok.fresh (RI _);refine⟨.ref s1.1.1.size,upd H1 s1.1.1.size (.lst xs),I1.laid (t':=s1.toks) (λb u e=>RB _ e) (RI _) ?_,CA,q _ hf⟩;exact⟨z,us,0,r,RJ _ rfl⟩
end
abbrev Sp:=List V->Hp->VK->XK->Prop
abbrev CXT:=List Xz->Hp->RE->XK->Rz->RE->Prop
structure Env0(P:R3)(w:Se)(K:RH)(mg:R1->Option Rz)(base:SM)(A:Si)(outer:List Xz)(s:RE)(H:Hp):Prop where
 frames:A.frames=A? outer
 mod:Mod K mg base
 bs:∀b o,base.get? b=A? o->s.1.get? b=A? o/\H b=B?
 bsz:base.objs.size<=s.1.1.size
 funs:s.1.FunFrames base outer
 frf:∀b∈frs outer,H b=B?
 hok:HOk P w H s.1
 bare:Xy s.gens
def CE(outer:List Xz)(P:R3)(w:Se)(H:Hp)(s:RE)(Q:VK)(u:Rz)(s':RE):Prop :=
 ∃v H',s'.os=s.os/\Xy s'.gens/\Un (frs outer) [] H H' s.1 s'.1/\HOk P w H' s'.1/\RelV v u/\Q v H'
def CR(CX:CXT)(outer:List Xz)(P:R3)(w:Se)(H:Hp)(s:RE)(Q:VK)(E:XK)(r:XH)(s':RE):Prop :=
 match r with
 |.ok (.ret u)=>CE outer P w H s Q u s'
 |.ok _=>False
 |.error e=>CX outer H s E e s'
structure FnOk(P:R3)(w:Se)(K:RH)(mg:R1->Option Rz)(base:SM)(CX:CXT)(k:Nat)(f:Ry)(fd:Up)(ps:List R1)(sp:Sp):Prop where
 len:∀vs H Q E,sp vs H Q E->vs.length=ps.length
 run:∀(A:Si)(outer:List Xz)(s:RE)(H:Hp)(args:Args)(us:List Rz)(vs:List V)(Q:VK)(E:XK),Room k A->Env0 P w K mg base A outer s H->BindsTo s fd args (ps.zip us)->Vals vs us->sp vs H Q E ->
  UW (R7 P w) A (.call (.ref f) args) (CR CX outer P w H s Q E) s
theorem Env0.make(e:Env0 P w K mg base A outer s H)(C:Ry)(us:List Rz)(kw:List (R1×Rz)) :
 Env0 P w K mg base (A.under (.builtin "type.__call__" ⟨.ref C::us,kw⟩)) outer s H:=⟨by first|exact e.frames|(simpa[Around.under,Code.envs,Code.isFrame,pushEnvs]using e.frames),e.mod,e.bs,e.bsz,e.funs,e.frf,e.hok,e.bare⟩
theorem Env0.in1(e:Env0 P w K mg base A outer s H) :
 Env0 P w K mg base A.in1 outer s H:=⟨e.frames,e.mod,e.bs,e.bsz,e.funs,e.frf,e.hok,e.bare⟩
section
variable{X:Cx}
theorem Inv.env0(I:Inv X Y σ H s):Env0 X.prog X.w X.K X.mg X.base X.A X.stack s H :=
 ⟨I.ok.frames,I.ok.mod,I.bs,Ss I.ok.bsz I.sz,I.stack,I.stkFree,I.hok,I.bare⟩
theorem Inv.after{Q:VK}(I:Inv X Y σ H s)(h:CE X.stack X.prog X.w H s Q u s'):EP X Y σ Q u s':=by
 obtain⟨v,H',os,bare,un,hok,r,q⟩:=h;obtain⟨hh,g,d,t,M1⟩:=s';obtain rfl:M1=s.os:=os;exact⟨v,H',I.call (h':=hh) (g':=g) (d':=d) (t':=t) (ch:=[]) un hok bare (λb z=>Yd z (by simp)),r,q⟩
end
def t9(sp:Sp)(xW:List V)(E:XK)(t:TA):TE:=λσ H Q=>t σ H λvs H1=>sp (vs++xW) H1 Q E
def uj(C:Ry)(m:R1)(sp:Sp)(xW:List V)(E:XK)(ta:TE)(t:TA):TE:=λσ H Q=>ta σ H λx H1=>∃a dx fs,x=.ref a/\H1 a=A? (.ins C dx fs)/\fs.lookup m=B? /\
 t σ H1 λvs H2=>sp (x::(vs++xW)) H2 Q E
def wt(C:Ry)(sp:Sp)(xW:List V)(E:XK)(t:TA):TE:=λσ H Q=>t σ H λvs H1=>∀x dx,H1 x=B?->H1 dx=B?->dx≠x ->
 sp (.ref x::(vs++xW)) (upd (upd H1 dx (.own x)) x (.ins C dx [])) (λv H2=>v=.non/\Q (.ref x) H2) E
def Binds(K:RH)(fd:Up)(ps:List R1)(ds:List Rz):Prop :=
 ∀(s:RE)(us:List Rz),K.In s.1->(us++ds).length=ps.length->BindsTo s fd ⟨us,[]⟩ (ps.zip (us++ds))
theorem Binds.all(h:∀us:List Rz,us.length=ps.length->Wh fd ⟨us,[]⟩=pure (ps.zip us)):Binds K fd ps []:=λs us _ hl=>by
 rw[T1]at hl |-;exact .of_eq (h us hl)
def Passes(CX:CXT)(X:Cx)(E:XK):Prop:=∀(Y:List (Ry×TC))(σ:St)(H:Hp)(s:RE)(e:Rz)(s':RE),Inv X Y σ H s->CX X.stack H s E e s'->X.xe e s'
section
variable{X:Cx}{CX:CXT}{k:Nat}{sp:Sp}{xW:List V}{ds:List Rz}{E:XK}{m:R1}{p apos:UX}{o:Su}{es:List Su}{ta:TE}{t:TA}
theorem mL{Q:VK}{vs:List V}(F:FnOk X.prog X.w X.K X.mg X.base CX k f fd ps sp)(hr:Room k X.A)(hb:Binds X.K fd ps ds)(hd:Vals xW ds)(hx:Passes CX X E)
 (I:Inv X Y σ H s) (r:Vals vs us) (h:sp (vs++xW) H Q E):RQ (R7 X.prog X.w) X.A (call (.ref f) us) (EP X Y σ Q) X.xe s:=by
 have r2:Vals (vs++xW) (us++ds):=r.append hd;have hl:(us++ds).length=ps.length:=by rw[<-r2.length];exact F.len _ _ _ _ h
 refine wpAny_call (VU (F.run X.A X.stack s H ⟨us,[]⟩ (us++ds) (vs++xW) Q E hr I.env0 (hb s us I.kIn hl) r2 h) λr s' hq=>?_);cases r with
 |error e=>exact hx Y σ H s e s' I hq
 | ok fl =>
   cases fl with
   |ret u=>exact I.after hq
   |next=>exact TM hq
   |brk=>exact TM hq
   |cont=>exact TM hq
theorem oC(F:FnOk X.prog X.w X.K X.mg X.base CX k f fd ps sp)(hr:Room k X.A)(hg:Gl X x)(hm:X.mg x=A? (.ref f))(hk:UI X.K (.ref f)=Bz)(hb:Binds X.K fd ps ds)(hd:Vals xW ds)(hx:Passes CX X E)
 (ha:PA X (e::es) t) (AA:(x == ("__debug__":R1))=false:=by decide) (he:Sk (e::es) X.env=(C?,TN e X.env)::Sk es X.env:=by rfl) (yv:(UP pos (Sk es X.env)).any (·.1)=false:=by rfl) :
 PE X (.Call (.Name x p) (e::es) [] pos) (t9 sp xW E t):=by
 intro Y s σ H Q I h;refine SX (gj I hg hm ?_ AA);refine Wj (h₀:=X.base) I.ok.mod.kin hk (thn (ha pos Y s σ H _ I h) λus s1⟨vs,H1,I1,r,q⟩=>⟨I1.kIn,?_⟩) he yv;exact mL F hr hb hd hx I1 r q
theorem dQ{pl:Sem Bool}(he:PE X o ta)(c:Cls X.K C)(hm:Meth X.K C m f)(F:FnOk X.prog X.w X.K X.mg X.base CX k f fd ps sp)(hr:Room k X.A)(hb:Binds X.K fd ps ds)(hd:Vals xW ds)(hx:Passes CX X E)(ha:PA X (e::es) t)
 (xB:Sk (e::es) X.env=(C?,TN e X.env)::Sk es X.env:=by rfl) (yv:(UP pos (Sk es X.env)).any (·.1)=false:=by rfl)
 (ht:TN (.Call (.Attribute o m apos) (e::es) [] pos) X.env=(do
  let ov <-TN o X.env
  standAt apos.atName
  let(f,first) <-Xi [ov] (getMethod ov m pl)
  callWith pos f first (UP pos (Sk (e::es) X.env)) (backToKw pos (keywordEach [] X.env))):=by rfl) :
 PE X (.Call (.Attribute o m apos) (e::es) [] pos) (uj C m sp xW E ta t):=by
 intro Y s σ H Q I h;refine PySem.W.methodCall_KW (pl:=pl) (thn (he Y s σ H _ I h) λu s1⟨x,H1,I1,rx,a,dx,fs,ex,ea,l,q⟩=>?_) ht;subst ex;obtain rfl:u=Sg a:=rx;refine iN I1 ea c hm l ?_;refine Wj (first:=[.ref a]) (h₀:=X.base) I.ok.mod.kin hm.kp (thn (ha pos Y s1 σ H1 _ I1 q) λus s2⟨vs,H2,I2,r,q2⟩=>⟨I2.kIn,?_⟩) xB yv;exact mL (us:=.ref a::us) (vs:=.ref a::vs) F hr hb hd hx I2 (.cons rfl r) q2
theorem fH{pl:Sem Bool}(he:PE X o ta)(c:Cls X.K C)(hm:Meth X.K C m f)(F:FnOk X.prog X.w X.K X.mg X.base CX k f fd ps sp)(hr:Room k X.A)(hb:Binds X.K fd ps ds)(hd:Vals xW ds)(hx:Passes CX X E)
 (ht:TN (.Call (.Attribute o m apos) [] [] pos) X.env=(do
  let ov <-TN o X.env
  standAt apos.atName
  let(f,first) <-Xi [ov] (getMethod ov m pl)
  callWith pos f first (UP pos (Sk [] X.env)) (backToKw pos (keywordEach [] X.env))):=by rfl) :
 PE X (.Call (.Attribute o m apos) [] [] pos) (uj C m sp xW E ta iV):=by
 intro Y s σ H Q I h;refine PySem.W.methodCall_KW (pl:=pl) (thn (he Y s σ H _ I h) λu s1⟨x,H1,I1,rx,a,dx,fs,ex,ea,l,q⟩=>?_) ht;subst ex;obtain rfl:u=Sg a:=rx;refine iN I1 ea c hm l ?_;exact PySem.W.callWith_K0 (first:=[.ref a]) I1.kIn hm.kp (mL (us:=[.ref a]) (vs:=[.ref a]) F hr hb hd hx I1 (.cons rfl .nil) q)
structure Mk(K:RH)(C f:Ry):Prop where
 makes:WZ K C=Bz
 init:TH K (.ref C) "__init__"=A? (A? (.ref f))
 fn:PySem.W.isFn K (.ref f)=Bz
 kp:UI K (.ref C)=Bz
theorem rE{Q:VK}{vs:List V}(M:Mk X.K C f)(F:FnOk X.prog X.w X.K X.mg X.base CX k f fd ps sp)(hr:Room (k+1) X.A)(hb:Binds X.K fd ps ds)(hd:Vals xW ds)
 (hx:Passes CX X E) (I:Inv X Y σ H s) (r:Vals vs us)
 (h:∀x dx,H x=B?->H dx=B?->dx≠x->sp (.ref x::(vs++xW)) (upd (upd H dx (.own x)) x (.ins C dx [])) (λv H2=>v=.non/\Q (.ref x) H2) E) :
 RQ (R7 X.prog X.w) X.A (call (.ref C) us) (EP X Y σ Q) X.xe s:=by
 have hq:=h (s.1.1.size+1) s.1.1.size (I.hok.fresh (Nat.le_succ _)) (I.hok.fresh (RI _)) (Sa (UK _));have I2:=Inv.made (C:=C) I;have r2:Vals (Zf (s.1.1.size+1)::(vs++xW)) (Sg (s.1.1.size+1)::(us++ds)):=.cons rfl (r.append hd)
 have hl:(Sg (s.1.1.size+1)::us++ds).length=ps.length:=by
  have e:=r2.length;rw[F.len _ _ _ _ hq]at e;exact e.symm
 refine wpAny_call (qg (f:=f) I.kIn M.makes M.init (beq_iff_eq.mp M.fn) (VU (F.run _ X.stack _ _ ⟨Sg (s.1.1.size+1)::us,[]⟩ (Sg (s.1.1.size+1)::(us++ds)) _ _ E (hr.make C us [])
  (I2.env0.make C us []) (hb _ (Sg (s.1.1.size+1)::us) I2.kIn hl) r2 hq) λr s' yq=>?_))
 cases r with
 |error e=>exact hx Y σ _ _ e s' I2 yq
 | ok fl =>
   cases fl with
   | ret u =>
     obtain⟨v,H',I3,rv,ev,q3⟩:=I2.after yq;subst ev;exact⟨rv,⟨Zf (s.1.1.size+1),H',I3,CA,q3⟩⟩
   |next=>exact TM yq
   |brk=>exact TM yq
   |cont=>exact TM yq
theorem nY(M:Mk X.K C f)(F:FnOk X.prog X.w X.K X.mg X.base CX k f fd ps sp)(hr:Room (k+1) X.A)(hg:Gl X x)(hm:X.mg x=A? (.ref C))(hb:Binds X.K fd ps ds)(hd:Vals xW ds)(hx:Passes CX X E)
 (ha:PA X (e::es) t) (AA:(x == ("__debug__":R1))=false:=by decide) (he:Sk (e::es) X.env=(C?,TN e X.env)::Sk es X.env:=by rfl) (yv:(UP pos (Sk es X.env)).any (·.1)=false:=by rfl) :
 PE X (.Call (.Name x p) (e::es) [] pos) (wt C sp xW E t):=by
 intro Y s σ H Q I h;refine SX (gj I hg hm ?_ AA);refine Wj (h₀:=X.base) I.ok.mod.kin M.kp (thn (ha pos Y s σ H _ I h) λus s1⟨vs,H1,I1,r,q⟩=>⟨I1.kIn,?_⟩) he yv;exact rE M F hr hb hd hx I1 r q
end
section
variable{X:Cx}{CX:CXT}{k:Nat}{ks:List R1}{sp:Sp}{E:XK}{m:R1}{p apos M3:UX}{o:Su}{es:List Su}{QO:List Keyword}{te ta:TE}{t tk:TA}{nm:Option R1}
variable{g:List Rz->List Rz->List Rz}{gV:List V->List V->List V}
end
structure bp(N P:List R1)(sc:UR):Prop where
 kind:sc.kind=.function
 co:sc.isCoroutine=C?
 gen:sc.isGenerator=C?
 nd:N.Nodup
 pre:N.take P.length=P
 par:∀x∈P,sc.names.lookup x=A? .local\/sc.names.lookup x=A? .cell
 nofree:∀y∈sc.names,y.2≠.free
theorem j7:∀{binds:List (R1×Rz)}{m:R1->Option Rz},(∀v,(x,v)∉binds)->bindL kindOf binds m x=m x
 | [],_,_=>rfl
 | (n,v)::r,m,h=>by
   unfold bindL;rw[j7 λw hw=>h w (RT _ hw)];split
   .have:x≠n:=by rintro rfl;exact h v RX
    simp[this]
   .rfl
theorem jX:∀{binds:List (R1×Rz)}{m:R1->Option Rz},(∀v,(x,v)∉binds)->bindC kindOf binds m x=m x
 | [],_,_=>rfl
 | (n,v)::r,m,h=>by
   unfold bindC;rw[jX λw hw=>h w (RT _ hw)];split
   .rfl
   .have:x≠n:=by rintro rfl;exact h v RX
    simp[this]
theorem j8{v:Rz}:∀{P:List R1}{vs:List Rz}{i:Nat}{m:R1->Option Rz},P.Nodup->P[i]?=A? x->vs[i]?=A? v->kindOf x=A? .local ->
 bindL kindOf (P.zip vs) m x=A? v
 | [],_,_,_,_,h,_,_=>by simp at h
 |_::_,[],_,_,_,_,h,_=>by simp at h
 | p::P,w::vs,0,m,nd,h1,h2,hk=>by
   simp at h1 h2;subst h1;subst h2;show bindL kindOf ((p,w)::P.zip vs) m p=_;unfold bindL;rw[j7 λv hv=>(Sz.mp nd).1 (Vq hv).1,Yb hk];simp
 | p::P,w::vs,i+1,m,nd,h1,h2,hk=>by
   show bindL kindOf ((p,w)::P.zip vs) m x=_;unfold bindL;exact j8 (i:=i) (Sz.mp nd).2 (by simpa using h1) (by simpa using h2) hk
theorem kz{v:Rz}:∀{P:List R1}{vs:List Rz}{i:Nat}{m:R1->Option Rz},P.Nodup->P[i]?=A? x->vs[i]?=A? v->kindOf x≠A? .local ->
 bindC kindOf (P.zip vs) m x=A? v
 | [],_,_,_,_,h,_,_=>by simp at h
 |_::_,[],_,_,_,_,h,_=>by simp at h
 | p::P,w::vs,0,m,nd,h1,h2,hk=>by
   simp at h1 h2;subst h1;subst h2;show bindC kindOf ((p,w)::P.zip vs) m p=_;unfold bindC;rw[jX λv hv=>(Sz.mp nd).1 (Vq hv).1,Za hk];simp
 | p::P,w::vs,i+1,m,nd,h1,h2,hk=>by
   show bindC kindOf ((p,w)::P.zip vs) m x=_;unfold bindC;exact kz (i:=i) (Sz.mp nd).2 (by simpa using h1) (by simpa using h2) hk
def start(N:List R1)(vs:List V):St:=vs.map A?++Sh (N.length - vs.length) B?
def iy(CX:CXT)(P:R3)(w:Se)(K:RH)(mg:R1->Option Rz)(base:SM)(N:List R1)(qual:R1)(scope:UR)(f:Ry)(cd:Rz)(A:Si)(outer:List Xz)(s:RE)(H:Hp)(E:XK):Cx where
 prog:=P
 w:=w
 K:=K
 mg:=mg
 base:=base
 A:=A.deeper (UN qual scope s.1.1.size f cd)
 N:=N
 s₀:=s
 H₀:=H
 env:=UN qual scope s.1.1.size f cd
 outer:=outer
 stack:=UN qual scope s.1.1.size f cd::outer
 ex:=[]
 calm:=Bz
 fn:=λ_=>Bz
 pn:=[]
 xe:=λe s'=>RQ (R7 P w) (A.deeper (UN qual scope s.1.1.size f cd)) (leaving (UN qual scope s.1.1.size f cd) e) (λ_ Es=>CX outer H s E e Es) (λe' Es=>CX outer H s E e' Es) s'
theorem mi(h:sc.names.lookup x=A? .cell):∃c,(cellsFrom n sc.names []).lookup x=A? c:=by
 have q:=PySem.W.cellsFrom_some sc.names n [] (.inl h);exact Option.isSome_iff_exists.mp q
theorem pC{CX:CXT}{cd:Rz}{s1:RE}{E:XK}{vs:List V}
 (S:bp N ps scope) (hd:A.handled=B?) (e0:Env0 P w K mg base A outer s H) (hl:vs.length=ps.length) (r:Vals vs us)
 (x:InCallC s s.1.1.size (bindL (UN qual scope s.1.1.size f cd).kindOf (ps.zip us) λ_=>B?) (cellsFrom (s.1.1.size+1) scope.names []) (bindC (UN qual scope s.1.1.size f cd).kindOf (ps.zip us) λ_=>B?) s1) :
 Inv (iy CX P w K mg base N qual scope f cd A outer s H E) [] (start N vs) H s1:=by
 have yv:ps.length<=N.length:=by have:=Zd S4 S.pre;rw[Sq]at this;lia
 obtain⟨h1,tk,rfl,hk⟩:=x.done;have HW:∀b:Ry,b∉(iy CX P w K mg base N qual scope f cd A outer s H E).ex:=λb z=>Yd (show b∈([]:List Ry)from z) (by simp)
 refine⟨⟨e0.mod,S.kind,CA,CA,RI _,λy z c h1 h2=>?_,λy hy=>?_,λy c _ h=>?_,λ_=>hd,Around.frames_deeper e0.frames,.inr ⟨CA,CA⟩,λb z=>Yd z (HW b),e0.bs,e0.bsz,λb _ _=>HW b,λb z=>Yd z (HW b),e0.funs,e0.frf⟩,
  rfl,e0.bare,Un.kept hk,⟨_,x.toInCall.ns,λi y v h1 h2 h3=>?_⟩,λy c h=>⟨_,x.cell y c h⟩,e0.hok.fresh (RI _),λy c h=>?_,λp hp=>Yd (show p∈([]:List (Ry×TC))from hp) (by simp),e0.hok.kept hk,?_⟩
 .exact name_of_addr x.apart (Tz h1) (Tz h2)
 .have hy:scope.names.lookup y=A? .cell\/scope.names.lookup y=A? .free:=hy;rcases hy with hy|hy
  .exact mi hy
  .exact Yd rfl (S.nofree _ (Tz hy))
 .exact TV (x.above y c (Tz h))
 .have hi:i<vs.length:=by
   unfold start at h2;by_cases hi:i<vs.length
   .exact hi
   .rw[Sx (by simpa using hi)]at h2;rw[List.getElem?_replicate]at h2;split at h2 <;> cases h2
  have ha:vs[i]?=A? v:=by
   unfold start at h2;rw[Sl (by simpa using hi),RG]at h2;cases e:vs[i]? with
   |none=>rw[e]at h2;cases h2
   |some a=>rw[e]at h2;cases h2;rfl
  obtain⟨u,hu,rv⟩:=r.get ha
  have hp:ps[i]?=A? y:=by
   rw[<-S.pre,List.getElem?_take_of_lt (by lia)];exact h1
  have GC:ps.Nodup:=by rw[<-S.pre];exact S.nd.sublist (List.take_sublist _ _)
  refine⟨u,rv,?_⟩;rcases S.par y (Rx hp)with k|k
  .exact .inl ⟨k,j8 GC hp hu k⟩
  .obtain⟨c,e⟩:=mi (n:=s.1.1.size+1) k;refine .inr ⟨.inl k,c,e,?_⟩;have q:=x.cell y c e;rw[kz GC hp hu (by show scope.names.lookup y≠_;rw[k];decide)]at q;exact q
 .exact e0.hok.fresh (TV (x.above y c (Tz h)))
 .unfold start;show _=N.length;rw[RK,Rw,VJ];lia
theorem qo{CX:CXT}{k:Nat}{dV kV doc pm xi ct oc:Rz}{an od:Option Ry}
 {Bm:Array (Option Rz)} {sp:Sp} (lk:K.lookup f=A? ⟨oc,od,.func (V8 name qual params body scope dV kV doc pm an xi ct),Bm⟩) (yf:PySem.W.codeIn K xi qual=Bz) (S:bp N ps scope)
 (len:∀vs H Q E,sp vs H Q E->vs.length=ps.length)
 (xF:∀(A:Si)(outer:List Xz)(s:RE)(H:Hp)(vs:List V)(Q:VK)(E:XK),Room k (A.deeper (UN qual scope s.1.1.size f xi))->sp vs H Q E ->
  ∃t,PSs (iy CX P w K mg base N qual scope f xi A outer s H E) body t/\t {nx:=λ_ H'=>Q .non H',rt:=Q} (start N vs) H) :
 FnOk P w K mg base CX (k+1) f (V8 name qual params body scope dV kV doc pm an xi ct) ps sp:=by
 refine⟨len,λA outer s H args us vs Q E hr e0 hb r yw=>?_⟩;have hl:=len _ _ _ _ yw;have KX:K.In s.1:=e0.mod.kin.keeps λb o e=>(e0.bs b o e).1;have lim:s.1.NoLimit:=e0.mod.nolimit.keeps λb o e=>(e0.bs b o e).1
 have Et:∀y∈ps.zip us,scope.names.lookup y.1=A? .local\/(scope.names.lookup y.1=A? .cell/\((cellsFrom (s.1.1.size+1) scope.names []).lookup y.1).isSome=Bz):=λ⟨n,v⟩hy=>by
  rcases S.par n (Vq hy).1 with q|q
  .exact .inl q
  .exact .inr ⟨q,PySem.W.cellsFrom_some _ _ _ (.inl q)⟩
 refine codeAny_call_function hr.depth (KX _ _ lk) rfl S.co S.gen rfl (PySem.W.codeRec_of KX yf) (hb _ _ _ _ ?_);refine wpAny_newFunctionEnv_cells S.kind Et λenv he s1 x=>?_;subst he;refine⟨lim.keeps x.toInCall.keep,codeAny_func ?_⟩;obtain⟨t,ht,hq⟩:=xF A outer s H vs Q E (hr.deeper _) yw;have I:Inv (iy CX P w K mg base N qual scope f xi A outer s H E) [] (start N vs) H s1:=pC S hr.hd e0 hl r x;refine Tq (ht [] s1 (start N vs) H _ I hq) (λfl s' hs=>?_) λe s' hs=>hs
 have fin:∀{i':St}{H':Hp}{v:V}{u:Rz},Inv (iy CX P w K mg base N qual scope f xi A outer s H E) [] i' H' s'->RelV v u->Q v H'->CE outer P w H s Q u s' :=
  λ{i' H' v u}J rv q=>⟨v,H',J.os,J.bare,J.base,J.hok,rv,q⟩
 cases fl with
 | ret u =>
   obtain⟨v,i',H',J,rv,q⟩:=hs;exact fin J rv q
 | next =>
   obtain⟨i',H',J,q⟩:=hs;exact fin (v:=V.non) (u:=SY) J rfl q
 | brk =>
   obtain⟨_,_,_,q⟩:=hs;exact TM q
 | cont =>
   obtain⟨_,_,_,q⟩:=hs;exact TM q
end L2
variable{CX:L2.CXT}{sp:L2.Sp}
namespace L2
open PySem PySem.Spec PyProof.Rows
section
variable{X:Cx}{p:UX}{es:List Su}{t:TA}{id T:String}{r:List V->Hp->VK->Prop}
def tCB(r:List V->Hp->VK->Prop)(t:TA):TE:=λσ H Q=>t σ H λvs H1=>r vs H1 Q
theorem aZ(hc:io X (.builtin id) r)(hg:Gl X x)(hm:X.mg x=B?)(hv:Wz x=A? (.builtin id))(ha:PA X (e::es) t)(hn:x≠"__name__":=by decide)(AA:(x == ("__debug__":R1))=false:=by decide)
 (he:Sk (e::es) X.env=(C?,TN e X.env)::Sk es X.env:=by rfl) (yv:(UP pos (Sk es X.env)).any (·.1)=false:=by rfl):PE X (.Call (.Name x p) (e::es) [] pos) (tCB r t):=by
 intro Y s σ H Q I h;refine SX (cy I hg hm hv ?_ hn AA);exact PyProof.Rows.callWith_builtin1 (thn (ha pos Y s σ H _ I h) λus s1⟨vs,H1,I1,r1,q1⟩=>hc Y s1 σ H1 vs us Q I1 r1 q1) he yv
theorem cQ(hc:io X (.type T) r)(hg:Gl X x)(hm:X.mg x=B?)(hv:Wz x=A? (.type T))(ha:PA X (e::es) t)(hn:x≠"__name__":=by decide)(AA:(x == ("__debug__":R1))=false:=by decide)
 (he:Sk (e::es) X.env=(C?,TN e X.env)::Sk es X.env:=by rfl) (yv:(UP pos (Sk es X.env)).any (·.1)=false:=by rfl):PE X (.Call (.Name x p) (e::es) [] pos) (tCB r t):=by
 intro Y s σ H Q I h;refine SX (cy I hg hm hv ?_ hn AA);exact SR (thn (ha pos Y s σ H _ I h) λus s1⟨vs,H1,I1,r1,q1⟩=>hc Y s1 σ H1 vs us Q I1 r1 q1) he yv
end
end L2
namespace HT
open PySem PyProof.Rows
def lexLt:List Int->List Int->Bool
 | [],[]=>C?
 | [],_::_=>Bz
 |_::_,[]=>C?
 |x::xs,y::ys=>if x=y then lexLt xs ys else decide (x<y)
theorem lexLt_cons(x y:Int)(xs ys:List Int):lexLt (x::xs) (y::ys)=if x=y then lexLt xs ys else decide (x<y):=rfl
theorem lexLt_nil_nil:lexLt [] []=false:=rfl
theorem lexLt_nil_cons(y:Int)(ys:List Int):lexLt [] (y::ys)=true:=rfl
theorem lexLt_cons_nil(x:Int)(xs:List Int):lexLt (x::xs) []=false:=rfl
theorem eqAt_int(A:Si)(s:RE)(a:Int)(t:Tok)(c:Int)(u:Tok):∃e,SeqAt.EqAt A s (.int a t) (.int c u) e/\(e=Bz↔a=c) :=
 ⟨(a == c),SeqAt.EqAt.int_int a t c u,by simp⟩
theorem rcLt_int(A:Si)(s:RE)(a:Int)(t:Tok)(c:Int)(u:Tok)(prog:R3)(w:Se)(E:Rz->RE->Prop)(Q:Rz->RE->Prop)(h:Q (.bool (decide (a<c))) s) :
 RQ (R7 prog w) A (XE .Lt (.int a t) (.int c u)) Q E s :=
 (PyProof.Rows.lt_int h:RQ (R7 prog w) A (UB .Lt (.int a t) (.int c u)) Q E s)
section
open PySem.SeqAt
open PySem.AutoSeq1 (wpAny_loadPart')
open PySem.MeetsSeq PySem.MeetsSeq2 PySem.MeetsSeq3
theorem tuple_lt_ints(l b:Ry)(items xg:Array Rz)(n n2:Nat)(dd zK:Option Ry)(sl zL:Array (Option Rz))(ns ms:List Int)(hi:WR items.toList ns)(hj:WR xg.toList ms) :
 Meets (Ur.«tuple.__lt__» ⟨[.ref l,.ref b],[]⟩)
  (λ_ R s=>s.1.get? l=A? {cls:=.type "tuple",dict:=dd,data:=.seq items n,slots:=sl}/\s.1.get? b=A? {cls:=.type "tuple",dict:=zK,data:=.seq xg n2,slots:=zL} /\
   R (.ok (.ret (.bool (lexLt ns ms)))) s) :=
 .of_wp λprog w A R s h=>by
  obtain⟨hp,g,d,tk,os⟩:=s;obtain⟨hl,hb,h⟩:=h;have f2:=W7;have z1:items.size=ns.length:=by rw[<-hi.length];simp
  have z2:xg.size=ms.length:=by rw[<-hj.length];simp
  wp_walk using Xq hl,Xq hb,wpAny_forIn_list _ (λrest b s'=>b.1=B?/\s'=⟨hp,g,d,tk,os⟩/\∃(vs ws:List Rz)(DH DI:List Int),rest=vs.zip ws /\
   WR vs DH/\WR ws DI/\DH.length+xg.size=DI.length+items.size/\R (.ok (.ret (.bool (lexLt DH DI)))) ⟨hp,g,d,tk,os⟩) _
  case turn =>
   rintro⟨y,x⟩ rest b s' ⟨xC,rfl,vs,ws,DH,DI,hz,HX,GD,hlen,hR⟩;cases HX with
   |nil=>rw[List.zip_nil_left]at hz;cases hz
   | cons a t HY =>
     cases GD with
     |nil=>rw[List.zip_nil_right]at hz;cases hz
     | cons c u HZ =>
       rw[Wl]at hz;injection hz with Eu yW;injection Eu with hy hx;subst hy hx;rw[lexLt_cons]at hR;simp only[RV]at hlen;obtain⟨e,he,Ew⟩:=eqAt_int A.in1 ⟨hp,g,d,tk,os⟩ a t c u;refine Rv (he prog w _ _ ?_);cases e with
       | true =>
         rw[Yb (Ew.mp rfl)]at hR
         wp_walk
         exact⟨CA,CA,_,_,_,_,yW,HY,HZ,by lia,hR⟩
       | false =>
         rw[Za (λq=>Yd (Ew.mpr q) R0)]at hR;have Ex:=rcLt_int A.in1 ⟨hp,g,d,tk,os⟩ a t c u prog w
         wp_walk using Ex
         exact⟨_,CA,by simpa using hR⟩
  case fin =>
   rintro⟨b1,b2⟩ s' ⟨xC,rfl,vs,ws,DH,DI,hz,HX,GD,hlen,hR⟩;simp only at xC;subst xC
   have hv:lexLt DH DI=decide (items.size<xg.size):=by
    cases HX with
    | nil =>
      cases GD with
      | nil =>
        simp only[U4]at hlen;rw[lexLt_nil_nil];exact(Zb (by lia)).symm
      | cons c u hw =>
        simp only[U4,RV]at hlen;rw[lexLt_nil_cons];exact(Yc (by lia)).symm
    | cons a t hv =>
      cases GD with
      | nil =>
        simp only[U4,RV]at hlen;rw[lexLt_cons_nil];exact(Zb (by lia)).symm
      | cons c u hw =>
        rw[Wl]at hz;cases hz
   rw[hv]at hR
   wp_walk
   exact⟨_,CA,by simpa[Builtin.Tuple.tupleCompareSizes]using hR⟩
  case h =>
   exact⟨CA,CA,items.toList,xg.toList,ns,ms,CA,hi,hj,by lia,h⟩
end
theorem lt_tupInts{l:Ry}{xg:Array Rz}{ms:List Int}(hl:IsTup s.1 l items)(hb:IsTup s.1 b xg)(hi:WR items.toList ns)(hj:WR xg.toList ms)
 (hu:A.units<Ve) (h:Q (.bool (lexLt ns ms)) s):RQ (R7 prog w) A (UB .Lt (.ref l) (.ref b)) Q E s:=by
 obtain⟨⟨cls,dd,data,sl⟩,ho,hc,n,hd⟩:=id hl;obtain⟨⟨BD,zK,data2,zL⟩,z8,yC,n2,hd2⟩:=id hb;simp only at hc hd yC hd2;subst hc hd yC hd2
 exact richCompare_meets_room (op:=.Lt) ⟨_,ho,rfl⟩ ⟨_,z8,rfl⟩ PySem.F.slot_tuple_lt PySem.F.entry_tuple_lt (PySem.F.args_tuple_lt_2 _ _) (tuple_lt_ints l b items xg n n2 dd zK sl zL ns ms hi hj)
  ⟨ho,z8,show UQ (lexLt ns ms)≠Value.notImplemented/\Q (.bool (lexLt ns ms)) s from⟨(λx=>nomatch x),h⟩⟩ hu
theorem cat_tup{t:Ry}{vs ws:List Rz}(ht:IsTup s.1 t vs.toArray)(hb:IsTup s.1 b ws.toArray)(hv:vs≠[])
 (h1:ws=[]->Q (.ref t) s) (h2:ws≠[]->Q (.ref s.1.1.size) {s with heap:=s.1.push {cls:=.type "tuple",data:=.seq (vs++ws).toArray}})
 (hsz:vs.length+ws.length<=RZ):RQ (R7 prog w) A (U0 .Add (.ref t) (.ref b)) Q E s:=by
 obtain⟨⟨cls,dd,data,sl⟩,ho,hc,n,hd⟩:=id ht;obtain⟨⟨BD,zK,data2,zL⟩,z8,yC,n2,hd2⟩:=id hb;simp only at hc hd yC hd2;subst hc hd yC hd2;have e:vs.toArray++ws.toArray=(vs++ws).toArray:=by simp
 by_cases hw:ws=[]
 .exact concat_meets ⟨_,ho,rfl⟩ ⟨_,z8,rfl⟩ noFill_tuple_add seq_tuple_add WV WK (WA _ _)
   (tuple_addW1 t b vs.toArray ws.toArray n n2 dd zK sl zL (by simpa using hv) (by simp[hw])) ⟨ho,z8,h1 hw⟩
 .refine concat_meets ⟨_,ho,rfl⟩ ⟨_,z8,rfl⟩ noFill_tuple_add seq_tuple_add WV WK (WA _ _)
   (tuple_addW2 t b vs.toArray ws.toArray n n2 dd zK sl zL (by simpa using hv) (by simpa using hw) (by rw[RO,RO];exact hsz)) ⟨ho,z8,?_⟩
  rw[e];exact h2 hw
def sIx(n d:Nat):Option Int->Nat
 |none=>d
 |some v=>if v<0 then(v+(n:Int)).toNat else min v.toNat n
theorem sIx_none(n d:Nat):sIx n d B?=d:=rfl
theorem sIx_nat(n d k:Nat):sIx n d (A? (k:Int))=min k n:=by
 show(if(k:Int)<0 then((k:Int)+(n:Int)).toNat else min (k:Int).toNat n)=min k n;rw[Za (by lia),RU]
theorem sIx_le(n d:Nat)(hd:d<=n)(o:Option Int):sIx n d o<=n:=by
 cases o with
 |none=>exact hd
 | some v =>
   show(if v<0 then(v+(n:Int)).toNat else min v.toNat n)<=n;by_cases hv:v<0
   .rw[Yb hv];lia
   .rw[Za hv];exact Nat.min_le_right _ _
theorem clip_eq(v:Int)(n d:Nat):(if v<0 then max (v+(n:Int)) 0 else min v (n:Int))=((sIx n d (A? v):Nat):Int):=by
 show(if v<0 then max (v+(n:Int)) 0 else min v (n:Int))=(((if v<0 then(v+(n:Int)).toNat else min v.toNat n):Nat):Int);by_cases hv:v<0
 .simp only[Yb hv];lia
 .simp only[Za hv];lia
theorem adjust_gen(lo hi:Option Int)(n:Nat):UA lo hi 1 (n:Int)=(((sIx n 0 lo:Nat):Int),((sIx n n hi:Nat):Int)):=by
 have h1:¬((1:Int)<0):=by lia
 unfold UA;simp only[h1,if_false];refine XN ?_ ?_
 .cases lo with
  |none=>rfl
  |some v=>exact clip_eq v n 0
 .cases hi with
  |none=>rfl
  |some v=>exact clip_eq v n n
theorem places_gen(i j:Nat):Tg (i:Int) (j:Int) 1=j - i:=by
 unfold Tg;have h1:(1:Int) > 0:=by lia
 simp only[h1,if_true,XU];split <;> lia
theorem slicePart_{v:Rz}{o:Option Int}{Q:Option Int->RE->Prop}(p:Xo v o)(h:Q o s):RQ (R7 prog w) A (Builtin.Slice.slicePartIndex v) Q E s:=by
 cases p with
 |none=>exact slicePart_none h
 |int i t=>exact slicePart_int h
theorem sliceApplied_gen{Q:Int×Int×Nat->RE->Prop}(hs:s.1.IsSliceOf sl vl vu .none)(pl:Xo vl lo)(pu:Xo vu hi)
 (h:Q (((sIx n 0 lo:Nat):Int),1,sIx n n hi - sIx n 0 lo) s):RQ (R7 prog w) A (Vo (.ref sl) (pure (n:Int))) Q E s:=by
 obtain⟨os,yX,Ao,yr⟩:=id hs;unfold Vo Builtin.Slice.sliceFields;refine Rv (Rv (Sy yX yr (x:=vl) rfl (Rv (Sy yX yr (x:=vu) rfl (Rv (Sy yX yr (x:=.none) rfl (RD ?_)))))));refine Rv (slicePart_none ?_);show RQ _ _ (if((1:Int) == 0)=Bz then _ else _) _ _ s;rw[Za (by decide)];refine Rv (slicePart_ pl (Rv (slicePart_ pu (Rv (RD ?_)))));show RQ _ _ (match UA lo hi 1 (n:Int)with|(lo,hi)=>pure (lo,(1:Int),Tg lo hi 1)) _ _ s;rw[adjust_gen lo hi n];show RQ _ _ (pure (((sIx n 0 lo:Nat):Int),(1:Int),Tg ((sIx n 0 lo:Nat):Int) ((sIx n n hi:Nat):Int) 1)) _ _ s;rw[places_gen];exact RD h
theorem pick_gen(xs:Array Rz)(i k:Nat):((SK k).filterMap λ(m:Nat)=>xs[((i:Int)+(m:Int) * 1).toNat]?).toArray=((xs.toList.drop i).take k).toArray:=by
 have e:(λ(m:Nat)=>xs[((i:Int)+(m:Int) * 1).toNat]?)=λm=>xs[i+m]?:=by
  funext m;have:((i:Int)+(m:Int) * 1).toNat=i+m:=by lia
  rw[this]
 rw[e];have:=pick_run xs i k;rw[List.filterMap_map]at this;have e2:((λx=>xs[x]?) ∘ λx=>i+x)=λm=>xs[i+m]?:=rfl;rw[e2]at this;rw[this]
theorem getItem_tuple_cut{t:Ry}(ht:IsTup s.1 t items)(hs:s.1.IsSliceOf sl vl vu .none)(pl:Xo vl lo)(pu:Xo vu hi)
 (hw:¬(sIx items.size 0 lo=0/\sIx items.size items.size hi=items.size))
 (h:Q (.ref s.1.1.size) {s with heap:=s.1.push {cls:=.type "tuple",data:=.seq ((items.toList.drop (sIx items.size 0 lo)).take (sIx items.size items.size hi - sIx items.size 0 lo)).toArray}})
 (hsz:items.size<=RZ):RQ (R7 prog w) A (VS (.ref t) (.ref sl)) Q E s:=by
 have xU:sizeOk (.seq ((items.toList.drop (sIx items.size 0 lo)).take (sIx items.size items.size hi - sIx items.size 0 lo)).toArray):=by
  show((items.toList.drop (sIx items.size 0 lo)).take (sIx items.size items.size hi - sIx items.size 0 lo)).toArray.size<=RZ;rw[RO,Sq,Uj,Sd];lia
 have hj:sIx items.size items.size hi<=items.size:=sIx_le _ _ (RI _) hi;obtain⟨os,yX,Ao,yr⟩:=id hs;have Ey:s.TypeIs (.ref sl) "slice":=⟨os,yX,Ao⟩;unfold VS
 try with_reducible refine SN ?_
 first|refine Rv (RD ?_)|skip
 refine Rv (wpAny_sequenceKey ht.typeIs (by decide) ?_)
 refine Rv (SF (name:=RF "__getitem__") ht.typeIs SD
  (SI SD ht.typeIs entry_tuple_getitem ?_ (args_tuple_getitem _ _)))
 show RQ _ _ (WT (.ref t) >>= _) _ _ s;refine Rv (tupleItemsOf_ ht ?_);refine Rv (VP Ey ?_);rw[Yb (by decide)];refine Rv (sliceApplied_gen hs pl pu ?_)
 have xu:¬((((sIx items.size 0 lo:Nat):Int) == 0 && (1:Int) == 1 && (sIx items.size items.size hi - sIx items.size 0 lo) == items.size)=Bz):=by
  intro q;rw[UM,UM]at q;have q1:((sIx items.size 0 lo:Nat):Int)=0:=eq_of_beq q.1.1;have q2:sIx items.size items.size hi - sIx items.size 0 lo=items.size:=eq_of_beq q.2;exact hw ⟨by lia,by lia⟩
 show RQ _ _ (if(((sIx items.size 0 lo:Nat):Int) == 0 && (1:Int) == 1 && (sIx items.size items.size hi - sIx items.size 0 lo) == items.size)=Bz then _ else _) _ _ s;rw[Za xu,pick_gen]
 first
  |exact Rv (m:=Tp _) (Sv (RD ⟨_,rfl,RD h⟩) xU)
  |exact Rv (m:=Tp _) (Sv (Rv (RD (RD ⟨_,rfl,RD h⟩))) xU)
  |exact Rv (Rv (m:=Tp _) (Sv (RD (RD ⟨_,rfl,RD h⟩)) xU))
  |exact Rv (Rv (m:=Tp _) (Sv (RD ⟨_,rfl,RD h⟩) xU))
end HT
open HT renaming sIx->Zh,lexLt->Ym,lexLt_cons->Zp
namespace L2
open PySem PySem.Spec PyProof.Rows
abbrev TO:=St->Hp->(Option Int->Hp->Prop)->Prop
def PO(X:Cx)(e:Option Su)(t:TO):Prop :=
 ∀(Y:List (Ry×TC))(s:RE)(σ:St)(H:Hp)(Q:Option Int->Hp->Prop),Inv X Y σ H s->t σ H Q ->
   RQ (R7 X.prog X.w) X.A (evalPart e X.env) (λu s'=>∃o H',Inv X Y σ H' s'/\Xo u o/\Q o H') X.xe s
def r8:TO:=λ_ H Q=>Q B? H
inductive tW(x:V)(Q:Option Int->Hp->Prop)(H1:Hp):Prop
 |mk (i:Int) (yH:x=.int i) (yI:Q (A? i) H1):tW x Q H1
def ue(t:TE):TO:=λσ H Q=>t σ H λx H1=>tW x Q H1
theorem intsAre_of:∀{us:List Rz},Vals (ns.map Yh) us->WR us ns:=by
 induction ns with
 |nil=>intro us r;rw[T5]at r;cases r;exact .nil
 | cons n ns ih =>
   intro us r;rw[R6]at r;cases r with
   | cons r1 r2 =>
     obtain⟨t,e⟩:=r1;subst e;exact .cons n t (ih r2)
section
variable{X:Cx}{te:TE}{lo hi:Option Su}{tl th:TO}{p2:UX}
theorem bW:PO X B? r8:=by
 intro Y s σ H Q I h;rw[evalPart_none];exact RD ⟨B?,H,I,.none,h⟩
theorem bE(h:PE X e te):PO X (A? e) (ue te):=by
 intro Y s σ H Q I hw;rw[evalPart_some];refine thn (h Y s σ H _ I hw) λu s1⟨x,H1,I1,r1,q1⟩=>?_;obtain⟨i,rfl,q⟩:=q1;obtain⟨t,rfl⟩:=r1;exact⟨A? i,H1,I1,.int i t,q⟩
def SlR(X:Cx)(r:V->Option Int->Option Int->Hp->VK->Prop):Prop :=
 ∀(Y:List (Ry×TC))(s:RE)(σ:St)(H:Hp)(x:V)(v vl vu:Rz)(lo hi:Option Int)(sl:Ry)(Q:VK),Inv X Y σ H s->RelV x v->s.1.IsSliceOf sl vl vu .none->Xo vl lo->Xo vu hi->r x lo hi H Q ->
   ∃T id,typeLookup (.type T) "__getitem__"=pure (A? (.builtin id))/\s.TypeIs v T/\RQ (R7 X.prog X.w) X.A (VS v (.ref sl)) (EP X Y σ Q) X.xe s
def tSl(r:V->Option Int->Option Int->Hp->VK->Prop)(te:TE)(tl th:TO):TE:=λσ H Q=>te σ H λx H1=>tl σ H1 λl H2=>th σ H2 λu H3=>r x l u H3 Q
theorem bB{r:V->Option Int->Option Int->Hp->VK->Prop}(hr:SlR X r)(he:PE X e te)(hl:PO X lo tl)(hu:PO X hi th):PE X (.Subscript e (.Slice lo hi B? p2) pos) (tSl r te tl th):=by
 intro Y s σ H Q I h;refine Subscript_ (thn (he Y s σ H _ I h) λv s1⟨x,H1,I1,r1,q1⟩=>?_);refine wpAny_Slice (thn (hl Y s1 σ H1 _ I1 q1) λvl s2⟨l,H2,I2,pl,q2⟩=>thn (hu Y s2 σ H2 _ I2 q2) λvu s3⟨u,H3,I3,pu,q3⟩=>?_);rw[evalPart_none];refine RD ?_;have I4:Inv X Y σ H3 {s3 with heap:=s3.1.push {cls:=.type "slice",data:=.fields #[vl,vu,.none]}}:=I3.kept (t':=s3.toks) λb ob q=>RB _ q;obtain⟨T,id,hT,ht,hg⟩:=hr Y {s3 with heap:=s3.1.push {cls:=.type "slice",data:=.fields #[vl,vu,.none]}} σ H3 x v vl vu l u s3.1.1.size Q I4 r1 (Heap.IsSliceOf.new ..) pl pu q3;show RQ (R7 X.prog X.w) X.A (subscriptTail e (.Slice lo hi B? p2) v (.ref s3.1.1.size)) (EP X Y σ Q) X.xe {s3 with heap:=s3.1.push {cls:=.type "slice",data:=.fields #[vl,vu,.none]}};exact tail_any (ops:=[.ref s3.1.1.size,v]) ht hT hg (by with_unfolding_all rfl)
def eY(xs:List V)(lo hi:Option Int):List V:=(xs.drop (Zh xs.length 0 lo)).take (Zh xs.length xs.length hi - Zh xs.length 0 lo)
theorem g7(xs:List V)(lo hi:Option Int):(eY xs lo hi).length<=xs.length:=by
 unfold eY;rw[Sq,Uj];lia
inductive tZ(K:RH)(x:V)(lo:Option Int)(hi:Option Int)(H:Hp)(Q:VK):Prop
 |mk (a:_) (xs:_) (yH:x=.ref a) (yI:SqT K H a xs) (zZ:¬(Zh xs.length 0 lo=0/\Zh xs.length xs.length hi=xs.length)) (B5:∀p,H p=B?->Q (.ref p) (upd H p (.tup (eY xs lo hi)))):tZ K x lo hi H Q
def wS(K:RH):V->Option Int->Option Int->Hp->VK->Prop:=tZ K
theorem eI:SlR X (wS X.K):=by
 intro Y s σ H x v vl vu lo hi sl Q I rx hs pl pu h;obtain⟨a,xs,rfl,hx,hw,q⟩:=h;cases rx;obtain⟨its,r,ht,hz⟩:=I.tuple hx;have hlen:its.toArray.size=xs.length:=by rw[RO];exact r.length.symm
 refine⟨"tuple",_,SD.lookup,ht.typeIs,?_⟩;refine HT.getItem_tuple_cut ht hs pl pu (by rw[hlen];exact hw) ?_ (by rw[hlen];exact hz);rw[hlen];refine⟨.ref s.1.1.size,_,I.laid (t':=s.toks) (o:=.tup (eY xs lo hi)) (λb ob q=>RB _ q) (RI _) ?_,CA,q _ (I.hok.fresh (RI _))⟩;exact⟨Ss (g7 xs lo hi) hz,_,0,(r.drop (Zh xs.length 0 lo)).take (Zh xs.length xs.length hi - Zh xs.length 0 lo),RJ _ rfl⟩
def wk(K:RH):R2:=λx y H Q=>∃a b xs ys,x=.ref a/\y=.ref b/\SqT K H a xs/\SqT K H b ys/\xs≠[]/\xs.length+ys.length<=RZ /\
 (ys=[]->Q (.ref a) H)/\(ys≠[]->∀p,H p=B?->Q (.ref p) (upd H p (.tup (xs++ys))))
theorem Vals.nil_iff(r:Vals xs us):us=[]↔xs=[]:=by
 cases r with
 |nil=>simp
 |cons _ _=>simp
theorem nZ:OpR X (U0 .Add) (wk X.K):=by
 intro Y s σ H x y v u Q I rx ry h;obtain⟨a,b,xs,ys,rfl,rfl,ha,hb,hx,hz,q1,q2⟩:=h;cases rx;cases ry;obtain⟨its,r1,p1,_⟩:=I.tuple ha;obtain⟨xn,r2,p2,_⟩:=I.tuple hb;refine HT.cat_tup p1 p2 (λz=>hx (r1.nil_iff.mp z)) (λz=>⟨.ref a,H,I,rfl,q1 (r2.nil_iff.mp z)⟩) (λz=>?_) (by rw[<-r1.length,<-r2.length];exact hz);refine⟨.ref s.1.1.size,_,I.laid (t':=s.toks) (o:=.tup (xs++ys)) (λb ob q=>RB _ q) (RI _) ?_,CA,q2 (λw=>z (r2.nil_iff.mpr w)) _ (I.hok.fresh (RI _))⟩;exact⟨by rw[RK];exact hz,_,0,r1.append r2,RJ _ rfl⟩
end
def ixN(n:Nat)(i:Int):Option Nat:=if 0<=i then(if i<n then A? i.toNat else B?)else if -(n:Int)<=i then A? (i+n).toNat else B?
def atI{α:Type}(xs:List α)(i:Int):Option α:=(ixN xs.length i).bind λj=>xs[j]?
theorem oF{i:Int}(h:ixN n i=A? j):seqIndex? i n=A? j/\j<n/\-(n:Int)<=i/\i<n:=by
 unfold ixN at h;by_cases h0:0<=i
 .rw[Yb h0]at h;by_cases h1:i<n
  .rw[Yb h1]at h;have e:i.toNat=j:=RN h;exact⟨by rw[seqIndex_of h0 h1,e],by lia,by lia,h1⟩
  .rw[Za h1]at h;cases h
 .rw[Za h0]at h;by_cases h1:-(n:Int)<=i
  .rw[Yb h1]at h;have e:(i+n).toNat=j:=RN h;exact⟨by rw[seqIndex_neg (by lia) h1,e],by lia,h1,by lia⟩
  .rw[Za h1]at h;cases h
theorem kT{xs:List α}{i:Int}{v:α}(h:atI xs i=A? v):∃j,seqIndex? i xs.length=A? j/\xs[j]?=A? v/\j<xs.length/\-(xs.length:Int)<=i/\i<xs.length:=by
 unfold atI at h;cases e:ixN xs.length i with
 |none=>rw[e]at h;cases h
 | some j =>
   rw[e]at h;obtain⟨h1,h2,h3,h4⟩:=oF e;exact⟨j,h1,h,h2,h3,h4⟩
theorem bz{xs:List α}{v:α}(h:xs[j]?=A? v):atI xs (j:Int)=A? v:=by
 have hj:j<xs.length:=(glE h)
 have e:ixN xs.length (j:Int)=A? j:=by
  unfold ixN;rw[Yb (by lia),Yb (by lia)];simp
 unfold atI;rw[e];exact h
theorem qr(xs:List α)(v:α):atI (xs++[v]) (-1)=A? v:=by
 have hl:(xs++[v]).length=xs.length+1:=by simp
 have e:ixN (xs++[v]).length (-1)=A? xs.length:=by
  unfold ixN;rw[hl,Za (by decide),Yb (by lia)];congr 1;lia
 unfold atI;rw[e];show(xs++[v])[xs.length]?=A? v;simp
def sg(b:Su):Prop:=∀o i,subscripted b C? o i=operate [o,i] (VS o i)
def IxR(X:Cx)(r:R2):Prop :=
 ∀(value slice:Su)(Y:List (Ry×TC))(s:RE)(σ:St)(H:Hp)(x y:V)(v u:Rz)(Q:VK),Inv X Y σ H s->RelV x v->RelV y u->r x y H Q ->
   subscripted slice C? v u=operate [v,u] (VS v u)->RQ (R7 X.prog X.w) X.A (subscriptTail value slice v u) (EP X Y σ Q) X.xe s
def MtR(X:Cx)(id:String)(r:V->List V->Hp->VK->Prop):Prop :=
 ∀(Y:List (Ry×TC))(s:RE)(σ:St)(H:Hp)(x:V)(xs:List V)(v:Rz)(us:List Rz)(Q:VK),Inv X Y σ H s->RelV x v->Vals xs us->r x xs H Q ->
   RQ (R7 X.prog X.w) X.A (call (.builtin id) (v::us)) (EP X Y σ Q) X.xe s
section
variable{X:Cx}{a b:Su}{ta tb:TE}
theorem aH(hr:IxR X r)(ha:PE X a ta)(hb:PE X b tb)(hs:sg b):PE X (.Subscript a b pos) (tOp r ta tb):=by
 intro Y s σ H Q I h;exact Subscript_ (uA ha hb I h λv u s2 x y H2 I2 rx ry q=>hr a b Y s2 σ H2 x y v u Q I2 rx ry q (hs _ _))
inductive tY(K:RH)(x:V)(y:V)(H:Hp)(Q:VK):Prop
 |mk (p:_) (xs:_) (i:_) (v:_) (yH:x=.ref p) (yI:y=.int i) (zZ:SqL K H p xs) (B5:atI xs i=A? v) (DJ:Q v H):tY K x y H Q
def v6(K:RH):R2:=tY K
inductive um(K:RH)(x:V)(y:V)(H:Hp)(Q:VK):Prop
 |mk (p:_) (xs:_) (i:_) (v:_) (yH:x=.ref p) (yI:y=.int i) (zZ:SqT K H p xs) (B5:atI xs i=A? v) (DJ:Q v H):um K x y H Q
def pA(K:RH):R2:=um K
inductive ud(x:V)(y:V)(H:Hp)(Q:VK):Prop
 |mk (z:_) (i:_) (c:_) (yH:x=.str z) (yI:y=.int i) (zZ:z.length<=RZ) (B5:atI z.cps.toList i=A? c) (DJ:Q (.str ⟨#[c]⟩) H):ud  x y H Q
def wP:R2:=ud
theorem cu:IxR X (v6 X.K):=by
 intro value slice Y s σ H x y v u Q I rx ry h hs;obtain⟨p,xs,i,z,rfl,rfl,hq,he,q⟩:=h;cases rx;obtain⟨t,rfl⟩:=ry;obtain⟨its,r,pl,hz⟩:=I.list hq;obtain⟨j,h1,h2,h3,h4,h5⟩:=kT he;obtain⟨w,ew,AB⟩:=r.get h2;have hl:=r.length;have hn:=gv;have fin:EP X Y σ Q w s:=⟨z,H,I,AB,q⟩;by_cases h0:0<=i
 .have hj:i.toNat=j:=by
   rw[seqIndex_of h0 h5]at h1;exact RN h1
  exact item_listR pl.isList h0 (by lia) (by rw[hj];simpa using ew) fin hs
 .have hj:(i+(its.toArray.size:Int)).toNat=j:=by
   rw[seqIndex_neg (by lia) h4]at h1;rw[RO,<-hl];exact RN h1
  exact subscriptTail_builtinR (x:=w) pl.isList.typeIs slot_list_getitem.lookup
   (wpAny_getItem_list_neg (Q:=λr s'=>r=w/\EP X Y σ Q r s') pl.isList (by lia) (by rw[RO] <;> lia) (by lia) (by rw[hj];simpa using ew) ⟨rfl,fin⟩) hs
theorem aG:IxR X (pA X.K):=by
 intro value slice Y s σ H x y v u Q I rx ry h hs;obtain⟨p,xs,i,z,rfl,rfl,hq,he,q⟩:=h;cases rx;obtain⟨t,rfl⟩:=ry;obtain⟨its,r,pl,hz⟩:=I.tuple hq;obtain⟨j,h1,h2,h3,h4,h5⟩:=kT he;obtain⟨w,ew,AB⟩:=r.get h2;have hl:=r.length;have hn:=gv;have fin:EP X Y σ Q w s:=⟨z,H,I,AB,q⟩
 exact subscriptTail_builtinR (x:=w) pl.typeIs slot_tuple_getitem.lookup
  (getItem_tuple (j:=j) (Q:=λr s'=>r=w/\EP X Y σ Q r s') pl (by lia) (by lia) (by rw[RO,<-hl];exact h1) (by simpa using ew) ⟨rfl,fin⟩) hs
theorem mJ:IxR X wP:=by
 intro value slice Y s σ H x y v u Q I rx ry h hs;obtain⟨z,i,c,rfl,rfl,hz,he,q⟩:=h;obtain⟨t,rfl⟩:=rx;obtain⟨t',rfl⟩:=ry;obtain⟨j,h1,h2,h3,h4,h5⟩:=kT he;have hl:z.cps.toList.length=z.length:=by simp[Str.length]
 rw[hl]at h1 h4 h5;have hn:=gv
 exact tail_any (typeIs_str s z t) slot_str_getitem.lookup (getItem_str (c:=c) (by
  have e1:decide (i < -(2 ^ 63:Int))=false:=Zb (by lia);have e2:decide (i >= 2 ^ 63)=false:=Zb (by lia);rw[e1,e2,Bool.or_false]) (by rw[h1];simpa using h2) ⟨.str ⟨#[c]⟩,H,I.tok _,⟨_,rfl⟩,q⟩) hs
theorem nw(its:List Rz)(n j:Nat)(u:Rz):SQ (·.setIfInBounds j u) {cls:=.type "list",data:=.seq its.toArray n}={cls:=.type "list",data:=.seq (its.set j u).toArray n}:=by
 simp[SQ]
theorem Inv.lst{p:Ry}(I:Inv X Y σ H s)(h:H p=A? (.lst xs)) :
 ∃(its:List Rz)(n:Nat),Vals xs its/\s.1.get? p=A? {cls:=.type "list",data:=.seq its.toArray n}/\xs.length<=RZ:=by
 obtain⟨z,its,n,r,e⟩:=I.hok p _ h;exact⟨its,n,r,e,z⟩
theorem Inv.lstUpd{p:Ry}{ys:List V}{its':List Rz}{n':Nat}{f:TC->TC}(I:Inv X Y σ H s)(h:H p=A? (.lst xs))
 (ho:s.1.get? p=A? {cls:=.type "list",data:=.seq its.toArray n}) (hf:f {cls:=.type "list",data:=.seq its.toArray n}={cls:=.type "list",data:=.seq its'.toArray n'}) (r:Vals ys its') (hz:ys.length<=RZ) (t:Nat) :
 Inv X Y σ (upd H p (.lst ys)) {s with heap:=s.1.update p f,toks:=t}:=by
 have e:(s.1.update p f).get? p=A? {cls:=.type "list",data:=.seq its'.toArray n'}:=by
  rw[SO f ho (by rw[hf] <;> rfl),hf]
 refine I.write (x:=p) (e:=p) (by rw[h];trivial) (.inl rfl) (λb u hb q=>(S8 _ _ (Tn hb)).trans q) ⟨_,e⟩ ?_;exact⟨hz,its',n',r,e⟩
def v0:V->V->V->Hp->(Hp->Prop)->Prop:=λo i v H Q=>∃p xs k j,o=.ref p/\i=.int k/\H p=A? (.lst xs)/\ixN xs.length k=A? j/\Q (upd H p (.lst (xs.set j v)))
theorem set_list:v8 X v0:=by
 intro Y s σ H o i v ov iv u Q I ro ri rv h;obtain⟨p,xs,k,j,rfl,rfl,hp,hj,q⟩:=h;cases ro;obtain⟨t,rfl⟩:=ri;obtain⟨its,n,r,ho,hz⟩:=I.lst hp;obtain⟨h1,h2,h3,h4⟩:=oF hj;have hl:=r.length;have hn:=gv
 have I':Inv X Y σ (upd H p (.lst (xs.set j v))) {s with heap:=s.1.update p (SQ (·.setIfInBounds j u))} :=
  I.lstUpd hp ho (nw its n j u) (r.set rv j) (by rw[U3];exact hz) s.toks
 by_cases h0:0<=k
 .have hk:k.toNat=j:=by
   rw[seqIndex_of h0 h4]at h1;exact RN h1
  exact PySem.W.ki_setAt ho h0 (by lia) (by rw[RO,<-hl];exact h4) (by rw[hk];exact⟨_,I',q⟩)
 .have hk:(k+(its.toArray.size:Int)).toNat=j:=by
   rw[seqIndex_neg (by lia) h3]at h1;rw[RO,<-hl];exact RN h1
  exact PySem.W.ki_setBack ho (by lia) (by rw[RO,<-hl];exact h3) (by lia) (by rw[hk];exact⟨_,I',q⟩)
theorem kJ(lo hi:Option Int)(n:Nat):(Wg lo hi B? n).1=((Zh n 0 lo:Nat):Int)/\(Wg lo hi B? n).2.1=((Zh n n hi:Nat):Int)/\(Wg lo hi B? n).2.2=1:=by
 refine⟨?_,?_,CA⟩
 .cases lo with
  |none=>simp[Wg,Zh]
  | some i =>
    simp only[Wg,Zh,Option.getD_none,show(1:Int) > 0 by decide,if_true];by_cases h:i<0
    .simp only[h,if_true] <;> lia
    .simp only[h,if_false] <;> lia
 .cases hi with
  |none=>simp[Wg,Zh]
  | some i =>
    simp only[Wg,Zh,Option.getD_none,show(1:Int) > 0 by decide,if_true];by_cases h:i<0
    .simp only[h,if_true] <;> lia
    .simp only[h,if_false] <;> lia
theorem jK(its:List Rz)(lo hi:Option Int):slicePick its.toArray lo hi B?=((its.drop (Zh its.length 0 lo)).take (Zh its.length its.length hi - Zh its.length 0 lo)).toArray:=by
 obtain⟨h1,h2,h3⟩:=kJ lo hi its.toArray.size;unfold slicePick;rw[h1,h2,h3];simp only[sliceRange_one,pick_run,RO] <;> rfl
inductive tU(K:RH)(x:V)(lo:Option Int)(hi:Option Int)(H:Hp)(Q:VK):Prop
 |mk (a:_) (xs:_) (yH:x=.ref a) (yI:SqL K H a xs) (zZ:∀p,H p=B?->Q (.ref p) (upd H p (.lst (eY xs lo hi)))):tU K x lo hi H Q
def wB(K:RH):V->Option Int->Option Int->Hp->VK->Prop:=tU K
theorem tL:SlR X (wB X.K):=by
 intro Y s σ H x v vl vu lo hi sl Q I rx hs pl pu h;obtain⟨a,xs,rfl,hx,q⟩:=h;cases rx;obtain⟨its,r,ht,hz⟩:=I.list hx;have hlen:=r.length;refine⟨"list",_,slot_list_getitem.lookup,ht.isList.typeIs,?_⟩;refine wpAny_getItem_list_slice ht.isList hs pl pu .none (by simp) ?_ (by rw[RO] <;> lia);rw[jK,<-hlen];refine⟨.ref s.1.1.size,_,I.laid (t':=s.toks) (o:=.lst (eY xs lo hi)) (λb ob q=>RB _ q) (RI _) ?_,CA,q _ (I.hok.fresh (RI _))⟩;exact⟨Ss (g7 xs lo hi) hz,_,0,(r.drop (Zh xs.length 0 lo)).take (Zh xs.length xs.length hi - Zh xs.length 0 lo),RJ _ rfl⟩
inductive uc(K:RH)(xs:List V)(H:Hp)(Q:VK):Prop
 |mk (p:Ry) (ys:List V) (yH:xs=[.ref p]) (yI:SqL K H p ys\/SqT K H p ys) (zZ:Q (.int ys.length) H):uc K xs H Q
theorem bf:io X (.builtin "len") (uc X.K):=by
 intro Y s σ H xs us Q I r h;obtain⟨p,ys,rfl,hq,q⟩:=h;obtain⟨u,rfl,rx⟩:=vals1 r;cases rx;have hn:=gv;rcases hq with hq|hq
 .obtain⟨its,r',pl,hz⟩:=I.list hq;have hlen:=r'.length;exact Calls.call_len_list pl.isList (by simp only[RO] <;> lia) ⟨.int ys.length,H,I.tok _,⟨s.toks+1,by rw[RO,hlen]⟩,q⟩
 .obtain⟨its,r',pl,hz⟩:=I.tuple hq;have hlen:=r'.length;exact len_tuple pl (by simp only[RO] <;> lia) ⟨.int ys.length,H,I.tok _,⟨s.toks+1,by rw[RO,hlen]⟩,q⟩
theorem bR:io X (.type "tuple") (λxs H Q=>∃p ys,xs=[.ref p]/\((SqL X.K H p ys/\∀l,H l=B?->Q (.ref l) (upd H l (.tup ys)))\/(SqT X.K H p ys/\Q (.ref p) H))):=by
 intro Y s σ H xs us Q I r h;obtain⟨p,ys,rfl,h⟩:=h;obtain⟨u,rfl,rx⟩:=vals1 r;cases rx;rcases h with⟨hq,q⟩|⟨hq,q⟩
 .obtain⟨its,r',pl,hz⟩:=I.list hq;have hlen:=r'.length;refine call_tuple_list pl.isList (λh' kp=>?_) (by simp only[RO] <;> lia);have I1:Inv X Y σ H {s with heap:=h'}:=I.kept (t':=s.toks) kp
  have I2:Inv X Y σ (upd H h'.objs.size (.tup ys)) {s with heap:=h'.push {cls:=.type "tuple",data:=.seq its.toArray}} :=
   I1.laid (t':=s.toks) (λb o e=>RB _ e) (RI _) (show ObjOk X.prog X.w _ _ _ (.tup ys)from⟨hz,its,0,r',RJ _ rfl⟩)
  exact⟨.ref h'.objs.size,_,I2,CA,q _ (I1.hok.fresh (RI _))⟩
 .obtain⟨its,r',pl,hz⟩:=I.tuple hq;exact call_tuple_same pl ⟨.ref p,H,I,rfl,q⟩
def tyV(K:RH)(T:String)(x:V)(H:Hp):Prop:=match x with
 |.str _=>T="str"
 |.int _=>T="int"
 |.ref p=>(T="list"/\∃xs,SqL K H p xs)\/(T="tuple"/\∃o,K.lookup p=A? o/\o.cls=.type "tuple"/\o.dict=B?) \/
  (T="dict"/\((∃kvs,H p=A? (.dK kvs))\/∃kvs,H p=A? (.dT kvs)))\/(T="set"/\∃S n,H p=A? (.set S n))
 |_=>False
theorem rc{T:String}{x:V}{v:Rz}(I:Inv X Y σ H s)(r:RelV x v)(ty:tyV X.K T x H) :
 s.TypeIs v T/\∀a,v=.ref a->∃ob,s.1.get? a=A? ob/\ob.dict=none:=by
 cases x with
 | str z =>
   obtain⟨t,rfl⟩:=r;cases(show T="str" from ty);exact⟨typeIs_str s z t,λ_ e=>nomatch e⟩
 | int i =>
   obtain⟨t,rfl⟩:=r;cases(show T="int" from ty);exact⟨typeIs_int s i t,λ_ e=>nomatch e⟩
 | ref p =>
   cases r;rcases ty with⟨rfl,xs,hq⟩|⟨rfl,o,hk,hc,hd⟩|⟨rfl,hk⟩|⟨rfl,S,n,hk⟩
   .obtain⟨its,_,pl,_⟩:=I.list hq;refine⟨pl.isList.typeIs,λa e=>?_⟩;cases e;obtain⟨o,n,e,c,hd,_⟩:=pl;exact⟨o,e,hd⟩
   .refine⟨⟨o,I.kIn p o hk,hc⟩,λa e=>?_⟩;cases e;exact⟨o,I.kIn _ o hk,hd⟩
   .have z:∃o,s.1.get? p=A? o/\o.ExactDict:=by
     rcases hk with⟨kvs,hk⟩|⟨kvs,hk⟩
     .obtain⟨_,_,_,_,o,_,_,e,ex,_⟩:=I.hok p _ hk;exact⟨o,e,ex⟩
     .obtain⟨_,_,_,_,o,_,_,e,ex,_⟩:=I.hok p _ hk;exact⟨o,e,ex⟩
    obtain⟨o,e,ex⟩:=z;refine⟨⟨o,e,ex.1⟩,λa e2=>?_⟩;cases e2;exact⟨o,e,ex.2.1⟩
   .obtain⟨o,_,_,_,e,ex,_⟩:=I.hok p _ hk;refine⟨⟨o,e,ex.1⟩,λa e2=>?_⟩;cases e2;exact⟨o,e,ex.2.1⟩
 |_=>exact TM ty
def vC(K:RH)(T:String)(r:V->List V->Hp->VK->Prop)(to:TE):TE:=λσ H Q=>to σ H λx H1=>tyV K T x H1/\r x [] H1 Q
def tBM(K:RH)(T:String)(r:V->List V->Hp->VK->Prop)(to:TE)(t:TA):TE:=λσ H Q=>to σ H λx H1=>tyV K T x H1/\t σ H1 λxs H2=>r x xs H2 Q
variable{o:Su}{es:List Su}{to:TE}{t:TA}{apos xk:UX}{T id:String}{r:V->List V->Hp->VK->Prop}
theorem lf(pa:PlainAttrs T)(slot:Slot T name id)(Ia:typeOf (.builtin id)=pure (.type "method_descriptor"))(hm:MtR X id r)(ho:PE X o to)
 (yi:Vz o name X.env (TN o X.env)=TN o X.env:=by rfl) (yj:(apos.endLine == xk.line)=true:=by rfl):PE X (.Call (.Attribute o name apos) [] [] xk) (vC X.K T r to):=by
 intro Y s σ H Q I h;refine W9 yi yj (thn (ho Y s σ H _ I h) λv s1⟨x,H1,I1,r1,ty,q1⟩=>?_);obtain⟨h1,h2⟩:=rc I1 r1 ty;exact⟨T,id,pa,slot,Ia,h1,h2,VY rfl (Xl (hm Y s1 σ H1 x [] v [] Q I1 r1 .nil q1))⟩
theorem df(pa:PlainAttrs T)(slot:Slot T name id)(Ia:typeOf (.builtin id)=pure (.type "method_descriptor"))(hm:MtR X id r)(ho:PE X o to)(ha:PA X (e::es) t)
 (yi:Vz o name X.env (TN o X.env)=TN o X.env:=by rfl)
 (Ib:((UP xk (Sk (e::es) X.env)).all (λx=>!x.1) && (backToKw xk (keywordEach [] X.env)).all (λx=>x.1.isSome)
  && decide ((e::es).length+([]:List Keyword).length+(if([]:List Keyword).isEmpty then 0 else 1)<30))=true:=by rfl)
 (yj:(apos.endLine == xk.line)=true:=by rfl) (hs:Sk (e::es) X.env=(C?,TN e X.env)::Sk es X.env:=by rfl) (CB:(UP xk (Sk es X.env)).any (·.1)=false:=by rfl) :
 PE X (.Call (.Attribute o name apos) (e::es) [] xk) (tBM X.K T r to t):=by
 intro Y s σ H Q I h;refine wpAny_Call_method_late yi Ib yj rfl (thn (ho Y s σ H _ I h) λv s1⟨x,H1,I1,r1,ty,q1⟩=>?_);obtain⟨h1,h2⟩:=rc I1 r1 ty;refine⟨T,id,pa,slot,Ia,h1,h2,?_⟩;have hA:=ha xk Y s1 σ H1 _ I1 q1;rw[hs]at hA |-;refine VY (by show(C? ||(UP xk (Sk es X.env)).any (·.1))=C?;rw[CB] <;> rfl) (XX ?_);exact thn hA λus s2⟨vs,H2,I2,r2,q2⟩=>hm Y s2 σ H2 x vs v us Q I2 r1 r2 q2
end
def MtM(X:Cx)(id:String)(r:V->List V->Hp->VK->Prop):Prop :=
 ∀(Y:List (Ry×TC))(s:RE)(σ:St)(H:Hp)(x:V)(xs:List V)(v:Rz)(us:List Rz)(Q:VK),Inv X Y σ H s->RelV x v->Vals xs us->r x xs H Q ->
   RQ (R7 X.prog X.w) X.A (call (.builtin id) (v::us)) (EP X Y σ Q) X.xe s
theorem Vals.one:∀{x:V}{us:List Rz},Vals [x] us->∃u,us=[u]/\RelV x u
 |_,_,.cons r .nil=>⟨_,rfl,r⟩
theorem Vals.zero:∀{us:List Rz},Vals [] us->us=[]
 |_,.nil=>rfl
theorem Vals.dropLast(h:Vals xs us):Vals xs.dropLast us.dropLast:=by
 induction h with
 |nil=>exact .nil
 | cons r t ih =>
   cases t with
   |nil=>exact .nil
   |cons q t'=>exact .cons r ih
theorem Vals.rep(h:Vals xs us):∀k:Nat,Vals (Sh k xs).flatten (Sh k us).flatten
 |0=>.nil
 | k+1=>by
   rw[Ti,Ti,U8,U8];exact Vals.append h (Vals.rep h k)
theorem m5(l:List α):l.eraseIdx (l.length - 1)=l.dropLast:=by
 induction l with
 |nil=>rfl
 | cons a r ih =>
   cases r with
   |nil=>rfl
   | cons b r =>
     have e:(a::b::r).length - 1=((b::r).length - 1)+1:=by
      have h1:(a::b::r).length=r.length+2:=rfl;have h2:(b::r).length=r.length+1:=rfl;lia
     rw[e,List.eraseIdx_cons_succ,ih]
     all_goals rfl
theorem foldl_rep(its:List Rz):∀(k:Nat)(acc:List Rz),
 List.foldl (λx1 x2=>x1++x2) acc.toArray (Sh k its.toArray)=(acc++(Sh k its).flatten).toArray
 |0,acc=>by simp
 | k+1,acc=>by
   have e:acc.toArray++its.toArray=(acc++its).toArray:=by simp
   have e2:(acc++its)++(Sh k its).flatten=acc++(Sh (k+1) its).flatten:=by
    rw[Ti,U8,Uy]
   rw[<-e2,<-foldl_rep its k (acc++its),<-e,Ti,List.foldl_cons]
section
variable{X:Cx}{l:Ry}{ys zs:List V}
theorem Inv.lset{its':List Rz}{f:Array Rz->Array Rz}(I:Inv X Y σ H s)(hH:H l=A? (.lst xs))
 (e:s.1.get? l=A? {cls:=.type "list",data:=.seq its.toArray n}) (hf:f its.toArray=its'.toArray) (hv:Vals ys its') (hz:ys.length<=RZ) :
 Inv X Y σ (upd H l (.lst ys)) {s with heap:=s.1.update l (SQ f),toks:=t'}:=by
 have q:=PySem.IsL.update e f;rw[hf]at q;refine I.write (x:=l) (e:=l) (by rw[hH];exact trivial) (.inl rfl) (λb' u hb hu=>(S8 s.1 (SQ f) (Tn hb)).trans hu) ⟨_,q⟩ ?_;exact⟨hz,its',_,hv,q⟩
theorem Inv.lnew(I:Inv X Y σ H s)(hv:Vals ys its)(hz:ys.length<=RZ) :
 Inv X Y σ (upd H s.1.1.size (.lst ys)) {s with heap:=s.1.push {cls:=.type "list",data:=.seq its.toArray},toks:=t'} :=
 I.laid (λ_ _ q=>RB _ q) (RI _) ⟨hz,its,0,hv,RJ _ rfl⟩
theorem Inv.fresh(I:Inv X Y σ H s):H s.1.1.size=none:=I.hok.fresh (RI _)
theorem Inv.lstM(I:Inv X Y σ H s)(hH:H l=A? (.lst xs)):xs.length<=RZ/\∃(its:List Rz)(n:Nat),Vals xs its/\xs.length=its.length/\s.1.get? l=A? {cls:=.type "list",data:=.seq its.toArray n}:=by
 obtain⟨z,its,n,r,e⟩:=I.hok l _ hH;exact⟨z,its,n,r,r.length,e⟩
theorem i9(h:n<=RZ):Ub n=false:=by
 unfold Ub;exact Zb (by lia)
end
section
variable{X:Cx}
inductive lX(x:V)(vs:List V)(H:Hp)(Q:VK):Prop
 |mk (l:_) (xs:_) (y:_) (yH:x=.ref l) (yI:vs=[y]) (zZ:H l=A? (.lst xs)) (B5:xs.length<RZ) (DJ:Q .non (upd H l (.lst (xs++[y])))):lX  x vs H Q
def sP:V->List V->Hp->VK->Prop:=lX
theorem bL:MtM X "list.append" sP:=by
 intro Y s σ H x vs v us Q I rx rv h;obtain⟨l,xs,y,rfl,rfl,hH,hz,q⟩:=h;cases rx;obtain⟨u,rfl,ru⟩:=rv.one;obtain⟨z,its,n,r,hl,e⟩:=I.lstM hH;refine Xj F.slot_list_append ⟨_,e,rfl⟩ F.entry_list_append (F.args_list_append_2 _ _) (PySem.list_append l its.toArray n u (by rw[RO];lia)) ⟨e,?_⟩;refine⟨.non,_,I.lset (its':=its++[u]) hH e (by simp) (r.append (.cons ru .nil)) ?_,CA,q⟩;rw[RK,R8];lia
inductive lS(x:V)(vs:List V)(H:Hp)(Q:VK):Prop
 |mk (l:_) (b:_) (xs:_) (zs:_) (yH:x=.ref l) (yI:vs=[.ref b]) (zZ:H l=A? (.lst xs)) (B5:H b=A? (.lst zs)) (DJ:xs.length+zs.length<=RZ) (M4:Q .non (upd H l (.lst (xs++zs)))):lS  x vs H Q
def tG:V->List V->Hp->VK->Prop:=lS
theorem pc:MtM X "list.extend" tG:=by
 intro Y s σ H x vs v us Q I rx rv h;obtain⟨l,b,xs,zs,rfl,rfl,hH,hB,hz,q⟩:=h;cases rx;obtain⟨u,rfl,ru⟩:=rv.one;cases ru;obtain⟨z,its,n,r,hl,e⟩:=I.lstM hH;obtain⟨z2,xn,n2,r2,yk,e2⟩:=I.lstM hB;have hsz:its.toArray.size+xn.toArray.size<=RZ:=by rw[RO,RO];lia
 have yY:¬(!its.toArray.isEmpty && Ub (its.toArray.size+xn.toArray.size))=true:=by
  rw[i9 hsz,Bool.and_false];exact R0
 refine Xj F.slot_list_extend ⟨_,e,rfl⟩ F.entry_list_extend (F.args_list_extend_2 _ _)
  (AutoSeq1.list_extend_list_list_0 l its.toArray n b xn.toArray n2 yY (by rw[RO];lia) (by lia)) ⟨e,e2,?_⟩
 refine⟨.non,_,I.lset (its':=its++xn) hH e (by simp) (r.append r2) ?_,CA,q⟩;rw[RK];lia
inductive uf(x:V)(vs:List V)(H:Hp)(Q:VK):Prop
 |mk (l:_) (xs:_) (y:_) (yH:x=.ref l) (yI:vs=[]) (zZ:H l=A? (.lst xs)) (B5:xs[xs.length - 1]?=A? y) (DJ:Q y (upd H l (.lst xs.dropLast))):uf  x vs H Q
def vU:V->List V->Hp->VK->Prop:=uf
theorem kW:MtM X "list.pop" vU:=by
 intro Y s σ H x vs v us Q I rx rv h;obtain⟨l,xs,y,rfl,rfl,hH,hy,q⟩:=h;cases rx;have GF:=rv.zero;subst GF;obtain⟨z,its,n,r,hl,e⟩:=I.lstM hH;obtain⟨u,hu,ru⟩:=r.get hy
 have CC:its.toArray[its.toArray.size - 1]?=A? u:=by
  show its.toArray[its.length - 1]?=A? u;rw[<-U6,<-hl];exact hu
 refine Xj F.slot_list_pop ⟨_,e,rfl⟩ F.entry_list_pop (F.args_list_pop_1 _) (MeetsSeq.list_pop_last l its.toArray n u CC (by rw[RO];lia)) ⟨e,?_⟩;refine⟨y,_,I.lset (its':=its.dropLast) hH e ?_ r.dropLast ?_,ru,q⟩
 .show its.toArray.eraseIdxIfInBounds (its.toArray.size - 1)=its.dropLast.toArray;rw[RO,List.eraseIdxIfInBounds_toArray,m5]
 .rw[List.length_dropLast];lia
def wK:R2:=λx y H Q=>∃l k xs,x=.ref l/\y=.int k/\H l=A? (.lst xs)/\-(2 ^ 63)<=k/\k<2 ^ 63/\xs.length * k.toNat<=RZ /\
 ∀p,H p=B?->Q (.ref p) (upd H p (.lst (Sh k.toNat xs).flatten))
theorem len_rep(xs:List α)(k:Nat):(Sh k xs).flatten.length=k * xs.length:=by
 induction k with
 |zero=>simp
 |succ k ih=>rw[Ti,U8,RK,ih,V9,Nat.add_comm]
theorem qX:OpR X (U0 .Mult) wK:=by
 intro Y s σ H x y v u Q I rx ry h;obtain⟨l,k,xs,rfl,rfl,hH,h1,h2,hz,q⟩:=h;cases rx;obtain⟨t,rfl⟩:=ry;obtain⟨z,its,n,r,hl,e⟩:=I.lstM hH;have hlen:its.toArray.size * k.toNat<=RZ:=by rw[RO,<-hl];exact hz
 have Ic:¬its.toArray.size * k.toNat > (2 ^ 63 - 1) / 8:=by
  have:(RZ:Nat)<=(2 ^ 63 - 1) / 8:=by decide
  lia
 have Ez:¬(!Builtin.List.listFitsIndex k)=true:=by
  rw[fitsIndex_both h1 h2];exact R0
 have yY:¬Ub (its.toArray.size * k.toNat)=true:=by
  rw[i9 hlen];exact R0
 have CD:List.foldl (λx1 x2=>x1++x2) #[] (Sh (if its.toArray.isEmpty=Bz then 0 else k.toNat) its.toArray)=(Sh k.toNat its).flatten.toArray:=by
  have f0:∀m:Nat,List.foldl (λx1 x2=>x1++x2) #[] (Sh m its.toArray)=(Sh m its).flatten.toArray:=λm=>by
   have:=foldl_rep its m [];rw[V3]at this;exact this
  rw[f0];cases its with
  |nil=>simp
  |cons a r'=>rw[Za (by simp)]
 refine wpAny_binaryOp_repeat_ref (T:="list") (U:="int") (by decide) ⟨_,e,rfl⟩ (λs'=>typeIs_int s' k t) noFill_list_mul F.fills_int_mul F.slot_int_rmul repeat_list F.slot_int_index.lookup
  (Xj F.slot_int_rmul (typeIs_int s k t) F.entry_int_rmul (F.args_int_rmul_2 _ _) (int___rmul___int_list k t l its.toArray n)
   ⟨e,rfl,⟨_,e,rfl⟩,Xj F.slot_list_mul ⟨_,e,rfl⟩ F.entry_list_mul (F.args_list_mul_2 _ _) (AutoListH.list___mul___list_int_3 l its.toArray n k t Ez Ic yY) ⟨e,?_⟩⟩)
 rw[CD];exact⟨.ref _,_,I.lnew (t':=s.toks) (r.rep k.toNat) (by rw[len_rep,Nat.mul_comm];exact hz),CA,q _ I.fresh⟩
end
section
variable{X:Cx}
end
end L2
namespace Att
open PySem PySem.W PySem.Calls PyProof.Rows
theorem ints_of_wellAll{P:XO}:∀(ns:List Int)(vs:List Rz),WellAll P h vs (ns.map WData.int)->WR vs ns:=by
 intro ns;induction ns with
 | nil =>
   intro vs w;rw[T5]at w;cases w;exact .nil
 | cons n ns ih =>
   intro vs w;rw[R6]at w;cases w with
   | cons a b =>
     cases a;exact .cons _ _ (ih _ b)
theorem script_of{l:OpenLaw}(hn:l.most=A? n){P:XO}{args:List WData}{vals:List Rz}
 (xX:l.row.toRowW.claim.pre args=Bz) (zw:WellAll P h vals args) :
 ∃a vs ns,vals=[Sg a]/\args=[WData.list (ns.map WData.int)]/\h.get? a=A? {cls:=.type "list",data:=.seq vs.toArray}/\WR vs ns/\ns.length<=n:=by
 have BE:WShape.hasAll [] args [.list .int]=true:=(pre_splitW xX).1;have hc:l.pre.holds [] {args:=args}=true:=(pre_splitW xX).2;obtain⟨d,r,rfl,h1,h2⟩:=hasAllW_cons BE;obtain rfl:=hasAllW_nil h2;obtain⟨xs,rfl,h3⟩:=hasW_list h1;obtain⟨ns,rfl⟩:=items_int h3
 have hlen:ns.length<=n:=by
  unfold OpenLaw.pre at hc
  have h4:(WTm.not (.lt (.lit (.int (n:Int))) (.len (.arg 0)))).holds [] {args:=[.list (ns.map .int)]}=true:=by
   have h4:=(holds_andW hc).1;rw[hn]at h4;exact h4
  have h5:=condW_of h4 (w_not (w_lt w_lit (w_len_list (w_arg rfl))));rw[Rw]at h5;refine Nat.le_of_not_lt λq=>?_;have q':(n:Int)<((ns.length:Nat):Int):=by lia
  first
   |(rw[Yc q']at h5;exact Yd h5 (by decide))
   |(simp at h5;lia)
 cases zw with
 | cons w1 w2 =>
   cases w2;cases w1 with
   |list ho xc=>exact⟨_,_,ns,CA,CA,ho,ints_of_wellAll ns _ xc,hlen⟩
theorem post_true(l:OpenLaw)(args:List WData):l.row.toRowW.claim.post args (.bool Bz) args=Bz :=
 postW_of (r:=l.row.toRowW) (X:=(Bz == Bz))
  (show WShape.has [] (.bool Bz) .bool=Bz by first|rfl|decide|simp[WShape.has,WShape.arms,WShape.armsAll])
  (show(WTm.eq .res (.lit (.bool Bz))).value [] {args:=args,res:=A? (.bool Bz),after:=args}=A? (.bool (Bz == Bz))from w_eq_bool (w_res rfl) w_lit) rfl
theorem attach_call{l:OpenLaw}{q:R3}{d:DefRec}
 (hn:l.most=A? n) (BF:d.params.defaults=[])
 (call:∀(w:Se)(s₀ l':RE)(mg mb:R1->Option Rz)(fa:Ry)(o:TC)(pm cd doc:Rz)(a:Ry)(vs:List Rz)(ns:List Int),
  Ground q loose [] XP w s₀ mg mb l'.heap->YP w l'.heap ->
  l'.heap.get? fa=A? o->o.data=.func (docDef d.name d.params d.body d.scope pm cd doc)->l'.heap.CodeRec cd d.name->mg d.name=A? (.ref fa) ->
  l'.heap.get? a=A? {cls:=.type "list",data:=.seq vs.toArray}->WR vs ns->ns.length<=n->l'.gens=#[] ->
  UW (R7 l.prog w) callerA (.call (.ref fa) ⟨[.ref a],[]⟩) (λr s'=>r=.ok (.ret (.bool Bz))/\OldK l'.heap s'.1/\s'.os=l'.os/\Xy s'.gens) l') :
 WalkO q loose XP YP l.row.toRowW d [] (λf vs=>PySem.call f vs):=by
 intro w s₀ l' mg mb G Y fa o pm cd doc dV kV ho hd yf hD EA hg args vals as xX M5 DK zw M6;obtain rfl:dV=.none:=Dflts.none hD BF;obtain rfl:kV=.none:=Dflts.noKw hD;obtain⟨a,vs,ns,rfl,rfl,CF,hints,hlen⟩:=script_of hn xX zw;refine enter_call (VU (call w s₀ l' mg mb fa o pm cd doc a vs ns G Y ho (fd_plain hd) yf EA CF hints hlen hg) λr s' hq=>?_);obtain⟨rfl,h2,h3,h4⟩:=hq;exact⟨.inl ⟨.bool Bz,.bool Bz,[],CA,λ_=>rfl,.bool Bz,post_true l _,λ_=>⟨List.Pairwise.nil,λ_ hm=>(nomatch hm)⟩⟩,h2,h3,h4⟩
section
variable{K:Frag}
end
end Att
namespace L2
open PySem PySem.Spec PyProof.Rows
theorem j9:∀{vs:List Rz}{ns:List Int},WR vs ns->Vals (ns.map Yh) vs
 |_,_,.nil=>.nil
 |_,_,.cons n t h=>.cons ⟨t,rfl⟩ (j9 h)
def inClass(s:V0)(j:Nat):V0:=match s with
 |.ClassDef _ _ _ body _ _ _ _ _ _ _=>body.getD j (.Pass ⟨0,0,0,0⟩)
 |_=>.Pass ⟨0,0,0,0⟩
def bM(s:V0):WE:=match s with
 |.FunctionDef _ a _ _ _ _ _ _ _ _=>a
 |_=>{posonlyargs:=[],args:=[],vararg:=B?,kwonlyargs:=[],kw_defaults:=[],kwarg:=B?,defaults:=[]}
def bq(s:V0):List V0:=match s with
 |.FunctionDef _ _ b _ _ _ _ _ _ _=>b
 |_=>[]
def ax(s:V0):UR:=match s with
 |.FunctionDef _ _ _ _ _ _ sc _ _ _=>sc
 |_=>{kind:=.function,names:=[],isGenerator:=C?,isCoroutine:=C?}
abbrev CX0:CXT:=λ_ _ _ _ _ _=>False
abbrev E0:XK:=λ_ _ _=>False
theorem fo{X:Cx}:Passes CX0 X E0:=λ_ _ _ _ _ _ _ h=>h.elim
structure Fun(K:RH)(x qual:R1)(st:V0)(f:Ry)(fd:Up):Prop where
 ex:∃(oc:Rz)(od:Option Ry)(kV doc pm:Rz)(an:Option Ry)(xi ct:Rz)(Bm:Array (Option Rz)),
  fd=V8 x qual (bM st) (bq st) (ax st) .none kV doc pm an xi ct/\K.lookup f=A? ⟨oc,od,.func fd,Bm⟩/\PySem.W.codeIn K xi qual=Bz
 kp:UI K (.ref f)=Bz
theorem Fun.ok{k:Nat}(F:Fun K x qual st f fd)(S:bp N ps (ax st))(len:∀vs H Q E,sp vs H Q E->vs.length=ps.length)
 (xF:∀(xi:Rz)(A:Si)(outer:List Xz)(s:RE)(H:Hp)(vs:List V)(Q:VK)(E:XK),Room k (A.deeper (UN qual (ax st) s.1.1.size f xi))->sp vs H Q E ->
  ∃t,PSs (iy CX0 P w K mg base N qual (ax st) f xi A outer s H E).nox (bq st) t/\t {nx:=λ_ H'=>Q .non H',rt:=Q} (start N vs) H):FnOk P w K mg base CX0 (k+1) f fd ps sp:=by
 obtain⟨oc,od,kV,doc,pm,an,xi,ct,Bm,rfl,lk,yf⟩:=F.ex;refine qo lk yf S len λA outer s H vs Q E hr yw=>?_;obtain⟨t,h,q⟩:=xF xi A outer s H vs Q E hr yw;exact⟨t,h.nox,q⟩
theorem Fun.okA{k:Nat}(F:Fun K x qual st f fd)(S:bp N ps (ax st))
 (xF:∀(xi:Rz)(A:Si)(outer:List Xz)(s:RE)(H:Hp)(vs:List V)(Q:VK)(E:XK),Room k (A.deeper (UN qual (ax st) s.1.1.size f xi))->sp vs H Q E ->
  ∃t,PSs (iy CX0 P w K mg base N qual (ax st) f xi A outer s H E).nox (bq st) t/\t {nx:=λ_ H'=>Q .non H',rt:=Q} (start N vs) H) (len:∀vs H Q E,sp vs H Q E->vs.length=ps.length:=by intro _ _ _ _ h;cases h;subst_vars;rfl):FnOk P w K mg base CX0 (k+1) f fd ps sp:=F.ok S len xF
theorem pgN{X:Cx}(i:Nat)(hN:X.N.Nodup)(hi:X.N[i]?=A? x:=by rfl)(hx:Loc X.env.scope x:=by first|exact .inl rfl|exact .inr rfl)(hf:X.fn x=Bz\/X.env.scope.names.lookup x=A? .local:=by first|exact .inl rfl|exact .inr rfl|assumption):PG X (.Name x pos) (aw i):=tE hN hi hx hf
theorem av{X:Cx}(i:Nat){te:TE}(hN:X.N.Nodup)(he:PE X e te)(hi:X.N[i]?=A? x:=by rfl)(hx:Loc X.env.scope x:=by first|exact .inl rfl|exact .inr rfl)(hs:swapsWith e (A? (.Name x pos')) pos.line X.env=pure false:=by rfl)(hf:X.fn x=Bz\/X.env.scope.names.lookup x=A? .local:=by first|exact .inl rfl|exact .inr rfl|assumption):PS X (.Assign [.Name x pos'] e pos) (p8 te (aw i)):=uY hN hi hx he hs hf
theorem Fun.binds(F:Fun K x qual st f fd)
 (h:∀(kV doc pm:Rz)(an:Option Ry)(xi ct:Rz)(us:List Rz),us.length=ps.length->Wh (V8 x qual (bM st) (bq st) (ax st) .none kV doc pm an xi ct) ⟨us,[]⟩=pure (ps.zip us)):Binds K fd ps []:=by
 obtain⟨oc,od,kV,doc,pm,an,xi,ct,Bm,rfl,lk,yf⟩:=F.ex;exact .all (h kV doc pm an xi ct)
theorem lm{oc:Rz}{od an:Option Ry}{Bm:Array (Option Rz)}{kV doc pm xi ct:Rz}(l:K.lookup f=A? ⟨oc,od,.func (V8 x qual (bM st) (bq st) (ax st) .none kV doc pm an xi ct),Bm⟩)
 (c:PySem.W.codeIn K xi qual=Bz) (k:UI K (.ref f)=Bz):Fun K x qual st f (V8 x qual (bM st) (bq st) (ax st) .none kV doc pm an xi ct):=⟨⟨oc,od,kV,doc,pm,an,xi,ct,Bm,rfl,l,c⟩,k⟩
theorem cB{k:Nat}(hr:Room k A):A.units+1<Ve:=Xv (Nat.add_le_add_left (by decide:1<=64) _) hr.units
section
variable{X:Cx}
theorem pv(i:Nat)(hN:X.N[i]?=A? x:=by rfl)(hv:Vis X.env.scope x:=by first|exact Or.inl rfl|exact Or.inr (Or.inl rfl)|exact Or.inr (Or.inr rfl))(hd:(x == ("__debug__":R1))=false:=by decide)
 (yf:(x == ("__classdict__":R1))=false:=by decide):PE X (.Name x pos) (bP i):=va hN hv hd yf
end
theorem cm{A:Prop}(h:B):if C?=Bz then A else B:=by
 rw[Za R0];exact h
theorem cE{A:Prop}(h:A):if Bz=Bz then A else B:=by
 rw[Yb rfl];exact h
theorem kG{c A:Prop}[Decidable c](h1:c->A)(h2:¬c->B):if c then A else B:=by
 by_cases h:c
 .rw[Yb h];exact h1 h
 .rw[Za h];exact h2 h
def Same(H H':Hp):Prop:=∀b o,H b=A? o->H' b=A? o
theorem Same.refl(H:Hp):Same H H:=λ_ _ h=>h
theorem Same.trans(a:Same H H1)(b:Same H1 H2):Same H H2:=λc o h=>b c o (a c o h)
theorem Same.free(e:Same H H'){l:Ry}(h:H' l=Option.none):H l=Option.none:=by
 cases q:H l with
 |none=>rfl
 | some o =>
   rw[e l o q]at h;cases h
theorem Same.seq(e:Same H H')(h:SqL K H a xs):SqL K H' a xs:=by
 rcases h with(h|⟨o,h⟩)|h
 .exact .inl (.inl (e _ _ h))
 .exact .inl (.inr ⟨o,e _ _ h⟩)
 .exact .inr h
theorem fE(env:Xz):∀(ns:List (R1×Um))(acc:List (R1×Ry)),(∀n,(n,S3)∈ns->∃c,env.cells.lookup n=A? c) ->
 (∀x c,acc.lookup x=A? c->env.cells.lookup x=A? c) ->
 ∃cl,(forIn ns acc λ(x:R1×Um)(cs:List (R1×Ry))=>(if(x.2 == S3)=Bz then(do let a <-cellOf env x.1;pure (Uw ((x.1,a)::cs)))else pure (Uw cs):Sem _))=pure cl /\
   (∀x c,cl.lookup x=A? c->env.cells.lookup x=A? c)/\(∀n,(n,S3)∈ns->∃c,cl.lookup n=A? c)/\∀n c,acc.lookup n=A? c->cl.lookup n=A? c
 | [],acc,_,ha=>⟨acc,rfl,ha,λ_ h=>by simp at h,λ_ _ h=>h⟩
 | (n,k)::r,acc,hf,ha=>by
   by_cases hk:k=S3
   .subst hk;obtain⟨c,hc⟩:=hf n RX
    have M7:∀x c',((n,c)::acc).lookup x=A? c'->env.cells.lookup x=A? c':=λx c' e=>by
     rw[Tu]at e;cases hx:x == n with
     | true =>
       rw[hx]at e;have e1:x=n:=by simpa using hx
       cases e;rw[e1];exact hc
     |false=>rw[hx]at e;exact ha x c' e
    obtain⟨cl,h1,h2,h3,h4⟩:=fE env r ((n,c)::acc) (λm hm=>hf m (RT _ hm)) M7;have up:∀m c',((n,c)::acc).lookup m=A? c'->cl.lookup m=A? c':=h4;refine⟨cl,?_,h2,?_,?_⟩
    .rw[Vs];have e0:cellOf env n=pure c:=by unfold cellOf;rw[hc]
     simp only[beq_self_eq_true,if_true,e0,pure_bind];exact h1
    .intro m hm;rcases RR.mp hm with e|e
     .have:m=n:=by simpa using(Prod.mk.inj e).1
      subst this;exact⟨c,up m c (by rw[Tu];simp)⟩
     .exact h3 m e
    .intro m c' e;by_cases hm:m=n
     .subst hm;have:=ha m c' e;rw[hc]at this;cases this;exact up m c (by rw[Tu];simp)
     .have M8:(m == n)=false:=by simpa using hm
      exact up m c' (by rw[Tu,M8];exact e)
   .have hb:(k == S3)=false:=by simpa using hk
    obtain⟨cl,h1,h2,h3,h4⟩:=fE env r acc (λm hm=>hf m (RT _ hm)) ha;refine⟨cl,?_,h2,?_,h4⟩
    .rw[Vs];simp only[hb,Uq,if_false,pure_bind];exact h1
    .intro m hm;rcases RR.mp hm with e|e
     .exact Yd (Prod.mk.inj e).2.symm hk
     .exact h3 m e
theorem i7(hf:∀n,(n,S3)∈sc.names->∃c,env.cells.lookup n=A? c) :
 ∃cl,closureFor sc env=pure cl/\(∀x c,cl.lookup x=A? c->env.cells.lookup x=A? c)/\∀n,(n,S3)∈sc.names->∃c,cl.lookup n=A? c:=by
 obtain⟨cl,h1,h2,h3,_⟩:=fE env sc.names [] hf (λx c e=>by simp at e);refine⟨cl,?_,h2,h3⟩;unfold closureFor;have e:(forIn sc.names ([]:List (R1×Ry)) λ(x:R1×Um)(cs:List (R1×Ry))=>(do if(x.2 == S3)=Bz then(do let a <-cellOf env x.1;pure (Uw ((x.1,a)::cs)))else pure (Uw cs):Sem _))=pure cl:=h1
 first
  |(rw[show(forIn sc.names ([]:List (R1×Ry)) _:Sem _)=pure cl from h1];rfl)
  |(simp only[h1,pure_bind])
theorem iP{f:R1×Um->R1×Um}(hf:∀p,(f p).1=p.1):∀{l:List (R1×Um)}{x:R1}{k:Um},l.lookup x=A? k->(l.map f).lookup x=A? (f (x,k)).2
 | [],_,_,h=>by simp at h
 | (n,k0)::r,x,k,h=>by
   have ih:=@iP f hf r x k;rw[R6];obtain⟨a,b,e⟩:∃a b,f (n,k0)=(a,b):=⟨_,_,rfl⟩;have ea:a=n:=by have:=hf (n,k0);rw[e]at this;exact this
   subst ea;rw[e,Tu];cases hx:x == a with
   | true =>
     rw[Tu,hx]at h;cases h;have:x=a:=by simpa using hx
     subst this;rw[e]
   |false=>rw[Tu,hx]at h;exact ih h
theorem dq{f:R1×Um->R1×Um}(hf:∀p,(f p).1=p.1):∀{l:List (R1×Um)}{x:R1}{k:Um},(l.map f).lookup x=A? k->∃k0,(x,k0)∈l/\(f (x,k0)).2=k
 | [],_,_,h=>by simp at h
 | (n,k0)::r,x,k,h=>by
   have ih:=@dq f hf r x k;rw[R6]at h;obtain⟨a,b,e⟩:∃a b,f (n,k0)=(a,b):=⟨_,_,rfl⟩;have ea:a=n:=by have:=hf (n,k0);rw[e]at this;exact this
   subst ea;rw[e,Tu]at h;cases hx:x == a with
   | true =>
     rw[hx]at h;cases h;have:x=a:=by simpa using hx
     subst this;exact⟨k0,RX,by rw[e]⟩
   | false =>
     rw[hx]at h;obtain⟨k1,h1,h2⟩:=ih h;exact⟨k1,RT _ h1,h2⟩
def rlb(env:Xz)(p:R1×Um):R1×Um:=if(p.2 == S3 && env.scope.kind == .function && env.kindOf p.1 == A? .cell)then(p.1,Wf)else(p.1,p.2)
theorem kY(env:Xz)(p:R1×Um):(rlb env p).1=p.1:=by unfold rlb;split <;> rfl
theorem fb(sc:UR)(env:Xz):(relabel sc env).names=sc.names.map (rlb env):=rfl
theorem fL(h:sc.names.lookup x=A? .free):(relabel sc env).names.lookup x=A? .cell\/(relabel sc env).names.lookup x=A? .free:=by
 rw[fb,iP (kY env) h];unfold rlb;split
 .exact .inl rfl
 .exact .inr rfl
theorem iU(hn:∀y∈sc.names,y.2≠Wf)(h:(relabel sc env).names.lookup x=A? .cell\/(relabel sc env).names.lookup x=A? .free):(x,S3)∈sc.names:=by
 rw[fb]at h
 have:∃k0,(x,k0)∈sc.names/\((rlb env (x,k0)).2=.cell\/(rlb env (x,k0)).2=.free):=by
  rcases h with h|h
  .obtain⟨k0,a,b⟩:=dq (kY env) h;exact⟨k0,a,.inl b⟩
  .obtain⟨k0,a,b⟩:=dq (kY env) h;exact⟨k0,a,.inr b⟩
 obtain⟨k0,hm,hk⟩:=this;have nc:=hn _ hm;cases k0 with
 |free=>exact hm
 |cell=>exact Yd rfl nc
 |_=>simp[rlb]at hk
def bF(X:Cx)(N:List R1)(sc:UR)(cl:List (R1×Ry))(C:Ry)(s:RE)(H:Hp)(fp:List Ry)(Y:List (Ry×TC)):Cx :=
 {X with N:=N,s₀:=s,H₀:=H,env:=compEnvC sc cl C X.env,outer:=X.stack,ex:=fp,fn:=λ_=>C?,pn:=X.pn++Y,xe:=λ_ _=>False}
def cσ(js:List (Option Nat))(σ:St):St:=js.map λo=>o.bind λj=>(σ[j]?).join
structure dH(X:Cx)(sc:UR)(N:List R1)(js:List (Option Nat)):Prop where
 kind:sc.kind=.function
 nocell:∀y∈sc.names,y.2≠Wf
 names:∀y∈sc.names,y.2=NameKind.local->sc.names.lookup y.1=A? .local
 frees:∀y∈sc.names,y.2=S3->X.env.kindOf y.1=A? .cell\/X.env.kindOf y.1=A? .free
 len:js.length=N.length
 slots:∀(i j:Nat)(x:R1),js[i]?=A? (A? j)->N[i]?=A? x->X.N[j]?=A? x/\sc.names.lookup x=A? .free/\(X.env.kindOf x=A? .cell\/X.env.kindOf x=A? .free)
theorem dz{X:Cx}(k:sc.kind=.function)(nc:∀y∈sc.names,y.2≠Wf)(nm:∀y∈sc.names,y.2=NameKind.local->sc.names.lookup y.1=A? .local)
 (fr:(sc.names.all λy=>y.2 != S3 ||X.env.kindOf y.1 == A? Wf ||X.env.kindOf y.1 == A? S3)=Bz) (ln:js.length=N.length)
 (sl:((js.zip N).all λp=>match p.1 with|none=>Bz|some j=>X.N[j]? == A? p.2 && sc.names.lookup p.2 == A? S3 && (X.env.kindOf p.2 == A? Wf ||X.env.kindOf p.2 == A? S3))=Bz):dH X sc N js:=by
 refine⟨k,nc,nm,λy hy hf=>?_,ln,λi j x e1 e2=>?_⟩
 .have h:=WO.mp fr y hy;rw[hf]at h;simpa using h
 .have hm:(A? j,x)∈js.zip N:=by
   have:(js.zip N)[i]?=A? (A? j,x):=by rw[T2];exact⟨e1,e2⟩
   exact Rx this
  have h:=WO.mp sl _ hm;simp at h;exact⟨h.1.1,h.1.2,h.2⟩
def PTs(X:Cx)(ifs:List Su)(t:TT):Prop :=
 ∀(Y:List (Ry×TC))(s:RE)(σ:St)(H:Hp)(Q:Bool->Hp->Prop),Inv X Y σ H s->t σ H Q ->
   RQ (R7 X.prog X.w) X.A (forIn ifs Bz λc r=>if r=Bz then do let ok <-isTrue c X.env (TN c X.env);pure (Uw ok)else pure (Uw r)) (TP X Y σ Q) X.xe s
def bN:TT:=λ_ H Q=>Q Bz H
theorem cb{X:Cx}:PTs X [] bN:=λ_ _ _ H _ I h=>wpAny_tests_nil ⟨H,I,h⟩
theorem n8{X:Cx}{c:Su}{t:TT}(h:PT X c t):PTs X [c] t:=λY s σ H Q I q=>wpAny_tests_one (h Y s σ H Q I q)
def Keep(σ i':St):Prop:=σ.length=i'.length/\∀(i:Nat)(v:V),σ[i]?=A? (A? v)->i'[i]?=A? (A? v)
def jS(js:List (Option Nat))(g:TG):Prop:=∀(σ xA:St)(x:V)(H:Hp)(Q:St->Hp->Prop),Keep (cσ js σ) xA->g x xA H Q->g x xA H λxl H2=>Keep (cσ js σ) xl/\Q xl H2
def kD(js:List (Option Nat))(g:TGs):Prop:=∀(σ xA:St)(x:List V)(H:Hp)(Q:St->Hp->Prop),Keep (cσ js σ) xA->g x xA H Q->g x xA H λxl H2=>Keep (cσ js σ) xl/\Q xl H2
theorem Keep.refl(σ:St):Keep σ σ:=⟨rfl,λ_ _ h=>h⟩
theorem sO(h:js[i]?=A? B?):(cσ js σ)[i]?=A? none:=by
 unfold cσ;rw[RG,h];rfl
theorem aU(h:js[i]?=A? B?):jS js (aw i):=λσ xA x H Q k q=>by
 refine⟨⟨by rw[U3];exact k.1,λj v e=>?_⟩,q⟩;by_cases hj:i=j
 .subst hj;rw[sO h]at e;cases e
 .rw[SU hj];exact k.2 j v e
theorem gw:kD js jF:=λσ xA x H Q k⟨e,q⟩=>⟨e,k,q⟩
theorem bG{t:TG}{u:TGs}(mono:∀x σ H(Q Q':St->Hp->Prop),(∀a b,Q a b->Q' a b)->t x σ H Q->t x σ H Q')(h1:jS js t)(h2:kD js u):kD js (bU t u):=λσ xA x H Q k⟨v,r,e,q⟩ =>
 ⟨v,r,e,mono _ _ _ _ _ (λa b⟨k',q'⟩=>h2 σ a r b Q k' q') (h1 σ xA v H _ k q)⟩
theorem aR:∀x σ H(Q Q':St->Hp->Prop),(∀a b,Q a b->Q' a b)->aw i x σ H Q->aw i x σ H Q':=λ_ _ _ _ _ h q=>h _ _ q
theorem gH{t:TGs}(h:kD js t):jS js (jG K n t):=λσ xA x H Q k⟨a,xs,e,hs,hl,q⟩=>⟨a,xs,e,hs,hl,h σ xA xs H Q k q⟩
def ff(js:List (Option Nat))(g:TG)(tt:TT)(te:TE)(σ:St)(J:It)(D:Ry)(n:Nat)(W:Nat->Hp->Prop)(fin:Hp->Prop):Prop :=
 ∀i H,W i H->(J.stop i H/\fin H)\/(i<n/\J.go i H/\∀x H1,J.yld i H x H1->g x (cσ js σ) H1 λxl H2=>tt xl H2 λb H3 =>
   if b=Bz then te xl H3 λv H4=>∃ys,H4 D=A? (.lst ys)/\ys.length<RZ/\W (i+1) (upd H4 D (.lst (ys++[v])))else W (i+1) H3)
def oQ(js:List (Option Nat))(wi:TI)(g:TG)(tt:TT)(te:TE):TE:=λσ H Q=>wi σ H λJ H1=>∀D,H1 D=B? ->
 ∃(n:Nat)(W:Nat->Hp->Prop),W 0 (upd H1 D (.lst []))/\ff js g tt te σ J D n W λH'=>Q (.ref D) H'
section
variable{X:Cx}
theorem qk{h1:SM}(S:dH X sc N js)(I:Inv X Y σ H s)
 (xp:∀x c,cl.lookup x=A? c->X.env.cells.lookup x=A? c) (zx:∀n,(n,S3)∈sc.names->∃c,cl.lookup n=A? c)
 (hf:∀b∈fp,FpOk X Y H b) (xf:∀b∈fp,b<s.1.1.size) (zp:h1.Ns s.1.1.size λx=>Vw x ([]:List (R1×Rz)))
 (yQ:∀b o,s.1.get? b=A? o->h1.get? b=A? o) :
 Inv (bF X N sc cl s.1.1.size s H fp Y) [] (cσ js σ) H {s with heap:=h1,toks:=t'}:=by
 have hok:(bF X N sc cl s.1.1.size s H fp Y).Ok :=
  { mod:=I.ok.mod
    kind:=S.kind
    glob:=I.ok.glob
    blt:=I.ok.blt
    above:=RI _
    inj:=λx y c a b=>I.ok.inj x y c (xp x c a) (xp y c b)
    has:=λx h=>zx x (iU S.nocell h)
    cab:=λx c h=>by cases h
    hd:=I.ok.hd
    frames:=I.ok.frames
    stk:=.inl rfl
    exf:=λb hb=>⟨λe=>Yd (xf b hb) (by rw[e];exact S7 _),λx c e z=>(hf b hb).2.2.2.2.1 x c (xp x c e) z⟩
    bs:=I.bs
    bsz:=Ss I.ok.bsz I.sz
    noex:=λb o e hb=>by
     rcases(hf b hb).2.2.2.1 with h|h
     .exact I.ok.noex b o e h
     .exact Yd (So (So (RY e) I.ok.bsz) h) (S7 _)
    exfs:=λb hb hm=>by
     rcases RR.mp (I.stkSub b hm)with e|e
     .exact(hf b hb).2.1 e
     .exact(hf b hb).2.2.1 e
    funs:=I.stack
    frf:=I.stkFree }
 have hC:H s.1.1.size=none:=I.hok.fresh (RI _);obtain⟨m0,GG,EB⟩:=I.loc
 exact
  { ok:=hok
    os:=rfl
    bare:=I.bare
    base:=Un.kept yQ
    loc:=⟨_,zp,λi x v e1 e2 K0=>by
     have yd:∃j,js[i]?=A? (A? j)/\σ[j]?=A? (A? v):=by
      unfold cσ at e2;rw[RG]at e2;cases q:js[i]? with
      |none=>rw[q]at e2;cases e2
      | some o =>
        rw[q]at e2;cases o with
        |none=>cases e2
        | some j =>
          refine⟨j,CA,?_⟩;have e3:(σ[j]?).join=A? v:=RN e2;cases r:σ[j]? with
          |none=>rw[r]at e3;cases e3
          |some z=>rw[r]at e3;exact Zd A? e3
     obtain⟨j,q1,q2⟩:=yd;obtain⟨n1,n2,n3⟩:=S.slots i j x q1 e1;obtain⟨u,ru,look⟩:=EB j x v n1 q2 (by rcases n3 with z|z;exact .inr (.inl z);exact .inr (.inr z));refine⟨u,ru,.inr ⟨fL n2,?_⟩⟩;have hm:(x,S3)∈sc.names:=iU (env:=X.env) S.nocell (fL n2);obtain⟨c,hc⟩:=zx x hm;refine⟨c,hc,?_⟩;rcases look with⟨k1,_⟩|⟨_,c',xP,ic⟩
     .rcases n3 with z|z <;> (rw[k1]at z;cases z)
     .have:=xp x c hc;rw[xP]at this;cases this;exact ic.keeps yQ⟩
    cell:=λx c e=>by
     obtain⟨v,q⟩:=I.cell x c (xp x c e);exact⟨v,q.keeps yQ⟩
    free:=hC
    freeC:=λx c e=>I.freeC x c (xp x c e)
    pin:=λp hp=>by
     have CG:p∈X.pn++Y:=by simpa[bF]using hp
     obtain⟨a1,a2,a3,a4,a5⟩:=I.pin p CG;refine⟨yQ _ _ a1,a2,λe=>?_,λhm=>?_,a5⟩
     .have e':p.1=s.1.1.size:=e;exact Yd (RY a1) (by rw[e'];exact S7 _)
     .rcases RR.mp (I.stkSub p.1 hm)with e|e
      .exact a3 e
      .exact a4 e
    hok:=I.hok.kept yQ
    len:=by
     show(cσ js σ).length=N.length;unfold cσ;rw[Rw];exact S.len }
theorem pR{target:Su}{it acc:Rz}(J:Nat->RE->Prop)
 (turn:∀n s,J n s->RQ (R7 prog w) A (UZ it) (λr l'=>(r=B?/\R (.ok .next) l')\/∃v,r=A? v /\
  RQ (R7 prog w) A (Xr target it v) (λ_ xM=>RQ (R7 prog w) A (assign target env v) (λ_ yJ =>
   RQ (R7 prog w) A (forIn ifs Bz λc r=>if r=Bz then do let ok <-isTrue c env (TN c env);pure (Uw ok)else pure (Uw r)) (λok AD =>
    (ok=C?/\∃m,m<n/\J m AD)\/(ok=Bz/\RQ (R7 prog w) A (TN elt env) (λx EC=>RQ (R7 prog w) A (call (.builtin "list.append") [acc,x]) (λ_ ED=>∃m,m<n/\J m ED) (λ_ _=>False) EC) (λ_ _=>False) AD))
    (λ_ _=>False) yJ) (λ_ _=>False) xM) (λ_ _=>False) l') (λ_ _=>False) s)
 (n:Nat) (h:J n s):UW (R7 prog w) A (.compLoop (.ListComp elt [⟨target,iter,ifs,0⟩] scope pos) 0 it acc env) R s:=by
 refine codeAny_loop rfl J (λn s hJ=>?_) n h;show RQ _ A ((compTurn (.ListComp elt [⟨target,iter,ifs,0⟩] scope pos) 0 it acc env).onRaise _) _ _ s;refine wpAny_noted ?_;rw[compTurn_list];have up:∀{α:Type}{m:Sem α}{Q:α->RE->Prop}{E:Rz->RE->Prop}{s:RE},RQ (R7 prog w) A m Q (λ_ _=>False) s->RQ (R7 prog w) A m Q E s:=λq=>Tq q (λ_ _ z=>z) λ_ _ z=>z.elim;refine Rv (wpAny_standAt (Rv (Tq (up (turn n s hJ)) (λr l' xh=>?_) λ_ _ z=>z)));rcases xh with⟨rfl,xh⟩|⟨v,rfl,xh⟩
 .exact RD xh
 .refine Rv (Tq (up xh) (λ_ xM xR=>?_) λ_ _ z=>z);refine Rv (Tq (up xR) (λ_ yJ yZ=>?_) λ_ _ z=>z);refine Rv (Tq (up yZ) (λok AD xI=>?_) λ_ _ z=>z);rcases xI with⟨rfl,xI⟩|⟨rfl,xI⟩
  .exact RD ⟨rfl,xI⟩
  .exact Rv (Rv (Tq (up xI) (λx EC xJ=>Rv (Tq (up xJ) (λ_ ED Ie=>RD (RD ⟨rfl,Ie⟩)) λ_ _ z=>z)) λ_ _ z=>z))
theorem i4{g:TG}{te:TE}{tn:Nat->SM->Prop}{W:Nat->Hp->Prop}{fin:Hp->Prop}
 {R:Rz->Ry->XH->RE->Prop} (hc:X.calm=Bz) (S:dH X sc N js) (I:Inv X Y σ H s) (T:Turn X.prog X.w X.K tg J fp it tn) (st:tn 0 s.1) (hf:∀b∈fp,FpOk X Y H b)
 (xp:∀x c,cl.lookup x=A? c->X.env.cells.lookup x=A? c) (zx:∀n,(n,S3)∈sc.names->∃c,cl.lookup n=A? c)
 (hg:∀cl C s H fp Y,PG (bF X N sc cl C s H fp Y) tg g) (gk:jS js g) (ht:∀cl C s H fp Y,PTs (bF X N sc cl C s H fp Y) ifs tt) (he:∀cl C s H fp Y,PE (bF X N sc cl C s H fp Y) elt te)
 (w0:W 0 (upd H s.1.1.size (.lst []))) (turn:ff js g tt te σ J s.1.1.size n W fin)
 (hR:∀C H' s',C≠X.env.locals->s.1.1.size<C->(∃m,s'.1.Ns C m)->H' C=B?->(∀h' t',S0 C s'.1 h'->Inv X Y σ H' {s' with heap:=h',toks:=t'})->fin H'->R (.ref s.1.1.size) C (.ok .next) s') :
 RQ (R7 X.prog X.w) X.A (newList []) (λacc yJ=>RQ (R7 X.prog X.w) X.A (newFunctionEnv sc X.env.globals cl [] X.env.qual B? .none (A? X.env)) (λEE AD =>
  UW (R7 X.prog X.w) X.A (.compStart (.ListComp elt [⟨tg,iter,ifs,0⟩] sc pos) 0 (.ref it) acc {EE with scope:=relabel sc X.env}) (R acc EE.locals) AD) E yJ) E s:=by
 refine Sv (wpAny_newFunctionEnv S.nocell (by intro y hy;simp at hy) (λxh zy zz=>?_) S.kind);dsimp only at zy zz |-;have I3:Inv X Y σ (upd H s.1.1.size (.lst [])) {s with heap:=s.1.push {cls:=.type "list",dict:=B?,data:=.seq ([]:List Rz).toArray}}:=I.lnew (t':=s.toks) (its:=[]) .nil (by decide)
 have xf:∀b∈fp,b<s.1.1.size:=λb hb=>by
  obtain⟨o,ho,_⟩:=T.obj _ _ st b hb;exact RY ho
 have B6:∀b o,s.1.get? b=A? o->(s.1.push {cls:=.type "list",dict:=B?,data:=.seq ([]:List Rz).toArray}).get? b=A? o:=λb o e=>RB _ e;have hsz:(s.1.push {cls:=.type "list",dict:=B?,data:=.seq ([]:List Rz).toArray}).objs.size=s.1.1.size+1:=SV ..;generalize GH:({s with heap:=s.1.push {cls:=.type "list",dict:=B?,data:=.seq ([]:List Rz).toArray}}:RE)=s3 at I3;have EF:s.1.push {cls:=.type "list",dict:=B?,data:=.seq ([]:List Rz).toArray}=s3.1:=by rw[<-GH]
 rw[EF]at zy zz B6 hsz;rw[EF];have M9:∀t',({s with heap:=xh,toks:=t'}:RE)={s3 with heap:=xh,toks:=t'}:=λt'=>by rw[<-GH]
 rw[M9];have yQ:∀b o,s3.1.get? b=A? o->xh.get? b=A? o:=λb o e=>zz.extBut b o (Sa (RY e)) (RB _ e);have Ig:∀b∈fp,FpOk X Y (upd H s.1.1.size (.lst [])) b:=λb hb=>⟨by rw[ac (Sa (xf b hb))];exact(hf b hb).1,(hf b hb).2⟩;have I4:=qk (t':=s.toks+([]:List (R1×Rz)).length) S I3 xp zx Ig (λb hb=>by rw[hsz];exact XQ (xf b hb)) zy yQ;generalize QP:upd H s.1.1.size (.lst [])=H3 at I3 I4 Ig w0;have xB:tn 0 xh:=T.keep _ _ _ st λb hb o e=>yQ _ _ (B6 _ _ e)
 have zu:∀{H':Hp},(∀b∈fp,H' b=B?)->∀b∈fp,FpOk (bF X N sc cl s3.1.1.size s3 H3 fp Y) [] H' b:=λ{H'}hn b hb=>by
  obtain⟨f0,f1,f2,f3,f4,f5⟩:=hf b hb;refine⟨hn b hb,λe=>?_,λhm=>?_,.inl hb,λx c e=>f4 x c (xp x c e),λp hp=>f5 p (by simpa[bF]using hp)⟩
  .have e':b=s3.1.1.size:=e;have h9:b<s.1.1.size:=xf b hb;rw[e',hsz]at h9;exact Yd h9 (Wk.mpr (Nat.le_succ _))
  .rcases RR.mp (I.stkSub b hm)with e|e
   .exact f1 e
   .exact f2 e
 have loop:UW (R7 X.prog X.w) X.A (.compLoop (.ListComp elt [⟨tg,iter,ifs,0⟩] sc pos) 0 (.ref it) (.ref s.1.1.size) (compEnvC sc cl s3.1.1.size X.env)) (R (.ref s.1.1.size) s3.1.1.size)
  {s3 with heap:=xh,toks:=s.toks+([]:List (R1×Rz)).length}:=by
  refine pR (λk s'=>∃i H',Inv (bF X N sc cl s3.1.1.size s3 H3 fp Y) [] (cσ js σ) H' s'/\tn i s'.1/\(∀b∈fp,H' b=B?)/\W i H'/\k=n - i) ?_ n ⟨0,H3,I4,xB,λb hb=>(Ig b hb).1,w0,rfl⟩;rintro k s5 ⟨i,H5,I5,DG,GA,w5,rfl⟩;rcases turn i H5 w5 with⟨stop,qn⟩|⟨xY,go,step⟩
  .refine thn (T.done (bF X N sc cl s3.1.1.size s3 H3 fp Y) rfl rfl rfl hc i [] s5 (cσ js σ) H5 _ I5 (zu GA) DG stop) λr s6⟨hr,I6⟩=>.inl ⟨hr,?_⟩;have I7:Inv X Y σ H5 s6:=I3.call' (ch:=fp) (I6.os.trans rfl) I6.base I6.hok I6.bare λb hb=>⟨(hf b hb).2.2.2.1,(hf b hb).2.1,(hf b hb).2.2.2.2.1,(hf b hb).2.2.2.2.2⟩;have K4:H5 s3.1.1.size=none:=I6.free;have K5:s3.1.1.size≠X.env.locals:=US I3.lt;obtain⟨m6,M',_⟩:=I6.loc;refine hR s3.1.1.size H5 s6 K5 (by lia) ⟨m6,M'⟩ K4 (λh' t' sb=>?_) qn;refine I7.turned (it:=s3.1.1.size) (λb o hb e=>sb.extBut b o hb e) K4 K5 (.inr I3.sz) (λx c e z=>?_) λp hp z=>?_
   .obtain⟨v,q⟩:=I3.cell x c e;exact Yd q.lt (by rw[z];exact S7 _)
   .exact Yd (RY (I3.pin p hp).1) (by rw[z];exact S7 _)
  .refine thn (T.item (bF X N sc cl s3.1.1.size s3 H3 fp Y) rfl rfl rfl hc i [] s5 (cσ js σ) H5 _ I5 (zu GA) DG go) λr s6⟨u,hr,h6⟩=>.inr ⟨u,hr,?_⟩;refine thn h6 λ_ s7⟨x,H7,I7,r7,y7,Ih,Na⟩=>?_;have Nb:=I7.pinned (zu Na) (T.obj _ _ Ih);refine thn (hg cl s3.1.1.size s3 H3 fp Y _ s7 (cσ js σ) H7 x u _ Nb r7 (gk σ (cσ js σ) x H7 _ (.refl _) (step x H7 y7))) λ_ s8⟨AE,H8,I8,k8,q8⟩=>?_;refine thn (ht cl s3.1.1.size s3 H3 fp Y _ s8 AE H8 _ I8 q8) λok s9⟨H9,I9,q9⟩=>?_
   have again:∀{s':RE}{i':St}{H':Hp},Keep (cσ js σ) i'->Inv (bF X N sc cl s3.1.1.size s3 H3 fp Y) ([]++jz fp s7.1) i' H' s'->W (i+1) H'->∃m,m<n - i/\∃i H',Inv (bF X N sc cl s3.1.1.size s3 H3 fp Y) [] (cσ js σ) H' s'/\tn i s'.1/\(∀b∈fp,H' b=B?)/\W i H'/\m=n - i:=λ{s' i' H'}kp I' w'=>by
    refine⟨n - (i+1),by lia,i+1,H',(I'.unpinned).weak kp.1 kp.2,T.keep _ _ _ Ih λb hb o e=>(I'.pin (b,o) (R5 _ (R5 _ (cn hb e)))).1,λb hb=>?_,w',CA⟩;obtain⟨o,e,d⟩:=T.obj _ _ Ih b hb;exact(I'.pin (b,o) (R5 _ (R5 _ (cn hb e)))).2.1
   cases ok with
   | false =>
     refine .inl ⟨rfl,again k8 I9 ?_⟩;have K6:if C?=Bz then _ else W (i+1) H9:=q9
     rw[Za R0]at K6;exact K6
   | true =>
     refine .inr ⟨rfl,?_⟩;rw[Yb rfl]at q9;refine thn (he cl s3.1.1.size s3 H3 fp Y _ s9 AE H9 _ I9 q9) λvv B7⟨v,DL,Nc,rv,ys,hD,zM,Nf⟩=>?_;refine thn (bL _ B7 AE DL (.ref s.1.1.size) [v] (.ref s.1.1.size) [vv] (λ_ H'=>W (i+1) H') Nc rfl (.cons rv .nil) ⟨_,ys,v,rfl,rfl,hD,zM,Nf⟩) λ_ QQ⟨_,Ng,Nh,_,Ni⟩=>?_;exact again k8 Nh Ni
 exact codeAny_compStart_list loop (T.self X.A 0 _ _ _ xB loop)
theorem cD{g:TG}{te:TE}(hc:X.calm=Bz)(S:dH X sc N js)(hi:PI X tg iter wi)
 (hg:∀cl C s H fp Y,PG (bF X N sc cl C s H fp Y) tg g) (gk:jS js g) (ht:∀cl C s H fp Y,PTs (bF X N sc cl C s H fp Y) ifs tt) (he:∀cl C s H fp Y,PE (bF X N sc cl C s H fp Y) elt te)
 (hs:∀x,foldedSetIterable iter X.env x=pure x:=by intro _;rfl):PE X (.ListComp elt [⟨tg,iter,ifs,0⟩] sc pos) (oQ js wi g tt te):=by
 intro Y s σ H Q I h;obtain⟨cl,e1,e2,e3⟩:=i7 (env:=X.env) (sc:=sc) λn hn=>I.ok.has n (S.frees _ hn rfl);rw[eval_ListComp];refine wpAny_comprehension_free (use:=B?) rfl hs e1 S.kind S.names (thn (hi Y s σ H _ I h) λv s1 h1=>thn h1 λGz s2 h2=>?_);obtain⟨it,fp,tn,J,H2,rfl,I2,T,BC,f2,R2⟩:=h2;obtain⟨n,W,w0,turn⟩:=R2 s2.1.1.size I2.fresh;refine i4 (R:=λacc C=>compPost (R7 X.prog X.w) X.A X.xe B? (EP X Y σ Q) acc C) hc S I2 T BC f2 e2 e3 hg gk ht he w0 turn λC H' s' _ _ hn _ inv fi=>?_;obtain⟨m,hm⟩:=hn;exact⟨m,hm,λh' sb=>⟨.ref s2.1.1.size,H',inv h' s'.toks sb,CA,fi⟩⟩
theorem iC{y:R1}{EG py:UX}{g:TG}{te:TE}(hN:X.N.Nodup)(hy:X.N[i]?=A? y)(Nj:Loc X.env.scope y)(hc:X.calm=Bz)(S:dH X sc N js)(hi:PI X tg iter wi)
 (hg:∀cl C s H fp Y,PG (bF X N sc cl C s H fp Y) tg g) (gk:jS js g) (ht:∀cl C s H fp Y,PTs (bF X N sc cl C s H fp Y) ifs tt) (he:∀cl C s H fp Y,PE (bF X N sc cl C s H fp Y) elt te)
 (Nk:swapsWith (.ListComp elt [⟨tg,iter,ifs,0⟩] sc pos) (A? (.Name y py)) EG.line X.env=pure true:=by rfl)
 (hs:∀x,foldedSetIterable iter X.env x=pure x:=by intro _;rfl) (hf:X.fn y=Bz\/X.env.scope.names.lookup y=A? .local:=by first|exact .inl rfl|exact .inr rfl|assumption) :
 PS X (.Assign [.Name y py] (.ListComp elt [⟨tg,iter,ifs,0⟩] sc pos) EG) (p8 (oQ js wi g tt te) (aw i)):=by
 intro Y s σ H D I h;obtain⟨cl,e1,e2,e3⟩:=i7 (env:=X.env) (sc:=sc) λn hn=>I.ok.has n (S.frees _ hn rfl);rw[exec_Assign_Name_used _ _ _ _ Nk];refine Rv (wpAny_standAt (Rv ?_));show RQ _ X.A (do let _ <-comprehension (.ListComp elt [⟨tg,iter,ifs,0⟩] sc pos) sc X.env _ (newList []) C? (TN iter X.env) (A? (assign (.Name y py) X.env))) _ _ s;refine Rv (Tq (wpAny_comprehension_free (use:=A? (assign (.Name y py) X.env)) (Q:=λ_ s'=>SP X Y D .next s') rfl hs e1 S.kind S.names (thn (hi Y s σ H _ I h) λv s1 h1=>thn h1 λGz s2 h2=>?_)) (λ_ s' hq=>RD (RD hq)) λ_ _ z=>z);obtain⟨it,fp,tn,J,H2,rfl,I2,T,BC,f2,R2⟩:=h2;obtain⟨n,W,w0,turn⟩:=R2 s2.1.1.size I2.fresh;refine i4 (R:=λacc C=>compPost (R7 X.prog X.w) X.A X.xe (A? (assign (.Name y py) X.env)) (λ_ s'=>SP X Y D .next s') acc C) hc S I2 T BC f2 e2 e3 hg gk ht he w0 turn λC H' s' K7 hC hn Ii inv fi=>?_;obtain⟨m,hm⟩:=hn
 have I5:Inv X Y σ H' s':=by
  have q:=inv s'.1 s'.toks (.refl ..);exact q
 refine wpAny_assign_Name (j6 (v:=.ref s2.1.1.size) I5 hN hy Nj rfl (λs6 I6⟨a,sb,ha⟩=>?_) hf)
 have Nl:C≠a:=by
  rcases ha with ha|ha
  .rw[ha];exact K7
  .intro z;obtain⟨v,q⟩:=I2.cell y a ha;exact Yd (Vi q.lt hC) (by rw[z];exact S7 _)
 refine⟨m,hm.sameBut sb Nl,λh' EH=>⟨_,H',I6.turned (it:=C) (t':=s6.toks) (λb o hb e=>EH.extBut b o hb e) Ii K7 (.inr (Ss I2.sz (TV hC))) (λx c e z=>?_) λp hp z=>?_,fi⟩⟩
 .obtain⟨v,q⟩:=I2.cell x c e;exact Yd (Vi q.lt hC) (by rw[z];exact S7 _)
 .exact Yd (Vi (RY (I2.pin p hp).1) hC) (by rw[z];exact S7 _)
end
def jJ{α:Type}(xs:List α)(lo hi:Option Int):List α:=(xs.drop (Zh xs.length 0 lo)).take (Zh xs.length xs.length hi - Zh xs.length 0 lo)
def dN(z:R1)(lo hi:Option Int):R1:=⟨(jJ z.cps.toList lo hi).toArray⟩
theorem rD(xs:List α)(a n:Nat):((SK n).map λ(k:Nat)=>a+k).filterMap (xs[·]?)=(xs.drop a).take n:=by
 induction n with
 |zero=>simp
 | succ n ih =>
   rw[List.range_succ,R4,List.filterMap_append,ih,TY];congr 1;rw[List.getElem?_drop];cases h:xs[a+n]? <;> simp[h]
theorem oT(n d:Nat)(i:Int):max 0 (min (if i<0 then i+(n:Int)else i) (n:Int))=((Zh n d (A? i):Nat):Int):=by
 show max 0 (min (if i<0 then i+(n:Int)else i) (n:Int))=(((if i<0 then(i+(n:Int)).toNat else min i.toNat n):Nat):Int);by_cases h:i<0
 .rw[Yb h,Yb h];lia
 .rw[Za h,Za h];lia
theorem qz(A B:Int)(a b:Nat)(hA:A=(a:Int))(hB:B=(b:Int)):sliceRange A B 1=(SK (b - a)).map λ(k:Nat)=>a+k:=by
 subst hA;subst hB;unfold sliceRange;simp only[show(1:Int) > 0 by decide,if_true]
 have c:(if(a:Int)<(b:Int)then((b:Int) - a+1 - 1) / 1 else 0).toNat=b - a:=by
  split
  .rw[XU];lia
  .lia
 rw[c];refine Vl λk _=>?_;lia
theorem ou(lo hi:Option Int)(n:Nat):WB lo hi 1 n=(SK (Zh n n hi - Zh n 0 lo)).map λ(k:Nat)=>Zh n 0 lo+k:=by
 unfold WB;simp only[show(1:Int) > 0 by decide,if_true];cases lo <;> cases hi <;> refine qz _ _ _ _ ?_ ?_ <;> first|rfl|exact oT _ _ _
theorem dg(z:R1)(lo hi:Option Int):(dN z lo hi).length<=z.length:=by
 show(jJ z.cps.toList lo hi).toArray.size<=z.cps.size;unfold jJ;rw[RO,Sq,Uj,Sd];lia
theorem jH(x:R1)(t:Tok)(l u:Option (Int×Tok))(hz:x.length<=RZ)(h:∀t' k,Q (.str (dN x (l.map (·.1)) (u.map (·.1))) t') {s with toks:=k}):(sliceMade x t l u B?).post Q s:=by
 have e:(XD x l u B?).filterMap (x.cps[·]?)=jJ x.cps.toList (l.map (·.1)) (u.map (·.1)):=by
  unfold XD jJ;show(WB (l.map (·.1)) (u.map (·.1)) 1 x.length).filterMap (x.cps[·]?)=_;rw[ou,show(x.cps[·]?)=(x.cps.toList[·]?)from funext λi=>(U6 ..).symm,rD,Sd];rfl
 unfold sliceMade;split
 .rename_i hc
  have hl:(XD x l u B?).length=x.length:=by
   have:=(UM _ _ ▸ hc).2;simpa using this
  have hw:dN x (l.map (·.1)) (u.map (·.1))=x:=by
   have e2:(jJ x.cps.toList (l.map (·.1)) (u.map (·.1)))=x.cps.toList:=by
    have hp:XD x l u B?=(SK (Zh x.length x.length (u.map (·.1)) - Zh x.length 0 (l.map (·.1)))).map λ(k:Nat)=>Zh x.length 0 (l.map (·.1))+k:=ou _ _ _;rw[hp,Rw,TB]at hl;have b1:=HT.sIx_le x.length x.length (RI _) (u.map (·.1));have hx:x.cps.toList.length=x.length:=Sd;unfold jJ;rw[hx,hl];have Ij:Zh x.length 0 (l.map (·.1))=0\/x.length=0:=by lia
    rcases Ij with h0|h0
    .rw[h0,VB,Tt (by rw[hx];exact RI _)]
    .have:x.cps.toList=[]:=T9.mp (by rw[hx];exact h0);rw[this];simp
   unfold dN;rw[e2]
  have:=h t s.toks;rw[hw]at this;exact this
 .show(⟨((XD x l u B?).filterMap (x.cps[·]?)).toArray⟩:R1).length<=RZ/\Q _ _;rw[e];exact⟨Ss (dg x _ _) hz,h s.toks (s.toks+1)⟩
section
variable{X:Cx}
inductive ub(x:V)(lo:Option Int)(hi:Option Int)(H:Hp)(Q:VK):Prop
 |mk (z:_) (yH:x=.str z) (yI:z.length<=RZ) (zZ:Q (.str (dN z lo hi)) H):ub  x lo hi H Q
def wG:V->Option Int->Option Int->Hp->VK->Prop:=ub
theorem part_of{v:Rz}{o:Option Int}(h:Xo v o):∃l:Option (Int×Tok),v=partValue l/\l.map (·.1)=o:=by
 cases h with
 |none=>exact⟨B?,CA,CA⟩
 |int i t=>exact⟨A? (i,t),CA,CA⟩
theorem mx:SlR X wG:=by
 intro Y s σ H x v vl vu lo hi sl Q I rx hs pl pu h;obtain⟨z,rfl,hz,q⟩:=h;obtain⟨t,rfl⟩:=rx;obtain⟨l,rfl,rfl⟩:=part_of pl;obtain⟨u,rfl,rfl⟩:=part_of pu;refine⟨"str",_,F.slot_str_getitem.lookup,typeIs_str s z t,wpAny_getItem_str_slice (l:=l) (u:=u) (st:=B?) ?_ rfl (jH z t l u hz λt' k=>?_)⟩
 .obtain⟨o,ho,hc,hd⟩:=hs;exact⟨o,ho,hc,hd⟩
 .exact⟨.str (dN z (l.map (·.1)) (u.map (·.1))),H,I.tok k,⟨_,CA⟩,q⟩
def uE:V->List V->Hp->VK->Prop:=λx vs H Q=>∃z y i r,x=.str z/\vs=[.str y]/\Builtin.Str.occurrences z y 0 z.length 1=i::r/\Q (.int (i:Nat)) H
theorem rK:MtR X "str.index" uE:=by
 intro Y s σ H x vs v us Q I rx rv h;obtain⟨z,y,i,r,rfl,rfl,ho,q⟩:=h;obtain⟨t,rfl⟩:=rx;obtain⟨u,rfl,u',rfl⟩:=rv.one;exact SC.index ho ⟨.int (i:Nat),H,I.tok _,⟨_,rfl⟩,q⟩
end
end L2
open L2 renaming Same->Ye
namespace PySem
namespace F
end F
open Sem (wp)
end PySem
namespace L2
open PySem PySem.Spec PyProof.Rows
section
variable{X:Cx}{te:TE}{p p2 xq:UX}
def Itv(K:RH)(a:Ry)(n:Nat):It:=⟨λi H=>i<n/\∃xs,SqL K H a xs/\xs.length=n,λi H x H'=>H'=H/\∀xs,SqL K H a xs->xs[n - 1 - i]?=A? x,λi _=>i=n⟩
theorem qy(a it:Ry)(n:Nat):Turn P w K tg (Itv K a n) [it] it (λi h=>h.IsRevIter it a ((n:Int) - 1 - (i:Nat))) where
 mem:=by simp
 obj:=λi h st b hb=>by
  have e:b=it:=by simpa using hb
  subst e;obtain⟨o,e,c,d⟩:=st;exact⟨o,e,λv z=>by rw[d]at z;cases z⟩
 keep:=λi h h' st k=>st.at λo e=>k it (by simp) o e
 item:=by
  intro X hP hw hK hc i Y s σ H E I hf st hg;subst hP hw hK;obtain⟨hi,xs,hq,hx⟩:=hg;obtain⟨its,rv,p,hz⟩:=I.list hq;have hl:=rv.length;obtain⟨x,yL⟩:∃x,xs[n - 1 - i]?=A? x:=⟨_,RA (by lia)⟩;obtain⟨u,hu,ru⟩:=rv.get yL;obtain⟨f0,f1,f2,f3,f4,f5⟩:=hf it (by simp);have e1:(n:Int) - 1 - (i:Nat)=((n - 1 - i:Nat):Int):=by lia
  rw[e1]at st;refine wpAny_pyNext_rev_item st p.isList (x:=u) (by simpa using hu) λh' Am sb=>?_;have I1:Inv X Y σ H {s with heap:=h'}:=I.turned (t':=s.toks) (λb o hb e=>(sb.2 b hb).trans e) f0 f1 f3 f4 f5;have e2:((n - 1 - i:Nat):Int) - 1=(n:Int) - 1 - ((i+1:Nat):Int):=by lia
  rw[e2]at Am;obtain⟨o,e,c,d⟩:=id Am;exact⟨u,CA,oP (s:={s with heap:=h'}) e c d (by decide) ⟨x,H,I1,ru,⟨CA,λys hy=>by rw[I.list_inj hy hq];exact yL⟩,Am,λb hb=>(hf b hb).1⟩⟩
 done:=by
  intro X hP hw hK hc i Y s σ H E I hf st hg;subst hP hw hK;have Nm:i=n:=hg;subst Nm;obtain⟨f0,f1,f2,f3,f4,f5⟩:=hf it (by simp);rw[show(i:Int) - 1 - (i:Nat)=-1 by lia]at st;exact wpAny_pyNext_rev_end (I.ok.hd hc) st λh' eb=>⟨rfl,I.turned (t':=s.toks) (λb o hb e=>eb b o hb e) f0 f1 f3 f4 f5⟩
 self:=λ_ _ _ _ _ st h=>wpAny_pyIter_revIter st h
def wF(K:RH)(tl:TE):TI:=λσ H R=>tl σ H λx H1=>∃a xs,x=.ref a/\SqL K H1 a xs/\R (Itv K a xs.length) H1
theorem uv(g2:Gl X "reversed")(m2:X.mg "reversed"=B?)(he:PE X e te)(h2:Sk [e] X.env=[(C?,TN e X.env)]:=by rfl):PI X tg (.Call (.Name "reversed" p2) [e] [] xq) (wF X.K te):=by
 intro Y s σ H R I h;refine SX (cy I g2 m2 boot_reversed (SR ?_ h2 rfl));rw[h2];show RQ _ _ (spliced ((C?,TN e X.env)::[])) _ _ s;refine TQ (thn (he Y s σ H _ I h) λu s1⟨x,H1,I1,r1,a,ys,ex,hq,q⟩=>Ui ?_);subst ex;cases r1;obtain⟨its,rv,p,hz⟩:=I1.list hq;have hl:=rv.length;refine call_reversed_list p.isList ?_
 have hit:(s1.1.push (revObj a ((its.toArray.size:Int) - 1))).IsRevIter s1.1.1.size a ((ys.length:Int) - 1 - ((0:Nat):Int)):=by
  rw[hl,show(its.length:Int) - 1 - ((0:Nat):Int)=(its.toArray.size:Int) - 1 by rw[RO];lia];exact⟨_,RJ _ rfl,CA,CA⟩
 refine wpAny_pyIter_revIter (s:={s1 with heap:=s1.1.push (revObj a ((its.toArray.size:Int) - 1))}) hit ?_;refine⟨s1.1.1.size,[s1.1.1.size],_,_,H1,CA,I1.kept (t':=s1.toks) λb o e=>RB _ e,qy a _ ys.length,hit,λb hb=>?_,q⟩;have e:b=s1.1.1.size:=by simpa using hb
 subst e;exact I1.fpOk (RI _) (I1.hok.fresh (RI _))
theorem sX{g:TG}(Pv:Nat->St->Hp->Prop)(h0:Pv 0 σ H)(hl:∀i σ H,i<=xs.length->Pv i σ H->SqL K H a xs)
 (hs:∀i x σ H,i<xs.length->xs[xs.length - 1 - i]?=A? x->Pv i σ H->g x σ H λxl H2=>tb {D with nx:=Pv (i+1),ct:=Pv (i+1),bk:=D.nx} xl H2) (hd:∀σ H,Pv xs.length σ H->D.nx σ H) :
 ∃W:Nat->Nat->St->Hp->Prop,(∃m,W 0 m σ H)/\∀i m σ H,W i m σ H ->
   ((Itv K a xs.length).stop i H/\D.nx σ H)\/((Itv K a xs.length).go i H/\∃N:St->Hp->Prop,(∀i' H',N i' H'->∃m',m'<m/\W (i+1) m' i' H')/\∀x H',(Itv K a xs.length).yld i H x H'->g x σ H' λxl H2=>tb {D with nx:=N,ct:=N,bk:=D.nx} xl H2):=by
 refine⟨λi m σ H=>i<=xs.length/\m=xs.length - i/\Pv i σ H,⟨xs.length,Sn _,CA,h0⟩,?_⟩;rintro i m σ H ⟨hi,rfl,p⟩;by_cases h:i=xs.length
 .left;exact⟨h,hd σ H (by rw[<-h];exact p)⟩
 .right;have Ap:i<xs.length:=by lia
  refine⟨⟨Ap,xs,hl i σ H hi p,CA⟩,Pv (i+1),λi' H' q=>⟨xs.length - (i+1),by lia,by lia,CA,q⟩,?_⟩;rintro x H' ⟨rfl,hx⟩;exact hs i x σ H' Ap (hx xs (hl i σ H' hi p)) p
end
end L2
namespace BB
open PySem L2
set_option genInjectivity true in
inductive Th where
 |knot (n:R1) (ks:List Th)
 |call (s k:Int)
def q:R1:=RF "?"
def Th.kids:Th->List Th
 |.knot _ ks=>ks
 |.call _ _=>[]
mutual
def Th.size:Th->Nat
 |.knot _ ks=>au ks+1
 |.call _ _=>1
def au:List Th->Nat
 | []=>0
 |t::ts=>t.size+au ts
end
mutual
def Th.walk:Th->List Th
 |.knot n ks=>.knot n ks::walks ks
 |.call s k=>[.call s k]
def walks:List Th->List Th
 | []=>[]
 |t::ts=>t.walk++walks ts
end
theorem Th.walk_eq(t:Th):t.walk=t::walks t.kids:=by
 cases t with
 |knot n ks=>rw[Th.walk];rfl
 |call s k=>rw[Th.walk];simp[Th.kids,walks]
theorem Th.size_eq(t:Th):t.size=au t.kids+1:=by
 cases t with
 |knot n ks=>rw[Th.size];rfl
 |call s k=>rw[Th.size];simp[Th.kids,au]
theorem gg:∀a b:List Th,walks (a++b)=walks a++walks b
 | [],b=>by simp[walks]
 |t::a,b=>by rw[List.cons_append,walks,walks,gg a b,Uy]
theorem bD:∀a b:List Th,au (a++b)=au a+au b
 | [],b=>by simp[au]
 |t::a,b=>by rw[List.cons_append,au,au,bD a b,Nat.add_assoc]
mutual
theorem Th.walk_len:∀t:Th,t.walk.length=t.size
 |.knot n ks=>by rw[Th.walk,Th.size,RV,gD ks]
 |.call s k=>by rw[Th.walk,Th.size];rfl
theorem gD:∀ts:List Th,(walks ts).length=au ts
 | []=>rfl
 |t::ts=>by rw[walks,au,RK,t.walk_len,gD ts]
end
theorem Th.size_pos(t:Th):1<=t.size:=by rw[t.size_eq];lia
mutual
def At(H:Hp):Th->Ry->Prop
 |.knot n ks,a=>n≠q/\∃as:List Ry,H a=A? (.tup (.str n::as.map Zf))/\Ats H ks as
 |.call s k,a=>H a=A? (.tup [.str q,.int s,.int k])
def Ats(H:Hp):List Th->List Ry->Prop
 | [],as=>as=[]
 |t::ts,as=>∃a r,as=a::r/\At H t a/\Ats H ts r
end
def KT(H H':Hp):Prop:=∀b xs,H b=A? (.tup xs)->H' b=A? (.tup xs)
theorem KT.trans(a:KT H H1)(b:KT H1 H2):KT H H2:=λc o h=>b c o (a c o h)
theorem Same.kt(h:Ye H H'):KT H H':=λb xs e=>h b _ e
theorem nh{l:Ry}(h:H l=B?):KT H (upd H l o):=λb xs e=>by rw[ac (aq e h)];exact e
theorem dO{l:Ry}(h:H l=A? (.lst xs)):KT H (upd H l o):=λb ys e=>by rw[ac (aC e h (by intro z;cases z))];exact e
mutual
theorem At.mono(k:KT H H'):∀{t:Th}{a:Ry},At H t a->At H' t a
 | .knot n ks,a,h=>by
   rw[At]at h |-;obtain⟨h0,as,h1,h2⟩:=h;exact⟨h0,as,k _ _ h1,Ats.mono k h2⟩
 | .call s c,a,h=>by
   rw[At]at h |-;exact k _ _ h
theorem Ats.mono(k:KT H H'):∀{ts:List Th}{as:List Ry},Ats H ts as->Ats H' ts as
 | [],as,h=>by rw[Ats]at h |-;exact h
 | t::ts,as,h=>by
   rw[Ats]at h |-;obtain⟨a,r,e,h1,h2⟩:=h;exact⟨a,r,e,At.mono k h1,Ats.mono k h2⟩
end
theorem Ats.nil:Ats H [] []:=by rw[Ats]
theorem Ats.cons{t:Th}{ts:List Th}{as:List Ry}(h1:At H t a)(h2:Ats H ts as):Ats H (t::ts) (a::as):=by rw[Ats];exact⟨a,as,CA,h1,h2⟩
theorem Ats.append:∀{ts us:List Th}{as bs:List Ry},Ats H ts as->Ats H us bs->Ats H (ts++us) (as++bs)
 | [],us,as,bs,h,g=>by rw[Ats]at h;subst h;exact g
 | t::ts,us,as,bs,h,g=>by
   rw[Ats]at h;obtain⟨a,r,rfl,h1,h2⟩:=h;exact .cons h1 (h2.append g)
theorem Ats.length:∀{ts:List Th}{as:List Ry},Ats H ts as->as.length=ts.length
 | [],as,h=>by rw[Ats]at h;subst h;rfl
 | t::ts,as,h=>by
   rw[Ats]at h;obtain⟨a,r,rfl,h1,h2⟩:=h;rw[RV,RV,h2.length]
theorem Ats.reverse:∀{ts:List Th}{as:List Ry},Ats H ts as->Ats H ts.reverse as.reverse
 | [],as,h=>by rw[Ats]at h;subst h;exact .nil
 | t::ts,as,h=>by
   rw[Ats]at h;obtain⟨a,r,rfl,h1,h2⟩:=h;rw[SJ,SJ];exact h2.reverse.append (.cons h1 .nil)
theorem Ats.get:∀{ts:List Th}{as:List Ry}{i:Nat}{a:Ry},Ats H ts as->as[i]?=A? a->∃t,ts[i]?=A? t/\At H t a
 | [],as,i,a,h,e=>by rw[Ats]at h;subst h;simp at e
 | t::ts,as,i,a,h,e=>by
   rw[Ats]at h;obtain⟨b,r,rfl,h1,h2⟩:=h;cases i with
   |zero=>simp at e;subst e;exact⟨t,CA,h1⟩
   |succ i=>exact h2.get (i:=i) (by simpa using e)
theorem Ats.at:∀{ts:List Th}{as:List Ry}{i:Nat}{t:Th},Ats H ts as->ts[i]?=A? t->∃a,as[i]?=A? a/\At H t a
 | [],as,i,a,h,e=>by simp at e
 | t::ts,as,i,a,h,e=>by
   rw[Ats]at h;obtain⟨b,r,rfl,h1,h2⟩:=h;cases i with
   |zero=>simp at e;subst e;exact⟨b,CA,h1⟩
   |succ i=>exact h2.at (i:=i) (by simpa using e)
theorem Ats.snoc_inv{ts:List Th}{as:List Ry}(h:Ats H ts (as++[a])):∃us t,ts=us++[t]/\Ats H us as/\At H t a:=by
 have r:=h.reverse;rw[Ue,UT,U5]at r;cases e:ts.reverse with
 |nil=>rw[e,Ats]at r;cases r
 | cons t us =>
   rw[e,Ats]at r;obtain⟨b,z,e1,h1,h2⟩:=r;cases e1;refine⟨us.reverse,t,?_,?_,h1⟩
   .rw[<-SJ,<-e,T6]
   .have:=h2.reverse;rw[T6]at this;exact this
end BB
open BB.Same renaming kt->Zg
open BB.Th renaming call->Yi,knot->Zi,walk->Zm
variable{p:BB.Th}{L Ts Ls pats:List BB.Th}{As:List (BB.Th×Nat)}{rows:List (List BB.Th)}
namespace BB
open PySem L2
def cH:R1:=RF "abcdefghijklmnopqrstuvwxyz"
theorem nH:cH.cps.toList=(SK 26).map (97+·):=by decide +kernel
theorem il:cH.length=26:=by decide +kernel
theorem at_nonneg{xs:List α}{i:Int}{v:α}(h0:0<=i)(h:xs[i.toNat]?=A? v):atI xs i=A? v:=by
 have e:i=((i.toNat:Nat):Int):=by lia
 rw[e];exact bz h
theorem j1{i:Int}(h0:0<=i)(h1:i<26):atI cH.cps.toList i=A? (97+i.toNat):=by
 refine at_nonneg h0 ?_;rw[nH,RG,UE (by lia)];rfl
theorem ph:∀i<26,Builtin.Str.occurrences cH ⟨#[97+i]⟩ 0 cH.length 1=[i]:=by decide +kernel
def dW(r:Int)(k:Nat):List Nat:=(SK k).map λj=>97+((r / 26 ^ j)%26).toNat
def b7(r:Int)(k:Nat):R1:=⟨(dW r k).toArray⟩
theorem oV(r:Int)(k:Nat):(dW r k).length=k:=by unfold dW;rw[Rw,TB]
theorem cP(r:Int)(k:Nat):(b7 r k).length=k:=by show(dW r k).toArray.size=k;rw[RO,oV]
theorem nM(r:Int)(k:Nat):dW r (k+1)=dW r k++[97+((r / 26 ^ k)%26).toNat]:=by unfold dW;rw[List.range_succ,R4];rfl
theorem ny(r:Int)(k:Nat):b7 r (k+1)=b7 r k++⟨#[97+((r / 26 ^ k)%26).toNat]⟩:=by
 show(⟨(dW r (k+1)).toArray⟩:R1)=⟨(dW r k).toArray++#[97+((r / 26 ^ k)%26).toNat]⟩;rw[nM];simp
def Low(x:R1):Prop:=∀c∈x.cps.toList,97<=c/\c<=122
theorem pU(r:Int)(k:Nat):∀c∈dW r k,97<=c/\c<=122:=by
 intro c hc;obtain⟨j,_,rfl⟩:=RP.mp hc;have:=Tr (r / 26 ^ j) (by decide:(26:Int)≠0);have:=T4 (r / 26 ^ j) (by decide:(0:Int)<26);lia
theorem kX(h:Low x)(lo hi:Option Int):Low (dN x lo hi):=by
 intro c hc;have xP:c∈jJ x.cps.toList lo hi:=by simpa[dN]using hc
 exact h c (List.mem_of_mem_drop (Xd xP))
theorem nT{y:R1}(hx:Low x)(hy:Low y):Low (x++y):=by
 intro c hc;have xP:c∈(x.cps++y.cps).toList:=hc;rw[Array.toList_append,RM]at xP;rcases xP with h|h
 .exact hx c h
 .exact hy c h
theorem sG{c:Nat}(h1:97<=c)(h2:c<=122):Low ⟨#[c]⟩:=by
 intro d hd;have:d=c:=by simpa using hd
 lia
theorem t6(h:Low x):x≠q:=by
 intro e;subst e;have:=h 63 (by decide +kernel);lia
def db(base:Int):Int:=1+base / 2%8
def nAt(base:Int):Int:=base / 16%7%db base
def i8(base n:Int):Nat:=97+(((((base / 112) / 26 ^ (nAt base).toNat)%26).toNat+n)%26).toNat
def nameOf(base n:Int):R1 :=
 if base%2=1 then dN (b7 (base / 112) 8) B? (A? (n+1))
 else dN (b7 (base / 112) 8) B? (A? (nAt base))++⟨#[i8 base n]⟩++dN (b7 (base / 112) 8) (A? (nAt base+1)) (A? (db base))
theorem gy(base:Int):1<=db base/\db base<=8:=by
 have:=Tr (base / 2) (by decide:(8:Int)≠0);have:=T4 (base / 2) (by decide:(0:Int)<8);unfold db;lia
theorem qU(base:Int):0<=nAt base/\nAt base<db base:=by
 have:=gy base;unfold nAt;exact⟨Tr _ (by lia),T4 _ (by lia)⟩
theorem jR(base n:Int):97<=i8 base n/\i8 base n<=122:=by
 unfold i8;have h1:=Tr (((((base / 112) / 26 ^ (nAt base).toNat)%26).toNat:Int)+n) (by decide:(26:Int)≠0);have h2:=T4 (((((base / 112) / 26 ^ (nAt base).toNat)%26).toNat:Int)+n) (by decide:(0:Int)<26);lia
theorem i5(base:Int):Low (b7 (base / 112) 8):=by
 intro c hc;exact pU _ _ c (by simpa[b7]using hc)
theorem iX(base n:Int):Low (nameOf base n):=by
 unfold nameOf;split
 .exact kX (i5 base) _ _
 .exact nT (nT (kX (i5 base) _ _) (sG (jR base n).1 (jR base n).2)) (kX (i5 base) _ _)
theorem iM(z:R1)(lo hi:Option Int):(dN z lo hi).length=min (Zh z.length z.length hi - Zh z.length 0 lo) (z.length - Zh z.length 0 lo):=by
 show(jJ z.cps.toList lo hi).toArray.size=_;unfold jJ;rw[RO,Sq,Uj,Sd];rfl
theorem nI(base n:Int):(nameOf base n).length<=8:=by
 unfold nameOf;split
 .have:=dg (b7 (base / 112) 8) B? (A? (n+1));rw[cP]at this;exact this
 .have h1:=gy base;have h2:=qU base;rw[strLen_append,strLen_append,iM,iM,cP]
  have e1:Zh 8 8 (A? (nAt base))=(nAt base).toNat:=by
   show(if nAt base<0 then _ else min (nAt base).toNat 8)=_;rw[Za (by lia)];lia
  have e2:Zh 8 0 (A? (nAt base+1))=(nAt base+1).toNat:=by
   show(if nAt base+1<0 then _ else min (nAt base+1).toNat 8)=_;rw[Za (by lia)];lia
  have e3:Zh 8 8 (A? (db base))=(db base).toNat:=by
   show(if db base<0 then _ else min (db base).toNat 8)=_;rw[Za (by lia)];lia
  have e4:Zh 8 0 B?=0:=rfl;have e5:(⟨#[i8 base n]⟩:R1).length=1:=rfl;rw[e1,e2,e3,e4,e5];lia
end BB
namespace L2
open PySem PySem.Spec PyProof.Rows
theorem Same.seqT(e:Same H H')(h:SqT K H a xs):SqT K H' a xs:=by
 rcases h with(h|⟨o,h⟩)|h
 .exact .inl (.inl (e _ _ h))
 .exact .inl (.inr ⟨o,e _ _ h⟩)
 .exact .inr h
theorem ao{p:Ry}(h:H p=B?)(o:HO):Same H (upd H p o):=λb u q=>by rw[ac (aq q h)];exact q
@[elab_as_elim] theorem gU{G:Hp->Prop}(h:H a=B?)(k:∀H',Ye H H'->H' a=A? o->G H'):G (upd H a o):=k _ (ao h _) ad
theorem aV{l:Ry}(h:Same H H1)(n:H l=B?):Same H (upd H1 l o):=λb u e=>by rw[ac (aq e n)];exact h b u e
theorem sw{te:TE}(zs:List α)(p:α->Bool)(f:α->V)(hz:zs.length=xs.length)(hn:xs.length<=1000000)
 (EI:∀i H2,Same H H2->i<xs.length->J.go i H2) (y0:∀H2,Same H H2->J.stop xs.length H2) (AF:∀(i:Nat)H2 x H3,Same H H2->i<xs.length->J.yld i H2 x H3->H3=H2/\xs[i]?=A? x)
 (Ik:∀(i:Nat)x z H2(R:Bool->Hp->Prop),xs[i]?=A? x->zs[i]?=A? z->Same H H2->R (p z) H2->tt ((cσ js σ).set 0 (A? x)) H2 R)
 (z9:∀(i:Nat)x z H2(R:VK),xs[i]?=A? x->zs[i]?=A? z->p z=Bz->Same H H2->R (f z) H2->te ((cσ js σ).set 0 (A? x)) H2 R)
 (q:∀D,H D=B?->fin D (upd H D (.lst ((zs.filter p).map f)))) :
 ∀D,H D=B?->∃(n:Nat)(W:Nat->Hp->Prop),W 0 (upd H D (.lst []))/\ff js (aw 0) tt te σ J D n W λH'=>fin D H':=by
 intro D hD;refine⟨xs.length,λi H2=>i<=xs.length/\H2=upd H D (.lst (((zs.take i).filter p).map f)),⟨Sn _,by simp⟩,?_⟩;rintro i H2 ⟨hi,rfl⟩;have sm:∀o,Same H (upd H D o):=λo=>ao hD o;by_cases h:i=xs.length
 .left;subst h;refine⟨y0 _ (sm _),?_⟩;rw[<-hz,T3];exact q D hD
 .right;have Ap:i<xs.length:=by lia
  refine⟨Ap,EI i _ (sm _) Ap,λx H1 hy=>?_⟩;obtain⟨rfl,hx⟩:=AF i _ x H1 (sm _) Ap hy;have Nn:i<zs.length:=by lia
  have e1:zs[i]?=A? zs[i]:=RA Nn
  have e2:(zs.take (i+1)).filter p=(zs.take i).filter p++(if p zs[i]=Bz then[zs[i]]else[]):=by
   rw[TY,e1,UU];show _++Ww p [zs[i]]=_;rw[VM,List.filter_nil]
  refine Ik i x zs[i] _ _ hx e1 (sm _) ?_
  have hlen:(((zs.take i).filter p).map f).length<=1000000:=by
   rw[Rw];have:=List.length_filter_le p (zs.take i);rw[Sq]at this;lia
  by_cases hp:p zs[i]=Bz
  .rw[Yb hp];refine z9 i x zs[i] _ _ hx e1 hp (sm _) ⟨_,ad,Xv hlen (by decide),Ap,?_⟩;rw[r6,e2,Yb hp,R4];rfl
  .rw[Za hp];refine⟨Ap,?_⟩;rw[e2,Za hp,T1]
theorem g8{te:TE}(zs:List α)(p:α->Bool)(f:α->V)(hS:SqT K H a xs)(hz:zs.length=xs.length)(hn:xs.length<=1000000)
 (Ik:∀(i:Nat)x z H2(R:Bool->Hp->Prop),xs[i]?=A? x->zs[i]?=A? z->Same H H2->R (p z) H2->tt ((cσ js σ).set 0 (A? x)) H2 R)
 (z9:∀(i:Nat)x z H2(R:VK),xs[i]?=A? x->zs[i]?=A? z->p z=Bz->Same H H2->R (f z) H2->te ((cσ js σ).set 0 (A? x)) H2 R)
 (q:∀D,H D=B?->fin D (upd H D (.lst ((zs.filter p).map f)))) :
 ∀D,H D=B?->∃(n:Nat)(W:Nat->Hp->Prop),W 0 (upd H D (.lst []))/\ff js (aw 0) tt te σ (Itt K a) D n W λH'=>fin D H' :=
 sw zs p f hz hn (λi H2 s hi=>⟨xs,xs[i],s.seqT hS,RA hi⟩) (λH2 s=>⟨xs,s.seqT hS,RI _⟩) (λi H2 x H3 s hi hy=>⟨hy.1,hy.2 xs (s.seqT hS)⟩) Ik z9 q
end L2
namespace BB
open PySem L2
theorem at0{x:α}{xs:List α}:atI (x::xs) 0=A? x:=bz (j:=0) rfl
theorem at1{x y:α}{xs:List α}:atI (x::y::xs) 1=A? y:=bz (j:=1) rfl
theorem at2{x y z:α}{xs:List α}:atI (x::y::z::xs) 2=A? z:=bz (j:=2) rfl
theorem dB(x:V)(xs:List V):eY (x::xs) (A? 1) B?=xs:=by
 unfold eY;simp[Zh]
theorem gu:∀ts:List Th,ts.length<=au ts
 | []=>Sn _
 | t::ts=>by
   have:=t.size_pos;have:=gu ts;rw[RV,au];lia
theorem jZ(ts:List Th):au ts.reverse=au ts:=by
 induction ts with
 |nil=>rfl
 |cons x xs ih=>rw[SJ,bD,ih,au,au,au];lia
theorem aS(h:n<=1000000):n<RZ:=Xv h (by decide)
theorem bX(h:n<=1000000):n<=RZ:=TV (aS h)
theorem lnE(h:Nat.ble n 1000000=Bz):n<=RZ:=bX (Nat.le_of_ble_eq_true h)
theorem uAE{as:List Ry}:(upd H a (.lst (as.map Zf++[.ref b]))) a=A? (.lst ((as++[b]).map Zf)):=by rw[ad,R4];rfl
theorem lbE{f:α->β}(h:l.length<=1000000):(l.map f).length<RZ:=aS (by rw[Rw];exact h)
section
variable{F G:α->β->Prop}
theorem P2.append:∀{a c:List α}{b d:List β},Sb F a b->Sb F c d->Sb F (a++c) (b++d)
 |_,_,_,_,.nil,h=>h
 |_,_,_,_,.cons r t,h=>.cons r (P2.append t h)
theorem P2.get:∀{a:List α}{b:List β}{i:Nat}{x:α},Sb F a b->a[i]?=A? x->∃y,b[i]?=A? y/\F x y
 |_,_,_,_,.nil,e=>by simp at e
 |_,_,0,_,.cons r _,e=>by simp at e;subst e;exact⟨_,CA,r⟩
 | _,_,i+1,x,.cons _ t,e=>by
   obtain⟨u,h1,h2⟩:=P2.get (i:=i) (x:=x) t (by simpa using e);exact⟨u,by simpa using h1,h2⟩
theorem P2.get':∀{a:List α}{b:List β}{i:Nat}{y:β},Sb F a b->b[i]?=A? y->∃x,a[i]?=A? x/\F x y
 |_,_,_,_,.nil,e=>by simp at e
 |_,_,0,_,.cons r _,e=>by simp at e;subst e;exact⟨_,CA,r⟩
 | _,_,i+1,y,.cons _ t,e=>by
   obtain⟨u,h1,h2⟩:=P2.get' (i:=i) (y:=y) t (by simpa using e);exact⟨u,by simpa using h1,h2⟩
theorem P2.mp(f:∀x y,F x y->G x y):∀{a:List α}{b:List β},Sb F a b->Sb G a b
 |_,_,.nil=>.nil
 |_,_,.cons r t=>.cons (f _ _ r) (P2.mp f t)
end
def KAt(H:Hp)(k:R1×Int)(a:Ry):Prop:=H a=A? (.tup [.str k.1,.int k.2])
def KsAt(H:Hp)(ks:List (R1×Int))(as:List Ry):Prop:=Sb (KAt H) ks as
theorem KsAt.mono(k:KT H H'){ks:List (R1×Int)}{as:List Ry}(h:KsAt H ks as):KsAt H' ks as:=P2.mp (λx y e=>k _ _ e) h
end BB
open BB.P2 renaming mp->Yj,append->Yk,get->Zl,get'->Zo
namespace L2
open PySem
theorem bw{t u:TS}(R:St->Hp->Prop)(h1:∀k:St->Hp->Prop,(∀i' H',R i' H'->k i' H')->t {D with nx:=k} σ H)(h2:∀i' H',R i' H'->u D i' H'):vn t u D σ H:=h1 _ h2
theorem rm{c:TT}{t u:TS}(R:Bool->Hp->Prop)(h1:∀k:Bool->Hp->Prop,(∀b H',R b H'->k b H')->c σ H k)(h2:∀H',R Bz H'->t D σ H')(h3:∀H',R C? H'->u D σ H'):vj c t u D σ H :=
 h1 _ λb H' r=>by
  cases b with
  |true=>rw[Yb rfl];exact h2 H' r
  |false=>rw[Za R0];exact h3 H' r
end L2
namespace BB
open PySem L2
mutual
def Th.Fit(ks:List (R1×Int)):Th->Prop
 |.knot n ts=>(n,(ts.length:Int))∈ks/\Fits ks ts
 |.call _ _=>False
def Fits(ks:List (R1×Int)):List Th->Prop
 | []=>True
 |t::ts=>t.Fit ks/\Fits ks ts
end
section
variable{ext:Th->List V}{t:Th}{ts:List Th}{es:List Ry}
end
theorem filter_tt(xs:List α):xs.filter (λ_=>Bz)=xs:=by
 induction xs with
 |nil=>rfl
 |cons x xs ih=>rw[VM,Yb rfl,ih]
theorem take_snoc{xs:List α}{x:α}(h:xs[n]?=A? x):xs.take (n+1)=xs.take n++[x]:=by rw[TY,h];rfl
theorem rZ{xs:List Ry}{x:V}(h:(xs.map Zf)[i]?=A? x):∃a,x=.ref a/\xs[i]?=A? a:=by
 rw[RG]at h;obtain⟨a,h1,h2⟩:=RW.mp h;exact⟨a,h2.symm,h1⟩
end BB
open BB.Th renaming Fit->Yn
namespace PySem
open Sem (wp)
theorem bb_tupNext{cur:Ry}{x:Rz}(g:s.1.IsTupleIter cur tp i)(gt:s.1.IsTuple tp items)(hx:items[i]?=A? x)
 (fin:∀h',h'.IsTupleIter cur tp (i+1)->S0 cur s.1 h'->Q x {s with heap:=h'}):RQ (R7 prog w) A (Sw (.ref cur)) Q E s:=by
 obtain⟨ob,e1,e2,e3⟩:=id g;obtain⟨ot,e4,_,nt,e5⟩:=gt;unfold Sw;refine Rv (SF (name:=RF "__next__") g.typeIs Vn (SI Vn g.typeIs F.entry_tuple_iterator_next ?_ (F.args_tuple_iterator_next_1 _)));show RQ _ _ (field (.ref cur) 0 >>= _) _ _ s;refine Rv (Sy e1 e3 (x:=.ref tp) rfl ?_);show RQ _ _ (if(Sg tp == SY)=Bz then _ else _) _ _ s;rw[Za (show¬((Sg tp == SY)=Bz)from R0)];show RQ _ _ (field (.ref cur) 1 >>= _) _ _ s;refine Rv (Sy e1 e3 (x:=.int i 0) rfl ?_);show RQ _ _ (seqItems? (.ref tp) >>= _) _ _ s;refine Rv (Tc e4 e5 ?_);simp only[RU,hx];refine Rv (WG e1 e3 (by simp) (RD ⟨x,rfl,RD (fin _ ?_ (Ta ..))⟩));exact⟨_,SO _ e1 (Obj.isFreed_of_fields (WM e3 _)),(Obj.cls_mapFields ..).trans e2,by rw[WM e3];simp[Ud]⟩
theorem bb_tupEnd{cur:Ry}(calm:A.handled=B?)(g:s.1.IsTupleIter cur tp i)(gt:s.1.IsTuple tp items)(hx:items[i]?=B?)
 (fin:∀h' e,XW cur s.1 h'->(∃o,h'.get? e=A? o/\o.cls=.type "StopIteration")->E (.ref e) {s with heap:=h'}):RQ (R7 prog w) A (Sw (.ref cur)) Q E s:=by
 obtain⟨ob,e1,e2,e3⟩:=id g;obtain⟨ot,e4,_,nt,e5⟩:=gt;unfold Sw;refine Rv (SF (name:=RF "__next__") g.typeIs Vn (SI Vn g.typeIs F.entry_tuple_iterator_next ?_ (F.args_tuple_iterator_next_1 _)));show RQ _ _ (field (.ref cur) 0 >>= _) _ _ s;refine Rv (Sy e1 e3 (x:=.ref tp) rfl ?_);show RQ _ _ (if(Sg tp == SY)=Bz then _ else _) _ _ s;rw[Za (show¬((Sg tp == SY)=Bz)from R0)];show RQ _ _ (field (.ref cur) 1 >>= _) _ _ s;refine Rv (Sy e1 e3 (x:=.int i 0) rfl ?_);show RQ _ _ (seqItems? (.ref tp) >>= _) _ _ s;refine Rv (Tc e4 e5 ?_);simp only[RU,hx];refine Rv (V7 (Rv (WG e1 e3 (by simp) ?_)));show RQ _ _ (newExc (.type "StopIteration") [] >>= _) _ _ _;refine Rv ?_;simp only[newExc,newTuple];refine Rv (Sv ?_ (by size_fits));refine Rv (m:=VT _ _) (wpAny_of_eq (a:=SY) (by first|rfl|(simp only[VT];rfl)) ?_);refine Sv ?_ (by size_fits);simp only[raiseNew];refine Rv (wpAny_handled ?_)
 first|rw[show A.in1.handled=B? from calm]|rw[calm]
 refine Rv (RD (wpAny_throw ?_));exact fin _ _ (((Ta ..).extBut.push _).push _) ⟨_,RJ _ rfl,rfl⟩
theorem bb_drawsT(calm:A.handled=B?)(cur tp:Ry)(ne:tp≠cur)(items:Array Rz) :
 Draws prog w A cur [cur,tp] items.size (λi v=>items[i]?=A? v) (λi h=>h.IsTupleIter cur tp i/\h.IsTuple tp items) where
 live:=λ_ _ st=>let⟨o,e,_⟩:=st.1;⟨o,e⟩
 frame:=λ_ _ _ st k=>⟨let⟨o,e,r⟩:=st.1;⟨o,k cur (by simp) o e,r⟩,let⟨o,e,r⟩:=st.2;⟨o,k tp (by simp) o e,r⟩⟩
 item:=λi s Q E hi st q=>by
  refine bb_tupNext st.1 st.2 (x:=items[i]) (by simp[hi]) λh' g' sb=>?_;exact q _ h' s.toks (by simp[hi]) ⟨g',st.2.extBut sb.extBut ne⟩ sb
 done:=λs Q E st e=>bb_tupEnd calm st.1 st.2 (by simp) e
theorem bb_meetsEnumT(tp:Ry)(items:Array Rz)(n:Nat)(Il:Option Ry)(sl:Array (Option Rz)) :
 Meets (Ur.«enumerate.__new__» ⟨[.type "enumerate",.ref tp],[]⟩) (λ_ R s=>s.1.get? tp=A? {cls:=.type "tuple",dict:=Il,data:=.seq items n,slots:=sl} /\
  R (.ok (.ret (.ref (s.1.push {cls:=.type "tuple_iterator",data:=.fields #[.ref tp,.int 0 0]}).objs.size)))
    {s with heap:=(s.1.push {cls:=.type "tuple_iterator",data:=.fields #[.ref tp,.int 0 0]}).push {cls:=.type "enumerate",data:=.fields #[.none,.bool C?,.ref s.1.1.size,Ud 0,.none,.none]}}) :=
 .of_wp λprog w A R s h=>by
  obtain⟨hp,g,d,tk,os⟩:=s;obtain⟨gt,fin⟩:=h;have su:=sub_enumerate;have gT:Heap.IsTuple (Shared.heap ⟨hp,g,d,tk,os⟩) tp items:=⟨_,gt,rfl,n,rfl⟩
  wp_walk using Uc gt
  refine wpAny_stack_any λst=>RD ?_;split
  .rename_i c _ _ _ _ _
   cases(c == Vc "enumerate")
   .wp_walk using Uc gt,Vb gT
    exact⟨_,CA,fin⟩
   .wp_walk using Uc gt,Vb gT
    exact⟨_,CA,fin⟩
  .wp_walk using Uc gt,Vb gT
   exact⟨_,CA,fin⟩
theorem bb_callEnumT(gT:s.1.IsTuple tp items)
 (fin:∀h',IsEnum h' (s.1.1.size+1) s.1.1.size 0 .none->h'.IsTupleIter s.1.1.size tp 0->h'.objs.size=s.1.1.size+2 ->
  (∀b o,s.1.get? b=A? o->h'.get? b=A? o)->Q (.ref (s.1.1.size+1)) {s with heap:=h'}):RQ (R7 prog w) A (call (.type "enumerate") [.ref tp]) Q E s:=by
 obtain⟨⟨c,Il,dt,sl⟩,e1,e2,n,e3⟩:=gT;replace e2:c=.type "tuple":=e2;replace e3:dt=.seq items n:=e3;subst e2 e3;refine callType_new F.called_enumerate (by decide) (F.typeCall_enumerate_1 _) (F.newCall_enumerate_1 _) (λobj=>F.args_object_init_2 obj _) F.entry_enumerate_new (bb_meetsEnumT tp items n Il sl) ⟨e1,?_⟩;have z:(s.1.push {cls:=.type "tuple_iterator",data:=.fields #[.ref tp,.int 0 0]}).objs.size=s.1.1.size+1:=SV ..;show _/\_;rw[z]
 have ge:IsEnum ((s.1.push {cls:=.type "tuple_iterator",data:=.fields #[.ref tp,.int 0 0]}).push {cls:=.type "enumerate",data:=.fields #[.none,.bool C?,.ref s.1.1.size,Ud 0,.none,.none]}) (s.1.1.size+1) s.1.1.size 0 .none:=by
  have t:=RJ (s.1.push {cls:=.type "tuple_iterator",data:=.fields #[.ref tp,.int 0 0]}) (o:={cls:=.type "enumerate",data:=.fields #[.none,.bool C?,.ref s.1.1.size,Ud 0,.none,.none]}) rfl;rw[z]at t;exact t
 exact⟨⟨_,ge,CA⟩,fin _ ge ⟨_,RB _ (RJ _ rfl),CA,CA⟩ (by rw[SV,z]) λb o x=>RB _ (RB _ x)⟩
end PySem
namespace L2
open PySem PySem.Spec PyProof.Rows
theorem Inv.turnedL{X:Cx}(I:Inv X Y σ H s)(k:∀b o,b∉fp->s.1.get? b=A? o->h'.get? b=A? o)(hf:∀b∈fp,FpOk X Y H b) :
 Inv X Y σ H {s with heap:=h',toks:=t'}:=by
 have Ep:∀b u,H b=A? u->b∉fp:=λb u e z=>by rw[(hf b z).1]at e;cases e
 refine I.step (g':=s.gens) (d':=s.drawn) (ch:=fp) (λb hb=>?_) (λb o _ _ hc e _=>k b o hc e) (λb o _ _ hc e _=>⟨o.slots,k b o hc e⟩) (λ_ _ _ _ n=>n)
  (λb o hc e=>⟨o,k b o hc e⟩) (λ_ _ e=>e) (λ_ _ _ e=>e) (λb ps e=>⟨#[],by rw[e];simp⟩) (λm hm=>?_) (λb u e=>?_) I.bare
 .obtain⟨f0,f1,f2,f3,f4,f5⟩:=hf b hb;exact⟨f3,f1,f4,f5⟩
 .obtain⟨o,es,ep,ho,r⟩:=hm;exact⟨o,es,ep,k _ o (λz=>(hf _ z).2.1 rfl) ho,r⟩
 .refine(I.hok b u e).stay (λc v hc q=>k c v ?_ q) (λ_ q=>q) λ_ _ q=>q;rcases hc with z|z
  .rw[z];exact Ep b u e
  .exact Ep c _ z
def Ite(K:RH)(a:Ry):It:=⟨λi H=>∃xs x,SqT K H a xs/\xs[i]?=A? x,λi H x H'=>∃p y,H p=B?/\x=.ref p/\H'=upd H p (.tup [.int (i:Nat),y])/\∀xs,SqT K H a xs->xs[i]?=A? y,λi H=>∃xs,SqT K H a xs/\xs.length=i⟩
theorem pj{k1}(a e it:Ry):Turn P w K (.Tuple elts k1 pos) (Ite K a) [e,it] e (λi h=>(∃old,IsEnum h e it ((i:Nat):Int) old)/\h.IsTupleIter it a i) where
 mem:=by simp
 obj:=λi h st b hb=>by
  obtain⟨⟨old,he⟩,o,e1,e2,e3⟩:=st;rcases RR.mp hb with rfl|hb
  .exact⟨_,he,λv z=>by cases z⟩
  .have:b=it:=by simpa using hb
   subst this;exact⟨o,e1,λv z=>by rw[e3]at z;cases z⟩
 keep:=λi h h' st k=>by
  obtain⟨⟨old,he⟩,o,e1,e2⟩:=st;exact⟨⟨old,k e (by simp) _ he⟩,o,k it (by simp) _ e1,e2⟩
 item:=by
  intro X hP hw hK hc i Y s σ H E I hf st hg;subst hP hw hK;obtain⟨xs,x,hq,hx⟩:=hg;obtain⟨its,rv,p,hz⟩:=I.tuple hq;obtain⟨u,hu,ru⟩:=rv.get hx;obtain⟨⟨old,he⟩,hi⟩:=st
  have CH:e≠it:=by
   rintro rfl;obtain⟨o,e1,e2,_⟩:=hi;rw[he]at e1;cases e1;exact Yd (Tw e2) (by decide)
  have BG:a≠it:=by
   rintro rfl;obtain⟨o,e1,e2,_⟩:=hi;obtain⟨o',Aa,yd,_⟩:=p;rw[Aa]at e1;cases e1;rw[yd]at e2;exact Yd (Tw e2) (by decide)
  have Im:a≠e:=by
   rintro rfl;obtain⟨o',Aa,yd,_⟩:=p;rw[he]at Aa;cases Aa;exact Yd (Tw yd) (by decide)
  have xf:i<its.toArray.size:=by
   have:=(glE hu);simpa using this
  have DN:e<s.1.1.size:=RY he;have yD:it<s.1.1.size:=by obtain⟨o,e1,_⟩:=hi;exact RY e1
  refine wpAny_pyNext_enum_itemD (bb_drawsT (A:=X.A.in1) (show X.A.in1.handled=B? from I.ok.hd hc) it a BG its.toArray) he ⟨hi,p⟩ xf CH (by simp[CH,Im.symm]) λy h1 tk hy ho Io hT hsz hk=>?_
  have Ip:y=u:=by
   have:its[i]?=A? y:=by simpa using hy
   rw[hu]at this;exact(RN this).symm
  subst Ip;refine⟨_,CA,wpAny_letOwnedTupleGo_enum ho λh2 Iq AH=>?_⟩;replace AH:S0 e h1 h2:=AH
  have xx:∀b∈[e,it],b<s.1.1.size:=λb hb=>by
   rcases RR.mp hb with rfl|hb
   .exact DN
   .have:b=it:=by simpa using hb
    subst this;exact yD
  have CI:H s.1.1.size=none:=I.hok.fresh (RI _)
  have IA:Inv X Y σ (upd H s.1.1.size (.tup [.int (i:Nat),x])) {s with heap:=s.1.push {cls:=.type "tuple",data:=.seq #[.int (i:Nat) tk,y]},toks:=tk} :=
   I.laid (o:=.tup [.int (i:Nat),x]) (λb ob q=>RB _ q) (RI _) ⟨by show 2<=RZ;decide,[.int (i:Nat) tk,y],0,.cons ⟨tk,rfl⟩ (.cons ru .nil),RJ _ rfl⟩
  refine⟨.ref s.1.1.size,upd H s.1.1.size (.tup [.int (i:Nat),x]),?_,CA,⟨_,x,CI,CA,CA,λys zM=>by rw[I.tuple_inj zM hq];exact hx⟩,⟨⟨y,by simpa using Iq⟩,?_⟩,λb hb=>?_⟩
  .have IB:Inv X Y σ (upd H s.1.1.size (.tup [.int (i:Nat),x])) {s with heap:=h2,toks:=tk+1}:=by
    refine Inv.turnedL (s:={s with heap:=s.1.push {cls:=.type "tuple",data:=.seq #[.int (i:Nat) tk,y]},toks:=tk}) (h':=h2) (fp:=[e,it]) (t':=tk+1) IA (λb o hb q=>?_) λb hb=>?_
    .have zY:b≠e:=λz=>hb (by simp[z]);have EJ:b≠it:=λz=>hb (by simp[z]);rw[AH.2 b zY];by_cases hb2:b=s.1.1.size
     .subst hb2;rw[hT];have q':(s.1.push {cls:=.type "tuple",data:=.seq #[.int (i:Nat) tk,y]}).get? s.1.1.size=A? o:=q;rw[RJ _ rfl]at q';exact q'
     .have Ab:b<(s.1.push {cls:=.type "tuple",data:=.seq #[.int (i:Nat) tk,y]}).objs.size:=RY q;rw[SV]at Ab;refine hk b o zY EJ ?_;have q':(s.1.push {cls:=.type "tuple",data:=.seq #[.int (i:Nat) tk,y]}).get? b=A? o:=q;rw[W0 _ _ _ hb2]at q';exact q'
    .obtain⟨f0,f1⟩:=hf b hb;exact⟨by rw[ac (Sa (xx b hb))];exact f0,f1⟩
   exact IB
  .obtain⟨o,e1,r⟩:=Io.1;exact⟨o,(AH.2 it (Tn CH)).trans e1,r⟩
  .rw[ac (Sa (xx b hb))];exact(hf b hb).1
 done:=by
  intro X hP hw hK hc i Y s σ H E I hf st hg;subst hP hw hK;obtain⟨xs,hq,hx⟩:=hg;obtain⟨its,rv,p,hz⟩:=I.tuple hq;obtain⟨⟨old,he⟩,hi⟩:=st
  have BG:a≠it:=by
   rintro rfl;obtain⟨o,e1,e2,_⟩:=hi;obtain⟨o',Aa,yd,_⟩:=p;rw[Aa]at e1;cases e1;rw[yd]at e2;exact Yd (Tw e2) (by decide)
  have hn:its.toArray.size=i:=by
   have:=rv.length;rw[RO];lia
  refine wpAny_pyNext_enum_endD (bb_drawsT (A:=X.A.in1) (show X.A.in1.handled=B? from I.ok.hd hc) it a BG its.toArray) he (by rw[hn];exact⟨hi,p⟩) λh' eb=>⟨rfl,?_⟩;exact I.turnedL (fp:=[e,it]) (t':=s.toks) (λb o hb q=>eb b o (λz=>hb (by simp[z])) q) hf
 self:=λ_ _ _ _ _ st h=>by
  obtain⟨⟨old,he⟩,_⟩:=st;exact WX he h
section
variable{X:Cx}{te:TE}{p2 xq:UX}
def vV(K:RH)(tl:TE):TI:=λσ H R=>tl σ H λx H1=>∃a,x=.ref a/\(∃xs,SqT K H1 a xs)/\R (Ite K a) H1
theorem sY{k1}(g2:Gl X "enumerate")(m2:X.mg "enumerate"=B?)(he:PE X e te)(h2:Sk [e] X.env=[(C?,TN e X.env)]:=by rfl):PI X (.Tuple elts k1 pos) (.Call (.Name "enumerate" p2) [e] [] xq) (vV X.K te):=by
 intro Y s σ H R I h;refine SX (cy I g2 m2 boot_enumerate (SR ?_ h2 rfl));rw[h2];show RQ _ _ (spliced ((C?,TN e X.env)::[])) _ _ s;refine TQ (thn (he Y s σ H _ I h) λu s1⟨x,H1,I1,r1,a,ex,⟨xs,hq⟩,q⟩=>Ui ?_);subst ex;cases r1;obtain⟨its,rv,p,hz⟩:=I1.tuple hq;refine bb_callEnumT (show s1.1.IsTuple a its.toArray from p) λh' g1 g2 g3 g4=>?_;refine WX (s:={s1 with heap:=h'}) g1 ?_;refine⟨s1.1.1.size+1,[s1.1.1.size+1,s1.1.1.size],_,_,H1,CA,I1.kept (t':=s1.toks) g4,pj a _ _,⟨⟨_,g1⟩,g2⟩,λb hb=>?_,q⟩
 have xC:s1.1.1.size<=b:=by
  rcases RR.mp hb with rfl|hb
  .lia
  .have:b=s1.1.1.size:=by simpa using hb
   exact XR this.symm
 exact I1.fpOk xC (I1.hok.fresh xC)
inductive rH(K:RH)(x:V)(y:V)(H:Hp)(Q:VK):Prop
 |mk (a:_) (b:_) (xs:_) (ys:_) (yH:x=.ref a) (yI:y=.ref b) (zZ:SqT K H a xs) (B5:SqT K H b ys) (DJ:xs.length+ys.length<=RZ) (M4:(xs=[]->Q (.ref b) H)) (QR:(xs≠[]->ys=[]->Q (.ref a) H)) (QS:(xs≠[]->ys≠[]->∀p,H p=B?->Q (.ref p) (upd H p (.tup (xs++ys))))):rH K x y H Q
def t8(K:RH):R2:=rH K
theorem kN:OpR X (U0 .Add) (t8 X.K):=by
 intro Y s σ H x y v u Q I rx ry h;obtain⟨a,b,xs,ys,e1,e2,ha,hb,hz,q0,q1,q2⟩:=h;by_cases hx:xs=[]
 .subst e1 e2;cases rx;cases ry;obtain⟨its,r1,p1,_⟩:=I.tuple ha;obtain⟨xn,r2,p2,_⟩:=I.tuple hb;have hi:its=[]:=r1.nil_iff.mpr hx;obtain⟨⟨cls,dd,data,sl⟩,ho,hc,n,hd⟩:=p1;obtain⟨⟨BD,zK,data2,zL⟩,z8,yC,n2,hd2⟩:=p2;simp only at hc hd yC hd2;subst hc hd yC hd2;exact concat_meets ⟨_,ho,rfl⟩ ⟨_,z8,rfl⟩ noFill_tuple_add seq_tuple_add WV WK (WA _ _) (tuple_addW0 a b its.toArray xn.toArray n n2 dd zK sl zL (by simp[hi])) ⟨ho,z8,⟨.ref b,H,I,rfl,q0 hx⟩⟩
 .exact nZ Y s σ H x y v u Q I rx ry ⟨a,b,xs,ys,e1,e2,ha,hb,hx,hz,q1 hx,q2 hx⟩
end
end L2
namespace PySem
open Sem (wp)
abbrev tzH1(h:SM)(l1:Ry):SM:=h.push {cls:=.type "tuple_iterator",data:=.fields #[.ref l1,.int 0 0]}
abbrev tzH2(h:SM)(l1 l2:Ry):SM:=(tzH1 h l1).push {cls:=.type "tuple_iterator",data:=.fields #[.ref l2,.int 0 0]}
abbrev tzH3(h:SM)(l1 l2:Ry):SM:=(tzH2 h l1 l2).push {cls:=.type "tuple",data:=.seq #[.ref h.objs.size,.ref (tzH1 h l1).objs.size]}
abbrev tzH4(h:SM)(l1 l2:Ry):SM:=(tzH3 h l1 l2).push {cls:=.type "tuple",data:=.seq #[.none,.none]}
abbrev tzH5(h:SM)(l1 l2:Ry):SM:=(tzH4 h l1 l2).push {cls:=.type "zip",data:=.fields #[.none,.bool C?,.bool C?,.ref (tzH2 h l1 l2).objs.size,.ref (tzH3 h l1 l2).objs.size]}
theorem IsTuple.push'{l:Ry}{xs:Array Rz}(x:h.IsTuple l xs)(o:TC):(h.push o).IsTuple l xs:=let⟨ob,e,r⟩:=x;⟨ob,RB _ e,r⟩
theorem bb_meets_zip(l1 l2:Ry)(xs ys:Array Rz) :
 Meets (Ur.«zip.__new__» ⟨[.type "zip",.ref l1,.ref l2],[]⟩) (λ_ R s=>s.1.IsTuple l1 xs/\s.1.IsTuple l2 ys /\
  R (.ok (.ret (.ref (tzH4 s.1 l1 l2).objs.size))) {s with heap:=tzH5 s.1 l1 l2}) :=
 .of_wp λprog w A R s h=>by
  obtain⟨hp,g,d,tk,os⟩:=s;obtain⟨yE,yk,h⟩:=h;have yl:=sub_zip;have Np:Heap.IsTuple (Shared.heap ⟨hp,g,d,tk,os⟩) l1 xs:=yE;have Nq:Heap.IsTuple (Shared.heap ⟨hp.push {cls:=.type "tuple_iterator",data:=.fields #[.ref l1,.int 0 0]},g,d,tk,os⟩) l2 ys:=IsTuple.push' yk _
  wp_walk using Vb Np,Vb Nq
  exact⟨_,CA,h⟩
theorem bb_call_zip{xs:Array Rz}(yE:s.1.IsTuple l1 xs)(yk:s.1.IsTuple l2 ys)
 (h:∀h',IsZip h' (s.1.1.size+4) (s.1.1.size+2) (s.1.1.size+3) .none->Uz h' (s.1.1.size+2) (.ref s.1.1.size) (.ref (s.1.1.size+1)) ->
  Uz h' (s.1.1.size+3) .none .none->h'.IsTupleIter s.1.1.size l1 0->h'.IsTupleIter (s.1.1.size+1) l2 0->h'.objs.size=s.1.1.size+5 ->
  (∀c o,s.1.get? c=A? o->h'.get? c=A? o)->Q (.ref (s.1.1.size+4)) {s with heap:=h'}) :
 RQ (R7 prog w) A (call (.type "zip") [.ref l1,.ref l2]) Q E s:=by
 refine callType_new F.called_zip (by decide) (F.typeCall_zip_2 _ _) (F.newCall_zip_2 _ _) (λobj=>F.args_object_init_3 obj _ _) F.entry_zip_new
  (bb_meets_zip l1 l2 xs ys) ⟨yE,yk,?_⟩
 have z1:(tzH1 s.1 l1).objs.size=s.1.1.size+1:=SV ..;have z2:(tzH2 s.1 l1 l2).objs.size=s.1.1.size+2:=by rw[SV,z1]
 have z3:(tzH3 s.1 l1 l2).objs.size=s.1.1.size+3:=by rw[SV,z2]
 have z4:(tzH4 s.1 l1 l2).objs.size=s.1.1.size+4:=by rw[SV,z3]
 have z5:(tzH5 s.1 l1 l2).objs.size=s.1.1.size+5:=by rw[SV,z4]
 have g5:(tzH5 s.1 l1 l2).get? (tzH4 s.1 l1 l2).objs.size=A? _:=RJ _ rfl;have g4:(tzH5 s.1 l1 l2).get? (tzH3 s.1 l1 l2).objs.size=A? _:=RB _ (RJ _ rfl);have g3:(tzH5 s.1 l1 l2).get? (tzH2 s.1 l1 l2).objs.size=A? _:=RB _ (RB _ (RJ _ rfl));have g2:(tzH5 s.1 l1 l2).get? (tzH1 s.1 l1).objs.size=A? _:=RB _ (RB _ (RB _ (RJ _ rfl)));have g1:(tzH5 s.1 l1 l2).get? s.1.1.size=A? _:=RB _ (RB _ (RB _ (RB _ (RJ _ rfl))));show _/\_;rw[z2,z3,z4]at g5;rw[z1,z2]at g3;rw[z3]at g4;rw[z1]at g2;rw[z4]
 exact⟨⟨_,g5,CA⟩,h _ g5 g3 g4 ⟨_,g1,CA,CA⟩ ⟨_,g2,CA,CA⟩ z5 λc o x =>
  RB _ (RB _ (RB _ (RB _ (RB _ x))))⟩
structure ZSt(xs ys:Array Rz)(z TI TO i1 i2 l1 l2:Ry)(k:Nat)(h:SM):Prop where
 ap:ZipApart z TI TO i1 i2 l1 l2
 zip:IsZip h z TI TO .none\/∃(T:Ry)(b:Bool)(x y:Rz),h.get? z=A? {cls:=.type "zip",data:=.fields #[Ud T,.bool b,.bool C?,.ref TI,.ref TO]}/\Uz h T x y/\T≠TO
 hTI:Uz h TI (.ref i1) (.ref i2)
 hTO:∃a b,Uz h TO a b
 h1:h.IsTupleIter i1 l1 k
 h2:h.IsTupleIter i2 l2 k
 t1:h.IsTuple l1 xs
 t2:h.IsTuple l2 ys
theorem ZSt.typeIs{xs:Array Rz}{TI TO:Ry}{k:Nat}(x:ZSt xs ys z TI TO i1 i2 l1 l2 k s.1):s.TypeIs (.ref z) "zip":=by
 rcases x.zip with e|⟨T,b,u,v,e,_⟩
 .exact⟨_,e,CA⟩
 .exact⟨_,e,CA⟩
theorem IsTuple.but{l:Ry}{xs:Array Rz}(x:h.IsTuple l xs)(e:XW c h h')(n:l≠c):h'.IsTuple l xs:=let⟨ob,q,r⟩:=x;⟨ob,e _ _ n q,r⟩
theorem IsTupleIter.but{i l:Ry}{k:Nat}(x:h.IsTupleIter i l k)(e:XW c h h')(n:i≠c):h'.IsTupleIter i l k:=let⟨ob,q,r⟩:=x;⟨ob,e _ _ n q,r⟩
theorem ZSt.frame{xs:Array Rz}{TI TO:Ry}{k:Nat}(x:ZSt xs ys z TI TO i1 i2 l1 l2 k h)
 (e:∀b o,o.cls≠.type "list"->h.get? b=A? o->h'.get? b=A? o):ZSt xs ys z TI TO i1 i2 l1 l2 k h':=by
 obtain⟨D,hz,hTI,⟨a,b,hTO⟩,⟨o1,a1,a2,a3⟩,⟨o2,b1,b2,b3⟩,⟨o3,c1,c2,c3⟩,⟨o4,d1,d2,d3⟩⟩:=x;refine⟨D,?_,e _ _ (by simp) hTI,⟨a,b,e _ _ (by simp) hTO⟩,⟨o1,e _ _ (by rw[a2];simp) a1,a2,a3⟩,⟨o2,e _ _ (by rw[b2];simp) b1,b2,b3⟩,⟨o3,e _ _ (by rw[c2];simp) c1,c2,c3⟩,⟨o4,e _ _ (by rw[d2];simp) d1,d2,d3⟩⟩;rcases hz with g|⟨T,b,u,v,g,g2,g3⟩
 .exact .inl (e _ _ (by simp) g)
 .exact .inr ⟨T,b,u,v,e _ _ (by simp) g,e _ _ (by simp) g2,g3⟩
open Sem (wp)
theorem bb_zip_itemA{TI TO:Ry}{k:Nat}{xs:Array Rz}{x y a b:Rz}(D:ZipApart z TI TO i1 i2 l1 l2)
 (hz:IsZip s.1 z TI TO .none) (hTI:Uz s.1 TI (.ref i1) (.ref i2)) (hTO:Uz s.1 TO a b)
 (h1:s.1.IsTupleIter i1 l1 k) (h2:s.1.IsTupleIter i2 l2 k) (yE:s.1.IsTuple l1 xs) (yk:s.1.IsTuple l2 ys) (hx:xs[k]?=A? x) (hy:ys[k]?=A? y)
 (hQ:∀h',IsZip h' z TI TO (Ud s.1.1.size)->Uz h' TO x y->h'.IsTupleIter i1 l1 (k+1)->h'.IsTupleIter i2 l2 (k+1)->Uz h' s.1.1.size x y->h'.objs.size=s.1.1.size+1 ->
  (∀c o,c≠z->c≠TO->c≠i1->c≠i2->s.1.get? c=A? o->h'.get? c=A? o)->Q (.ref s.1.1.size) {s with heap:=h'}) :
 RQ (R7 prog w) A (Ur.«zip.__next__» ⟨[.ref z],[]⟩) (λfin s'=>∃v,fin=.done (.ret v)/\Q v s') E s:=by
 show RQ _ _ (field (.ref z) 2 >>= _) _ _ _;refine Rv (Sy hz rfl (x:=.bool C?) rfl ?_);show RQ _ _ (field (.ref z) 3 >>= _) _ _ _;refine Rv (Sy hz rfl (x:=.ref TI) rfl ?_);refine Rv (Tc hTI rfl ?_);show RQ _ _ (SG (.ref z) >>= _) _ _ _;refine Rv ?_;unfold SG;refine Rv (Sy hz rfl (x:=.none) rfl (RD ?_));simp only[if_true];refine Rv (V7 ?_);refine Rv (Sy hz rfl (x:=.ref TO) rfl ?_);refine Rv (T8 hz (by simp) λxh xG w9=>?_);replace xG:IsZip xh z TI TO .ellipsis:=xG;refine Rv ?_;simp only[List.zipIdx_cons,List.zipIdx_nil,Vs,Xf];refine Rv (Rv (W3 ?_));show RQ _ _ (Sw (.ref i1) >>= _) _ _ _;refine Rv (bb_tupNext (IsTupleIter.but h1 w9.extBut D.i1z) (IsTuple.but yE w9.extBut D.l1z) hx λxR y8 xa=>RD ?_);have ym:Uz xR TO a b:=xa.extBut _ _ D.TOi1 (w9.extBut _ _ D.TOz hTO);refine Rv (Tc ym rfl ?_);refine Rv (XA ym λyZ yM xD=>?_);replace yM:Uz yZ TO x b:=yM;refine Rv (UH (RD ?_));refine Rv (Rv (W3 ?_));show RQ _ _ (Sw (.ref i2) >>= _) _ _ _
 refine Rv (bb_tupNext (IsTupleIter.but (IsTupleIter.but (IsTupleIter.but h2 w9.extBut D.i2z) xa.extBut D.i12.symm) xD.extBut D.TOi2.symm)
  (IsTuple.but (IsTuple.but (IsTuple.but yk w9.extBut D.l2z) xa.extBut D.l2i1) xD.extBut D.l2TO) hy λxI AI xy=>RD ?_)
 have AJ:Uz xI TO x b:=xy.extBut _ _ D.TOi2 yM;refine Rv (Tc AJ rfl ?_);refine Rv (XA AJ λxJ yN ya=>?_);replace yN:Uz xJ TO x y:=yN;refine Rv (UH (RD (RD ?_)));refine Rv (Tc yN rfl ?_);refine Rv (wpAny_newTuple ?_);have hsz:xJ.objs.size=s.1.1.size:=by rw[ya.1,xy.1,xD.1,xa.1,w9.1]
 have B8:IsZip xJ z TI TO .ellipsis:=ya.extBut _ _ D.TOz.symm (xy.extBut _ _ D.i2z.symm (xD.extBut _ _ D.TOz.symm (xa.extBut _ _ D.i1z.symm xG)))
 have EK:∀c o,c≠z->c≠TO->c≠i1->c≠i2->s.1.get? c=A? o->xJ.get? c=A? o:=λc o c1 c2 c3 c4 e =>
  ya.extBut _ _ c2 (xy.extBut _ _ c4 (xD.extBut _ _ c2 (xa.extBut _ _ c3 (w9.extBut _ _ c1 e))))
 have EL:xJ.IsTupleIter i1 l1 (k+1):=IsTupleIter.but (IsTupleIter.but (IsTupleIter.but y8 xD.extBut D.TOi1.symm) xy.extBut D.i12) ya.extBut D.TOi1.symm;have EM:xJ.IsTupleIter i2 l2 (k+1):=IsTupleIter.but AI ya.extBut D.TOi2.symm;have EN:z<xJ.objs.size:=RY B8;show RQ _ _ (Builtin.SmallTypes.ownedTupleHandOut (.ref z) (.ref xJ.objs.size) >>= _) _ _ _;refine Rv ?_;unfold Builtin.SmallTypes.ownedTupleHandOut;have EO:IsZip (xJ.push {cls:=.type "tuple",data:=.seq #[x,y]}) z TI TO .ellipsis:=RB _ B8;refine Rv (T8 EO (by simp) λIr AK AL=>?_);replace AK:IsZip Ir z TI TO (Ud xJ.objs.size):=AK;refine T8 AK (by simp) λAM zN AN=>?_;replace zN:IsZip AM z TI TO (Ud xJ.objs.size):=zN;have up:∀c o,c≠z->xJ.get? c=A? o->AM.get? c=A? o:=λc o c1 e=>AN.extBut _ _ c1 (AL.extBut _ _ c1 (RB _ e));have B9:Uz AM xJ.objs.size x y:=AN.extBut _ _ (US EN) (AL.extBut _ _ (US EN) (RJ _ rfl));have K8:AM.objs.size=xJ.objs.size+1:=by rw[AN.1,AL.1,SV]
 rw[hsz]at zN B9 K8;refine RD ⟨_,rfl,?_⟩;show Q (.ref xJ.objs.size) _;rw[hsz];refine hQ AM zN (up _ _ D.TOz yN) ?_ ?_ B9 K8 λc o c1 c2 c3 c4 e=>up c o c1 (EK c o c1 c2 c3 c4 e)
 .obtain⟨o,e,r⟩:=EL;exact⟨o,up _ o D.i1z e,r⟩
 .obtain⟨o,e,r⟩:=EM;exact⟨o,up _ o D.i2z e,r⟩
theorem bb_loadIfAlive{o:TC}{Q:Option TC->RE->Prop}(hQ:∀u,A? o=A? u->Q (A? u) s)(h:s.1.get? a=A? o):RQ (R7 prog w) A (loadIfAlive a) Q E s:=by
 intro Γ p QT;show Sem.wp _ _ (.loadIfAlive a .pure) _ _ _ _;rw[Sem.wp_loadIfAlive,h];exact hQ o rfl
theorem bb_notfree{T:Ry}{b:Bool}{f2 TI TO v:Rz}(hz:s.1.get? z=A? {cls:=.type "zip",data:=.fields #[Ud T,.bool b,f2,TI,TO]})(hT:Uz s.1 T u v) :
 RQ (R7 prog w) A (SG (.ref z)) (λa s1=>a=C?/\∃xh,s1={s with heap:=xh}/\xh.get? z=A? {cls:=.type "zip",data:=.fields #[Ud T,.bool Bz,f2,TI,TO]}/\S0 z s.1 xh) E s:=by
 unfold SG;refine Rv (Sy hz rfl (x:=Ud T) rfl ?_);show RQ _ _ (loadIfAlive (T:Int).toNat >>= _) _ _ _;rw[RU];refine Rv (bb_loadIfAlive (λo(e:A? _=A? o)=>?_) hT);cases e;show RQ _ _ (if(A? _:Option TC).isNone=Bz then _ else _) _ _ _;rw[Za (show¬((A? _:Option TC).isNone=Bz)from R0)];refine Rv (Sy hz rfl (x:=.bool b) rfl ?_);cases b with
 |true=>exact RD ⟨rfl,s.1,rfl,hz,rfl,λ_ _=>rfl⟩
 |false=>exact Rv (T8 hz (by simp) λxh xG w9=>RD ⟨rfl,xh,rfl,xG,w9⟩)
theorem bb_zip_itemB{TI TO T:Ry}{k:Nat}{xs:Array Rz}{x y v:Rz}{b:Bool}(D:ZipApart z TI TO i1 i2 l1 l2)
 (hz:s.1.get? z=A? {cls:=.type "zip",data:=.fields #[Ud T,.bool b,.bool C?,.ref TI,.ref TO]}) (hT:Uz s.1 T u v) (hTI:Uz s.1 TI (.ref i1) (.ref i2))
 (h1:s.1.IsTupleIter i1 l1 k) (h2:s.1.IsTupleIter i2 l2 k) (yE:s.1.IsTuple l1 xs) (yk:s.1.IsTuple l2 ys) (hx:xs[k]?=A? x) (hy:ys[k]?=A? y)
 (hQ:∀h',h'.get? z=A? {cls:=.type "zip",data:=.fields #[Ud T,.bool Bz,.bool C?,.ref TI,.ref TO]}->h'.IsTupleIter i1 l1 (k+1)->h'.IsTupleIter i2 l2 (k+1)->Uz h' s.1.1.size x y->h'.objs.size=s.1.1.size+1 ->
  (∀c o,c≠z->c≠i1->c≠i2->s.1.get? c=A? o->h'.get? c=A? o)->Q (.ref s.1.1.size) {s with heap:=h'}) :
 RQ (R7 prog w) A (Ur.«zip.__next__» ⟨[.ref z],[]⟩) (λfin s'=>∃v,fin=.done (.ret v)/\Q v s') E s:=by
 show RQ _ _ (field (.ref z) 2 >>= _) _ _ _;refine Rv (Sy hz rfl (x:=.bool C?) rfl ?_);show RQ _ _ (field (.ref z) 3 >>= _) _ _ _;refine Rv (Sy hz rfl (x:=.ref TI) rfl ?_);refine Rv (Tc hTI rfl ?_);show RQ _ _ (SG (.ref z) >>= _) _ _ _;refine Rv (Tq (bb_notfree hz hT) (λa s1⟨e1,xh,e2,xG,w9⟩=>?_) λ_ _ x=>x);subst e1 e2;simp only[Uq,if_false];rw[<-Array.forIn_toList];refine Rv ?_;simp only[Vs,Xf];refine Rv (Rv (SN ?_));show RQ _ _ (Sw (.ref i1) >>= _) _ _ _;refine Rv (bb_tupNext (IsTupleIter.but h1 w9.extBut D.i1z) (IsTuple.but yE w9.extBut D.l1z) hx λxR y8 xa=>RD (RD ?_));refine Rv (Rv (SN ?_));show RQ _ _ (Sw (.ref i2) >>= _) _ _ _;refine Rv (bb_tupNext (IsTupleIter.but (IsTupleIter.but h2 w9.extBut D.i2z) xa.extBut D.i12.symm) (IsTuple.but (IsTuple.but yk w9.extBut D.l2z) xa.extBut D.l2i1) hy λxI AI xy=>RD (RD (RD ?_)));refine Rv (wpAny_newTuple (hsz:=by show 2<=RZ;decide) (RD ⟨_,rfl,?_⟩));have hsz:xI.objs.size=s.1.1.size:=by rw[xy.1,xa.1,w9.1]
 show Q (.ref xI.objs.size) {s with heap:=xI.push {cls:=.type "tuple",data:=.seq #[x,y]}};have Ca:Uz (xI.push {cls:=.type "tuple",data:=.seq #[x,y]}) xI.objs.size x y:=RJ _ rfl;have Cb:(xI.push {cls:=.type "tuple",data:=.seq #[x,y]}).objs.size=xI.objs.size+1:=SV ..;have ER:=IsTupleIter.but y8 xy.extBut D.i12;rw[hsz]at Ca Cb;rw[hsz];refine hQ _ (RB _ (xy.extBut _ _ D.i2z.symm (xa.extBut _ _ D.i1z.symm xG))) ?_ ?_ Ca Cb λc o c1 c3 c4 e=>RB _ (xy.extBut _ _ c4 (xa.extBut _ _ c3 (w9.extBut _ _ c1 e)))
 .obtain⟨o,e,r⟩:=ER;exact⟨o,RB _ e,r⟩
 .obtain⟨o,e,r⟩:=AI;exact⟨o,RB _ e,r⟩
theorem bb_zip_end{TI TO:Ry}{k:Nat}{xs:Array Rz}{Q:Fin->RE->Prop}(hh:A.handled=B?)
 (S:ZSt xs ys z TI TO i1 i2 l1 l2 k s.1) (Ac:xs[k]?=B?\/ys[k]?=B?)
 (hE:∀h' e,(∀c o,c≠z->c≠TO->c≠i1->c≠i2->s.1.get? c=A? o->h'.get? c=A? o)->(∃o,h'.get? e=A? o/\o.cls=.type "StopIteration")->E (.ref e) {s with heap:=h'}) :
 RQ (R7 prog w) A (Ur.«zip.__next__» ⟨[.ref z],[]⟩) Q E s:=by
 obtain⟨D,hz,hTI,⟨a,b,hTO⟩,h1,h2,yE,yk⟩:=S;rcases hz with hz|⟨T,bb,u,v,hz,hT,K9⟩
 .show RQ _ _ (field (.ref z) 2 >>= _) _ _ _;refine Rv (Sy hz rfl (x:=.bool C?) rfl ?_);show RQ _ _ (field (.ref z) 3 >>= _) _ _ _;refine Rv (Sy hz rfl (x:=.ref TI) rfl ?_);refine Rv (Tc hTI rfl ?_);show RQ _ _ (SG (.ref z) >>= _) _ _ _;refine Rv ?_;unfold SG;refine Rv (Sy hz rfl (x:=.none) rfl (RD ?_));simp only[if_true];refine Rv (V7 ?_);refine Rv (Sy hz rfl (x:=.ref TO) rfl ?_);refine Rv (T8 hz (by simp) λxh xG w9=>?_);replace xG:IsZip xh z TI TO .ellipsis:=xG;refine Rv ?_;simp only[List.zipIdx_cons,List.zipIdx_nil,Vs,Xf];refine Rv (Rv (W3 ?_));show RQ _ _ (Sw (.ref i1) >>= _) _ _ _;cases hx:xs[k]? with
  | none =>
    refine Rv (bb_tupEnd hh (IsTupleIter.but h1 w9.extBut D.i1z) (IsTuple.but yE w9.extBut D.l1z) hx λxR e xa he=>?_);obtain⟨oe,Bn,CJ⟩:=he;have Cc:IsZip xR z TI TO .ellipsis:=xa _ _ D.i1z.symm xG;have Iu:e≠z:=λx=>by subst x;rw[Cc]at Bn;cases Bn;simp at CJ
    refine T8 Cc (by simp) λyZ _ xD=>hE yZ e (λc o c1 _ c3 _ x=>xD.extBut _ _ c1 (xa _ _ c3 (w9.extBut _ _ c1 x))) ⟨oe,xD.extBut _ _ Iu Bn,CJ⟩
  | some x =>
    have hy:ys[k]?=none:=by rcases Ac with h|h;rw[hx]at h;cases h;exact h
    refine Rv (bb_tupNext (IsTupleIter.but h1 w9.extBut D.i1z) (IsTuple.but yE w9.extBut D.l1z) hx λxR y8 xa=>RD ?_);have ym:Uz xR TO a b:=xa.extBut _ _ D.TOi1 (w9.extBut _ _ D.TOz hTO);refine Rv (Tc ym rfl ?_);refine Rv (XA ym λyZ yM xD=>?_);refine Rv (UH (RD ?_));refine Rv (Rv (W3 ?_));show RQ _ _ (Sw (.ref i2) >>= _) _ _ _
    refine Rv (bb_tupEnd hh (IsTupleIter.but (IsTupleIter.but (IsTupleIter.but h2 w9.extBut D.i2z) xa.extBut D.i12.symm) xD.extBut D.TOi2.symm)
     (IsTuple.but (IsTuple.but (IsTuple.but yk w9.extBut D.l2z) xa.extBut D.l2i1) xD.extBut D.l2TO) hy λxI e xy he=>?_)
    obtain⟨oe,Bn,CJ⟩:=he;have Cd:IsZip xI z TI TO .ellipsis:=xy _ _ D.i2z.symm (xD.extBut _ _ D.TOz.symm (xa.extBut _ _ D.i1z.symm xG));have Iu:e≠z:=λx=>by subst x;rw[Cd]at Bn;cases Bn;simp at CJ
    refine T8 Cd (by simp) λxJ _ ya=>hE xJ e (λc o c1 c2 c3 c4 x=>ya.extBut _ _ c1 (xy _ _ c4 (xD.extBut _ _ c2 (xa.extBut _ _ c3 (w9.extBut _ _ c1 x))))) ⟨oe,ya.extBut _ _ Iu Bn,CJ⟩
 .show RQ _ _ (field (.ref z) 2 >>= _) _ _ _;refine Rv (Sy hz rfl (x:=.bool C?) rfl ?_);show RQ _ _ (field (.ref z) 3 >>= _) _ _ _;refine Rv (Sy hz rfl (x:=.ref TI) rfl ?_);refine Rv (Tc hTI rfl ?_);show RQ _ _ (SG (.ref z) >>= _) _ _ _;refine Rv (Tq (bb_notfree hz hT) (λa s1⟨e1,xh,e2,xG,w9⟩=>?_) λ_ _ x=>x);subst e1 e2;simp only[Uq,if_false];rw[<-Array.forIn_toList];refine Rv ?_;simp only[Vs,Xf];refine Rv (Rv (SN ?_));show RQ _ _ (Sw (.ref i1) >>= _) _ _ _;cases hx:xs[k]? with
  | none =>
    refine Rv (bb_tupEnd hh (IsTupleIter.but h1 w9.extBut D.i1z) (IsTuple.but yE w9.extBut D.l1z) hx λxR e xa he=>?_);exact hE xR e (λc o c1 _ c3 _ x=>xa _ _ c3 (w9.extBut _ _ c1 x)) he
  | some x =>
    have hy:ys[k]?=none:=by rcases Ac with h|h;rw[hx]at h;cases h;exact h
    refine Rv (bb_tupNext (IsTupleIter.but h1 w9.extBut D.i1z) (IsTuple.but yE w9.extBut D.l1z) hx λxR y8 xa=>RD (RD ?_));refine Rv (Rv (SN ?_));show RQ _ _ (Sw (.ref i2) >>= _) _ _ _;refine Rv (bb_tupEnd hh (IsTupleIter.but (IsTupleIter.but h2 w9.extBut D.i2z) xa.extBut D.i12.symm) (IsTuple.but (IsTuple.but yk w9.extBut D.l2z) xa.extBut D.l2i1) hy λxI e xy he=>?_);exact hE xI e (λc o c1 _ c3 c4 x=>xy _ _ c4 (xa.extBut _ _ c3 (w9.extBut _ _ c1 x))) he
theorem bb_zip_next{TI TO:Ry}{k:Nat}{xs:Array Rz}{x y:Rz}{Q:Option Rz->RE->Prop}(S:ZSt xs ys z TI TO i1 i2 l1 l2 k s.1)(hx:xs[k]?=A? x)(hy:ys[k]?=A? y)
 (hQ:∀h',ZSt xs ys z TI TO i1 i2 l1 l2 (k+1) h'->Uz h' s.1.1.size x y->h'.objs.size=s.1.1.size+1 ->
  (∀c o,c∉[z,TO,i1,i2]->s.1.get? c=A? o->h'.get? c=A? o)->Q (A? (.ref s.1.1.size)) {s with heap:=h'}) :
 RQ (R7 prog w) A (UZ (.ref z)) Q E s:=by
 have hT:=S.typeIs;obtain⟨D,hz,hTI,⟨a,b,hTO⟩,h1,h2,yE,yk⟩:=S;have n1:s.1.1.size≠TO:=US (RY hTO);unfold UZ;refine Rv (Wd (SF (name:=RF "__next__") hT Wt (SI Wt hT F.entry_zip_next ?_ (F.args_zip_next_1 _))));rcases hz with hz|⟨T,bb,u,v,hz,Ca,K9⟩
 .refine bb_zip_itemA D hz hTI hTO h1 h2 yE yk hx hy λh' a1 a2 a3 a4 a5 a6 a7=>RD ?_;refine hQ h' ⟨D,.inr ⟨_,_,_,_,a1,a5,n1⟩,a7 _ _ D.TIz D.TITO D.TIi1 D.TIi2 hTI,⟨_,_,a2⟩,a3,a4,?_,?_⟩ a5 a6 λc o hc e=>a7 c o (λq=>hc (by simp[q])) (λq=>hc (by simp[q])) (λq=>hc (by simp[q])) (λq=>hc (by simp[q])) e
  .obtain⟨o,e,r⟩:=yE;exact⟨o,a7 _ _ D.l1z D.l1TO D.l1i1 D.l1i2 e,r⟩
  .obtain⟨o,e,r⟩:=yk;exact⟨o,a7 _ _ D.l2z D.l2TO D.l2i1 D.l2i2 e,r⟩
 .refine bb_zip_itemB D hz Ca hTI h1 h2 yE yk hx hy λh' a1 a3 a4 a5 a6 a7=>RD ?_;have Nr:T≠z:=by rintro rfl;exact Yd (Tw (Zd Obj.cls (RN (hz.symm.trans Ca)))) (by decide)
  have Iv:T≠i1:=by rintro rfl;obtain⟨o,e,c,_⟩:=h1;have e2:=RN (Ca.symm.trans e);rw[<-e2]at c;exact Yd (Tw c) (by decide)
  have Iw:T≠i2:=by rintro rfl;obtain⟨o,e,c,_⟩:=h2;have e2:=RN (Ca.symm.trans e);rw[<-e2]at c;exact Yd (Tw c) (by decide)
  refine hQ h' ⟨D,.inr ⟨T,Bz,u,v,a1,a7 _ _ Nr Iv Iw Ca,K9⟩,a7 _ _ D.TIz D.TIi1 D.TIi2 hTI,⟨a,b,a7 _ _ D.TOz D.TOi1 D.TOi2 hTO⟩,a3,a4,?_,?_⟩ a5 a6 λc o hc e=>a7 c o (λq=>hc (by simp[q])) (λq=>hc (by simp[q])) (λq=>hc (by simp[q])) e
  .obtain⟨o,e,r⟩:=yE;exact⟨o,a7 _ _ D.l1z D.l1i1 D.l1i2 e,r⟩
  .obtain⟨o,e,r⟩:=yk;exact⟨o,a7 _ _ D.l2z D.l2i1 D.l2i2 e,r⟩
theorem bb_zip_done{TI TO:Ry}{k:Nat}{xs:Array Rz}{Q:Option Rz->RE->Prop}(hh:A.handled=B?)(S:ZSt xs ys z TI TO i1 i2 l1 l2 k s.1)(Ac:xs[k]?=B?\/ys[k]?=B?)
 (hQ:∀h',(∀c o,c∉[z,TO,i1,i2]->s.1.get? c=A? o->h'.get? c=A? o)->Q B? {s with heap:=h'}):RQ (R7 prog w) A (UZ (.ref z)) Q E s:=by
 have hT:=S.typeIs;unfold UZ
 refine Rv (Wd (SF (name:=RF "__next__") hT Wt
  (SI Wt hT F.entry_zip_next (bb_zip_end hh S Ac λh' e hk he=>?_) (F.args_zip_next_1 _))))
 obtain⟨o,ho,hc⟩:=he;refine Rv (W8 (T:="StopIteration") (b:=Bz) ⟨o,ho,hc⟩ isSubtype_stop ?_);exact RD (hQ _ λc o hc=>hk c o (λq=>hc (by simp[q])) (λq=>hc (by simp[q])) (λq=>hc (by simp[q])) (λq=>hc (by simp[q])))
theorem bb_zip_iter{TI TO:Ry}{k:Nat}{xs:Array Rz}(S:ZSt xs ys z TI TO i1 i2 l1 l2 k s.1)(h:Q (.ref z) s):RQ (R7 prog w) A (pyIter (.ref z)) Q E s:=by
 have hT:=S.typeIs;refine VR hT F.slot_zip_iter (SI F.slot_zip_iter hT F.entry_zip_iter ?_ (F.args_zip_iter_1 _));show RQ _ _ (ret (.ref z)) _ _ s;exact RD ⟨_,rfl,"zip",_,hT,Wt.lookup,h⟩
open Sem (wp)
namespace F
theorem bb_nolen_zip:typeLookup (.type "zip") "__len__"=pure none:=by rw[typeLookup_type,builtinLookup_eq_fast];kernel_rfl
theorem bb_nohint_zip:typeLookup (.type "zip") "__length_hint__"=pure none:=by rw[typeLookup_type,builtinLookup_eq_fast];kernel_rfl
end F
def ZIt(xs ys:Array Rz)(n0:Nat)(h:SM)(acc:Array Rz)(k:Nat):Prop:=acc.size=k/\∀(j:Nat)(v:Rz),acc[j]?=A? v->∃(T:Ry)(x y:Rz),v=Sg T/\n0<=T/\Uz h T x y/\xs[j]?=A? x/\ys[j]?=A? y
theorem bb_zip_loop{TI TO S:Ry}{xs:Array Rz}{n0:Nat}(hh:A.in1.handled=B?)(hn:n=min xs.size ys.size)(hz:n<=RZ)(K':S∉[z,TO,i1,i2])(hf:∀c∈[z,TO,i1,i2],c<n0)(res:Rz) :
 ∀(k i:Nat)(s:RE)(acc:Array Rz)(c:Nat),n - i=k->i<=n->ZSt xs ys z TI TO i1 i2 l1 l2 i s.1->n0<=s.1.1.size->s.1.get? S=A? {cls:=.type "list",dict:=B?,data:=.seq acc c,slots:=#[]}->ZIt xs ys n0 s.1 acc i ->
 (∀h' xZ c',(∀b o,b≠S->b∉[z,TO,i1,i2]->s.1.get? b=A? o->h'.get? b=A? o)->h'.get? S=A? {cls:=.type "list",dict:=B?,data:=.seq xZ c',slots:=#[]}->ZIt xs ys n0 h' xZ n->R (.ok (.ret res)) {s with heap:=h'}) ->
 UW (R7 prog w) A (.builtin "list.extend.loop" ⟨[.ref S,.ref z,res],[]⟩) R s:=by
 intro k;have Ce:∀{T:Ry},n0<=T->T∉[z,TO,i1,i2]:=λh m=>Yd (hf _ m) (Wk.mpr h);induction k with
 | zero =>
   intro i s acc c hk hi xB h0 hS xr hR;have xY:i=n:=by lia
   subst xY;refine UC Wx ?_;rw[Ug TL _];show RQ _ A.in1 (UZ (.ref z) >>= _) _ _ s
   have Ac:xs[i]?=B?\/ys[i]?=none:=by
    rcases Nat.le_total xs.size ys.size with h|h
    .exact .inl (VD (by lia))
    .exact .inr (VD (by lia))
   refine Rv (bb_zip_done hh xB Ac λh' xE=>RD ?_);refine hR h' acc c (λb o _ hb e=>xE b o hb e) (xE _ _ K' hS) ⟨xr.1,λj v hv=>?_⟩;obtain⟨T,x,y,e1,e2,e3,e4⟩:=xr.2 j v hv;exact⟨T,x,y,e1,e2,xE _ _ (Ce e2) e3,e4⟩
 | succ k ih =>
   intro i s acc c hk hi xB h0 hS xr hR;have xf:i<n:=by lia
   refine UC Wx ?_;rw[Ug TL _];show RQ _ A.in1 (UZ (.ref z) >>= _) _ _ s;have hx:xs[i]?=A? xs[i]:=Ut (by lia);have hy:ys[i]?=A? ys[i]:=Ut (by lia);refine Rv (bb_zip_next xB hx hy λh' AO hT hsz xE=>?_);have Bo:=xE S _ K' hS;have Iy:S<s.1.1.size:=RY hS;show RQ _ A.in1 (WC S (·.push (.ref s.1.1.size)) >>= _) _ _ _;refine Rv ?_;have zO:∀b o,b≠S->h'.get? b=A? o->(h'.update S (SQ (·.push (Sg s.1.1.size)))).get? b=A? o:=λb o hb e=>(S8 _ _ (Tn hb)).trans e
   refine Tx Bo rfl (RD ⟨UO TL _,ih (i+1) _ (acc.push (.ref s.1.1.size)) _ (by lia) xf (AO.frame λb o ho e=>zO b o (λz=>?_) e) ?_ (SO _ Bo rfl) ?_ λDO xZ c' CK CL AQ=>?_⟩)
    (by rw[xr.1];lia) (by show(acc.push _).size<=RZ+1;rw[Array.size_push,xr.1];lia)
   .rw[z,Bo]at e;cases e;exact ho rfl
   .show n0<=(h'.update S _).objs.size;rw[Wb];lia
   .refine⟨by rw[Array.size_push,xr.1],λj v hv=>?_⟩;rw[Array.getElem?_push]at hv;split at hv
    .rename_i e
     rw[xr.1]at e;cases hv;subst e;exact⟨_,_,_,CA,h0,zO _ _ (US Iy) hT,hx,hy⟩
    .obtain⟨T,x,y,e1,e2,e3,e4⟩:=xr.2 j v hv
     have Nt:T≠S:=by
      rintro rfl;exact Yd (Tw (Zd Obj.cls (RN (e3.symm.trans hS)))) (by decide)
     exact⟨T,x,y,e1,e2,zO _ _ Nt (xE _ _ (Ce e2) e3),e4⟩
   .exact hR DO xZ c' (λb o hb hb2 e=>CK b o hb hb2 (zO b o hb (xE b o hb2 e))) CL AQ
theorem bb_list_zip{TI TO:Ry}{xs:Array Rz}{n0:Nat}(hh:A.in1.in1.handled=B?)(xB:ZSt xs ys z TI TO i1 i2 l1 l2 0 s.1)(hn:n=min xs.size ys.size)(hz:n<=RZ)(h0:n0<=s.1.1.size)(hf:∀c∈[z,TO,i1,i2],c<n0)
 (hQ:∀h' acc c,(∀b o,b∉[z,TO,i1,i2]->s.1.get? b=A? o->h'.get? b=A? o)->h'.get? s.1.1.size=A? {cls:=.type "list",dict:=B?,data:=.seq acc c,slots:=#[]}->ZIt xs ys n0 h' acc n->Q (.ref s.1.1.size) {s with heap:=h'}) :
 RQ (R7 prog w) A (call (.type "list") [.ref z]) Q E s:=by
 have La:s.1.1.size∉[z,TO,i1,i2]:=λhm=>Yd (hf _ hm) (Wk.mpr h0);have ES:s.1.1.size≠z:=λe=>La (by simp[e])
 refine callType_codes (Q₁:=λobj l'=>obj=.ref s.1.1.size/\l'={s with heap:=s.1.push {cls:=.type "list",data:=.seq #[]}}) F.called_list (F.typeCall_list_1 _) F.entry_list_init
  (code_list_new _ ⟨rfl,rfl⟩) λobj l' xh=>?_
 obtain⟨rfl,rfl⟩:=xh;have hS:(s.1.push {cls:=.type "list",data:=.seq #[]}).get? s.1.1.size=A? {cls:=.type "list",data:=.seq #[]}:=RJ _ rfl;refine⟨⟨_,hS,CA⟩,F.args_list_init_2 _ _,?_⟩;show RQ _ A.in1.in1 (do let old <-VZ (.ref s.1.1.size);Builtin.List.listUpdate (.ref s.1.1.size) (λ_=>#[]);letGo old.toList.reverse;Vk (.ref s.1.1.size) (.ref z) .none) _ _ _;refine Rv ?_;unfold VZ;refine Rv (Tc hS rfl (RD ?_));refine Rv (Tx hS rfl ?_);have y9:=SO (SQ (λ_=>(#[]:Array Rz))) hS rfl;refine Rv (UH ?_);have Ad:((s.1.push {cls:=.type "list",data:=.seq #[]}).update s.1.1.size (SQ (λ_=>(#[]:Array Rz)))).objs.size=s.1.1.size+1:=by rw[Wb,SV]
 generalize hH:(s.1.push {cls:=.type "list",data:=.seq #[]}).update s.1.1.size (SQ (λ_=>(#[]:Array Rz)))=H2 at y9 Ad |-
 have old:∀b o,s.1.get? b=A? o->H2.get? b=A? o:=λb o e=>by
  rw[<-hH,S8 _ _ (Tn (Sa (RY e)))];exact RB _ e
 obtain⟨c2,ET⟩:∃c,H2.get? s.1.1.size=A? {cls:=.type "list",data:=.seq #[] c}:=⟨_,y9⟩;have BC:ZSt xs ys z TI TO i1 i2 l1 l2 0 H2:=xB.frame λb o _ e=>old b o e;have EU:({s with heap:=H2}:RE).TypeIs (.ref z) "zip":=BC.typeIs;unfold Vk;refine Rv (VP EU ?_);have h1:VC (.ref s.1.1.size) (.ref z)=false:=by simp[VC,ES]
 have h2:(Vc "zip" == Vc "list")=false:=by decide
 have h3:(Vc "zip" == Vc "tuple")=false:=by decide
 simp only[h1,h2,h3,Bool.or_false,Uq,if_false];refine Rv (bb_zip_iter BC ?_);refine Rv (SN ?_);unfold Builtin.List.listLengthHint;refine Rv (Xp EU F.bb_nolen_zip ?_);show RQ _ _ (specialOf (Sg z) (RF "__length_hint__") >>= _) _ _ _;refine Rv (Xp EU F.bb_nohint_zip ?_);refine RD ?_
 have key:∀(h:SM)(c₁:Nat),ZSt xs ys z TI TO i1 i2 l1 l2 0 h->n0<=h.objs.size->(∀b o,b≠s.1.1.size->H2.get? b=A? o->h.get? b=A? o)->h.get? s.1.1.size=A? {cls:=.type "list",data:=.seq #[] c₁} ->
  UW (R7 prog w) A.in1 (.builtin "list.extend.loop" ⟨[.ref s.1.1.size,.ref z,.none],[]⟩) (wants (λr xM=>r=.none/\Q (.ref s.1.1.size) xM) E) {s with heap:=h}:=by
  intro h c₁ hs Ij hk AR;refine bb_zip_loop hh hn hz La hf .none n 0 _ #[] c₁ rfl (Sn _) hs Ij AR ⟨rfl,λj v e=>by simp at e⟩ λh' xZ c' hm Bo xr=>?_;exact⟨CA,hQ h' xZ c' (λb o hb e=>hm b o (Sa (RY e)) hb (hk b o (Sa (RY e)) (old b o e))) Bo xr⟩
 show RQ _ _ (rule "list.extend.makes-room" >>= λ_=>Builtin.List.listTouch (.ref s.1.1.size) >>= λ_=>again (.builtin "list.extend.loop" ⟨[.ref s.1.1.size,.ref z,.none],[]⟩)) _ _ _;refine Rv (V7 ?_);refine Rv ?_;show RQ _ _ (WC s.1.1.size (·.push .none) >>= λ_=>WC s.1.1.size (·.pop)) _ _ _;refine Rv (Tx ET rfl ?_);have za:=SO (SQ (·.push SY)) ET rfl;refine Tx (hz:=by seq_fits) za rfl ?_;have AS:=SO (SQ (·.pop)) za rfl
 have zO:∀b o,b≠s.1.1.size->H2.get? b=A? o->((H2.update s.1.1.size (SQ (·.push SY))).update s.1.1.size (SQ (·.pop))).get? b=A? o :=
  λb o hb e=>(S8 _ _ (Tn hb)).trans ((S8 _ _ (Tn hb)).trans e)
 refine RD ⟨UO TL _,key _ _ (BC.frame λb o ho e=>zO b o (λq=>?_) e) ?_ zO AS⟩
 .rw[q,ET]at e;cases e;exact ho rfl
 .rw[Wb,Wb];show n0<=H2.objs.size;lia
end PySem
namespace L2
open PySem PySem.Spec PyProof.Rows
theorem Inv.laidAll{X:Cx}(I:Inv X Y σ H s)(k:∀b u,s.1.get? b=A? u->h'.get? b=A? u)
 (old:∀b,b<s.1.1.size->H' b=H b) (new:∀b u,s.1.1.size<=b->H' b=A? u->ObjOk X.prog X.w H' h' b u):Inv X Y σ H' {s with heap:=h',toks:=t'}:=by
 have sm:∀b u,H b=A? u->H' b=A? u:=λb u e=>by rw[old b (I.hok.lt e)];exact e
 refine I.un ⟨λb u q _ _ _=>k b u q,λb u q _ _ _=>⟨u.slots,k b u q⟩,λb u q n _=>by rw[old b (RY q)];exact n,λb u q _=>⟨u,k b u q⟩,λb xs q=>sm _ _ q,λb u xs q=>sm _ _ q,λb ps q=>⟨#[],by rw[sm _ _ q];simp⟩⟩ λb u q=>?_;by_cases hb:b<s.1.1.size
 .rw[old b hb]at q;exact(I.hok b u q).stay (λc v _ e=>k c v e) (λc e=>sm _ _ e) λc xs e=>sm _ _ e
 .exact new b u (Wk.mp hb) q
def jD(H:Hp):List Ry->List (V×V)->Hp
 |t::ts,p::ps=>upd (jD H ts ps) t (.tup [p.1,p.2])
 |_,_=>H
theorem iR:∀{ts:List Ry}{ps:List (V×V)},b∉ts->jD H ts ps b=H b
 | [],_,_=>rfl
 |_::_,[],_=>rfl
 | t::ts,p::ps,h=>by
   rw[jD,ac (λe=>h (by simp[e]))];exact iR λm=>h (RT _ m)
theorem lQ:∀{ts:List Ry}{ps:List (V×V)}{b:Ry}{u:HO},jD H ts ps b=A? u->H b=A? u\/∃(j:Nat)(p:V×V),ts[j]?=A? b/\ps[j]?=A? p/\u=.tup [p.1,p.2]
 | [],_,_,_,h=>.inl h
 |_::_,[],_,_,h=>.inl h
 | t::ts,p::ps,b,u,h=>by
   rw[jD]at h;by_cases e:b=t
   .subst e;rw[ad]at h;exact .inr ⟨0,p,rfl,rfl,(RN h).symm⟩
   .rw[ac e]at h;rcases lQ h with q|⟨j,p',q1,q2,q3⟩
    .exact .inl q
    .exact .inr ⟨j+1,p',by simpa using q1,by simpa using q2,q3⟩
theorem lO{H:Hp}:∀{ts:List Ry}{ps:List (V×V)}{t:Ry},ts.length=ps.length->t∈ts->∃(i:Nat)(p:V×V),ts[i]?=A? t/\ps[i]?=A? p/\jD H ts ps t=A? (.tup [p.1,p.2])
 | [],_,_,_,h=>nomatch h
 |_::_,[],_,hl,_=>by simp at hl
 | u::ts,p::ps,t,hl,h=>by
   by_cases e:t=u
   .subst e;exact⟨0,p,CA,CA,by rw[jD,ad]⟩
   .obtain⟨i,p',q1,q2,q3⟩:=lO (H:=H) (ts:=ts) (ps:=ps) (t:=t) (by simpa using hl) (by
     rcases RR.mp h with h|h
     .exact Yd h e
     .exact h)
    exact⟨i+1,p',by simpa using q1,by simpa using q2,by rw[jD,ac e];exact q3⟩
theorem cM{F:α->β->Prop}:∀{ps:List α}{ts:List β},ps.length=ts.length->(∀(j:Nat)p t,ps[j]?=A? p->ts[j]?=A? t->F p t)->Sb F ps ts
 | [],[],_,_=>.nil
 | [],_::_,h,_=>by simp at h
 |_::_,[],h,_=>by simp at h
 |p::ps,t::ts,h,f=>.cons (f 0 p t rfl rfl) (cM (by simpa using h) λj p' t' e1 e2=>f (j+1) p' t' (by simpa using e1) (by simpa using e2))
theorem n6{P:Nat->Ry->Prop}:∀{vs:List Rz}(n:Nat),(∀(j:Nat)v,vs[j]?=A? v->∃T,v=Sg T/\P (n+j) T)->∃ts:List Ry,vs=ts.map Sg/\∀(j:Nat)T,ts[j]?=A? T->P (n+j) T
 | [],n,_=>⟨[],rfl,λj T h=>by simp at h⟩
 | v::vs,n,h=>by
   obtain⟨T,e1,e2⟩:=h 0 v rfl
   obtain⟨ts,q1,q2⟩:=n6 (P:=P) (vs:=vs) (n+1) λj v' hv=>by
    have:=h (j+1) v' (by simpa using hv);rw[show n+1+j=n+(j+1)by lia];exact this
   refine⟨T::ts,by rw[e1,q1];rfl,λj T' hT=>?_⟩;cases j with
   |zero=>simp at hT;subst hT;exact e2
   | succ j =>
     have:=q2 j T' (by simpa using hT);rw[show n+1+j=n+(j+1)by lia]at this;exact this
theorem uQ{xs:List α}{ys:List β}{p:α×β}(h:(xs.zip ys)[j]?=A? p):xs[j]?=A? p.1/\ys[j]?=A? p.2:=by
 rw[T2]at h;exact h
def qc(K:RH)(t:TA):TE:=λσ H Q=>t σ H λvs H2=>∃a b xs ys,vs=[.ref a,.ref b]/\SqT K H2 a xs/\SqT K H2 b ys /\
 ∀(l:Ry)(ts:List Ry)(H':Hp),Same H2 H'->H2 l=B?->H' l=A? (.lst (ts.map Zf))->Sb (λ(p:V×V)t=>H' t=A? (.tup [p.1,p.2])) (xs.zip ys) ts->Q (.ref l) H'
section
variable{X:Cx}{e1 e2:Su}{t:TA}{p p2 xq:UX}
theorem mB(hc:X.calm=Bz)(g1:Gl X "list")(m1:X.mg "list"=B?)(g2:Gl X "zip")(m2:X.mg "zip"=B?)(ha:PA X [e1,e2] t)
 (h1:Sk [.Call (.Name "zip" p2) [e1,e2] [] xq] X.env=[(C?,TN (.Call (.Name "zip" p2) [e1,e2] [] xq) X.env)]:=by rfl) (h2:Sk [e1,e2] X.env=(C?,TN e1 X.env)::Sk [e2] X.env:=by rfl) (h3:(UP xq (Sk [e2] X.env)).any (·.1)=false:=by rfl) :
 PE X (.Call (.Name "list" p) [.Call (.Name "zip" p2) [e1,e2] [] xq] [] pos) (qc X.K t):=by
 intro Y s σ H Q I h;refine SX (cy I g1 m1 boot_list (SR ?_ h1 rfl));rw[h1];show RQ _ _ (spliced ((C?,TN (.Call (.Name "zip" p2) [e1,e2] [] xq) X.env)::[])) _ _ s;refine TQ ?_;refine SX (cy I g2 m2 boot_zip ?_);refine SR (thn (ha xq Y s σ H _ I h) λus s2⟨vs,H2,I2,r,a,b,xs,ys,ev,Nu,Nv,q⟩=>?_) h2 h3;subst ev;obtain⟨u1,u2,rfl,r1,r2⟩:=vals2 r;cases r1;cases r2;obtain⟨ia,Lb,pa,QU⟩:=I2.tuple Nu;obtain⟨ib,Lc,pb,QV⟩:=I2.tuple Nv;have DQ:=Lb.length;have GI:=Lc.length;have yt:a<s2.1.1.size:=by obtain⟨o,e,_⟩:=pa;exact RY e
 have Ab:b<s2.1.1.size:=by obtain⟨o,e,_⟩:=pb;exact RY e
 have hh:X.A.in1.in1.handled=none:=I2.ok.hd hc;refine bb_call_zip (show s2.1.IsTuple a ia.toArray from pa) (show s2.1.IsTuple b ib.toArray from pb) λh' z1 z2 z3 z4 z5 z6 z7=>Ui ?_;have D:ZipApart (s2.1.1.size+4) (s2.1.1.size+2) (s2.1.1.size+3) s2.1.1.size (s2.1.1.size+1) a b:=zipApart_new yt Ab
 have st:ZSt ia.toArray ib.toArray (s2.1.1.size+4) (s2.1.1.size+2) (s2.1.1.size+3) s2.1.1.size (s2.1.1.size+1) a b 0 h':=by
  refine⟨D,.inl z1,z2,⟨_,_,z3⟩,z4,z5,?_,?_⟩
  .obtain⟨o,e,r⟩:=pa;exact⟨o,z7 _ _ e,r⟩
  .obtain⟨o,e,r⟩:=pb;exact⟨o,z7 _ _ e,r⟩
 have hf:∀c∈[s2.1.1.size+4,s2.1.1.size+3,s2.1.1.size,s2.1.1.size+1],s2.1.1.size<=c/\c<h'.objs.size:=λc hc=>by
  simp at hc;rw[z6];have xP:(c:Nat)=s2.1.1.size+4\/(c:Nat)=s2.1.1.size+3\/(c:Nat)=s2.1.1.size\/(c:Nat)=s2.1.1.size+1:=hc;constructor
  .show(s2.1.1.size:Nat)<=(c:Nat);lia
  .show(c:Nat)<s2.1.1.size+5;lia
 refine bb_list_zip (s:={s2 with heap:=h'}) hh st rfl (by rw[RO,RO];lia) (RI _) (λc hc=>(hf c hc).2) λh2 acc c kp hS xr=>?_;replace hS:h2.get? h'.objs.size=A? {cls:=.type "list",dict:=B?,data:=.seq acc c,slots:=#[]}:=hS;have Nw:∀b o,s2.1.get? b=A? o->h2.get? b=A? o:=λb o e=>kp b o (λm=>Yd (RY e) (Wk.mpr (hf b m).1)) (z7 b o e);obtain⟨hsz,hit⟩:=xr
 obtain⟨ts,et,ht⟩:=n6 (P:=λj T=>h'.objs.size<=T/\∃x y,Uz h2 T x y/\ia.toArray[j]?=A? x/\ib.toArray[j]?=A? y) (vs:=acc.toList) 0 (λj v hv=>by
  obtain⟨T,x,y,g1,g2,g3,g4,g5⟩:=hit j v (by simpa using hv);rw[Nat.zero_add];exact⟨T,g1,g2,x,y,g3,g4,g5⟩)
 simp only[Nat.zero_add]at ht
 have zb:ts.length=(xs.zip ys).length:=by
  have e:=Zd S4 et;rw[Rw,Sd,hsz,RO,RO]at e;rw[V4];lia
 have rel:∀(j:Nat)(p:V×V)(T:Ry),(xs.zip ys)[j]?=A? p->ts[j]?=A? T->∃x y,Uz h2 T x y/\RelV p.1 x/\RelV p.2 y:=λj p T hp hT=>by
  obtain⟨_,x,y,g3,g4,g5⟩:=ht j T hT;obtain⟨yF,xK⟩:=uQ hp;obtain⟨x',k1,k2⟩:=Lb.get yF;obtain⟨y',k3,k4⟩:=Lc.get xK
  have e1:x'=x:=by
   have:ia[j]?=A? x:=by simpa using g4
   rw[k1]at this;exact RN this
  have e2:y'=y:=by
   have:ib[j]?=A? y:=by simpa using g5
   rw[k3]at this;exact RN this
  subst e1 e2;exact⟨_,_,g3,k2,k4⟩
 have same:∀(i j:Nat)(p p':V×V)(T:Ry),(xs.zip ys)[i]?=A? p->(xs.zip ys)[j]?=A? p'->ts[i]?=A? T->ts[j]?=A? T->p=p':=λi j p p' T h1 h2 h3 h4=>by
  obtain⟨x,y,g1,g2,g3⟩:=rel i p T h1 h3;obtain⟨x',y',k1,k2,k3⟩:=rel j p' T h2 h4;have e:=RN (g1.symm.trans k1);have ed:=Zd Obj.data e;injection ed with Nx _;have el:=Zd XZ Nx;have ex:x=x':=(VO el).1;have ey:y=y':=(VO (VO el).2).1;subst ex ey;obtain⟨p1,p2⟩:=p;obtain⟨q1,q2⟩:=p';have f1:p1=q1:=g2.inj k2;have f2:p2=q2:=g3.inj k3;rw[f1,f2]
 have EV:h'.objs.size∉ts:=λm=>by
  obtain⟨j,hj⟩:=List.getElem?_of_mem m;obtain⟨_,x,y,g3,_⟩:=ht j _ hj;exact Yd (Tw (Zd Obj.cls (RN (g3.symm.trans hS)))) (by decide)
 have EW:s2.1.1.size<h'.objs.size:=by rw[z6];lia
 have EX:∀T∈ts,h'.objs.size<=T:=λT m=>by
  obtain⟨j,hj⟩:=List.getElem?_of_mem m;exact(ht j _ hj).1
 have yn:∀b,s2.1.1.size<=b->H2 b=none:=λb hb=>I2.hok.fresh hb;have yk:H2 h'.objs.size=none:=yn _ (TV EW)
 have Ny:∀(j:Nat)(p:V×V)(T:Ry),(xs.zip ys)[j]?=A? p->ts[j]?=A? T->jD H2 ts (xs.zip ys) T=A? (.tup [p.1,p.2]):=λj p T hp hT=>by
  obtain⟨i,p',k1,k2,k3⟩:=lO (H:=H2) zb (Rx hT);rw[k3,same i j p' p T k2 hp k1 hT]
 have I3:Inv X Y σ (upd (jD H2 ts (xs.zip ys)) h'.objs.size (.lst (ts.map Zf))) {s2 with heap:=h2,toks:=s2.toks}:=by
  refine I2.laidAll Nw (λb hb=>?_) λb u hb hu=>?_
  .rw[ac (Sa (Vi hb EW)),iR];exactλm=>Yd (Vi hb EW) (Wk.mpr (EX b m))
  .by_cases e:b=h'.objs.size
   .subst e;rw[ad]at hu;cases hu;refine⟨by rw[Rw,zb,V4];lia,ts.map Sg,c,?_,by rw[<-et];exact hS⟩
    exact cM (by simp) λj p t e1 e2=>by
     rw[RG]at e1 e2;cases q:ts[j]? with
     |none=>rw[q]at e1;cases e1
     |some T=>rw[q]at e1 e2;cases e1;cases e2;rfl
   .rw[ac e]at hu;rcases lQ hu with q|⟨j,p,q1,q2,q3⟩
    .rw[yn b hb]at q;cases q
    .subst q3;obtain⟨x,y,g1,g2,g3⟩:=rel j p b q2 q1;exact⟨by show 2<=RZ;decide,[x,y],0,.cons g2 (.cons g3 .nil),g1⟩
 refine⟨.ref h'.objs.size,_,I3,CA,q h'.objs.size ts _ (λb o e=>?_) yk ad ?_⟩
 .have hb:=I2.hok.lt e;rw[ac (Sa (Vi hb EW)),iR]
  .exact e
  .exactλm=>Yd (Vi hb EW) (Wk.mpr (EX b m))
 .refine cM zb.symm λj p T hp hT=>?_;rw[ac (show T≠h'.objs.size fromλe=>EV (by rw[<-e];exact Rx hT))];exact Ny j p T hp hT
end
section
variable[DecidableEq κ]
def br(kvs:List (κ×V))(k:κ):Option V:=(kvs.find? λkv=>decide (kv.1=k)).map (·.2)
def putK(kvs:List (κ×V))(k:κ)(v:V):List (κ×V) :=
 if(kvs.any λkv=>decide (kv.1=k))=Bz then kvs.map (λkv=>if kv.1=k then(kv.1,v)else kv)else kvs++[(k,v)]
theorem dG{p:κ×V}{r:List (κ×V)}{k:κ}(e:p.1=k):br (p::r) k=A? p.2:=by simp[br,Vt,e]
theorem dD{p:κ×V}{r:List (κ×V)}{k:κ}(e:¬p.1=k):br (p::r) k=br r k:=by simp[br,Vt,e]
theorem lw(k:κ):∀kvs:List (κ×V),(kvs.any λkv=>decide (kv.1=k))=(br kvs k).isSome
 | []=>rfl
 | p::r=>by
   rw[List.any_cons];by_cases e:p.1=k
   .simp only[dG e,Yc e,Bool.true_or,Option.isSome_some]
   .rw[dD e,Zb e,Bool.false_or];exact lw k r
theorem de(kvs:List (κ×V))(k:κ)(v:V):(putK kvs k v).length<=kvs.length+1:=by
 unfold putK;split
 .rw[Rw];lia
 .rw[RK,RV,U4];lia
theorem RelO.isSome_eq{o:Option V}{u:Option Rz}(r:RelO o u):o.isSome=u.isSome:=by
 cases o with
 | none=>cases u with
   |none=>rfl
   |some _=>exact(show False from r).elim
 | some _=>cases u with
   |none=>exact(show False from r).elim
   |some _=>rfl
theorem RelO.getD{o:Option V}{u:Option Rz}{d:V}{d':Rz}(r:RelO o u)(rd:RelV d d'):RelV (o.getD d) (u.getD d'):=by
 cases o with
 | none=>cases u with
   |none=>exact rd
   |some _=>exact(show False from r).elim
 | some _=>cases u with
   |none=>exact(show False from r).elim
   |some _=>exact r
theorem KV.val{kvs:List (κ×V)}(r:KV kvs vs)(k:κ):RelO (br kvs k) (valueAt vs k):=by
 unfold KV at r;induction r with
 |nil=>exact Vu
 | @cons p q ps qs h t ih =>
   obtain⟨h1,h2⟩:=h;by_cases e:p.1=k
   .have e':q.1=k:=h1.symm.trans e;have b:valueAt (q::qs) k=A? q.2:=by simp[valueAt,Vt,e']
    rw[dG e,b];exact h2
   .have e':¬q.1=k:=λz=>e (h1.trans z);have b:valueAt (q::qs) k=valueAt qs k:=by simp[valueAt,Vt,e']
    rw[dD e,b];exact ih
theorem KV.any{kvs:List (κ×V)}(r:KV kvs vs)(k:κ):(kvs.any λkv=>decide (kv.1=k))=vs.any λkv=>decide (kv.1=k):=by
 unfold KV at r;induction r with
 |nil=>rfl
 |cons h t ih=>rw[List.any_cons,List.any_cons,ih,h.1]
theorem KV.repl{kvs:List (κ×V)}(r:KV kvs vs)(k:κ)(ry:RelV y u) :
 KV (kvs.map λkv=>if kv.1=k then(kv.1,y)else kv) (vs.map λkv=>if kv.1=k then(kv.1,u)else kv):=by
 unfold KV at r |-;induction r with
 |nil=>exact .nil
 | @cons p q ps qs h t ih =>
   rw[R6,R6];refine .cons ?_ ih;obtain⟨h1,h2⟩:=h;by_cases e:p.1=k
   .rw[Yb e,Yb (h1.symm.trans e)];exact⟨h1,ry⟩
   .rw[Za e,Za (λz=>e (h1.trans z))];exact⟨h1,h2⟩
theorem KV.put{kvs:List (κ×V)}(r:KV kvs vs)(k:κ)(ry:RelV y u):KV (putK kvs k y) (stored vs k u):=by
 unfold putK stored;rw[r.any k];by_cases e:(vs.any λkv=>decide (kv.1=k))=Bz
 .rw[Yb e,Yb e];exact r.repl k ry
 .rw[Za e,Za e];exact Paired.snoc r ⟨rfl,ry⟩
theorem KV.length{kvs:List (κ×V)}(r:KV kvs vs):kvs.length=vs.length:=R9 r
end
theorem ku{k:Key}(r:RelV (kV k) u):(aQ P w).is k u=true:=by
 cases k with
 |inl i=>obtain⟨t,e⟩:=(show∃t,u=Value.int i t from r);subst e;exact lH P w i t
 |inr x=>obtain⟨t,e⟩:=(show∃t,u=Value.str x t from r);subst e;exact lP P w x t
theorem ko:∀{ks:List Key}{us:List Rz},Vals (ks.map kV) us->ItemsAre (aQ P w) ks us
 | [],_,r=>by rw[T5]at r;cases r;exact .nil
 | k::ks,_,r=>by
   rw[R6]at r;cases r with
   |cons h t=>exact .cons (ku h) (ko t)
abbrev KTd(H:Hp):List (List Key×V)->List (List Key×Ry×Rz)->Prop:=Sb λp q=>p.1=q.1/\H q.2.1=A? (.tup (p.1.map kV))/\RelV p.2 q.2.2
theorem KTd.val{xs:List (List Key×Ry×Rz)}(r:KTd H kvs xs)(k:List Key):RelO (br kvs k) ((XF xs k).map (·.2)):=by
 induction r with
 |nil=>exact Vu
 | @cons p q ps qs h t ih =>
   obtain⟨h1,_,h2⟩:=h;by_cases e:p.1=k
   .have e':q.1=k:=h1.symm.trans e;have b:XF (q::qs) k=A? q.2:=by simp[XF,Vt,e']
    rw[dG e,b];exact h2
   .have e':¬q.1=k:=λz=>e (h1.trans z);have b:XF (q::qs) k=XF qs k:=by simp[XF,Vt,e']
    rw[dD e,b];exact ih
theorem KTd.repl{xs:List (List Key×Ry×Rz)}(r:KTd H kvs xs)(k:List Key)(ry:RelV y u) :
 KTd H (kvs.map λkv=>if kv.1=k then(kv.1,y)else kv) (xs.map (putAt k u)):=by
 induction r with
 |nil=>exact .nil
 | @cons p q ps qs h t ih =>
   rw[R6,R6];refine .cons ?_ ih;obtain⟨h1,h2,h3⟩:=h;unfold putAt;by_cases e:p.1=k
   .rw[Yb e,Yb (h1.symm.trans e)];exact⟨h1,h2,ry⟩
   .rw[Za e,Za (λz=>e (h1.trans z))];exact⟨h1,h2,h3⟩
theorem KTd.put{xs:List (List Key×Ry×Rz)}(r:KTd H kvs xs)(k:List Key)(hb:H b=A? (.tup (k.map kV)))(ry:RelV y u) :
 KTd H (putK kvs k y) (storedH xs k b u):=by
 have e:(kvs.any λkv=>decide (kv.1=k))=(XF xs k).isSome:=by
  rw[lw,(r.val k).isSome_eq,Option.isSome_map]
 unfold putK storedH;rw[e];by_cases q:(XF xs k).isSome=Bz
 .rw[Yb q,Yb q];exact r.repl k ry
 .rw[Za q,Za q];exact Paired.snoc r ⟨rfl,hb,ry⟩
theorem KTd.keeps{xs:List (List Key×Ry×Rz)}(r:KTd H kvs xs)(ht:∀b ys,H b=A? (.tup ys)->H' b=A? (.tup ys)):KTd H' kvs xs :=
 Sb.mapP r λ_ _ z=>⟨z.1,ht _ _ z.2.1,z.2.2⟩
theorem tQ{u:HO}(ok:HOk P w H h)(e:Rd H a u):ObjOk P w H h a u:=e.ok ok
theorem j3{kvs:List (Key×V)}(ok:HOk P w H h)(e:Rd H a (.dK kvs)):kvs.length<=RZ/\(a == Tv)=C?/\∃vs,KV kvs vs/\h.DictOf (aQ P w) a vs :=
 show ObjOk P w H h a (.dK kvs)from tQ ok e
theorem ul{kvs:List (Key×V)}(ok:HOk P w H h)(e:H a=A? (.dK kvs)):kvs.length<=RZ/\(a == Tv)=C?/\∃vs,KV kvs vs/\h.DictOf (aQ P w) a vs:=j3 ok (.inl e)
theorem gE{ks:List Key}(ok:HOk P w H h)(e:H a=A? (.tup (ks.map kV))):(WD (aQ P w)).is h ks a:=by
 obtain⟨_,its,n,r,h1⟩:=(show ObjOk P w H h a (.tup (ks.map kV))from ok a _ e);exact⟨_,its.toArray,n,h1,CA,CA,by simpa using ko r⟩
theorem kq(ok:HOk P w H h)(e:Rd H a (.dT kvs)):kvs.length<=RZ/\(a == Tv)=C? /\
 ∃xs,KTd H kvs xs/\h.DictOfH (WD (aQ P w)) a xs:=by
 obtain⟨z,y,xs,r,o,es,ep,h1,h2,h3,h4,h5⟩:=(show ObjOk P w H h a (.dT kvs)from tQ ok e);refine⟨z,y,xs,r,o,es,ep,h1,h2,h3,h4,λx hx=>?_,h5⟩
 have all:∀{l:List (List Key×V)}{m:List (List Key×Ry×Rz)},KTd H l m->∀x∈m,(WD (aQ P w)).is h x.1 x.2.1:=by
  intro l m q;induction q with
  |nil=>intro x hx;exact nomatch hx
  | @cons p q ps qs hq t ih =>
    intro x hx;rcases RR.mp hx with e|hx
    .subst e;exact gE ok (by rw[<-hq.1];exact hq.2.1)
    .exact ih x hx
 exact all r x hx
theorem oy(ok:HOk P w H h)(e:H a=A? (.dT kvs)):kvs.length<=RZ/\(a == Tv)=C? /\
 ∃xs,KTd H kvs xs/\h.DictOfH (WD (aQ P w)) a xs:=kq ok (.inl e)
def DGet(H:Hp)(a:Ry)(y:V)(r:Option V):Prop :=
 (∃kvs k,Rd H a (.dK kvs)/\y=kV k/\r=br kvs k)\/∃kvs k b,Rd H a (.dT kvs)/\y=.ref b/\H b=A? (.tup (k.map kV))/\r=br kvs k
def DPut(H:Hp)(a:Ry)(y v:V)(H':Hp):Prop :=
 (∃kvs k,H a=A? (.dK kvs)/\y=kV k/\kvs.length<RZ/\H'=upd H a (.dK (putK kvs k v))) \/
 ∃kvs k b,H a=A? (.dT kvs)/\y=.ref b/\H b=A? (.tup (k.map kV))/\kvs.length<RZ/\H'=upd H a (.dT (putK kvs k v))
theorem DGet.k{kvs:List (Key×V)}{k:Key}(e:H a=A? (.dK kvs)):DGet H a (kV k) (br kvs k):=.inl ⟨kvs,k,.inl e,rfl,rfl⟩
theorem DGet.t{k:List Key}(e:H a=A? (.dT kvs))(eb:H b=A? (.tup (k.map kV))):DGet H a (.ref b) (br kvs k):=.inr ⟨kvs,k,b,.inl e,rfl,eb,rfl⟩
theorem DPut.k{kvs:List (Key×V)}{k:Key}(e:H a=A? (.dK kvs))(hl:kvs.length<RZ):DPut H a (kV k) v (upd H a (.dK (putK kvs k v))):=.inl ⟨kvs,k,e,rfl,hl,rfl⟩
theorem DPut.t{k:List Key}(e:H a=A? (.dT kvs))(eb:H b=A? (.tup (k.map kV)))(hl:kvs.length<RZ) :
 DPut H a (.ref b) v (upd H a (.dT (putK kvs k v))):=.inr ⟨kvs,k,b,e,rfl,eb,hl,rfl⟩
section
variable{X:Cx}{r:Rz}{o:Option V}
theorem Inv.big(I:Inv X Y σ H s):Tv<s.1.1.size:=by
 have h:Te<s.1.1.size:=(I.mod.glob.keeps I.bk).lt;exact Vi (by decide) h
theorem pf(hu:A.units+1<Ve)(I:Inv X Y σ H s)(g:DGet H a y (A? v))(ry:RelV y u)(h:∀w' s',Inv X Y σ H s'->RelV v w'->Q w' s') :
 RQ (R7 X.prog X.w) A (VS (.ref a) u) Q E s:=by
 rcases g with⟨kvs,k,e,ey,l⟩|⟨kvs,k,b,e,ey,eb,l⟩
 .subst ey;obtain⟨z,hd,vs,rel,dd⟩:=j3 I.hok e;obtain⟨w',hw,AB⟩:=RelO.some_of (v:=v) (o:=valueAt vs k) (by rw[l];exact rel.val k);exact wpAny_getItem_of (ku ry) dd.mapOf hw (h w' _ (I.tok _) AB)
 .subst ey;cases(show u=Sg b from ry);obtain⟨z,hd,xs,rel,dd⟩:=kq I.hok e;obtain⟨w',hw,AB⟩:=RelO.some_of (v:=v) (o:=(XF xs k).map (·.2)) (by rw[l];exact rel.val k);obtain⟨p,hp,xK⟩:=RW.mp hw;refine wpAny_getItem_heap (VF hu) (gE I.hok eb) dd hp ?_;rw[xK];exact h w' _ (I.tok _) AB
theorem tz(hu:A.units+1<Ve)(I:Inv X Y σ H s)(g:DGet H a y o)(ry:RelV y u)(h:∀s',Inv X Y σ H s'->Q (.bool (!o.isSome)) s') :
 RQ (R7 X.prog X.w) A (UB .NotIn u (.ref a)) Q E s:=by
 rcases g with⟨kvs,k,e,ey,l⟩|⟨kvs,k,b,e,ey,eb,l⟩
 .subst ey;obtain⟨z,hd,vs,rel,dd⟩:=j3 I.hok e;refine wpAny_notIn_of (ku ry) hd dd.mapOf ?_;rw[<-(rel.val k).isSome_eq,<-l];exact h _ (I.tok _)
 .subst ey;cases(show u=Sg b from ry);obtain⟨z,hd,xs,rel,dd⟩:=kq I.hok e;refine wpAny_notIn_heap (VF hu) (gE I.hok eb) hd dd ?_;have q:=(rel.val k).isSome_eq;rw[Option.isSome_map]at q;rw[<-q,<-l];exact h _ (I.tok _)
theorem iz{ob:HO}(I:Inv X Y σ H s)(mu:Mut (H a))(hs:S0 a s.1 h')(he:∃q,h'.get? a=A? q)(new:ObjOk X.prog X.w (upd H a ob) h' a ob) :
 Inv X Y σ (upd H a ob) {s with heap:=h',toks:=t'} :=
 I.write (x:=a) (e:=a) mu (.inl rfl) (λb q hb z=>(hs.2 b hb).trans z) he new
theorem qv{kvs:List (Key×V)}{vs:List (Key×Rz)}(z:kvs.length<=RZ)(hd:(a == Tv)=C?)(rel:KV kvs vs)(dd:h'.DictOf (aQ P w) a vs) :
 ObjOk P w H' h' a (.dK kvs):=⟨z,hd,vs,rel,dd⟩
theorem oX{Q:Unit->RE->Prop}(hu:A.units+1<Ve)(I:Inv X Y σ H s)(g:DPut H a y v H')(ry:RelV y u)(rv:RelV v r)(h:∀s',Inv X Y σ H' s'->Q () s') :
 RQ (R7 X.prog X.w) A (setItem (.ref a) u r) Q E s:=by
 rcases g with⟨kvs,k,e,ey,l,eH⟩|⟨kvs,k,b,e,ey,eb,l,eH⟩
 .subst ey eH;obtain⟨z,hd,vs,rel,dd⟩:=ul I.hok e;have hz:vs.length<=RZ:=by rw[<-rel.length];exact z
  have hl:(putK kvs k v).length<=RZ:=by have:=de kvs k v;lia
  refine wpAny_setItem_pairs (hsz:=hz) (ku ry) dd λh' BH hs=>h _ ?_;have he:∃q,h'.get? a=A? q:=let⟨q,_,_,hq,_⟩:=BH;⟨q,hq⟩
  exact iz I (by rw[e];exact Vu) hs he (qv hl hd (rel.put k rv) BH)
 .subst ey eH;cases(show u=Sg b from ry);obtain⟨z,hd,xs,rel,dd⟩:=oy I.hok e;have hz:xs.length<=RZ:=by rw[<-R9 rel];exact z
  have hl:(putK kvs k v).length<=RZ:=by have:=de kvs k v;lia
  refine wpAny_setItem_heap (hsz:=hz) (VF hu) (gE I.hok eb) dd λh' BH hs=>h _ ?_;obtain⟨q,es,ep,hq,h2,h3,h4,_,h5⟩:=BH;refine iz I (by rw[e];exact Vu) hs ⟨q,hq⟩ ⟨hl,hd,_,(rel.put k eb rv).keeps λc ys ec=>?_,q,es,ep,hq,h2,h3,h4,h5⟩;rw[ac (aC ec e (λz=>nomatch z))];exact ec
end
section
variable{X:Cx}{kvs:List (Key×V)}{k:Key}
end
def wu(i:Su):Prop:=∀ov iv,subscripted i C? ov iv=operate [ov,iv] (VS ov iv)
theorem sK{value slice:Su}{T id:String}
 (hl:typeLookup (.type T) "__getitem__"=pure (A? (.builtin id))) (hs:wu slice)
 (h:RQ (R7 prog w) A (TN value env) (λo l'=>RQ (R7 prog w) A (TN slice env) (λi xM=>xM.TypeIs o T/\RQ (R7 prog w) A (VS o i) Q E xM) E l') E s) :
 RQ (R7 prog w) A (TN (.Subscript value slice pos) env) Q E s:=by
 refine Subscript_ (Tq h (λo l' xh=>Tq xh (λi xM xR=>?_) λ_ _ x=>x) λ_ _ x=>x);obtain⟨hT,xR⟩:=xR;unfold subscriptTail;refine Rv ?_;rw[getitemInPython_of_ne hT.not_modules];refine Rv (Xp hT hl ?_)
 have fin:RQ (R7 prog w) A (subscripted slice C? o i) (λr yJ=>RQ (R7 prog w) A (letTemporaryGo value o r >>= λ_=>pure r) Q E yJ) E xM:=by
  rw[hs o i];exact wpAny_operating (Tq xR (λr yJ yZ=>Rv (wpAny_letTemporaryGo (RD yZ))) λ_ _ x=>x)
 first
  |exact RD (Rv fin)
  |exact Rv (RD (Rv fin))
  |exact Rv fin
theorem l7{X:Cx}{o:Option V}(I:Inv X Y σ H s)(g:DGet H a y o):s.TypeIs (.ref a) "dict":=by
 rcases g with⟨kvs,k,e,_,_⟩|⟨kvs,k,b,e,_,_,_⟩
 .obtain⟨_,_,vs,_,dd⟩:=j3 I.hok e;exact dd.typeIs
 .obtain⟨_,_,xs,_,dd⟩:=kq I.hok e;exact dd.typeIs
def tV(td ty:TE):TE:=λσ H Q=>td σ H λx H1=>ty σ H1 λy H2=>∃a v,x=.ref a/\DGet H2 a y (A? v)/\Q v H2
def oR(ty td:TE):TE:=λσ H Q=>ty σ H λy H1=>td σ H1 λx H2=>∃a o,x=.ref a/\DGet H2 a y o/\Q (.bl (!o.isSome)) H2
def v7(td ty tv:TE):TS:=λD σ H=>tv σ H λv H1=>td σ H1 λx H2=>ty σ H2 λy H3=>∃a H4,x=.ref a/\DPut H3 a y v H4/\D.nx σ H4
section
variable{X:Cx}{o i value:Su}{HV:UX}{td ty tv:TE}
theorem gb(hu:X.A.units+1<Ve)(ho:PE X o td)(hi:PE X i ty)(hs:wu i):PE X (.Subscript o i pos) (tV td ty):=by
 intro Y s σ H Q I h;refine sK PySem.F.slot_dict_getitem.lookup hs (thn (ho Y s σ H _ I h) λu s1⟨x,H1,I1,rx,q1⟩=>thn (hi Y s1 σ H1 _ I1 q1) λiv s2⟨y,H2,I2,ry,a,v,ex,g,q2⟩=>?_);subst ex;obtain rfl:u=Sg a:=rx;exact⟨l7 I2 g,pf hu I2 g ry λw' s3 I3 AB=>⟨v,H2,I3,AB,q2⟩⟩
theorem eX(hu:X.A.units+1<Ve)(hi:PE X i ty)(ho:PE X o td):PC X .NotIn i o (oR ty td):=by
 intro Y s σ H Q I h;refine thn (hi Y s σ H _ I h) λiv s1⟨y,H1,I1,ry,q1⟩=>thn (ho Y s1 σ H1 _ I1 q1) λu s2⟨x,H2,I2,rx,a,ov,ex,g,q2⟩=>?_;subst ex;obtain rfl:u=Sg a:=rx;exact tz hu I2 g ry λs3 I3=>⟨.bl (!ov.isSome),H2,I3,rfl,q2⟩
theorem iG(hu:X.A.units+1<Ve)(ho:PE X o td)(hi:PE X i ty)(hv:PE X value tv)(hs:swapsWith value (A? (.Subscript o i pos')) pos.line X.env=pure C?) :
 PS X (.Assign [.Subscript o i pos'] value pos) (v7 td ty tv):=by
 intro Y s σ H D I h;refine wpAny_Assign_Subscript (thn (hv Y s σ H _ I h) λr s1⟨v,H1,I1,rv,q1⟩=>thn (ho Y s1 σ H1 _ I1 q1) λu s2⟨x,H2,I2,rx,q2⟩=>thn (hi Y s2 σ H2 _ I2 q2) λiv s3⟨y,H3,I3,ry,a,H4,ex,g,q3⟩=>?_) hs;subst ex;obtain rfl:u=Sg a:=rx;exact oX hu I3 g ry rv λs4 I4=>⟨σ,H4,I4,q3⟩
end
theorem lW(h:SM)(hb:Tv<h.objs.size):ObjOk P w H (h.push {cls:=.type "dict",data:=.dict #[]}) h.objs.size (.dK []) :=
 ⟨Sn _,beq_eq_false_iff_ne.mpr (Tn (Sa hb)),[],.nil,Heap.DictOf.new h⟩
theorem qG(h:SM)(hb:Tv<h.objs.size):ObjOk P w H (h.push {cls:=.type "dict",data:=.dict #[]}) h.objs.size (.dT []) :=
 ⟨Sn _,beq_eq_false_iff_ne.mpr (Tn (Sa hb)),[],.nil,_,#[],0,RJ _ rfl,⟨rfl,rfl,rfl⟩,rfl,rfl,T7⟩
def u5:TE:=λ_ H Q=>∀p,H p=B?->Q (.ref p) (upd H p (.dK []))
def rB:TE:=λ_ H Q=>∀p,H p=B?->Q (.ref p) (upd H p (.dT []))
section
variable{X:Cx}
theorem jh:PE X (.Dict [] [] pos) u5:=λY s σ H Q I h =>
 wpAny_Dict_empty ⟨.ref s.1.1.size,_,I.laid (a:=s.1.1.size) (o:=.dK []) (t':=s.toks) (λ_ _ q=>RB _ q) (RI _) (lW s.1 I.big),rfl,h _ (I.hok.fresh (RI _))⟩
theorem eE:PE X (.Dict [] [] pos) rB:=λY s σ H Q I h =>
 wpAny_Dict_empty ⟨.ref s.1.1.size,_,I.laid (a:=s.1.1.size) (o:=.dT []) (t':=s.toks) (λ_ _ q=>RB _ q) (RI _) (qG s.1 I.big),rfl,h _ (I.hok.fresh (RI _))⟩
end
def nE:List (TE×TE)->St->Hp->(List (V×V)->Hp->Prop)->Prop
 | [],_,H,Q=>Q [] H
 |(tk,tv)::r,σ,H,Q=>tk σ H λx H1=>tv σ H1 λy H2=>nE r σ H2 λps H3=>Q ((x,y)::ps) H3
abbrev VV:List (V×V)->List (Rz×Rz)->Prop:=Sb λp q=>RelV p.1 q.1/\RelV p.2 q.2
def PPs(X:Cx)(pos:UX)(keys:List (Option Su))(values:List Su)(BI:List (TE×TE)):Prop :=
 ∀(Y:List (Ry×TC))(s:RE)(σ:St)(H:Hp)(Q:List (V×V)->Hp->Prop),Inv X Y σ H s->nE BI σ H Q ->
   RQ (R7 X.prog X.w) X.A (evalPairs (pairTrees keys values X.env pos)) (λvs s'=>∃ps H',Inv X Y σ H' s'/\VV ps vs/\Q ps H') X.xe s
theorem sU{X:Cx}:PPs X pos [] [] []:=λY s σ H Q I h=>pairTrees_nil_walk ⟨[],H,I,.nil,h⟩
theorem qj{X:Cx}{k v:Su}{ks:List (Option Su)}{vs:List Su}{tk tv:TE}{BI:List (TE×TE)}(hk:PE X k tk)(hv:PE X v tv)(hr:PPs X pos ks vs BI) :
 PPs X pos (A? k::ks) (v::vs) ((tk,tv)::BI):=λY s σ H Q I h =>
 pairTrees_cons_walk (thn (hk Y s σ H _ I h) λu s1⟨x,H1,I1,rx,q1⟩=>thn (hv Y s1 σ H1 _ I1 q1) λw2 s2⟨y,H2,I2,ry,q2⟩ =>
  thn (hr Y s2 σ H2 _ I2 q2) λws s3⟨ps,H3,I3,rel,q3⟩=>⟨(x,y)::ps,H3,I3,.cons ⟨rx,ry⟩ rel,q3⟩)
def gN(kvs more:List (Key×V)):List (Key×V):=more.foldl (λacc kv=>putK acc kv.1 kv.2) kvs
theorem KV.merge:∀{more:List (Key×V)}{rs:List (Key×Rz)}{kvs:List (Key×V)}{vs:List (Key×Rz)},KV more rs->KV kvs vs->KV (gN kvs more) (merged vs rs):=by
 intro more rs kvs vs r;unfold KV at r;induction r generalizing kvs vs with
 |nil=>intro q;exact q
 | @cons p q ps qs h t ih =>
   intro r0
   have e:KV (putK kvs p.1 p.2) (stored vs q.1 q.2):=by
    have:=r0.put p.1 h.2;rw[<-h.1];exact this
   exact ih e
theorem fh:∀(more kvs:List (Key×V)),(gN kvs more).length<=kvs.length+more.length
 | [],kvs=>by show kvs.length<=kvs.length+0;lia
 | p::r,kvs=>by
   have h1:=fh r (putK kvs p.1 p.2);have h2:=de kvs p.1 p.2;show(gN (putK kvs p.1 p.2) r).length<=_;rw[RV];lia
theorem iO{P:R3}{w:Se}:∀{kvs:List (Key×V)}{ws:List (Rz×Rz)},VV (kvs.map λkv=>(kV kv.1,kv.2)) ws->∃rs,Carries (aQ P w) ws rs/\KV kvs rs
 | [],_,r=>by rw[T5]at r;cases r;exact⟨[],Vu,.nil⟩
 | p::kvs,_,r=>by
   rw[R6]at r;cases r with
   | @cons a b as bs h t =>
     obtain⟨rs,c,q⟩:=iO (P:=P) (w:=w) t;obtain⟨b1,b2⟩:=b;exact⟨(p.1,b2)::rs,⟨ku h.1,CA,c⟩,.cons ⟨CA,h.2⟩ q⟩
def wA(BI:List (TE×TE)):TE:=λσ H Q=>∀p,H p=B?->nE BI σ (upd H p (.dK [])) λps H2=>H2 p=A? (.dK [])/\∃kvs:List (Key×V),ps=kvs.map (λkv=>(kV kv.1,kv.2))/\kvs.length<=15/\Q (.ref p) (upd H2 p (.dK (gN [] kvs)))
theorem rS{X:Cx}{keys:List (Option Su)}{values:List Su}{BI:List (TE×TE)}(h:PPs X pos keys values BI)(xc:keys.all (·.isSome)=Bz)(hl:keys.length=values.length)(h0:keys≠[])
 (Nz:keys.length<=15):PE X (.Dict keys values pos) (wA BI):=by
 intro Y s σ H Q I q;have hn:=I.hok.fresh (RI s.1.1.size);have I1:=I.laid (a:=s.1.1.size) (o:=.dK []) (h':=s.1.push {cls:=.type "dict",data:=.dict #[]}) (t':=s.toks) (λ_ _ q=>RB _ q) (RI _) (lW s.1 I.big);refine wpAny_Dict_walk (knd:=aQ X.prog X.w) xc hl h0 Nz (thn (h Y _ σ _ _ I1 (q _ hn)) λws s2⟨ps,H2,I2,rel,e,kvs,ep,lk,q2⟩=>?_);subst ep;obtain⟨rs,c,rk⟩:=iO (P:=X.prog) (w:=X.w) rel;obtain⟨z,hd,QW,r0,dd⟩:=ul I2.hok e;cases r0;refine⟨rs,c,dd,λh' BH hs=>⟨.ref s.1.1.size,_,?_,CA,q2⟩⟩
 have hz:(gN [] kvs).length<=RZ:=by
  have h1:=fh kvs [];rw[U4]at h1;rw[VG];lia
 have he:∃q,h'.get? s.1.1.size=A? q:=let⟨q,_,_,hq,_⟩:=BH;⟨q,hq⟩
 exact iz I2 (by rw[e];exact Vu) hs he (qv hz hd (rk.merge .nil) BH)
structure M2(X:Cx)(o:Su)(m:R1)(apos:UX)(e f:Su)(xk:UX):Prop where
 base:Vz o m X.env (TN o X.env)=TN o X.env
 few:((UP xk (Sk [e,f] X.env)).all (λx=>!x.1) && (backToKw xk (keywordEach [] X.env)).all (λx=>x.1.isSome)
  && decide (([e,f]:List Su).length+([]:List Keyword).length+(if([]:List Keyword).isEmpty then 0 else 1)<30))=Bz
 line:(apos.endLine == xk.line)=Bz
 trees:UP xk (Sk [e,f] X.env)=[(C?,TN e X.env),(C?,TN f X.env)]
def IsD(H:Hp)(a:Ry):Prop:=(∃kvs,Rd H a (.dK kvs))\/∃kvs,Rd H a (.dT kvs)
theorem uw{X:Cx}(I:Inv X Y σ H s)(d:IsD H a) :
 s.TypeIs (.ref a) "dict"/\(∀b,Sg a=.ref b->∃ob,s.1.get? b=A? ob/\ob.dict=B?)/\(a == Tv)=false:=by
 rcases d with⟨kvs,e⟩|⟨kvs,e⟩
 .obtain⟨_,hd,vs,_,dd⟩:=j3 I.hok e;refine⟨dd.typeIs,λb q=>?_,hd⟩;cases q;obtain⟨ob,_,_,h1,h2,_⟩:=dd;exact⟨ob,h1,h2.2.1⟩
 .obtain⟨_,hd,xs,_,dd⟩:=kq I.hok e;refine⟨dd.typeIs,λb q=>?_,hd⟩;cases q;obtain⟨ob,_,_,h1,h2,_⟩:=dd;exact⟨ob,h1,h2.2.1⟩
section
variable{X:Cx}{d:V}{r:Rz}{o:Option V}
theorem uo(hu:A.units+1<Ve)(I:Inv X Y σ H s)(g:DGet H a y o)(ry:RelV y u)(rd:RelV d r)(h:∀w' s',Inv X Y σ H s'->RelV (o.getD d) w'->Q w' s') :
 RQ (R7 X.prog X.w) A (call (.builtin "dict.get") [.ref a,u,r]) Q E s:=by
 rcases g with⟨kvs,k,e,ey,l⟩|⟨kvs,k,b,e,ey,eb,l⟩
 .subst ey;obtain⟨z,hd,vs,rel,dd⟩:=j3 I.hok e;refine call_meetsIn W6 dd.typeIs PySem.F.entry_dict_get (PySem.F.args_dict_get_3 _ _ _) (meets_dict_get_default (aQ X.prog X.w) a (ku ry) hd r) ⟨_,dd.mapOf,h _ _ (I.tok _) ?_⟩;rw[l];exact(rel.val k).getD rd
 .subst ey;cases(show u=Sg b from ry);obtain⟨z,hd,xs,rel,dd⟩:=kq I.hok e;refine call_meetsIn W6 dd.typeIs PySem.F.entry_dict_get (PySem.F.args_dict_get_3 _ _ _) (meetsH_dict_get_default (WD (aQ X.prog X.w)) a b hd r) ⟨VF hu,k,xs,gE I.hok eb,dd,h _ _ (I.tok _) ?_⟩;rw[l];exact(rel.val k).getD rd
end
def uC(td ty tx:TE):TE:=λσ H Q=>td σ H λx H1=>∃a,x=.ref a/\IsD H1 a/\ty σ H1 λy H2=>tx σ H2 λz H3=>∃o,DGet H3 a y o/\Q (o.getD z) H3
section
variable{X:Cx}{o f:Su}{apos xk:UX}{td ty tx:TE}
theorem rn(hu:X.A.units+1<Ve)(ho:PE X o td)(he:PE X e ty)(hf:PE X f tx)(m:M2 X o "get" apos e f xk):PE X (.Call (.Attribute o "get" apos) [e,f] [] xk) (uC td ty tx):=by
 intro Y s σ H Q I h;refine wpAny_Call_method m.base m.few m.line WJ W6 PySem.F.type_dict_get (thn (ho Y s σ H _ I h) λu s1⟨x,H1,I1,rx,a,ex,d,q1⟩=>?_);subst ex;obtain rfl:u=Sg a:=rx;obtain⟨t1,t2,_⟩:=uw I1 d;refine⟨t1,t2,?_⟩;rw[m.trees]
 refine VY rfl (XX (TQ (thn (he Y s1 σ H1 _ I1 q1) λiv s2⟨y,H2,I2,ry,q2⟩ =>
  TQ (thn (hf Y s2 σ H2 _ I2 q2) λfv s3⟨z,H3,I3,rz,ov,g,q3⟩=>Ui ?_))))
 exact uo hu I3 g ry rz λw' s4 I4 AB=>⟨_,H3,I4,AB,q3⟩
end
section
variable{X:Cx}{kvs:List (Key×V)}
end
section
variable{X:Cx}
end
end L2
namespace BB
open PySem L2
set_option genInjectivity true in
inductive Dv where
 |int (i:Int)
 |str (x:R1)
 |tup (ds:List Dv)
mutual
def Dv.deep:Dv->Nat
 |.int _=>0
 |.str _=>0
 |.tup ds=>ej ds+1
def ej:List Dv->Nat
 | []=>0
 |d::ds=>max d.deep (ej ds)
end
mutual
def Dv.tot:Dv->Nat
 |.int _=>1
 |.str _=>1
 |.tup ds=>si ds+1
def si:List Dv->Nat
 | []=>0
 |d::ds=>d.tot+si ds
end
mutual
def DAt(H:Hp):Dv->V->Prop
 |.int i,v=>v=.int i
 |.str x,v=>v=.str x
 |.tup ds,v=>∃a vs,v=.ref a/\H a=A? (.tup vs)/\DAts H ds vs
def DAts(H:Hp):List Dv->List V->Prop
 | [],vs=>vs=[]
 |d::ds,vs=>∃v r,vs=v::r/\DAt H d v/\DAts H ds r
end
theorem DAts.length:∀{ds:List Dv}{vs:List V},DAts H ds vs->vs.length=ds.length
 | [],vs,h=>by rw[DAts]at h;subst h;rfl
 | d::ds,vs,h=>by
   rw[DAts]at h;obtain⟨v,r,rfl,h1,h2⟩:=h;rw[RV,RV,h2.length]
theorem DAts.at:∀{ds:List Dv}{vs:List V}{i:Nat}{d:Dv},DAts H ds vs->ds[i]?=A? d->∃v,vs[i]?=A? v/\DAt H d v
 | [],vs,i,d,h,e=>by simp at e
 | d0::ds,vs,i,d,h,e=>by
   rw[DAts]at h;obtain⟨v,r,rfl,h1,h2⟩:=h;cases i with
   |zero=>simp at e;subst e;exact⟨v,CA,h1⟩
   | succ i =>
     obtain⟨u,g1,g2⟩:=h2.at (i:=i) (by simpa using e);exact⟨u,by simpa using g1,g2⟩
theorem jx:∀{ds:List Dv}{i:Nat}{d:Dv},ds[i]?=A? d->d.deep<=ej ds
 | [],i,d,e=>by simp at e
 | d0::ds,i,d,e=>by
   rw[ej];cases i with
   |zero=>simp at e;subst e;lia
   | succ i =>
     have:=jx (ds:=ds) (i:=i) (by simpa using e);lia
theorem oz:∀{ds:List Dv}{i:Nat}{d:Dv},ds[i]?=A? d->d.tot<=si ds
 | [],i,d,e=>by simp at e
 | d0::ds,i,d,e=>by
   rw[si];cases i with
   |zero=>simp at e;subst e;lia
   | succ i =>
     have:=oz (ds:=ds) (i:=i) (by simpa using e);lia
theorem Dv.tot_pos(d:Dv):1<=d.tot:=by
 cases d with
 |int i=>rw[Dv.tot];lia
 |str x=>rw[Dv.tot];lia
 |tup ds=>rw[Dv.tot];lia
theorem ww{ys:List V}{Q:VK}(ha:H a=A? (.tup xs))(hb:H b=A? (.tup ys))(hz:xs.length+ys.length<=1000000)(q:∀p H',Ye H H'->H' p=A? (.tup (xs++ys))->Q (.ref p) H'):t8 K (.ref a) (.ref b) H Q:=by
 refine⟨a,b,xs,ys,CA,CA,Ze ha,Ze hb,bX hz,λe=>?_,λ_ e=>?_,λ_ _ p hp=>?_⟩
 .exact q b H (.refl _) (by rw[e];exact hb)
 .exact q a H (.refl _) (by rw[e,T1];exact ha)
 .exact q p _ (ao hp _) ad
theorem P2.reverse{F:α->β->Prop}:∀{a:List α}{b:List β},Sb F a b->Sb F a.reverse b.reverse
 |_,_,.nil=>.nil
 | _,_,.cons r t=>by
   rw[SJ,SJ];exact Yk (P2.reverse t) (.cons r .nil)
theorem P2.snoc_inv{F:α->β->Prop}{a:List α}{b:List β}{y:β}(h:Sb F a (b++[y])):∃us x,a=us++[x]/\Sb F us b/\F x y:=by
 have r:=P2.reverse h;rw[Ue,UT,U5]at r;cases e:a.reverse with
 |nil=>rw[e]at r;cases r
 | cons x us =>
   rw[e]at r;cases r with
   | cons h1 h2 =>
     refine⟨us.reverse,x,?_,?_,h1⟩
     .rw[<-SJ,<-e,T6]
     .have:=P2.reverse h2;rw[T6]at this;exact this
section
variable{ext:Th->List V}{t:Th}{ts:List Th}{es:List Ry}
end
def Th.isCall:Th->Bool
 |.knot _ _=>C?
 |.call _ _=>Bz
def TK(K:RH)(H:Hp)(a:Ry)(xs:List V):Prop:=H a=A? (.tup xs)\/(xs=[.str (RF "*")]/\∃(o:TC)(its:Array Rz)(n:Nat),K.lookup a=A? o/\o.cls=.type "tuple"/\o.data=.seq its n/\its.size<=RZ/\Vals xs its.toList)
theorem TK.of(h:H a=A? (.tup xs)):TK K H a xs:=.inl h
theorem TK.sq(h:TK K H a xs):SqT K H a xs:=by
 rcases h with h|h
 .exact Ze h
 .exact .inr h.2
mutual
def DAtK(K:RH)(H:Hp):Dv->V->Prop
 |.int i,v=>v=.int i
 |.str x,v=>v=.str x
 |.tup ds,v=>∃a vs,v=.ref a/\TK K H a vs/\DAtsK K H ds vs
def DAtsK(K:RH)(H:Hp):List Dv->List V->Prop
 | [],vs=>vs=[]
 |d::ds,vs=>∃v r,vs=v::r/\DAtK K H d v/\DAtsK K H ds r
end
theorem DAtsK.length:∀{ds:List Dv}{vs:List V},DAtsK K H ds vs->vs.length=ds.length
 | [],vs,h=>by rw[DAtsK]at h;subst h;rfl
 | d::ds,vs,h=>by
   rw[DAtsK]at h;obtain⟨v,r,rfl,h1,h2⟩:=h;rw[RV,RV,h2.length]
theorem DAtsK.at:∀{ds:List Dv}{vs:List V}{i:Nat}{d:Dv},DAtsK K H ds vs->ds[i]?=A? d->∃v,vs[i]?=A? v/\DAtK K H d v
 | [],vs,i,d,h,e=>by simp at e
 | d0::ds,vs,i,d,h,e=>by
   rw[DAtsK]at h;obtain⟨v,r,rfl,h1,h2⟩:=h;cases i with
   |zero=>simp at e;subst e;exact⟨v,CA,h1⟩
   | succ i =>
     obtain⟨u,g1,g2⟩:=h2.at (i:=i) (by simpa using e);exact⟨u,by simpa using g1,g2⟩
mutual
theorem DAt.k:∀{d:Dv}{v:V},DAt H d v->DAtK K H d v
 |.int i,v,h=>by rw[DAt]at h;rw[DAtK];exact h
 |.str x,v,h=>by rw[DAt]at h;rw[DAtK];exact h
 | .tup ds,v,h=>by
   rw[DAt]at h;rw[DAtK];obtain⟨a,vs,e,h1,h2⟩:=h;exact⟨a,vs,e,.of h1,DAts.k h2⟩
theorem DAts.k:∀{ds:List Dv}{vs:List V},DAts H ds vs->DAtsK K H ds vs
 | [],vs,h=>by rw[DAts]at h;rw[DAtsK];exact h
 | d::ds,vs,h=>by
   rw[DAts]at h;rw[DAtsK];obtain⟨v,r,e,h1,h2⟩:=h;exact⟨v,r,e,DAt.k h1,DAts.k h2⟩
end
mutual
theorem DAtK.inj{X:Cx}(I:Inv X Y σ H s):∀{d e:Dv}{v:V},DAtK X.K H d v->DAtK X.K H e v->d=e
 |.int i,.int j,v,h,g=>by rw[DAtK]at h;rw[DAtK]at g;rw[h]at g;cases g;rfl
 |.int i,.str y,v,h,g=>by rw[DAtK]at h;rw[DAtK]at g;rw[h]at g;cases g
 |.int i,.tup es,v,h,g=>by rw[DAtK]at h;rw[DAtK]at g;obtain⟨a,vs,e,_⟩:=g;rw[h]at e;cases e
 |.str x,.int j,v,h,g=>by rw[DAtK]at h;rw[DAtK]at g;rw[h]at g;cases g
 |.str x,.str y,v,h,g=>by rw[DAtK]at h;rw[DAtK]at g;rw[h]at g;cases g;rfl
 |.str x,.tup es,v,h,g=>by rw[DAtK]at h;rw[DAtK]at g;obtain⟨a,vs,e,_⟩:=g;rw[h]at e;cases e
 |.tup ds,.int j,v,h,g=>by rw[DAtK]at h;rw[DAtK]at g;obtain⟨a,vs,e,_⟩:=h;rw[e]at g;cases g
 |.tup ds,.str y,v,h,g=>by rw[DAtK]at h;rw[DAtK]at g;obtain⟨a,vs,e,_⟩:=h;rw[e]at g;cases g
 | .tup ds,.tup es,v,h,g=>by
   rw[DAtK]at h;rw[DAtK]at g;obtain⟨a,vs,e1,h1,h2⟩:=h;obtain⟨b,ws,e2,g1,g2⟩:=g;rw[e1]at e2;cases e2;have e3:=I.tuple_inj h1.sq g1.sq;subst e3;rw[DAtsK.inj I h2 g2]
theorem DAtsK.inj{X:Cx}(I:Inv X Y σ H s):∀{ds es:List Dv}{vs:List V},DAtsK X.K H ds vs->DAtsK X.K H es vs->ds=es
 | [],[],vs,h,g=>rfl
 | [],e::es,vs,h,g=>by rw[DAtsK]at h;rw[DAtsK]at g;obtain⟨v,r,z,_⟩:=g;rw[h]at z;cases z
 |d::ds,[],vs,h,g=>by rw[DAtsK]at h;rw[DAtsK]at g;obtain⟨v,r,z,_⟩:=h;rw[g]at z;cases z
 | d::ds,e::es,vs,h,g=>by
   rw[DAtsK]at h;rw[DAtsK]at g;obtain⟨v,r,z,h1,h2⟩:=h;obtain⟨v',r',z',g1,g2⟩:=g;rw[z]at z';cases z';rw[DAtK.inj I h1 g1,DAtsK.inj I h2 g2]
end
end BB
open BB.Dv renaming int->Zj,tup->Yp
namespace L2
open PySem PySem.Spec PySem.SeqAt PyProof.Rows BB
open Classical in
theorem nb[DecidableEq α]{xn:List Rz}{ds es:List α}(p1:s.1.IsTuple a its.toArray)(p2:s.1.IsTuple b xn.toArray)(l1:its.length=ds.length)(l2:xn.length=es.length)(hu:A.units<Ve)
 (ih:∀(j:Nat)(d e:α)(u v:Rz),ds[j]?=A? d->es[j]?=A? e->its[j]?=A? u->xn[j]?=A? v->EqAt A.in1 s u v (decide (d=e))):RcAt A s (.ref a) (.ref b) (decide (ds=es)):=by
 have Iz:RcAt A s (.ref a) (.ref b) ((SK (min its.toArray.size xn.toArray.size)).all (λj=>decide (ds[j]?=es[j]?)) && its.toArray.size == xn.toArray.size):=by
  refine RcAt.tuples p1 p2 hu λj h1 h2=>?_;have GJ:j<ds.length:=by rw[<-l1];simpa using h1
  have GK:j<es.length:=by rw[<-l2];simpa using h2
  have e1:ds[j]?=A? ds[j]:=RA GJ;have e2:es[j]?=A? es[j]:=RA GK;have e3:decide (ds[j]?=es[j]?)=decide (ds[j]=es[j]):=by rw[e1,e2];simp
  have g1:its[j]?=A? its[j]:=RA (by rw[l1];exact GJ);have g2:xn[j]?=A? xn[j]:=RA (by rw[l2];exact GK);rw[e3];exact ih j ds[j] es[j] its[j] xn[j] e1 e2 g1 g2
 have e:decide (ds=es)=((SK (min its.toArray.size xn.toArray.size)).all (λj=>decide (ds[j]?=es[j]?)) && its.toArray.size == xn.toArray.size):=by
  rw[RO,RO,l1,l2];by_cases h:ds=es
  .subst h;rw[Yc rfl];symm;simp
  .rw[Zb h];symm;by_cases hl:ds.length=es.length
   .rw[hl,Nat.min_self]
    have:¬((SK es.length).all (λj=>decide (ds[j]?=es[j]?)))=true:=by
     intro z;apply h;apply U9;intro j;by_cases hj:j<es.length
     .exact Zc (WO.mp z j (TZ.mpr hj))
     .rw[Tj (by lia),Tj (by lia)]
    rw[Bool.eq_false_iff.mpr this];rfl
   .have:(ds.length == es.length)=false:=by simpa using hl
    rw[this,Bool.and_false]
 rw[e];exact Iz
open Classical in
theorem p9{X:Cx}(I:Inv X Y σ H s){ds es:List Dv}{vs ws:List V}(ha:SqT X.K H a vs)(hb:SqT X.K H b ws)(GL:DAtsK X.K H ds vs)(zA:DAtsK X.K H es ws)(hu:A.units<Ve)
 (ih:∀(j:Nat)(d e:Dv)(x y:V)(u v:Rz),ds[j]?=A? d->DAtK X.K H d x->DAtK X.K H e y->RelV x u->RelV y v->EqAt A.in1 s u v (decide (d=e))):RcAt A s (.ref a) (.ref b) (decide (Yp ds=Yp es)):=by
 obtain⟨its,r1,p1,_⟩:=I.tuple ha;obtain⟨xn,r2,p2,_⟩:=I.tuple hb;rw[show decide (Yp ds=Yp es)=decide (ds=es)from decide_eq_decide.mpr ⟨λz=>Dv.tup.inj z,λz=>Zd _ z⟩];refine nb (show s.1.IsTuple a its.toArray from p1) (show s.1.IsTuple b xn.toArray from p2) (by rw[<-r1.length,GL.length]) (by rw[<-r2.length,zA.length]) hu λj d e u v e1 e2 e3 e4=>?_;obtain⟨x',yL,dx⟩:=GL.at e1;obtain⟨y',CC,dy⟩:=zA.at e2;obtain⟨u',AU,IC⟩:=r1.get yL;obtain⟨v',An,CN⟩:=r2.get CC;rw[AU]at e3;rw[An]at e4;cases e3;cases e4;exact ih j d e x' y' _ _ e1 dx dy IC CN
open Classical in
theorem lD{X:Cx}(I:Inv X Y σ H s):∀(n:Nat)(d e:Dv),d.tot<=n->∀(x y:V)(u v:Rz)(A:Si),DAtK X.K H d x->DAtK X.K H e y->RelV x u->RelV y v->A.units+d.deep<Ve->EqAt A s u v (decide (d=e))
 |0,d,e,hn,x,y,u,v,A,hd,he,ru,rv,hu=>by have:=d.tot_pos;lia
 | n+1,.int i,.int j,hn,x,y,u,v,A,hd,he,ru,rv,hu=>by
   rw[DAtK]at hd;rw[DAtK]at he;subst hd he;obtain⟨t,rfl⟩:=ru;obtain⟨t',rfl⟩:=rv
   have e:decide (Zj i=Zj j)=(i == j):=by
    by_cases h:i=j
    .subst h;simp
    .rw[Zb (λz=>h (Dv.int.inj z))];simp[h]
   rw[e];exact EqAt.int_int i t j t'
 | n+1,.int i,.str b,hn,x,y,u,v,A,hd,he,ru,rv,hu=>by
   rw[DAtK]at hd;rw[DAtK]at he;subst hd he;obtain⟨t,rfl⟩:=ru;obtain⟨t',rfl⟩:=rv;rw[Zb (λz=>by cases z)];exact EqAt.int_str i t b t'
 | n+1,.int i,.tup es,hn,x,y,u,v,A,hd,he,ru,rv,hu=>by
   rw[DAtK]at hd;rw[DAtK]at he;obtain⟨a,vs,rfl,ha,_⟩:=he;subst hd;obtain⟨t,rfl⟩:=ru;cases rv;obtain⟨its,_,p,_⟩:=I.tuple (ha.sq);rw[Zb (λz=>by cases z)];exact EqAt.int_tuple i t (show s.1.IsTuple a its.toArray from p) (by lia)
 | n+1,.str b,.int j,hn,x,y,u,v,A,hd,he,ru,rv,hu=>by
   rw[DAtK]at hd;rw[DAtK]at he;subst hd he;obtain⟨t,rfl⟩:=ru;obtain⟨t',rfl⟩:=rv;rw[Zb (λz=>by cases z)];exact EqAt.str_int b t j t'
 | n+1,.str b,.str c,hn,x,y,u,v,A,hd,he,ru,rv,hu=>by
   rw[DAtK]at hd;rw[DAtK]at he;subst hd he;obtain⟨t,rfl⟩:=ru;obtain⟨t',rfl⟩:=rv
   have e:decide (Dv.str b=Dv.str c)=(b == c):=by
    by_cases h:b=c
    .subst h;simp
    .rw[Zb (λz=>h (Dv.str.inj z))];simp[h]
   rw[e];exact EqAt.str_str b t c t'
 | n+1,.str b,.tup es,hn,x,y,u,v,A,hd,he,ru,rv,hu=>by
   rw[DAtK]at hd;rw[DAtK]at he;obtain⟨a,vs,rfl,ha,_⟩:=he;subst hd;obtain⟨t,rfl⟩:=ru;cases rv;obtain⟨its,_,p,_⟩:=I.tuple (ha.sq);rw[Zb (λz=>by cases z)];exact EqAt.str_tuple b t (show s.1.IsTuple a its.toArray from p) (by lia)
 | n+1,.tup ds,.int j,hn,x,y,u,v,A,hd,he,ru,rv,hu=>by
   rw[DAtK]at hd;rw[DAtK]at he;obtain⟨a,vs,rfl,ha,_⟩:=hd;subst he;cases ru;obtain⟨t,rfl⟩:=rv;obtain⟨its,_,p,_⟩:=I.tuple (ha.sq);rw[Zb (λz=>by cases z)];exact EqAt.tuple_int j t (show s.1.IsTuple a its.toArray from p) (by lia)
 | n+1,.tup ds,.str b,hn,x,y,u,v,A,hd,he,ru,rv,hu=>by
   rw[DAtK]at hd;rw[DAtK]at he;obtain⟨a,vs,rfl,ha,_⟩:=hd;subst he;cases ru;obtain⟨t,rfl⟩:=rv;obtain⟨its,_,p,_⟩:=I.tuple (ha.sq);rw[Zb (λz=>by cases z)];exact EqAt.tuple_str b t (show s.1.IsTuple a its.toArray from p) (by lia)
 | n+1,.tup ds,.tup es,hn,x,y,u,v,A,hd,he,ru,rv,hu=>by
   have NA:=hd;have DR:=he;rw[DAtK]at hd;rw[DAtK]at he;obtain⟨a,vs,rfl,ha,GL⟩:=hd;obtain⟨b,ws,rfl,hb,zA⟩:=he;cases ru;cases rv;by_cases Aq:a=b
   .subst Aq;rw[Yc (DAtK.inj I NA DR)];exact EqAt.same _
   rw[Dv.tot]at hn;rw[Dv.deep]at hu;refine EqAt.of_refs Aq (p9 I ha.sq hb.sq GL zA (by lia) λj d e x' y' u' v' e1 dx dy IC CN=>?_);have q1:=oz e1;have q2:=jx e1;refine lD I n d e (by lia) x' y' u' v' A.in1 dx dy IC CN ?_;show A.units+1+_<Ve;lia
end L2
namespace BB
open PySem PySem.Spec PyProof.Rows L2
mutual
theorem DAt.inj:∀{d e:Dv}{v:V},DAt H d v->DAt H e v->d=e
 |.int i,.int j,v,h,g=>by rw[DAt]at h;rw[DAt]at g;rw[h]at g;cases g;rfl
 |.int i,.str y,v,h,g=>by rw[DAt]at h;rw[DAt]at g;rw[h]at g;cases g
 |.int i,.tup es,v,h,g=>by rw[DAt]at h;rw[DAt]at g;obtain⟨a,vs,e,_⟩:=g;rw[h]at e;cases e
 |.str x,.int j,v,h,g=>by rw[DAt]at h;rw[DAt]at g;rw[h]at g;cases g
 |.str x,.str y,v,h,g=>by rw[DAt]at h;rw[DAt]at g;rw[h]at g;cases g;rfl
 |.str x,.tup es,v,h,g=>by rw[DAt]at h;rw[DAt]at g;obtain⟨a,vs,e,_⟩:=g;rw[h]at e;cases e
 |.tup ds,.int j,v,h,g=>by rw[DAt]at h;rw[DAt]at g;obtain⟨a,vs,e,_⟩:=h;rw[e]at g;cases g
 |.tup ds,.str y,v,h,g=>by rw[DAt]at h;rw[DAt]at g;obtain⟨a,vs,e,_⟩:=h;rw[e]at g;cases g
 | .tup ds,.tup es,v,h,g=>by
   rw[DAt]at h;rw[DAt]at g;obtain⟨a,vs,e1,h1,h2⟩:=h;obtain⟨b,ws,e2,g1,g2⟩:=g;rw[e1]at e2;cases e2;rw[h1]at g1;cases g1;rw[DAts.inj h2 g2]
theorem DAts.inj:∀{ds es:List Dv}{vs:List V},DAts H ds vs->DAts H es vs->ds=es
 | [],[],vs,h,g=>rfl
 | [],e::es,vs,h,g=>by rw[DAts]at h;rw[DAts]at g;obtain⟨v,r,z,_⟩:=g;rw[h]at z;cases z
 |d::ds,[],vs,h,g=>by rw[DAts]at h;rw[DAts]at g;obtain⟨v,r,z,_⟩:=h;rw[g]at z;cases z
 | d::ds,e::es,vs,h,g=>by
   rw[DAts]at h;rw[DAts]at g;obtain⟨v,r,z,h1,h2⟩:=h;obtain⟨v',r',z',g1,g2⟩:=g;rw[z]at z';cases z';rw[DAt.inj h1 g1,DAts.inj h2 g2]
end
end BB
namespace L2
open PySem PySem.Spec PySem.SeqAt PyProof.Rows BB
open Classical in
theorem oA{X:Cx}(I:Inv X Y σ H s):∀(n:Nat)(d e:Dv),d.tot<=n->∀(x y:V)(u v:Rz)(A:Si),DAt H d x->DAt H e y->RelV x u->RelV y v->A.units+d.deep<Ve->EqAt A s u v (decide (d=e)):=λn d e hn x y u v A hd he=>lD I n d e hn x y u v A hd.k he.k
end L2
namespace BB
open PySem L2
end BB
namespace PySem
theorem bb_extendT(l:Ry)(items:Array Rz)(n:Nat)(b:Ry)(xg:Array Rz)(n2:Nat)(dd:Option Ry)(sl:Array (Option Rz))(g0:¬(!items.isEmpty && Ub (items.size+xg.size))=Bz)(g1:items.size<=RZ)(g2:items.size+xg.size<=RZ+1) :
 Meets (Ur.«list.extend» ⟨[.ref l,.ref b],[]⟩) (λ_ R s=>s.1.get? l=A? {cls:=.type "list",dict:=B?,data:=.seq items n,slots:=#[]}/\s.1.get? b=A? {cls:=.type "tuple",dict:=dd,data:=.seq xg n2,slots:=sl}/\R (.ok (.ret SY)) {s with heap:=s.1.update l (SQ λx=>x++xg),toks:=s.toks}) :=
 .of_wp λprog w A R s h=>by
  obtain⟨hp,g,d,tk,os⟩:=s;obtain⟨hl,hb,h⟩:=h;have f1:=AutoSeq1.idx_int;have f2:=W7;have f3:=AutoSeq1.sub_list_list;have f4:=AutoSeq1.sub_tuple_list;have f5:=AutoSeq1.sub_list_tuple;have z2:(items++xg).size<=RZ+1:=by rw[Array.size_append];exact g2
  wp_walk using(Tx hl rfl (hz:=g1) (_hz':=z2)),Uc hl,Uc hb
  exact⟨_,CA,h⟩
end PySem
namespace L2
open PySem PySem.Spec PyProof.Rows
section
variable{X:Cx}
def rR(K:RH):V->List V->Hp->VK->Prop:=λx vs H Q=>∃l b xs zs,x=.ref l/\vs=[.ref b]/\H l=A? (.lst xs)/\SqT K H b zs/\xs.length+zs.length<=RZ/\Q .non (upd H l (.lst (xs++zs)))
theorem mz:MtM X "list.extend" (rR X.K):=by
 intro Y s σ H x vs v us Q I rx rv h;obtain⟨l,b,xs,zs,rfl,rfl,hH,hB,hz,q⟩:=h;cases rx;obtain⟨u,rfl,ru⟩:=rv.one;cases ru;obtain⟨z,its,n,r,hl,e⟩:=I.lstM hH;obtain⟨xn,r2,p2,_⟩:=I.tuple hB;have yk:=r2.length;obtain⟨⟨BD,zK,data2,zL⟩,e2,yC,n2,hd2⟩:=p2;simp only at yC hd2;subst yC hd2;have hsz:its.toArray.size+xn.toArray.size<=RZ:=by rw[RO,RO];lia
 have yY:¬(!its.toArray.isEmpty && Ub (its.toArray.size+xn.toArray.size))=true:=by
  rw[i9 hsz,Bool.and_false];exact R0
 refine Xj F.slot_list_extend ⟨_,e,rfl⟩ F.entry_list_extend (F.args_list_extend_2 _ _)
  (bb_extendT l its.toArray n b xn.toArray n2 zK zL yY (by rw[RO];lia) (by lia)) ⟨e,e2,?_⟩
 refine⟨.non,_,I.lset (its':=its++xn) hH e (by simp) (r.append r2) ?_,CA,q⟩;rw[RK];lia
theorem pB{bs:List Bool}(r:Vals (bs.map V.bl) its){v:Rz}(h:its[i]?=A? v):∃b,bs[i]?=A? b/\v=.bool b:=by
 have hl:=r.length;have hi:i<its.length:=(glE h);rw[Rw]at hl;obtain⟨u,hu,ru⟩:=r.get (i:=i) (x:=.bl bs[i]) (by rw[RG,RA (by lia)];rfl);rw[h]at hu;cases hu;cases ru;exact⟨_,RA (by lia),CA⟩
def wL(K:RH):List V->Hp->VK->Prop:=λxs H Q=>∃(p:Ry)(bs:List Bool),xs=[.ref p]/\SqL K H p (bs.map V.bl)/\Q (.bl (bs.all id)) H
theorem rM(hc:X.calm=Bz):io X (.builtin "all") (wL X.K):=by
 intro Y s σ H xs us Q I r h;obtain⟨p,bs,rfl,hl,q⟩:=h;obtain⟨u,rfl,rx⟩:=vals1 r;cases rx;obtain⟨its,rv,pl,_⟩:=I.list hl;have hlen:=rv.length;rw[Rw]at hlen;have xf:p<s.1.1.size:=by obtain⟨_,_,e,_⟩:=pl;exact RY e
 refine call_all_walk (wpAny_pyIter_list pl.isList ?_);refine⟨s.1.1.size,[s.1.1.size,p],[s.1.1.size],its.toArray.size,_,_,λi=>(bs[i]?).getD Bz,CA,Walks.list (A:=X.A.in1) (I.ok.hd hc) _ p (Sa xf) its.toArray,⟨⟨_,RJ _ rfl,CA,CA⟩,pl.isList.push _⟩,λi v s' Q' E' hP hQ=>?_,λh' tk hk=>?_⟩
 .obtain⟨b,e,rfl⟩:=pB rv (i:=i) (v:=v) (by simpa using hP);simp only[e,Option.getD_some]at hQ;exact Vj hQ
 .have e:((SK its.toArray.size).all λi=>(bs[i]?).getD Bz)=bs.all id:=by
   rw[RO,<-hlen];exact LSm.range_all bs
  rw[e];exact⟨.bl (bs.all id),H,I.kept (LSm.kept_iter hk),CA,q⟩
end
end L2
namespace BB
open PySem L2
theorem j2{w:R1}{n:Int}(h0:0<=n)(h:n+1<=(w.length:Int)):(dN w B? (A? (n+1))).length=n.toNat+1:=by
 rw[iM]
 have e1:Zh w.length w.length (A? (n+1))=n.toNat+1:=by
  show(if n+1<0 then _ else min (n+1).toNat w.length)=_;rw[Za (by lia)];lia
 have e2:Zh w.length 0 B?=0:=rfl;rw[e1,e2];lia
theorem tD{A B:R1}{c d:Nat}(h:A++⟨#[c]⟩++B=A++⟨#[d]⟩++B):c=d:=by
 have h1:(A.cps++#[c]++B.cps)=(A.cps++#[d]++B.cps):=Zd Str.cps h;have h2:=Zd XZ h1;simp at h2;exact h2
theorem mI{base i j:Int}(hi:0<=i)(QX:i<8)(hj:0<=j)(QY:j<8)(h:nameOf base i=nameOf base j):i=j:=by
 unfold nameOf at h;split at h
 .have h1:=Zd Str.length h;rw[j2 hi (by rw[cP];lia),j2 hj (by rw[cP];lia)]at h1;lia
 .have h1:=tD h;unfold i8 at h1;have a1:=Tr (((((base / 112) / 26 ^ (nAt base).toNat)%26).toNat:Int)+i) (by decide:(26:Int)≠0);have a2:=Tr (((((base / 112) / 26 ^ (nAt base).toNat)%26).toNat:Int)+j) (by decide:(26:Int)≠0);generalize((((base / 112) / 26 ^ (nAt base).toNat)%26).toNat:Int)=l at h1 a1 a2;lia
end BB
namespace PySem
open Sem (wp)
namespace F
end F
section
variable{xs:Array Rz}{k:Nat}
end
end PySem
namespace L2
open PySem PySem.Spec PyProof.Rows BB
section
variable{X:Cx}
end
end L2
namespace BB
open PySem L2
end BB
namespace HT
open PySem PySem.Spec PyProof.Rows
theorem getItem_tuple_whole{t:Ry}(ht:IsTup s.1 t items)(hs:s.1.IsSliceOf sl vl vu .none)(pl:Xo vl lo)(pu:Xo vu hi)
 (hw:sIx items.size 0 lo=0/\sIx items.size items.size hi=items.size) (h:Q (.ref t) s):RQ (R7 prog w) A (VS (.ref t) (.ref sl)) Q E s:=by
 obtain⟨os,yX,Ao,yr⟩:=id hs;have Ey:s.TypeIs (.ref sl) "slice":=⟨os,yX,Ao⟩;have hT:s.TypeIs (.ref t) "tuple":=ht.typeIs;unfold VS
 try with_reducible refine SN ?_
 first|refine Rv (RD ?_)|skip
 refine Rv (wpAny_sequenceKey ht.typeIs (by decide) ?_)
 refine Rv (SF (name:=RF "__getitem__") ht.typeIs SD
  (SI SD ht.typeIs entry_tuple_getitem ?_ (args_tuple_getitem _ _)))
 show RQ _ _ (WT (.ref t) >>= _) _ _ s;refine Rv (tupleItemsOf_ ht ?_);refine Rv (VP Ey ?_);rw[Yb (by decide)];refine Rv (sliceApplied_gen hs pl pu ?_)
 have ID:(((sIx items.size 0 lo:Nat):Int) == 0 && (1:Int) == 1 && (sIx items.size items.size hi - sIx items.size 0 lo) == items.size)=true:=by
  rw[hw.1,hw.2];simp
 show RQ _ _ (if(((sIx items.size 0 lo:Nat):Int) == 0 && (1:Int) == 1 && (sIx items.size items.size hi - sIx items.size 0 lo) == items.size)=Bz then _ else _) _ _ s;rw[Yb ID];refine Rv (m:=Builtin.Tuple.tupleIsExact _) ?_;unfold Builtin.Tuple.tupleIsExact;refine Rv (VP hT (RD ?_));rw[Yb (by decide)];exact Rv (V7 (RD ⟨_,rfl,RD h⟩))
end HT
namespace L2
open PySem PySem.Spec PyProof.Rows
inductive tS(x:V)(lo:Option Int)(hi:Option Int)(H:Hp)(Q:VK):Prop
 |mk (a:_) (xs:_) (yH:x=.ref a) (yI:H a=A? (.tup xs)) (zZ:∀p H',Same H H'->H' p=A? (.tup (eY xs lo hi))->Q (.ref p) H'):tS  x lo hi H Q
def wX:V->Option Int->Option Int->Hp->VK->Prop:=tS
theorem nU{X:Cx}:SlR X wX:=by
 intro Y s σ H x v vl vu lo hi sl Q I rx hs pl pu h;obtain⟨a,xs,rfl,ha,q⟩:=h;by_cases hw:Zh xs.length 0 lo=0/\Zh xs.length xs.length hi=xs.length
 .obtain⟨its,r,p1,hz⟩:=I.tuple (Ze (K:=X.K) ha);have hl:=r.length;cases rx
  have e:eY xs lo hi=xs:=by
   unfold eY;rw[hw.1,hw.2,VB,Nat.sub_zero,T3]
  refine⟨"tuple",_,SD.lookup,p1.typeIs,HT.getItem_tuple_whole p1 hs pl pu (by rw[RO,<-hl];exact hw) ⟨.ref a,H,I,CA,q a H (.refl _) (by rw[e];exact ha)⟩⟩
 .exact eI Y s σ H _ v vl vu lo hi sl Q I rx hs pl pu ⟨a,xs,rfl,Ze ha,hw,λp hp=>q p _ (ao hp _) ad⟩
end L2
namespace PySem
open Sem (wp)
section
variable{od:TC}{es:Array Wc}
theorem bb_keyNext{en:Wc}{Q:Option Rz->RE->Prop}(g:s.1.IsKeyIter it d i es.size ep)(g1:s.1.get? d=A? od)(g2:od.data=.dict es ep)(hx:es[i]?=A? en)
 (fin:∀h',h'.IsKeyIter it d (i+1) es.size ep->S0 it s.1 h'->Q (A? en.key) {s with heap:=h'}):RQ (R7 prog w) A (UZ (.ref it)) Q E s:=by
 obtain⟨o,q1,q2,q3⟩:=id g;unfold UZ;refine Rv (Wd (SF (name:=RF "__next__") g.typeIs Uk (SI Uk g.typeIs F.entry_dict_keyiterator_next ?_ (F.args_dict_keyiterator_next_1 _))));refine Rv (RD ?_);refine Rv ?_;refine Rv ?_
 first|refine Rv (U7 g.typeIs (RD ?_))|refine Rv (Vy g.typeIs (RD ?_))
 refine Rv (XB q1 q3 ?_);have own:Ul "dict_keyiterator"=false:=by decide
 simp only[own,Uq,if_false];show RQ _ _ (if(Sg d == SY)=Bz then _ else _) _ _ s;rw[Za (show¬((Sg d == SY)=Bz)from R0)];refine Rv (RD ?_);refine Rv (Uh g1 g2 ?_);rw[Za (by simp)];refine Rv (RD ?_);refine Rv (VE g1 g2 ?_);rw[Za (by simp)];refine RD ?_;have lt:i<es.size:=(Vh.mp hx).1;have ee:es[i]=en:=(Vh.mp hx).2;simp only[show¬((i:Int)<0)from by lia,if_false,RU,Ut lt];refine Rv ?_
 first|refine Rv (U7 g.typeIs (RD ?_))|refine Rv (Vy g.typeIs (RD ?_))
 refine Rv (wpAny_isOneOf_keyiter g.typeIs ?_);show RQ _ _ (setField (.ref it) 1 (Ud ((i:Int)+1)) >>= _) _ _ s;refine Rv (WG q1 q3 (by simp) ?_);have g':(s.1.update it (Obj.mapFields (·.setIfInBounds 1 (Ud ((i:Int)+1))))).IsKeyIter it d (i+1) es.size ep:=⟨_,SO _ q1 (Obj.isFreed_of_fields (WM q3 _)),(Obj.cls_mapFields ..).trans q2,by rw[WM q3];simp[Ud]⟩;refine Rv (SN ?_);refine Rv (wpAny_isOneOf_keyiter (s:={s with heap:=s.1.update it (Obj.mapFields (·.setIfInBounds 1 (Ud ((i:Int)+1))))}) g'.typeIs ?_);show RQ _ _ (pure es[i].key) _ _ _;rw[ee];exact RD (RD ⟨_,rfl,RD (fin _ g' (Ta ..))⟩)
theorem bb_keyEnd{Q:Option Rz->RE->Prop}(calm:A.handled=B?)(g:s.1.IsKeyIter it d i es.size ep)(g1:s.1.get? d=A? od)(g2:od.data=.dict es ep)(hx:es.size<=i)
 (fin:∀h',XW it s.1 h'->Q B? {s with heap:=h'}):RQ (R7 prog w) A (UZ (.ref it)) Q E s:=by
 obtain⟨o,q1,q2,q3⟩:=id g;unfold UZ;refine Rv (Wd (SF (name:=RF "__next__") g.typeIs Uk (SI Uk g.typeIs F.entry_dict_keyiterator_next ?_ (F.args_dict_keyiterator_next_1 _))));refine Rv (RD ?_);refine Rv ?_;refine Rv ?_
 first|refine Rv (U7 g.typeIs (RD ?_))|refine Rv (Vy g.typeIs (RD ?_))
 refine Rv (XB q1 q3 ?_);have own:Ul "dict_keyiterator"=false:=by decide
 simp only[own,Uq,if_false];show RQ _ _ (if(Sg d == SY)=Bz then _ else _) _ _ s;rw[Za (show¬((Sg d == SY)=Bz)from R0)];refine Rv (RD ?_);refine Rv (Uh g1 g2 ?_);rw[Za (by simp)];refine Rv (RD ?_);refine Rv (VE g1 g2 ?_);rw[Za (by simp)];refine RD ?_;simp only[show¬((i:Int)<0)from by lia,if_false,RU,VD hx];refine Rv ?_
 first|refine Rv (U7 g.typeIs (RD ?_))|refine Rv (Vy g.typeIs (RD ?_))
 show RQ _ _ (setField (.ref it) 0 .none >>= _) _ _ s;refine Rv (WG q1 q3 (by simp) ?_);show RQ _ _ (newExc (.type "StopIteration") [] >>= _) _ _ _;refine Rv ?_;simp only[newExc,newTuple];refine Rv (Sv ?_ (by size_fits));refine Rv (m:=VT _ _) (wpAny_of_eq (a:=SY) (by first|rfl|(simp only[VT];rfl)) ?_);refine Sv ?_ (by size_fits);simp only[raiseNew];refine Rv (wpAny_handled ?_)
 first|rw[show A.in1.handled=B? from calm]|rw[calm]
 refine Rv (RD (wpAny_throw ?_));refine Rv (W8 (T:="StopIteration") (b:=Bz) ⟨_,RJ _ rfl,rfl⟩ isSubtype_stop ?_);exact RD (fin _ (((Ta ..).extBut.push _).push _))
theorem bb_keyIter(ns:(d == Tv)=C?)(g1:s.1.get? d=A? od)(gc:od.cls=.type "dict")(g2:od.data=.dict es ep)
 (fin:Q (.ref s.1.1.size) {s with heap:=s.1.push {cls:=.type "dict_keyiterator",data:=.fields #[.ref d,.int 0 0,.int es.size 0,.int ep 0]}}):RQ (R7 prog w) A (pyIter (.ref d)) Q E s:=by
 have gT:s.TypeIs (.ref d) "dict":=⟨_,g1,gc⟩;refine VR gT F.slot_dict_iter (SI F.slot_dict_iter gT F.entry_dict_iter ?_ (F.args_dict_iter_1 _));unfold Ur.«dict.__iter__»;refine Rv ?_;unfold Builtin.Dict.dictSlotNone;refine Rv (Xu gT ?_);show RQ _ _ (pure (Sg d)) _ _ s;refine RD ?_;show RQ _ _ (V6 d >>= _) _ _ s;unfold V6;rw[Za (by rw[ns];exact R0)];refine Rv (RD ?_);refine Rv (Uh g1 g2 ?_);refine Rv (VE g1 g2 ?_);refine Rv (Sv (RD ⟨_,rfl,"dict_keyiterator",_,⟨_,RJ _ rfl,rfl⟩,Uk.lookup,?_⟩));simpa[Ud]using fin
end
end PySem
namespace L2
open PySem PySem.Spec PyProof.Rows
theorem Inv.freeze{X:Cx}{o:TC}(I:Inv X Y σ H s)(ha:H a=A? (.dT kvs))(ho:s.1.get? a=A? o):Inv X Y σ (upd H a (.frz o (.dT kvs))) s:=by
 have ne:∀b u,H b=A? u->u≠.dT kvs->b≠a:=λb u e d z=>by rw[z,ha]at e;exact d (RN e).symm
 have ht:∀b xs,H b=A? (.tup xs)->upd H a (.frz o (.dT kvs)) b=A? (.tup xs):=λb xs e=>by rw[ac (ne b _ e (by intro z;cases z))];exact e
 have hw:∀c b,H b=A? (.own c)->upd H a (.frz o (.dT kvs)) b=A? (.own c):=λc b e=>by rw[ac (ne b _ e (by intro z;cases z))];exact e
 have st:∀b u,H b=A? u->ObjOk X.prog X.w (upd H a (.frz o (.dT kvs))) s.1 b u:=λb u e=>(I.hok b u e).stay (λ_ _ _ q=>q) (hw b) ht;refine I.step (g':=s.gens) (d':=s.drawn) (t':=s.toks) (ch:=[]) (λ_ z=>nomatch z) (λb ob _ _ _ e _=>e) (λb ob _ _ _ e _=>⟨ob.slots,e⟩) (λb ob _ e n=>?_) (λb ob _ e=>⟨ob,e⟩) ht (λb ob u e=>?_) (λb ps e=>⟨#[],?_⟩) (λm hm=>hm) (λb u e=>?_) I.bare
 .rw[ac (λz=>by rw[z,ha]at n;cases n)];exact n
 .rw[ac (ne b _ e (by intro z;cases z))];exact e
 .rw[ac (ne b _ e (by intro z;cases z)),e];simp
 .by_cases hb:b=a
  .subst hb;rw[ad]at e;cases e;exact⟨ho,st _ _ ha⟩
  .rw[ac hb]at e;exact st b u e
section
variable{X:Cx}{te:TE}
end
end L2
namespace BB
open PySem L2
inductive Top where
 |nm (n:R1) (m:Nat)
 |th (t:Th)
def bl:List Top->List Th
 | []=>[]
 |.nm n m::S=>.knot n ((bl S).take m)::(bl S).drop m
 |.th t::S=>t::bl S
def TopsOk:List Top->Prop
 | []=>True
 |.nm _ m::S=>m<=(bl S).length/\TopsOk S
 |.th _::S=>TopsOk S
theorem TopsOk.drop:∀{l:List Top}(i:Nat),TopsOk l->TopsOk (l.drop i)
 |l,0,h=>by rw[VB];exact h
 | [],i+1,h=>by rw[List.drop_nil];exact h
 | .nm n m::S,i+1,h=>by
   rw[TopsOk]at h;rw[Xn];exact TopsOk.drop i h.2
 | .th t::S,i+1,h=>by
   rw[TopsOk]at h;rw[Xn];exact TopsOk.drop i h
theorem mT:∀l:List Top,(bl l).length<=l.length
 | []=>RI _
 | .nm n m::S=>by
   have:=mT S;rw[bl,RV,RV,Uj];lia
 | .th t::S=>by
   have:=mT S;rw[bl,RV,RV];lia
mutual
def Th.fill(f:Int->Int->Th):Th->Th
 |.knot n ks=>.knot n (fills f ks)
 |.call s k=>f s k
def fills(f:Int->Int->Th):List Th->List Th
 | []=>[]
 |t::ts=>t.fill f::fills f ts
end
theorem gY(f:Int->Int->Th):∀ts:List Th,(fills f ts).length=ts.length
 | []=>by rw[fills]
 |t::ts=>by rw[fills,RV,RV,gY f ts]
mutual
theorem nX:∀t:Th,t.fill Yi=t
 |.knot n ks=>by rw[Th.fill,lK ks]
 |.call s k=>by rw[Th.fill]
theorem lK:∀ts:List Th,fills Yi ts=ts
 | []=>by rw[fills]
 |t::ts=>by rw[fills,nX t,lK ts]
end
def cj(f:Int->Int->Th):Th->Top
 |.knot n ks=>.nm n ks.length
 |.call s k=>.th (f s k)
theorem fR(f:Int->Int->Th):∀(n:Nat)(ts:List Th),au ts<=n->∀S,bl ((walks ts).map (cj f)++S)=fills f ts++bl S/\(TopsOk S->TopsOk ((walks ts).map (cj f)++S))
 |_,[],_,S=>by rw[walks,fills];exact⟨CA,λh=>h⟩
 | 0,t::ts,hn,S=>by
   have:=t.size_pos;rw[au]at hn;lia
 | n+1,t::ts,hn,S=>by
   have hs:=t.size_eq;rw[au]at hn;have h2:=fR f n ts (by lia) S;have e:(walks (t::ts)).map (cj f)++S=cj f t::((walks t.kids).map (cj f)++((walks ts).map (cj f)++S)):=by rw[walks,t.walk_eq];simp
   have h1:=fR f n t.kids (by lia) ((walks ts).map (cj f)++S);rw[e];cases t with
   | knot nm ks =>
     simp only[Th.kids]at h1 |-;refine⟨?_,λhS=>?_⟩
     .show bl (.nm nm ks.length::_)=_;rw[bl,h1.1,h2.1,<-gY f ks,List.take_left,List.drop_left,fills,Th.fill];rfl
     .show TopsOk (.nm nm ks.length::_);rw[TopsOk];refine⟨?_,h1.2 (h2.2 hS)⟩;rw[h1.1,RK,gY];exact Nat.le_add_right _ _
   | call s k =>
     simp only[Th.kids,walks,T5,V3]at h1 |-;refine⟨?_,λhS=>?_⟩
     .show bl (.th (f s k)::_)=_;rw[bl,h2.1,fills,Th.fill];rfl
     .show TopsOk (.th (f s k)::_);rw[TopsOk];exact h2.2 hS
theorem sH(f:Int->Int->Th)(t:Th):bl (t.walk.map (cj f))=[t.fill f]/\TopsOk (t.walk.map (cj f)):=by
 have h:=fR f _ [t] (RI _) [];have e:walks [t]=t.walk:=by simp[walks]
 rw[e,T1]at h;refine⟨?_,h.2 (by rw[TopsOk];trivial)⟩;rw[h.1,fills,fills,bl];rfl
theorem oJ(x:V)(xs:List V):eY (x::xs) B? (A? 1)=[x]:=by
 unfold eY;rw[show(A? (1:Int))=A? ((1:Nat):Int)from rfl,HT.sIx_nat,HT.sIx_none,RV,Nat.min_eq_left (by lia)];rfl
end BB
namespace PySem
open Sem (wp)
end PySem
namespace L2
open PySem PySem.Spec PyProof.Rows BB
end L2
namespace BB
open PySem L2
theorem qK{k:Nat}(hr:L2.Room k A):A.units+150+2<Ve:=by
 have:=hr.un;lia
end BB
namespace L2
open PySem PySem.Spec PySem.SeqAt PyProof.Rows BB
end L2
namespace BB
open PySem L2
theorem P2.mapl{γ:Type}{R:β->γ->Prop}(f:α->β):∀{xs:List α}{cs:List γ},Sb (λx c=>R (f x) c) xs cs->Sb R (xs.map f) cs
 |_,_,.nil=>.nil
 |_,_,.cons r h=>.cons r (P2.mapl f h)
end BB
namespace L2
open PySem PySem.Spec PySem.SeqAt PyProof.Rows BB
end L2
namespace BB
open PySem L2
end BB
namespace L2
open PySem PySem.Spec PyProof.Rows BB
end L2
namespace BB
open PySem L2
end BB
namespace L2
open PySem PySem.Spec PySem.Calls PyProof.Rows PySem.W
structure gO(K:Frag)(C:Ry):Prop where
 exc:excIn K C [.type "ValueError",.type "Exception",.type "BaseException",.type "object"] "ValueError.__new__"=Bz
 ga:findIn K (.ref C) "__getattribute__"=A? (A? (.builtin "BaseException.__getattribute__"))
 gt:findIn K (.ref C) "__getattr__"=A? B?
 cl:findIn K (.ref C) "__class__"=A? (A? (.builtin "object.__class__"))
 mo:mroIn K C (.type "object")=A? Bz
 mb:mroIn K C (.type "BaseException")=A? Bz
section
variable{g:Array GenState}{d:Drawn}{t:Nat}{os:We}{o:TC}{K:Frag}
open Builtin Builtin.ObjectAttr Builtin.Getset_descriptor in
theorem rh{tp:Rz}(X:K.In h)(hx:h.get? a=A? o)(hc:o.cls=.ref C)(F:gO K C)(hq:R (.ok (.ret (.ref C))) ⟨h,g,d,t,os⟩) :
 UW (R7 prog w) A (.call (.builtin "getset_descriptor.__get__") ⟨[.builtin "object.__class__",.ref a,tp],[]⟩) R ⟨h,g,d,t,os⟩:=by
 have L0:Looks (R7 prog w) h (typeOf (.ref a)) (.ref C):=hc ▸ (Looks.ld hx).andThen .now;have L1:=looks_mroIn (M:=R7 prog w) X F.mo;refine codeAny_call_builtin KF.slot_gs.plain KF.entry_gs (KF.slot_gs.check _ _ _ _ _ _ _ _ KF.type_class (KF.args_gs _ _ _) ?_);unfold Ur.«getset_descriptor.__get__» descrGet;rw[dga_obj];refine Rv (RD ?_);unfold descrGetter descrCheckInstance descrNameAndClass isInstance;simp only[KF.owner_class]
 repeat lk
 refine⟨Code.quiet_builtin _ (by decide +kernel),UC KF.entry_class ?_⟩;unfold Ur.«object.__class__» shownTypeOf
 repeat lk
 exact hq
theorem nG{Q:Fin->RE->Prop}(X:K.In h)(hx:h.get? a=A? o)(hc:o.cls=.ref C)(F:gO K C)(hq:Q (.done (.ret (.ref C))) ⟨h,g,d,t,os⟩) :
 RQ (R7 prog w) A (Ur.«object.__getattribute__» ⟨[.ref a,.str "__class__" tk],[]⟩) Q E ⟨h,g,d,t,os⟩:=by
 have f5:=PySem.F.typeOf_object_class;have f6:=PySem.F.slot_gs_get.lookup;have f7:=PySem.F.slot_gs_set.lookup;have L1:=looks_findIn (M:=R7 prog w) X F.cl
 repeat (any_goals (first|assumption|(with_reducible refine wpAny_loadPart_at hx ?_;rw[hc])|with_reducible refine L1.at ?_|wp_step))
 refine rh X hx hc F ?_
 repeat (any_goals (first|assumption|wp_step))
theorem mG{Cf:Rz}{Q:Unit->RE->Prop}(X:K.In h)(hx:h.get? a=A? o)(hc:o.cls=.ref C)(F:gO K C)(hq:Q () ⟨h,g,d,t,os⟩) :
 RQ M A (checkBuiltinCall "BaseException.__getattribute__" ⟨[.ref a,Cf],[]⟩) Q E ⟨h,g,d,t,os⟩:=by
 have hk:builtinKind "BaseException.__getattribute__"=A? .slot:=by decide +kernel
 have CO:splitId "BaseException.__getattribute__"=A? ("BaseException","__getattribute__"):=by decide +kernel
 have ha:=PySem.F.args_bexc_ga (.ref a) Cf;have L0:Looks M h (typeOf (.ref a)) (.ref C):=hc ▸ (Looks.ld hx).andThen .now;have L1:=looks_mroIn (M:=M) X F.mb;simp only[checkBuiltinCall,hk,CO];refine Rv ?_
 .unfold isInstance
  repeat (first|with_reducible refine L0.at ?_|with_reducible refine L1.at ?_|wp_step)
  exact hq
theorem pk(X:K.In h)(hx:h.get? a=A? o)(hc:o.cls=.ref C)(F:gO K C)(hq:R (.ok (.ret (.ref C))) ⟨h,g,d,t,os⟩) :
 UW (R7 prog w) A (.call (.builtin "BaseException.__getattribute__") ⟨[.ref a,.str "__class__" tk],[]⟩) R ⟨h,g,d,t,os⟩ :=
 codeAny_call_builtin PySem.F.attr_ValueError.ga.plain PySem.F.entry_bexc_ga (mG X hx hc F (nG X hx hc F hq))
theorem sf{fill expr:Bool}(X:K.In h)(hx:h.get? a=A? o)(hc:o.cls=.ref C)(F:gO K C)(hq:Q (.ref C) ⟨h,g,d,t,os⟩) :
 RQ (R7 prog w) A (getAttrBy (.ref a) (.str "__class__" tk) fill expr) Q E ⟨h,g,d,t,os⟩:=by
 have f3:=PySem.F.attr_ValueError.ga.bind (.ref a);have Ld:(expr && onTheHeap (W5 "BaseException.__getattribute__"))=false:=by cases expr <;> rfl
 have IE:(W5 "BaseException.__getattribute__" == W5 "object.__getattribute__")=false:=by decide +kernel
 have QZ:(onTheHeap (Sg C) && W5 "BaseException.__getattribute__" == W5 "object.__getattribute__")=false:=by rw[IE];rfl
 have L1:=looks_findIn (M:=R7 prog w) X F.ga;have L2:=looks_findIn (M:=R7 prog w) X F.gt
 repeat (any_goals (first|assumption|(with_reducible refine wpAny_loadPart_at hx ?_;rw[hc])|with_reducible refine L1.at ?_|with_reducible refine L2.at ?_|wp_step))
 refine pk X hx hc F ?_
 repeat (any_goals (first|assumption|wp_step))
theorem pJ{Q:Option Rz->RE->Prop}(X:K.In h)(hx:h.get? a=A? o)(hc:o.cls=.ref C)(F:gO K C)(hq:Q (A? (.ref C)) ⟨h,g,d,t+1,os⟩) :
 RQ (R7 prog w) A (getAttr? (.ref a) "__class__") Q E ⟨h,g,d,t,os⟩:=by
 unfold getAttr? getAttrBy?
 repeat (any_goals (first|assumption|with_reducible apply sf X hx hc F|wp_step))
theorem qQ(F:gO K C):KitX K (.ref a) (.ref C) (λh=>∃o,h.get? a=A? o/\o.cls=.ref C) where
 ty:=λ_ _ _⟨_,hx,hc⟩=>hc ▸ (Looks.ld hx).andThen .now
 it:=λ_ _ X _=>by
  have hb:=F.mb;unfold mroIn clsIn at hb;split at hb
  .rename_i c' d' NB HR ho
   intro A' Q' E' s' k q;unfold isType loadHead;exact Rv (wpAny_loadPart (k _ _ (X _ _ ho)) (RD q))
  .cases hb
 ne:=λh tp dd its n sl X IF=>by
  refine Bool.eq_false_iff.mpr λq=>?_;have e:C=tp:=Value.ref.inj (beq_iff_eq.mp q);subst e;have hb:=F.mb;unfold mroIn clsIn at hb;split at hb
  .rename_i c' d' NB HR ho
   have z:=(X _ _ ho).symm.trans IF;cases z
  .cases hb
 ca:=λ{_ _ _ _ _ s}X⟨_,hx,hc⟩k=>by obtain⟨h,g,d,t,os⟩:=s;exact pJ X hx hc F k
end
def v9:V->Rz
 |.ref D=>.ref D
 |.ty n=>.type n
 |_=>.none
def qC(K:Frag)(ea C:Ry):List V->Hp->VK->Prop:=λxs H Q=>∃v b,xs=[.ref ea,v]/\kitOne K (.ref C) (v9 v)=A? b/\Q (.bl b) H
theorem fZ{X:Cx}{K:Frag}(hp:(ea,oe)∈X.pn)(hc:oe.cls=.ref C)(F:gO K C)(hK:X.K=K:=by rfl):io X (.builtin "isinstance") (qC K ea C):=by
 subst hK;intro Y s σ H xs us Q I r h;obtain⟨v,b,rfl,k,q⟩:=h;obtain⟨u,w',rfl,r1,r2⟩:=vals2 r;cases(show u=Sg ea from r1)
 have hv:w'=v9 v:=by
  cases v with
  |ref D=>exact r2
  |ty n=>exact r2
  |non=>exact Yd k (by intro z;cases z)
  |bl _=>exact Yd k (by intro z;cases z)
  |int _=>exact Yd k (by intro z;cases z)
  |str _=>exact Yd k (by intro z;cases z)
  |byt _=>exact Yd k (by intro z;cases z)
  |flt _=>exact Yd k (by intro z;cases z)
 subst hv;have hx:=(I.pin (ea,oe) (RL _ hp)).1;exact kia_one (qQ F) I.kIn ⟨oe,hx,hc⟩ k (λz=>nomatch z) λtk=>⟨.bl b,H,I.tok tk,rfl,q⟩
theorem ObjOk.there(x:ObjOk P w H h a o):∃ob,h.get? a=A? ob:=by
 cases o with
 |lst xs=>obtain⟨_,_,_,_,e⟩:=x;exact⟨_,e⟩
 |tup xs=>obtain⟨_,_,_,_,e⟩:=x;exact⟨_,e⟩
 |dK kvs=>obtain⟨_,_,_,_,o,_,_,e,_⟩:=x;exact⟨_,e⟩
 |dT kvs=>obtain⟨_,_,_,_,o,_,_,e,_⟩:=x;exact⟨_,e⟩
 |set S n=>obtain⟨o,_,_,_,e,_⟩:=x;exact⟨_,e⟩
 |ins C dx fs=>obtain⟨_,_,_,e,_⟩:=x;exact⟨_,e⟩
 |own y=>obtain⟨_,e⟩:=x;exact⟨_,e⟩
 |xd fs=>obtain⟨_,⟨_,_,_,e,_⟩,_⟩:=x;exact⟨_,e⟩
 |rng lo hi=>obtain⟨_,_,_,e⟩:=x;exact⟨_,e⟩
 |frz ob u=>obtain⟨e,_⟩:=x;exact⟨_,e⟩
 |tbl ps=>exact⟨_,(show h.get? a=A? _ from x)⟩
 |met f y=>exact⟨_,(show h.get? a=A? _ from x)⟩
 |ext φ=>obtain⟨_,⟨_,e⟩,_⟩:=x;exact⟨_,e⟩
def CX1(P:R3)(w:Se):CXT:=λouter H s E e s'=>∃(ea C:Ry)(a0:Rz)(B:SM)(H':Hp),
 e=.ref ea/\s'.os=s.os/\Xy s'.gens/\Un (frs outer) [] H H' s.1 s'.1/\HOk P w H' s'.1/\Heap.FlyingW B outer ea (.ref C) a0 s'.1 /\
 (∀b o,s.1.get? b=A? o->b∉frs outer->∃o',B.get? b=A? o'/\(H b=B?->o'=o))/\(∀b u,H' b=A? u->∃o',B.get? b=A? o')/\E (.ref C) B? H'
theorem ll{B:SM}(hok:HOk P w H' h)(k1:B.StaysIn h)(k2:B.StaysIn h')(b2:∀b u,H' b=A? u->∃o',B.get? b=A? o'):HOk P w H' h':=λa o e =>
 (hok a o e).stay (λb u hb q=>by
  have ht:∃v,H' b=A? v:=by
   rcases hb with rfl|hb
   .exact⟨_,e⟩
   .exact⟨_,hb⟩
  obtain⟨v,hv⟩:=ht;obtain⟨o',zo⟩:=b2 b v hv;have:=k1 b o' zo;rw[q]at this;cases this;exact k2 b _ zo) (λ_ q=>q) λ_ _ q=>q
theorem nJ{fs:List Ry}{h1 h2:SM}{l:List Ry}{B:SM}(u1:Un fs [] H H1 h h1)(u2:Un l [] H1 H' h1 h2)(hl:∀b o,h.get? b=A? o->b∈l->b∈fs)
 (b1:∀b o,h1.get? b=A? o->b∉l->∃o',B.get? b=A? o'/\(H1 b=B?->o'=o)) (st:B.StaysIn h') (up:h2.UpToSlots h')
 (hf:∀b∈fs,H b=B?/\∃o,h.get? b=A? o/\∀vs,o.data≠.fields vs) :
 Un fs [] H H' h h'/\∀b o,h.get? b=A? o->b∉fs->∃o',B.get? b=A? o'/\(H b=B?->o'=o):=by
 have nx:∀b:Ry,b∉([]:List Ry):=λb=>by simp
 have bb:∀b o,h.get? b=A? o->b∉fs->∃o',B.get? b=A? o'/\(H b=B?->o'=o):=λb o q nf=>by
  obtain⟨o1,e1⟩:=u1.there b o q (nx b);obtain⟨o',e',g⟩:=b1 b o1 e1 λz=>nf (hl b o q z);refine⟨o',e',λn=>?_⟩;have:=u1.keep b o q n nf (nx b);rw[e1]at this;cases this;exact g (u1.free b _ q n (nx b))
 have sl:∀b o,h.get? b=A? o->H b=B?->b∈fs->∃sl,h'.get? b=A? {o with slots:=sl}:=λb o q n m=>by
  obtain⟨s1,e1⟩:=u1.slot b o q n m (nx b);obtain⟨s2,e2⟩:=u2.any e1 (u1.free b o q n (nx b)) (nx b);obtain⟨_,o0,q0,nf⟩:=hf b m;rw[q]at q0;cases q0;obtain⟨s3,e3⟩:=up b _ e2 nf;exact⟨s3,e3⟩
 refine⟨⟨λb o q n nf _=>?_,λb o q n m _=>sl b o q n m,λb o q n _=>?_,λb o q _=>?_,λb xs q=>u2.tups b xs (u1.tups b xs q),λb o u q=>u2.frzs b o u (u1.frzs b o u q),λb ps q=>?_⟩,bb⟩
 .obtain⟨o',e',g⟩:=bb b o q nf;rw[<-g n];exact st b o' e'
 .obtain⟨o1,e1⟩:=u1.there b o q (nx b);exact u2.free b o1 e1 (u1.free b o q n (nx b)) (nx b)
 .by_cases m:b∈fs
  .obtain⟨n,_⟩:=hf b m;obtain⟨s3,e3⟩:=sl b o q n m;exact⟨_,e3⟩
  .obtain⟨o',e',_⟩:=bb b o q m;exact⟨o',st b o' e'⟩
 .obtain⟨m1,e1⟩:=u1.tbls b ps q;obtain⟨m2,e2⟩:=u2.tbls b _ e1;exact⟨m1++m2,by rw[e2,Array.append_assoc]⟩
section
variable{cd:Rz}{E:XK}
theorem mF{l:List Xz}{L:Ry}(hf:env.frame=A? L):frs (env::l)=L::frs l:=by unfold frs;rw[UG,hf]
theorem l9:Passes (CX1 P w) (iy (CX1 P w) P w K mg base N qual scope f cd A outer s H E) E:=by
 intro Y σ H1 s1 e s2 I h;obtain⟨ea,C,a0,B,H',rfl,yX,AV,un,hok,Bp,b1,b2,q⟩:=h;show RQ _ _ (leaving _ _) _ _ s2;refine wpAny_leaves_onW (E:=λe' Es=>CX1 P w outer H s E e' Es) I.ok.frames rfl Bp λh' CP up=>?_
 obtain⟨U,IG⟩:=nJ (fs:=frs outer) (H:=H) (h:=s.1) (l:=frs (UN qual scope s.1.1.size f cd::outer)) (B:=B) (h':=h') I.base un (λb o hb z=>by
  rw[mF (L:=s.1.1.size) rfl]at z;rcases RR.mp z with rfl|z
  .exact Yd (RY hb) (S7 _)
  .exact z) b1 CP.1 up (λb hb=>⟨I.ok.frf b hb,(I.ok.funs.mem hb).2⟩)
 exact⟨ea,C,a0,B,H',CA,yX.trans I.os,AV,U,ll hok Bp.1 CP.1 b2,CP,IG,b2,q⟩
def u9(te:TE)(C:Ry)(E:XK):TS:=λ_ σ H=>te σ H λ_ H1=>E (.ref C) B? H1
theorem rX(X:K.In h)(F:gO K C)(hm:mg x=A? (.ref C)):OwnCls x C [.type "ValueError",.type "Exception",.type "BaseException",.type "object"] "ValueError.__new__" mg h:=by
 have q:=F.exc;refine⟨hm,?_⟩;unfold excIn at q;split at q
 .rename_i dd cd sl ho
  split at q
  .rename_i C' bm k0 k1 k2 k3 n k5 hm hs
   simp only[UM,beq_iff_eq,XY]at q;obtain⟨⟨⟨⟨⟨rfl,rfl⟩,EY⟩,ht⟩,hok⟩,GN⟩:=q;obtain⟨nm,bs,mro,ns,qn,hd,sn,sub,ab,col,del⟩:=cd;dsimp only at hm EY hok GN;subst hm EY
   have NC:sl=#[k0,k1,k2,k3,A? (.builtin "ValueError.__new__"),k5]:=by
    obtain⟨l⟩:=sl;simp only at hs;rw[hs]
   subst NC;exact⟨bm,ns,nm,qn,bs,hd,sn,sub,ab,col,dd,k0,k1,k2,k3,k5,_,X _ _ ho,.of_isNs (isNs_of_in X hok),nsMap_none_of_in X hok GN,tail_of_in X ht⟩
  .cases q
 .cases q
theorem qF{e0:Su}{te:TE}{np xk:UX}(F:gO K C)(hm:mg x=A? (.ref C))(he:PE (iy (CX1 P w) P w K mg base N qual scope f cd A outer s H E) e0 te)
 (hx:(UN qual scope s.1.1.size f cd).kindOf x=A? .globalImplicit:=by rfl)
 (xB:Sk [e0] (UN qual scope s.1.1.size f cd)=[(C?,TN e0 (UN qual scope s.1.1.size f cd))]:=by rfl) (hd:(x == ("__debug__":R1))=false:=by decide) :
 PS (iy (CX1 P w) P w K mg base N qual scope f cd A outer s H E) (.Raise (A? (.Call (.Name x np) [e0] [] xk)) B? pos) (u9 te C E):=by
 intro Y s1 σ H1 D I h;obtain⟨tl,N',nm,q,bs,hdct,sn,sub,ab,col,dd,k0,k1,k2,k3,k5,mN,hC,hN,GN,T⟩:=(rX I.mod.kin F hm).obj
 refine wpAny_Raise_call_subT (C:=C) (nm:=nm) (q:=q) (N:=N') (bs:=bs) (bm:=tl) (hdct:=hdct) (sn:=sn) (sub:=sub) (ab:=ab) (col:=col) (dd:=dd) (k0:=k0) (k1:=k1) (k2:=k2) (k3:=k3) (k5:=k5)
  PySem.F.excBase_ValueError (mN:=mN) (T.hasType PySem.F.excBase_ValueError.hasBase) (I.ok.hd rfl) (by show(UP xk (Sk [e0] (UN qual scope s.1.1.size f cd))).any (·.1)=C?;rw[xB];rfl) GN (gj I hx hm ⟨rfl,?_⟩ hd)
 show RQ _ _ (evalArgs _ Bz (UP xk (Sk [e0] (UN qual scope s.1.1.size f cd))) []) _ _ _;rw[xB];refine XX (TQ (thn (he Y s1 σ H1 _ I h) λv s2⟨y,H2,I2,r2,q2⟩=>Ui ⟨rfl,by show 1<=RZ;decide,I2.bk _ _ hC,hN.keeps I2.bk,T.keeps I2.bk,λh' e hx=>?_⟩));show RQ _ _ (leaving _ _) _ _ _;have FF:=I2.stack;have hl:∀env∈UN qual scope s.1.1.size f cd::outer,∀a,env.frame=A? a->a∈frs (UN qual scope s.1.1.size f cd::outer):=λenv he a ha=>Wm.mpr ⟨env,he,ha⟩;refine wpAny_leaves_madeW (base:=hideAll s2.1 (frs (UN qual scope s.1.1.size f cd::outer))) (h:=s2.1) I.ok.frames rfl (λb o z=>of_hideAll _ z) (funFrames_hide FF hl) hx λh2 t Bp tup tn up=>?_;have nf:∀b u,H2 b=A? u->b∉frs (UN qual scope s.1.1.size f cd::outer):=λb u e z=>by rw[I2.stkFree b z]at e;cases e
 obtain⟨U,IG⟩:=nJ (fs:=frs outer) (H:=H) (H1:=H2) (H':=H2) (h:=s.1) (h1:=s2.1) (h2:=h') (l:=frs (UN qual scope s.1.1.size f cd::outer)) (B:=hideAll s2.1 (frs (UN qual scope s.1.1.size f cd::outer))) (h':=h2) I2.base (Un.kept hx.keeps) (λb o hb z=>by
  rw[mF (L:=s.1.1.size) rfl]at z;rcases RR.mp z with rfl|z
  .exact Yd (RY hb) (S7 _)
  .exact z) (λb o hb z=>⟨o,hideAll_get _ hb z,λ_=>rfl⟩) Bp.1 up (λb hb=>⟨I.ok.frf b hb,(I.ok.funs.mem hb).2⟩)
 have b2:∀b u,H2 b=A? u->∃o',(hideAll s2.1 (frs (UN qual scope s.1.1.size f cd::outer))).get? b=A? o':=λb u e=>by
  obtain⟨o,ho⟩:=(I2.hok b u e).there;exact⟨o,hideAll_get _ ho (nf b u e)⟩
 exact⟨e,C,.ref t,_,H2,CA,I2.os,I2.bare,U,ll I2.hok (λb o z=>of_hideAll _ z) Bp.1 b2,Bp,IG,b2,q2⟩
end
section
variable{X:Cx}
def Cx.tryB(X:Cx)(Y:List (Ry×TC))(R:St->Rz->Hp->Prop):Cx:={ X with
 pn:=X.pn++Y
 xe:=λe s'=>∃xA H1 s1,Inv X Y xA H1 s1/\CX1 X.prog X.w X.stack H1 s1 (λc _ H'=>R xA c H') e s' }
def Cx.suite(X:Cx)(ea:Ry)(oe:TC):Cx:={ X with
 A:=X.A.mark (A? (.ref ea))
 calm:=C?
 pn:=X.pn++[(ea,oe)]
 xe:=λ_ _=>False }
theorem Inv.tryB(I:Inv X Y σ H s)(R:St->Rz->Hp->Prop):Inv (X.tryB Y R) [] σ H s :=
 ⟨⟨I.ok.mod,I.ok.kind,I.ok.glob,I.ok.blt,I.ok.above,I.ok.inj,I.ok.has,I.ok.cab,I.ok.hd,I.ok.frames,I.ok.stk,I.ok.exf,I.ok.bs,I.ok.bsz,I.ok.noex,I.ok.exfs,I.ok.funs,I.ok.frf⟩,
   I.os,I.bare,I.base,I.loc,I.cell,I.free,I.freeC,λp hp=>I.pin p (by simpa[Cx.tryB]using hp),I.hok,I.len⟩
theorem Inv.untryB{R:St->Rz->Hp->Prop}{yA:List (Ry×TC)}(I:Inv (X.tryB Y R) yA σ H s):Inv X Y σ H s :=
 ⟨⟨I.ok.mod,I.ok.kind,I.ok.glob,I.ok.blt,I.ok.above,I.ok.inj,I.ok.has,I.ok.cab,I.ok.hd,I.ok.frames,I.ok.stk,I.ok.exf,I.ok.bs,I.ok.bsz,I.ok.noex,I.ok.exfs,I.ok.funs,I.ok.frf⟩,
   I.os,I.bare,I.base,I.loc,I.cell,I.free,I.freeC,λp hp=>I.pin p (RL _ hp),I.hok,I.len⟩
theorem Inv.suite(I:Inv X Y σ H s)(h:s.1.get? ea=A? oe/\H ea=B?/\ea≠X.env.locals/\ea∉X.fs/\∀v,oe.data≠.cell v):Inv (X.suite ea oe) Y σ H s :=
 ⟨⟨I.ok.mod,I.ok.kind,I.ok.glob,I.ok.blt,I.ok.above,I.ok.inj,I.ok.has,I.ok.cab,(λz=>nomatch z),I.ok.frames,I.ok.stk,I.ok.exf,I.ok.bs,I.ok.bsz,I.ok.noex,I.ok.exfs,I.ok.funs,I.ok.frf⟩,
   I.os,I.bare,I.base,I.loc,I.cell,I.free,I.freeC,λp hp=>by
    have hp:p∈(X.pn++[(ea,oe)])++Y:=hp;rcases RM.mp hp with hp|hp
    .rcases RM.mp hp with hp|hp
     .exact I.pin p (RL _ hp)
     .obtain rfl:=RC.mp hp;exact h
    .exact I.pin p (R5 _ hp),I.hok,I.len⟩
theorem Inv.unsuite(I:Inv (X.suite ea oe) Y σ H s)(hd:X.calm=Bz->X.A.handled=B?):Inv X Y σ H s :=
 ⟨⟨I.ok.mod,I.ok.kind,I.ok.glob,I.ok.blt,I.ok.above,I.ok.inj,I.ok.has,I.ok.cab,hd,I.ok.frames,I.ok.stk,I.ok.exf,I.ok.bs,I.ok.bsz,I.ok.noex,I.ok.exfs,I.ok.funs,I.ok.frf⟩,
   I.os,I.bare,I.base,I.loc,I.cell,I.free,I.freeC,λp hp=>I.pin p (by
    show p∈(X.pn++[(ea,oe)])++Y;rcases RM.mp hp with hp|hp
    .exact RL _ (RL _ hp)
    .exact R5 _ hp),I.hok,I.len⟩
theorem name_goes{Q:Unit->RE->Prop}(I:Inv X Y σ H s)(hN:X.N.Nodup)(hi:X.N[i]?=A? x)(hx:X.env.scope.names.lookup x=A? .local)
 (h:∀s',Inv X Y (σ.set i B?) H s'->Q () s'):RQ M A (do bindName X.env x .none;XC X.env x pos) Q E s:=by
 have Cy:(X.env.scope.kind == .class ||(X.env.scope.kind == .module && X.env.locals != X.env.globals))=false:=by rw[I.ok.kind];rfl
 refine Rv (wpAny_bindName (ei (v:=.non) I hN hi (.inl hx) rfl (λs1 I1=>?_) (.inr hx)));unfold XC;refine W3 (Tq (E:=λ_ _=>False) ?_ (λ_ _ z=>z) λ_ _ z=>z.elim);obtain⟨m,hn,hl⟩:=id I1.loc;have Ax:i<σ.length:=by rw[I.len];exact(glE hi)
 obtain⟨u,ru,lu⟩:=hl i x .non hi (SS Ax) (.inl hx)
 have hv:m x=A? SY:=by
  rcases lu with⟨_,e⟩|⟨k,_⟩
  .cases(show u=SY from ru);exact e
  .have yL:X.env.kindOf x=A? .local:=hx;rw[yL]at k;rcases k with k|k <;> cases k
 refine wpAny_unbindName_local hx hn hv Cy λh' u' Bl hs=>?_;obtain⟨oL,_,_,KZ,_⟩:=id hn;have DD:∀b o,X.s₀.heap.get? b=A? o->b≠X.env.locals:=λb o e=>Sa (So (RY e) I.ok.above);refine h _ ⟨I1.ok,I1.os,I1.bare,⟨λb o e n hb hx=>(hs.2 b (DD b o e)).trans (I1.base.keep b o e n hb hx),λb o e n hb hx=>?_,I1.base.free,λb o e hx=>?_,I1.base.tups,I1.base.frzs,I1.base.tbls⟩,⟨_,Bl,λj y v' e1 e2 e3=>?_⟩,λy c e=>?_,I1.free,I1.freeC,λp hp=>?_,?_,by simpa using I.len⟩
 .obtain⟨sl,e1⟩:=I1.base.slot b o e n hb hx;exact⟨sl,(hs.2 b (DD b o e)).trans e1⟩
 .obtain⟨o',e1⟩:=I1.base.there b o e hx;exact⟨o',(hs.2 b (DD b o e)).trans e1⟩
 .by_cases hj:j=i
  .subst hj;rw[SS Ax]at e2;cases e2
  .rw[SU (Tn hj)]at e2;obtain⟨u2,r2,q2⟩:=hl j y v' e1 (by rw[SU (Tn hj)];exact e2) e3;refine⟨u2,r2,?_⟩;rcases q2 with⟨k,e⟩|⟨k,c,e,z⟩
   .refine .inl ⟨k,?_⟩;have:y≠x:=λe=>hj (iJ hN e1 (e ▸ hi));simp[this,e]
   .exact .inr ⟨k,c,e,z.sameBut hs (I1.cne y c e)⟩
 .obtain⟨w',z⟩:=I1.cell y c e;exact⟨w',z.sameBut hs (I1.cne y c e)⟩
 .obtain⟨e,n,ne,nf,d⟩:=I1.pin p hp;exact⟨(hs.2 p.1 ne).trans e,n,ne,nf,d⟩
 .intro b ob e;refine(I1.hok b ob e).stay (λc w' hc q=>(hs.2 c ?_).trans q) (λ_ q=>q) λ_ _ q=>q;rintro rfl;rcases hc with rfl|hc
  .rw[I1.free]at e;cases e
  .rw[I1.free]at hc;cases hc
end
structure Hit(K:Frag)(C Ch:Ry):Prop where
 exc:gO K C
 hit:exmOne K (.ref C) (.ref Ch)=A? Bz
def Ends.as(D:Ends)(i:Nat):Ends:={nx:=λσ H=>D.nx (σ.set i B?) H,rt:=D.rt,bk:=λσ H=>D.bk (σ.set i B?) H,ct:=λσ H=>D.ct (σ.set i B?) H}
def uI(K:Frag)(Ch:Ry)(i:Nat)(ts:Ry->Ry->TS)(D:Ends):St->Rz->Hp->Prop:=λxA c H'=>∃C,c=.ref C/\Hit K C Ch/\∀ea,H' ea=B?->ts ea C (D.as i) (xA.set i (A? (.ref ea))) H'
def v5(K:Frag)(Ch:Ry)(i:Nat)(tb:(St->Rz->Hp->Prop)->TS)(ts:Ry->Ry->TS):TS:=λD σ H=>tb (uI K Ch i ts D) D σ H
theorem SP.untryB{X:Cx}{R:St->Rz->Hp->Prop}{f:Flow}(h:SP (X.tryB Y R) [] D f s'):SP X Y D f s':=by
 cases f with
 |next=>obtain⟨i',H',I,q⟩:=h;exact⟨i',H',I.untryB,q⟩
 |brk=>obtain⟨i',H',I,q⟩:=h;exact⟨i',H',I.untryB,q⟩
 |cont=>obtain⟨i',H',I,q⟩:=h;exact⟨i',H',I.untryB,q⟩
 |ret u=>obtain⟨v,i',H',I,r,q⟩:=h;exact⟨v,i',H',I.untryB,r,q⟩
theorem oZ{X:Cx}{Ch:Ry}{cx n:R1}{np AW:UX}{suite:List V0}{b0:V0}{tb:(St->Rz->Hp->Prop)->TS}{ts:Ry->Ry->TS}
 (hb:∀Y R,PSs (X.tryB Y R) body (tb R)) (hs:∀ea oe C,oe.cls=.ref C->gO X.K C->PSs (X.suite ea oe) (b0::suite) (ts ea C))
 (hN:X.N.Nodup) (hi:X.N[i]?=A? n) (hn:X.env.scope.names.lookup n=A? .local) (xB:X.stack=X.env::X.outer) (BJ:X.env.frame=A? X.env.locals) (hg:Gl X cx) (hm:X.mg cx=A? (.ref Ch))
 (hd:(cx == ("__debug__":R1))=false:=by decide) :
 PS X (.Try body [.ExceptHandler (A? (.Name cx np)) (A? n) (b0::suite) AW] [] [] pos) (v5 X.K Ch i tb ts):=by
 intro Y s σ H D I h;refine wpAny_Try_except ?_;have xF:=hb Y (uI X.K Ch i ts D) [] s σ H D (I.tryB _) h;refine Tq xF (λf s1 q=>?_) λe s1 q=>?_
 .have q':=SP.untryB q;cases f with
  |next=>exact Wq q'
  |brk=>exact q'
  |cont=>exact q'
  |ret u=>exact q'
 .obtain⟨xA,H1,s0,I1,ea,C,a0,B,H',rfl,yX,AV,un,hok,Bp,b1,b2,C',Ii,hit,q⟩:=q;cases Ii;rw[xB]at Bp;have IH:X.A.frames=A? (X.env::X.outer):=by rw[<-xB];exact I1.ok.frames
  have inv:∀(h6:SM)(tk:Nat),Heap.FlyingW B (X.env::X.outer) ea (.ref C) a0 h6->s1.1.UpToSlots h6->Inv X Y xA H' {s1 with heap:=h6}:=λh6 tk zB up=>by
   obtain⟨U,_⟩:=nJ (fs:=frs X.stack) (H:=H1) (H1:=H1) (h:=s0.1) (h1:=s0.1) (h':=h6) (l:=frs X.stack) (B:=B) Un.refl un (λb o _ z=>z) b1 zB.1 up (λb hb=>⟨I1.stkFree b hb,(I1.stack.mem hb).2⟩);exact I1.call' (s':={s1 with heap:=h6}) (ch:=[]) yX U (ll hok Bp.1 zB.1 b2) AV λ_ z=>nomatch z
  refine wpAny_looks_onW IH BJ Bp λh4 EZ NF=>?_;refine wpAny_landsW EZ λh5 CQ NG=>?_;have E1:=NF.trans NG;have I5:=inv h5 0 CQ E1;obtain⟨o5,NH,NI⟩:=CQ.there;refine wpAny_handleBy_cons (codeAny_handlers_test ?_) (by intro q;cases q);have Q0:Inv (X.wish X.xe) Y xA H' {s1 with heap:=h5}:=I5;refine WS I5.ok.kind hg (Calls.loadGlobal_global (by rw[I5.ok.glob];exact I5.mod.glob.keeps I5.bk) hm ?_) hd;refine(exm_one (M:=R7 X.prog X.w) (h:=h5) I5.kIn (NI ▸ (Looks.ld NH).andThen .now) hit.hit).here ?_;refine codeAny_handlers_suite_as ?_;refine lands_againW (s:={s1 with heap:=h5}) CQ λh6 zB NJ=>?_;have I6:=inv h6 0 zB (E1.trans NJ);obtain⟨oe,vs,Bn,zJ,BK,_⟩:=zB.first
  have yn:H' ea=none:=by
   cases z:H' ea with
   |none=>rfl
   | some u =>
     obtain⟨o',zo⟩:=b2 ea u z;rw[zB.2.1]at zo;cases zo
  have Bq:ea∉frs (X.env::X.outer):=λz=>by
   obtain⟨_,o,ho,nf⟩:=zB.2.2.1.mem z;rw[Bn]at ho;cases ho;exact nf vs BK
  rw[mF BJ]at Bq;have IS:Inv (X.suite ea oe) Y xA H' {s1 with heap:=h6}:=I6.suite ⟨Bn,yn,λz=>Bq (z ▸ RX),λz=>Bq (RT _ z),λv z=>by rw[BK]at z;cases z⟩;refine ei (X:=X.suite ea oe) (v:=.ref ea) IS hN hi (.inl hn) rfl (λs7 I7=>?_) (.inr hn);refine Tq (hs ea oe C zJ hit.exc Y s7 _ H' (D.as i) I7 (q ea yn)) (λf s8 q8=>?_) λ_ _ z=>TM z
  have fin:∀{AE:St}{H8:Hp}{Q:Unit->RE->Prop},Inv (X.suite ea oe) Y AE H8 s8->(∀s9,Inv X Y (AE.set i B?) H8 s9->Q () s9)->RQ (R7 X.prog X.w) X.A (do bindName X.env n .none;XC X.env n AW) Q X.xe s8:=λ{AE H8 Q}J k =>
   name_goes (J.unsuite I1.ok.hd) hN hi hn k
  cases f with
  |next=>obtain⟨AE,H8,J,q⟩:=q8;exact fin J λs9 J9=>⟨_,H8,J9,q⟩
  |brk=>obtain⟨AE,H8,J,q⟩:=q8;exact fin J λs9 J9=>⟨_,H8,J9,q⟩
  |cont=>obtain⟨AE,H8,J,q⟩:=q8;exact fin J λs9 J9=>⟨_,H8,J9,q⟩
  |ret u=>obtain⟨v,AE,H8,J,r,q⟩:=q8;exact fin J λs9 J9=>⟨v,_,H8,J9,r,q⟩
theorem Fun.ok1{k:Nat}(F:Fun K x qual st f fd)(S:bp N ps (ax st))(len:∀vs H Q E,sp vs H Q E->vs.length=ps.length)
 (xF:∀(xi:Rz)(A:Si)(outer:List Xz)(s:RE)(H:Hp)(vs:List V)(Q:VK)(E:XK),Room k (A.deeper (UN qual (ax st) s.1.1.size f xi))->sp vs H Q E ->
  ∃t,PSs (iy (CX1 P w) P w K mg base N qual (ax st) f xi A outer s H E) (bq st) t/\t {nx:=λ_ H'=>Q .non H',rt:=Q} (start N vs) H):FnOk P w K mg base (CX1 P w) (k+1) f fd ps sp:=by
 obtain⟨oc,od,kV,doc,pm,an,xi,ct,Bm,rfl,lk,yf⟩:=F.ex;exact qo lk yf S len λA outer s H vs Q E hr yw=>xF xi A outer s H vs Q E hr yw
def mE(sp:Sp)(xW:List V)(R:St->Rz->Hp->Prop)(t:TA):TE:=λσ H Q=>t σ H λvs H1=>sp (vs++xW) H1 Q λc _ H'=>R σ c H'
theorem mh{X:Cx}{R:St->Rz->Hp->Prop}{k:Nat}{xW:List V}{ds:List Rz}{p:UX}{es:List Su}{t:TA}
 (F:FnOk X.prog X.w X.K X.mg X.base (CX1 X.prog X.w) k f fd ps sp) (hr:Room k X.A) (hg:Gl X x) (hm:X.mg x=A? (.ref f)) (hk:UI X.K (.ref f)=Bz) (hb:Binds X.K fd ps ds) (hd:Vals xW ds)
 (ha:PA (X.tryB Y R) (e::es) t) (AA:(x == ("__debug__":R1))=false:=by decide) (he:Sk (e::es) X.env=(C?,TN e X.env)::Sk es X.env:=by rfl) (yv:(UP pos (Sk es X.env)).any (·.1)=false:=by rfl) :
 PE (X.tryB Y R) (.Call (.Name x p) (e::es) [] pos) (mE sp xW R t):=by
 intro yA s σ H Q I h;refine SX (gj I hg hm ?_ AA);refine Wj (h₀:=X.base) I.ok.mod.kin hk (thn (ha pos yA s σ H _ I h) λus s1⟨vs,H1,I1,r,q⟩=>⟨I1.kIn,?_⟩) he yv;have r2:Vals (vs++xW) (us++ds):=r.append hd;have hl:(us++ds).length=ps.length:=by rw[<-r2.length];exact F.len _ _ _ _ q
 refine wpAny_call (VU (F.run X.A X.stack s1 H1 ⟨us,[]⟩ (us++ds) (vs++xW) Q _ hr I1.env0 (hb s1 us I1.kIn hl) r2 q) λr s' hq=>?_);cases r with
 |error e=>exact⟨σ,H1,s1,I1.untryB,hq⟩
 | ok fl =>
   cases fl with
   |ret u=>exact I1.after hq
   |next=>exact TM hq
   |brk=>exact TM hq
   |cont=>exact TM hq
theorem pV{K:Frag}{Ch:Ry}{tb:(St->Rz->Hp->Prop)->TS}{ts:Ry->Ry->TS}(R:St->Rz->Hp->Prop)(h1:∀R':St->Rz->Hp->Prop,(∀xA c H',R xA c H'->R' xA c H')->tb R' D σ H)
 (h2:∀xA c H',R xA c H'->uI K Ch i ts D xA c H'):v5 K Ch i tb ts D σ H:=h1 _ h2
theorem eS{X:Cx}:(ea,oe)∈(X.suite ea oe).pn:=R5 _ (RC.mpr rfl)
open PySem.SeqAt
theorem uK{k:Nat}(hr:Room k A):A.units+2<Ve:=by
 have:=hr.units;lia
def vJ(K:RH):R2:=λx y H Q=>∃(a b:Ry)(bs cs:List Bool),x=.ref a/\y=.ref b/\SqL K H a (bs.map V.bl)/\SqL K H b (cs.map V.bl)/\Q (.bl (bs == cs)) H
theorem oE{bs:List Bool}(r:Vals (bs.map V.bl) us):us=bs.map UQ:=by
 induction bs generalizing us with
 |nil=>cases r;rfl
 | cons b bs ih =>
   cases r with
   | cons r1 r2 =>
     rw[ih r2];cases(show _=UQ b from r1);rfl
theorem sj{bs cs:List Bool}(hl:bs.length=cs.length):(SK bs.length).all (λj=>(bs.getD j C? == cs.getD j C?))=(bs == cs):=by
 induction bs generalizing cs with
 | nil=>cases cs with
   |nil=>rfl
   |cons c cs=>cases hl
 | cons b bs ih=>cases cs with
   |nil=>cases hl
   | cons c cs =>
     rw[RV,List.range_succ_eq_map,List.all_cons,List.all_map];show((b == c) && _)=_;have:=ih (cs:=cs) (by simpa using hl);rw[List.cons_beq_cons,<-this];rfl
theorem sQ{X:Cx}(hu:X.A.units+2<Ve):OpR X (UB .Eq) (vJ X.K):=by
 intro Y s σ H x y v u Q I rx ry h;obtain⟨a,b,bs,cs,rfl,rfl,ha,hb,q⟩:=h;cases rx;cases ry;obtain⟨its,r1,p1,_⟩:=I.list ha;obtain⟨xn,r2,p2,_⟩:=I.list hb;have e1:=oE r1;have e2:=oE r2;subst e1 e2;by_cases hl:bs.length=cs.length
 .have hsz:(bs.map UQ).toArray.size=(cs.map UQ).toArray.size:=by simp[hl]
  refine RcAt.lists (e:=λj=>(bs.getD j C? == cs.getD j C?)) p1.isList p2.isList hsz (by lia) (λj h1 h2=>?_) X.prog X.w X.xe _ ?_
  .have GJ:j<bs.length:=by simpa using h1
   have GK:j<cs.length:=by simpa using h2
   have z1:bs.getD j C?=bs[j]:=by simp[List.getD,GJ]
   have z2:cs.getD j C?=cs[j]:=by simp[List.getD,GK]
   have y1:(bs.map UQ).toArray[j]=UQ bs[j]:=by simp
   have y2:(cs.map UQ).toArray[j]=UQ cs[j]:=by simp
   rw[z1,z2,y1,y2];exact EqAt.bool_bool _ _
  .refine⟨.bl (bs == cs),H,I,?_,q⟩;rw[<-sj hl];simp;rfl
 .refine RcAt.lists_lengths p1.isList p2.isList (by simpa using hl) (by lia) X.prog X.w X.xe _ ⟨.bl (bs == cs),H,I,?_,q⟩;have:(bs == cs)=false:=beq_eq_false_iff_ne.mpr λz=>hl (by rw[z]);rw[this];rfl
end L2
namespace BB
open PySem
end BB
namespace L2
open PySem PySem.Spec PySem.Calls PyProof.Rows BB
end L2
namespace PySem
end PySem
namespace L2
open PySem PySem.Spec PySem.Calls PyProof.Rows BB
section
variable{X:Cx}
end
end L2
namespace BB
open PySem L2
theorem kQ{g:TG}{te:TE}(zs:List α)(f:α->V)(hz:zs.length=xs.length)(hn:xs.length<=1000000)
 (EI:∀i H2,Ye H H2->i<xs.length->J.go i H2) (y0:∀H2,Ye H H2->J.stop xs.length H2) (AF:∀(i:Nat)H2 x H3,Ye H H2->i<xs.length->J.yld i H2 x H3->H3=H2/\xs[i]?=A? x)
 (hb:∀(i:Nat)x z H2(R:VK)(W':Hp->Prop),xs[i]?=A? x->zs[i]?=A? z->Ye H H2->(∀H3,Ye H2 H3->R (f z) H3)->g x (cσ js σ) H2 λxl H3=>tt xl H3 λb H4=>if b=Bz then te xl H4 R else W' H4)
 (xN:∀D H',H D=B?->Ye H H'->H' D=A? (.lst (zs.map f))->fin D H') :
 ∀D,H D=B?->∃(n:Nat)(W:Nat->Hp->Prop),W 0 (upd H D (.lst []))/\ff js g tt te σ J D n W λH'=>fin D H':=by
 intro D hD;refine⟨xs.length,λi H'=>i<=xs.length/\Ye H H'/\H' D=A? (.lst ((zs.take i).map f)),⟨Sn _,ao hD _,by rw[ad];rfl⟩,?_⟩;rintro i H' ⟨hi,s1,e1⟩;by_cases xf:i<xs.length
 .refine .inr ⟨xf,EI i H' s1 xf,λv H1 hy=>?_⟩;obtain⟨e,hx⟩:=AF i H' v H1 s1 xf hy;subst e;obtain⟨z,Cb⟩:∃z,zs[i]?=A? z:=⟨_,RA (by lia)⟩;refine hb i v z _ _ _ hx Cb s1 λH3 s3=>⟨_,s3 _ _ e1,?_,xf,aV (s1.trans s3) hD,?_⟩
  .rw[Rw,Sq];have:RZ=16777216:=VG;lia
  .rw[ad,take_snoc Cb,R4];rfl
 .have Ap:i=xs.length:=by lia
  subst Ap;refine .inl ⟨y0 _ s1,xN D H' hD s1 ?_⟩;rw[e1,Tt (by lia)]
theorem lY{g:TG}{te:TE}(zs:List α)(f:α->V)(hS:SqT K H a xs)(hz:zs.length=xs.length)(hn:xs.length<=1000000)
 (hb:∀(i:Nat)x z H2(R:VK)(W':Hp->Prop),xs[i]?=A? x->zs[i]?=A? z->Ye H H2->(∀H3,Ye H2 H3->R (f z) H3)->g x (cσ js σ) H2 λxl H3=>tt xl H3 λb H4=>if b=Bz then te xl H4 R else W' H4)
 (xN:∀D H',H D=B?->Ye H H'->H' D=A? (.lst (zs.map f))->fin D H') :
 ∀D,H D=B?->∃(n:Nat)(W:Nat->Hp->Prop),W 0 (upd H D (.lst []))/\ff js g tt te σ (Itt K a) D n W λH'=>fin D H' :=
 kQ zs f hz hn (λi H2 s hi=>⟨xs,xs[i],s.seqT hS,RA hi⟩) (λH2 s=>⟨xs,s.seqT hS,RI _⟩) (λi H2 x H3 s hi hy=>⟨hy.1,hy.2 xs (s.seqT hS)⟩) hb xN
theorem fN{g:TG}{te:TE}(zs:List α)(f:α->V)(hS:SqL K H a xs)(hz:zs.length=xs.length)(hn:xs.length<=1000000)
 (hb:∀(i:Nat)x z H2(R:VK)(W':Hp->Prop),xs[i]?=A? x->zs[i]?=A? z->Ye H H2->(∀H3,Ye H2 H3->R (f z) H3)->g x (cσ js σ) H2 λxl H3=>tt xl H3 λb H4=>if b=Bz then te xl H4 R else W' H4)
 (xN:∀D H',H D=B?->Ye H H'->H' D=A? (.lst (zs.map f))->fin D H') :
 ∀D,H D=B?->∃(n:Nat)(W:Nat->Hp->Prop),W 0 (upd H D (.lst []))/\ff js g tt te σ (Itl K a) D n W λH'=>fin D H' :=
 kQ zs f hz hn (λi H2 s hi=>⟨xs,xs[i],s.seq hS,RA hi⟩) (λH2 s=>⟨xs,s.seq hS,RI _⟩) (λi H2 x H3 s hi hy=>⟨hy.1,hy.2 xs (s.seq hS)⟩) hb xN
end BB
namespace HT
open PySem PySem.Spec PyProof.Rows
theorem adjust_back(n:Nat):UA B? B? (-1) (n:Int)=((n:Int) - 1,-1):=rfl
theorem places_back(n:Nat):Tg ((n:Int) - 1) (-1) (-1)=n:=by
 unfold Tg;have h1:¬((-1:Int) > 0):=by lia
 simp only[h1,if_false];by_cases h:n=0
 .subst h;decide
 .have h2:((n:Int) - 1) > -1:=by lia
  simp only[h2,if_true];rw[show(- -1:Int)=1 by decide,XU];lia
theorem pick_back(xs:Array Rz):((SK xs.size).filterMap λ(m:Nat)=>xs[(((xs.size:Nat):Int) - 1+(m:Int) * (-1)).toNat]?).toArray=xs.toList.reverse.toArray:=by
 congr 1
 have e:∀m∈SK xs.size,xs[(((xs.size:Nat):Int) - 1+(m:Int) * (-1)).toNat]?=xs.toList.reverse[m]?:=by
  intro m hm;have II:=TZ.mp hm;rw[List.getElem?_reverse (by rw[Sd];exact II),U6,Sd];congr 1;lia
 have f:∀(l:List Nat)(f g:Nat->Option Rz),(∀m∈l,f m=g m)->l.filterMap f=l.filterMap g:=by
  intro l f g;induction l with
  |nil=>intro _;rfl
  | cons y ys ih =>
    intro h;rw[UG,UG,h y (by simp),ih (λm hm=>h m (by simp[hm]))]
 rw[f _ _ _ e]
 have gl:∀(ys:List Rz),(SK ys.length).filterMap (λm=>ys[m]?)=ys:=by
  intro ys;have:=pick_run ys.toArray 0 ys.length;simp only[List.filterMap_map]at this
  have e3:((λx=>ys.toArray[x]?) ∘ λx=>0+x)=λm=>ys[m]?:=by
   funext m;simp
  rw[e3]at this;rw[this];simp
 have:=gl xs.toList.reverse;rw[UD,Sd]at this;exact this
theorem sliceApplied_back{t:Tok}{Q:Int×Int×Nat->RE->Prop}(hs:s.1.IsSliceOf sl .none .none (.int (-1) t))
 (h:Q ((n:Int) - 1,-1,n) s):RQ (R7 prog w) A (Vo (.ref sl) (pure (n:Int))) Q E s:=by
 obtain⟨os,yX,Ao,yr⟩:=id hs;unfold Vo Builtin.Slice.sliceFields;refine Rv (Rv (Sy yX yr (x:=.none) rfl (Rv (Sy yX yr (x:=.none) rfl (Rv (Sy yX yr (x:=.int (-1) t) rfl (RD ?_)))))));refine Rv (slicePart_int ?_);show RQ _ _ (if((-1:Int) == 0)=Bz then _ else _) _ _ s;rw[Za (by decide)];refine Rv (slicePart_none (Rv (slicePart_none (Rv (RD ?_)))));show RQ _ _ (match UA B? B? (-1) (n:Int)with|(lo,hi)=>pure (lo,(-1:Int),Tg lo hi (-1))) _ _ s;rw[adjust_back n];show RQ _ _ (pure ((n:Int) - 1,(-1:Int),Tg ((n:Int) - 1) (-1) (-1))) _ _ s;rw[places_back];exact RD h
theorem getItem_tuple_back{t:Ry}(ht:IsTup s.1 t items)(hs:s.1.IsSliceOf sl .none .none (.int (-1) tk))
 (h:Q (.ref s.1.1.size) {s with heap:=s.1.push {cls:=.type "tuple",data:=.seq items.toList.reverse.toArray}})
 (hsz:items.size<=RZ):RQ (R7 prog w) A (VS (.ref t) (.ref sl)) Q E s:=by
 have xU:sizeOk (.seq items.toList.reverse.toArray):=by
  show items.toList.reverse.toArray.size<=RZ;rw[RO,UD,Sd];exact hsz
 obtain⟨os,yX,Ao,yr⟩:=id hs;have Ey:s.TypeIs (.ref sl) "slice":=⟨os,yX,Ao⟩;unfold VS
 try with_reducible refine SN ?_
 first|refine Rv (RD ?_)|skip
 refine Rv (wpAny_sequenceKey ht.typeIs (by decide) ?_)
 refine Rv (SF (name:=RF "__getitem__") ht.typeIs SD
  (SI SD ht.typeIs entry_tuple_getitem ?_ (args_tuple_getitem _ _)))
 show RQ _ _ (WT (.ref t) >>= _) _ _ s;refine Rv (tupleItemsOf_ ht ?_);refine Rv (VP Ey ?_);rw[Yb (by decide)];refine Rv (sliceApplied_back hs ?_)
 have xu:¬((((items.size:Nat):Int) - 1 == 0 && (-1:Int) == 1 && items.size == items.size)=Bz):=by
  simp
 show RQ _ _ (if(((items.size:Nat):Int) - 1 == 0 && (-1:Int) == 1 && items.size == items.size)=Bz then _ else _) _ _ s;rw[Za xu,pick_back]
 first
  |exact Rv (m:=Tp _) (Sv (RD ⟨_,rfl,RD h⟩) xU)
  |exact Rv (m:=Tp _) (Sv (Rv (RD (RD ⟨_,rfl,RD h⟩))) xU)
  |exact Rv (Rv (m:=Tp _) (Sv (RD (RD ⟨_,rfl,RD h⟩)) xU))
  |exact Rv (Rv (m:=Tp _) (Sv (RD ⟨_,rfl,RD h⟩) xU))
end HT
namespace L2
open PySem PySem.Spec PyProof.Rows
section
variable{X:Cx}{te:TE}{p2 p3 p4:UX}
def BkR(X:Cx)(r:V->Hp->VK->Prop):Prop :=
 ∀(Y:List (Ry×TC))(s:RE)(σ:St)(H:Hp)(x:V)(v:Rz)(t:Tok)(sl:Ry)(Q:VK),Inv X Y σ H s->RelV x v->s.1.IsSliceOf sl .none .none (.int (-1) t)->r x H Q ->
   ∃T id,typeLookup (.type T) "__getitem__"=pure (A? (.builtin id))/\s.TypeIs v T/\RQ (R7 X.prog X.w) X.A (VS v (.ref sl)) (EP X Y σ Q) X.xe s
def tBk(r:V->Hp->VK->Prop)(te:TE):TE:=λσ H Q=>te σ H λx H1=>r x H1 Q
theorem tI{r:V->Hp->VK->Prop}(hr:BkR X r)(he:PE X e te):PE X (.Subscript e (.Slice B? B? (A? (.UnaryOp .USub (.Constant (.int 1) 0 p3) p4)) p2) pos) (tBk r te):=by
 intro Y s σ H Q I h;refine Subscript_ (thn (he Y s σ H _ I h) λv s1⟨x,H1,I1,r1,q1⟩=>?_);refine wpAny_Slice ?_;rw[evalPart_none];refine RD ?_;refine RD ?_;have GO:PO X (A? (.UnaryOp .USub (.Constant (.int 1) 0 p3) p4)) (ue (tUn (rU λi=>.int (-i)) (tC (.int 1)))):=bE (oo nk aj);refine thn (GO Y s1 σ H1 (λo H'=>o=A? (-1)/\r x H' Q) I1 ⟨1,rfl,_,rfl,rfl,q1⟩) λvs s2⟨o,H2,I2,ps,ho,q2⟩=>?_;subst ho;cases ps with
 | int i t =>
   have I4:Inv X Y σ H2 {s2 with heap:=s2.1.push {cls:=.type "slice",data:=.fields #[.none,.none,.int (-1) t]}}:=I2.kept (t':=s2.toks) λb ob q=>RB _ q;obtain⟨T,id,hT,ht,hg⟩:=hr Y {s2 with heap:=s2.1.push {cls:=.type "slice",data:=.fields #[.none,.none,.int (-1) t]}} σ H2 x v t s2.1.1.size Q I4 r1 (Heap.IsSliceOf.new ..) q2;show RQ (R7 X.prog X.w) X.A (subscriptTail e (.Slice B? B? (A? (.UnaryOp .USub (.Constant (.int 1) 0 p3) p4)) p2) v (.ref s2.1.1.size)) (EP X Y σ Q) X.xe {s2 with heap:=s2.1.push {cls:=.type "slice",data:=.fields #[.none,.none,.int (-1) t]}};exact tail_any (ops:=[v,.ref s2.1.1.size]) ht hT hg (by with_unfolding_all rfl)
def wW(K:RH):V->Hp->VK->Prop:=λx H Q=>∃a xs,x=.ref a/\SqT K H a xs/\∀p,H p=B?->Q (.ref p) (upd H p (.tup xs.reverse))
theorem Vals.rev(r:Vals xs us):Vals xs.reverse us.reverse:=by
 induction r with
 |nil=>exact .nil
 |cons r1 r2 ih=>rw[SJ,SJ];exact ih.append (.cons r1 .nil)
theorem vy:BkR X (wW X.K):=by
 intro Y s σ H x v t sl Q I rx hs h;obtain⟨a,xs,rfl,hx,q⟩:=h;cases rx;obtain⟨its,r,ht,hz⟩:=I.tuple hx;have hlen:its.toArray.size=xs.length:=by rw[RO];exact r.length.symm
 refine⟨"tuple",_,SD.lookup,ht.typeIs,?_⟩;refine HT.getItem_tuple_back ht hs ?_ (by rw[hlen];exact hz);refine⟨.ref s.1.1.size,_,I.laid (t':=s.toks) (o:=.tup xs.reverse) (λb ob q=>RB _ q) (RI _) ?_,CA,q _ (I.hok.fresh (RI _))⟩;exact⟨by rw[UD];exact hz,_,0,r.rev,RJ _ rfl⟩
end
open PySem.Calls
section
variable{X:Cx}
end
section
variable{X:Cx}
end
end L2
namespace BB
open PySem L2
structure fX(ks:List (R1×Int)):Prop where
 ne:1<=ks.length
 le:ks.length<=8
 low:∀k∈ks,Low k.1/\k.1.length<=8
 num:∀k∈ks,0<=k.2/\k.2<=3
 zero:∃k∈ks,k.2=0
 nd:∀(i j:Nat)(k l:R1×Int),ks[i]?=A? k->ks[j]?=A? l->k.1=l.1->i=j
def SameB(l:Ry)(H H':Hp):Prop:=∀b o,b≠l->H b=A? o->H' b=A? o
theorem SameB.refl{l:Ry}:SameB l H H:=λ_ _ _ e=>e
theorem SameB.trans{l:Ry}{A B C:Hp}(h:SameB l A B)(k:SameB l B C):SameB l A C:=λb o hb e=>k b o hb (h b o hb e)
theorem SameB.of{l:Ry}(h:Ye H H'):SameB l H H':=λb o _ e=>h b o e
theorem SameB.set{l:Ry}:SameB l H (upd H l o):=λb o hb e=>by rw[ac hb];exact e
def RowAt(H:Hp)(row:List Th)(a:Ry):Prop:=∃as:List Ry,H a=A? (.tup (as.map Zf))/\Ats H row as
theorem RowAt.mono(k:KT H H'){row:List Th}(h:RowAt H row a):RowAt H' row a:=by
 obtain⟨as,h1,h2⟩:=h;exact⟨as,k _ _ h1,h2.mono k⟩
end BB
open BB.SameB renaming of->Zk,set->Yl
namespace L2
open PySem PySem.Spec PySem.Calls PyProof.Rows PySem.SeqAt
end L2
namespace BB
open PySem L2
end BB
namespace L2
open PySem PySem.Spec PyProof.Rows
section
variable{X:Cx}{te:TE}{p p2 xq:UX}
end
end L2
namespace BB
open PySem L2
theorem oM{F:Hp->α->Ry->Prop}{g:TG}{te:TE}(zs:List α)(hF:∀H1 H2 z p,KT H1 H2->F H1 z p->F H2 z p)(hz:zs.length=xs.length)(hn:xs.length<=1000000)
 (EI:∀i H2,Ye H H2->i<xs.length->J.go i H2) (y0:∀H2,Ye H H2->J.stop xs.length H2) (AF:∀(i:Nat)H2 x H3,Ye H H2->i<xs.length->J.yld i H2 x H3->H3=H2/\xs[i]?=A? x)
 (hb:∀(i:Nat)x z H2(R:VK)(W':Hp->Prop),xs[i]?=A? x->zs[i]?=A? z->Ye H H2->(∀H3 p,Ye H2 H3->F H3 z p->R (.ref p) H3)->g x (cσ js σ) H2 λxl H3=>tt xl H3 λb H4=>if b=Bz then te xl H4 R else W' H4)
 (xN:∀D H' as,H D=B?->Ye H H'->H' D=A? (.lst (as.map Zf))->Sb (F H') zs as->fin D H') :
 ∀D,H D=B?->∃(n:Nat)(W:Nat->Hp->Prop),W 0 (upd H D (.lst []))/\ff js g tt te σ J D n W λH'=>fin D H':=by
 intro D hD;refine⟨xs.length,λi H'=>i<=xs.length/\Ye H H'/\∃as:List Ry,H' D=A? (.lst (as.map Zf))/\Sb (F H') (zs.take i) as,⟨Sn _,ao hD _,[],by rw[ad];rfl,.nil⟩,?_⟩;rintro i H' ⟨hi,s1,as,e1,hp⟩;by_cases xf:i<xs.length
 .refine .inr ⟨xf,EI i H' s1 xf,λv H1 hy=>?_⟩;obtain⟨e,hx⟩:=AF i H' v H1 s1 xf hy;subst e;obtain⟨z,Cb⟩:∃z,zs[i]?=A? z:=⟨_,RA (by lia)⟩;have hl:(zs.take i).length=as.length:=R9 hp;rw[Sq]at hl;refine hb i v z _ _ _ hx Cb s1 λH3 p s3 NK=>⟨_,s3 _ _ e1,?_,xf,aV (s1.trans s3) hD,as++[p],?_,?_⟩
  .rw[Rw];have:RZ=16777216:=VG;lia
  .rw[ad,R4];rfl
  .have kt:KT H3 (upd H3 D (.lst (as.map Zf++[.ref p]))):=dO (s3 _ _ e1);rw[take_snoc Cb];exact Yk (Yj (λx y e=>hF _ _ _ _ ((Zg s3).trans kt) e) hp) (.cons (hF _ _ _ _ kt NK) .nil)
 .have Ap:i=xs.length:=by lia
  subst Ap;refine .inl ⟨y0 _ s1,xN D H' as hD s1 e1 ?_⟩;rw[Tt (by lia)]at hp;exact hp
end BB
namespace L2
open PySem PySem.Spec PyProof.Rows
theorem FnOk.x0{k:Nat}{Le:Sp}(F:FnOk P w K mg base (CX1 P w) k f fd ps Le)
 (h:∀vs H Q E,sp vs H Q E->Le vs H Q λ_ _ _=>False):FnOk P w K mg base CX0 k f fd ps sp :=
 ⟨λvs H Q E q=>F.len vs H Q _ (h _ _ _ _ q),λA outer s H args us vs Q E hr he hb hv hs=>VU (F.run A outer s H args us vs Q _ hr he hb hv (h _ _ _ _ hs)) λr s' hc=>by
  cases r with
  | error e =>
    obtain⟨_,_,_,_,_,_,_,_,_,_,_,_,_,hE⟩:=(show CX1 P w outer H s (λ_ _ _=>False) e s' from hc);exact hE.elim
  |ok v=>cases v <;> exact hc⟩
theorem us1:∀{us:List α},us.length=1->∃a,us=[a]
 | [a],_=>⟨a,rfl⟩
theorem us2:∀{us:List α},us.length=2->∃a b,us=[a,b]
 | [a,b],_=>⟨a,b,rfl⟩
theorem us3:∀{us:List α},us.length=3->∃a b c,us=[a,b,c]
 | [a,b,c],_=>⟨a,b,c,rfl⟩
theorem us4:∀{us:List α},us.length=4->∃a b c d,us=[a,b,c,d]
 | [a,b,c,d],_=>⟨a,b,c,d,rfl⟩
theorem us5:∀{us:List α},us.length=5->∃a b c d e,us=[a,b,c,d,e]
 | [a,b,c,d,e],_=>⟨a,b,c,d,e,rfl⟩
end L2
namespace PySem
open Sem (wp)
section
variable{K:Type}[DecidableEq K]{knd:HeapKind prog w K}
end
end PySem
namespace L2
open PySem PySem.Spec PyProof.Rows BB
end L2
namespace BB
open PySem L2
end BB
namespace PySem
open Sem (wp)
section
variable{I:Ry}{wr:List Ry}{G:Array GenState->Array GenState->Prop}{P:Nat->Rz->Prop}{St:Nat->RE->Prop}
end
end PySem
namespace L2
open PySem PySem.Spec PyProof.Rows
section
variable{X:Cx}{o:Su}{to te:TE}{p2 xq apos xk:UX}
end
end L2
namespace PySem
open Sem (wp)
namespace F
end F
section
variable{xs:Array Rz}{k:Nat}
end
end PySem
namespace L2
open PySem PySem.Spec PyProof.Rows
section
variable{X:Cx}
end
end L2
namespace BB
open PySem L2
end BB
namespace PySem
end PySem
namespace L2
open PySem PySem.Spec PyProof.Rows
section
variable{X:Cx}{e1 e2:Su}{t:TA}{p2 xq:UX}
end
end L2
namespace BB
open PySem L2
noncomputable section
local instance:DecidableEq Th:=λ_ _=>Classical.propDecidable _
mutual
def post:Th->List Th->List Th
 |.knot n ks,L=>if Zi n ks∈aK ks L then aK ks L else aK ks L++[.knot n ks]
 |.call s k,L=>if Yi s k∈L then L else L++[.call s k]
def aK:List Th->List Th->List Th
 | [],L=>L
 |t::ts,L=>aK ts (post t L)
end
theorem post_eq(t:Th)(L:List Th):post t L=if t∈aK t.kids L then aK t.kids L else aK t.kids L++[t]:=by
 cases t with
 |knot n ks=>rw[post];rfl
 |call s k=>rw[post,Th.kids,aK]
theorem dR:∀(a b:List Th)(L:List Th),aK (a++b) L=aK b (aK a L)
 | [],b,L=>by rw[V3,aK]
 |t::a,b,L=>by rw[List.cons_append,aK,aK,dR a b]
def bi(L:List Th):Prop:=∀t∈L,∀u∈t.kids,u∈L
theorem rP{t u:Th}(h:u∈t.kids):u.size<t.size:=by
 rw[t.size_eq]
 have:∀ts:List Th,u∈ts->u.size<=au ts:=by
  intro ts;induction ts with
  |nil=>intro h;cases h
  | cons x ts ih =>
    intro h;rw[au];rcases RR.mp h with rfl|h
    .lia
    .have:=ih h;lia
 have:=this _ h;lia
theorem ls:∀(n:Nat),(∀(t:Th)(L:List Th),t.size<=n->bi L->L.Nodup->(∃M,post t L=L++M/\∀u∈M,u.size<=t.size)/\bi (post t L)/\(post t L).Nodup/\t∈post t L) /\
 (∀(ts:List Th)(L:List Th),au ts<=n->bi L->L.Nodup->(∃M,aK ts L=L++M/\∀u∈M,u.size<=au ts)/\bi (aK ts L)/\(aK ts L).Nodup/\∀t∈ts,t∈aK ts L):=by
 intro n;induction n with
 | zero =>
   refine⟨λt L h=>?_,λts L h hc hn=>?_⟩
   .have:=t.size_eq;lia
   .cases ts with
    |nil=>rw[aK];exact⟨⟨[],by simp,λu hu=>by cases hu⟩,hc,hn,λt ht=>by cases ht⟩
    | cons t ts =>
      rw[au]at h;have:=t.size_eq;lia
 | succ n ih =>
   have hT:∀(t:Th)(L:List Th),t.size<=n+1->bi L->L.Nodup->(∃M,post t L=L++M/\∀u∈M,u.size<=t.size)/\bi (post t L)/\(post t L).Nodup/\t∈post t L:=by
    intro t L h hc hn;have hs:=t.size_eq;obtain⟨⟨M,hM,DS⟩,h2,h3,h4⟩:=ih.2 t.kids L (by lia) hc hn;rw[post_eq];by_cases hm:t∈aK t.kids L
    .rw[Yb hm];exact⟨⟨M,hM,λu hu=>by have:=DS u hu;lia⟩,h2,h3,hm⟩
    .rw[Za hm];refine⟨⟨M++[t],by rw[hM,Uy],λu hu=>?_⟩,λx hx u hu=>?_,?_,R5 _ (RX ..)⟩
     .rcases RM.mp hu with hu|hu
      .have:=DS u hu;lia
      .rw[RC.mp hu];exact RI _
     .rcases RM.mp hx with hx|hx
      .exact RL _ (h2 x hx u hu)
      .rw[RC.mp hx]at hu;exact RL _ (h4 u hu)
     .rw[SW];refine⟨h3,by simp,λa ha b hb=>?_⟩;rw[RC.mp hb];exactλz=>hm (z ▸ ha)
   refine⟨hT,λts=>?_⟩;induction ts with
   |nil=>intro L _ hc hn;rw[aK];exact⟨⟨[],by simp,λu hu=>by cases hu⟩,hc,hn,λt ht=>by cases ht⟩
   | cons t ts E2 =>
     intro L h hc hn;rw[au]at h;obtain⟨⟨M,hM,DS⟩,h2,h3,h4⟩:=hT t L (by lia) hc hn;obtain⟨⟨N,hN,NL⟩,g2,g3,g4⟩:=E2 (post t L) (by lia) h2 h3;rw[aK];refine⟨⟨M++N,by rw[hN,hM,Uy],λu hu=>?_⟩,g2,g3,λx hx=>?_⟩
     .rw[au];rcases RM.mp hu with hu|hu
      .have:=DS u hu;lia
      .have:=NL u hu;lia
     .rcases RR.mp hx with rfl|hx
      .rw[hN];exact RL _ h4
      .exact g4 x hx
theorem fV(t:Th)(hc:bi L)(hn:L.Nodup):(∃M,post t L=L++M/\∀u∈M,u.size<=t.size)/\bi (post t L)/\(post t L).Nodup/\t∈post t L:=(ls t.size).1 t L (RI _) hc hn
theorem qW(ts:List Th)(hc:bi L)(hn:L.Nodup):(∃M,aK ts L=L++M/\∀u∈M,u.size<=au ts)/\bi (aK ts L)/\(aK ts L).Nodup/\∀t∈ts,t∈aK ts L:=(ls (au ts)).2 ts L (RI _) hc hn
theorem ir:∀(n:Nat),(∀(t:Th)(L:List Th),t.size<=n->bi L->t∈L->post t L=L)/\(∀(ts:List Th)(L:List Th),au ts<=n->bi L->(∀t∈ts,t∈L)->aK ts L=L):=by
 intro n;induction n with
 | zero =>
   refine⟨λt L h=>?_,λts L h hc hm=>?_⟩
   .have:=t.size_eq;lia
   .cases ts with
    |nil=>rw[aK]
    | cons t ts =>
      rw[au]at h;have:=t.size_eq;lia
 | succ n ih =>
   have hT:∀(t:Th)(L:List Th),t.size<=n+1->bi L->t∈L->post t L=L:=by
    intro t L h hc hm;have hs:=t.size_eq;rw[post_eq,ih.2 t.kids L (by lia) hc (hc t hm),Yb hm]
   refine⟨hT,λts=>?_⟩;induction ts with
   |nil=>intro L _ _ _;rw[aK]
   | cons t ts E2 =>
     intro L h hc hm;rw[au]at h;rw[aK,hT t L (by lia) hc (hm t (RX ..))];exact E2 L (by lia) hc λx hx=>hm x (RT _ hx)
theorem rW{t:Th}(hc:bi L)(h:t∈L):post t L=L:=(ir t.size).1 t L (RI _) hc h
theorem iW{ts:List Th}(hc:bi L)(h:∀t∈ts,t∈L):aK ts L=L:=(ir (au ts)).2 ts L (RI _) hc h
theorem lU{t c:Th}{pre rest:List Th}(hc:bi L)(hn:L.Nodup)(hk:t.kids=pre++c::rest)(hp:∀u∈pre,u∈L):post t L=post t (post c L):=by
 obtain⟨⟨M,hM,_⟩,h2,h3,h4⟩:=fV c hc hn;have e1:aK t.kids L=aK rest (post c L):=by rw[hk,dR,iW hc hp,aK]
 have e2:aK t.kids (post c L)=aK rest (post c L):=by
  rw[hk,dR,iW h2 (λu hu=>by rw[hM];exact RL _ (hp u hu)),aK,rW h2 h4]
 rw[post_eq,post_eq t (post c L),e1,e2]
theorem gM{t:Th}(hc:bi L)(hk:∀u∈t.kids,u∈L)(h:t∉L):post t L=L++[t]:=by
 rw[post_eq,iW hc hk,Za h]
theorem qp(t:Th):∃M,post t []=M++[t]/\t∉M:=by
 obtain⟨⟨M,hM,DS⟩,_,_,_⟩:=qW t.kids (L:=[]) (λt h=>by cases h) T7;rw[V3]at hM
 have xu:t∉M:=λh=>by
  have:=DS t h;have:=t.size_eq;lia
 refine⟨M,?_,xu⟩;rw[post_eq,hM,Za xu]
def finish:List Th->List Th->List Th
 | [],L=>L
 |t::ts,L=>finish ts (post t L)
end
end BB
namespace PySem
open Sem (wp)
section
variable{K:Type}[DecidableEq K]{knd:HeapKind prog w K}
theorem bb_setDefault_heap{xs:List (K×Ry×Rz)}{k:K}{v:Rz}(hu:knd.room A)(yK:knd.is s.1 k a)(hm:s.1.DictOfH knd d xs)
 (CS:∀p,XF xs k=A? p->Q p.2 {s with toks:=s.toks+knd.draws k})
 (CD:XF xs k=B?->∀h',h'.DictOfH knd d (storedH xs k a v)->S0 d s.1 h'->Q v {s with heap:=h',toks:=s.toks+knd.draws k})
 (hsz:xs.length<=RZ):RQ (R7 prog w) A (dictSetDefault d (.ref a) v) Q E s:=by
 obtain⟨o,es,ep,ho,hc,hd,he,GP,hn⟩:=hm;unfold dictSetDefault
 try with_reducible refine SN ?_
 refine Rv (knd.pyHash hu yK ?_);refine Rv (wpAny_dictFind_heap (s:={s with toks:=s.toks+knd.draws k}) hu yK ho hd he GP hn ?_ ?_)
 .intro xu;have IJ:k∉xs.map (·.1):=not_mem_keys_of_get xu
  refine Rv (V7 (Rv (wpAny_updateDictKeys (hz:=by have e:=size_of_entries he;lia) (s:={s with toks:=s.toks+knd.draws k}) ho hd (RD (CD (WY xu) _ ⟨_,_,ep+1,SO _ ho (Obj.isFreed_of_dict (Obj.data_mapDictKeys hd _)),
   hc.mapDictKeys _,Obj.data_mapDictKeys hd _,?_,?_,?_⟩ (Ta ..))))))
  .rw[storedH_new (WY xu)];simp[he,entryOfKey]
  .rw[storedH_new (WY xu)];intro x hx;rcases RM.mp hx with hx|hx
   .exact knd.keeps (GP x hx) ho hd (Ta ..)
   .simp only[RC]at hx;subst hx;exact knd.keeps yK ho hd (Ta ..)
  .rw[storedH_new (WY xu)];rw[R4,SW];refine⟨hn,by simp,?_⟩;intro x hx y hy;simp only[R6,T5,RC]at hy;subst hy;exactλe=>IJ (e ▸ hx)
 .intro j p hj;have h1:=CS _ (atKey_of_get hn hj);refine Rv (Uh (s:={s with toks:=s.toks+knd.draws k}) ho hd ?_);rw[entry_at he j,hj];exact Rv (V7 (RD h1))
theorem bb_meets_setdefault(knd:HeapKind prog w K)(d a:Ry)(dflt:Rz)(hd:(d == Tv)=C?) :
 MeetsIn prog w (Ur.«dict.setdefault» ⟨[.ref d,.ref a,dflt],[]⟩) (λA R s=>knd.room A.in1/\∃k xs,knd.is s.1 k a/\s.1.DictOfH knd d xs/\xs.length<=RZ /\
  (∀p,XF xs k=A? p->R (.ok (.ret p.2)) {s with toks:=s.toks+knd.draws k}) /\
  (XF xs k=B?->∀h',h'.DictOfH knd d (storedH xs k a dflt)->S0 d s.1 h'->R (.ok (.ret dflt)) {s with heap:=h',toks:=s.toks+knd.draws k})) :=
 .of_wp λA R s⟨hu,k,xs,yK,hm,hz,h1,h2⟩=>by
  unfold Ur.«dict.setdefault»;refine Rv ?_;unfold Builtin.Dict.keyAndDefault;have hT:s.TypeIs (.ref d) "dict":=hm.typeIs;refine Rv (Xu hT ?_);show RQ _ _ (pure (d,Sg a,A? dflt)) _ _ s;refine RD ?_;show RQ _ _ (if(d == Tv)=Bz then _ else(dictSetDefault d (.ref a) dflt >>= _)) _ _ s;rw[Za (by rw[hd];exact R0)];exact Rv (bb_setDefault_heap hu yK hm (λp hp=>RD ⟨_,rfl,h1 p hp⟩) (λhn h' II zP=>RD ⟨_,rfl,h2 hn h' II zP⟩) hz)
end
end PySem
namespace L2
open PySem PySem.Spec PyProof.Rows
def sv:V->List V->Hp->VK->Prop:=λx vs H Q=>∃(a b:Ry)(v:V)(k:List Key)(kvs:List (List Key×V)),x=.ref a/\vs=[.ref b,v]/\H a=A? (.dT kvs)/\H b=A? (.tup (k.map kV))/\kvs.length<RZ /\
 (∀u,br kvs k=A? u->Q u H)/\(br kvs k=B?->Q v (upd H a (.dT (putK kvs k v))))
theorem e8{X:Cx}(hu:X.A.units+1<Ve):MtM X "dict.setdefault" sv:=by
 intro Y s σ H x vs v us Q I rx rv h;obtain⟨a,b,y,k,kvs,rfl,rfl,e,eb,l,q1,q2⟩:=h;cases rx;cases rv with
 |cons r1 rv =>
 cases rv with
 |cons r2 rv =>
 cases rv;cases r1;obtain⟨z,hd,xs,rel,dd⟩:=oy I.hok e;have hz:xs.length<=RZ:=by rw[<-R9 rel];exact z
 have hl:(putK kvs k y).length<=RZ:=by have:=de kvs k y;lia
 have hT:s.TypeIs (.ref a) "dict":=dd.typeIs;refine call_meetsIn V1 hT PySem.F.entry_dict_setdefault (PySem.F.args_dict_setdefault_3 _ _ _) (bb_meets_setdefault (WD (aQ X.prog X.w)) a b _ hd) ⟨VF hu,k,xs,gE I.hok eb,dd,hz,λp hp=>?_,λhn h' BH hs=>?_⟩
 .have hr:=rel.val k;rw[hp]at hr;cases hv:br kvs k with
  |none=>rw[hv]at hr;exact hr.elim
  | some u =>
    rw[hv]at hr;exact⟨u,H,I.tok _,hr,q1 u hv⟩
 .have hr:=rel.val k;rw[hn]at hr;cases hv:br kvs k with
  |some u=>rw[hv]at hr;exact hr.elim
  | none =>
    refine⟨y,_,?_,r2,q2 hv⟩;obtain⟨q,es,ep,hq,h2,h3,h4,_,h5⟩:=BH;refine iz I (by rw[e];exact Vu) hs ⟨q,hq⟩ ⟨hl,hd,_,(rel.put k eb r2).keeps λc ys ec=>?_,q,es,ep,hq,h2,h3,h4,h5⟩;rw[ac (aC ec e (λz=>nomatch z))];exact ec
end L2
namespace PySem
open Sem (wp)
theorem bb_key_loop{S:Ry}{es:Array Wc}{od:TC}(hh:A.in1.handled=B?)(hz:es.size<=RZ)(CU:S≠it)(E3:S≠d)(NM:d≠it)(g2:od.data=.dict es ep)(res:Rz) :
 ∀(k i:Nat)(s:RE)(acc:Array Rz)(c:Nat),es.size - i=k->i<=es.size->s.1.IsKeyIter it d i es.size ep->s.1.get? d=A? od->s.1.get? S=A? {cls:=.type "list",dict:=B?,data:=.seq acc c,slots:=#[]}->acc.toList=(es.toList.take i).map (·.key) ->
 (∀h' xZ c',(∀b o,b≠S->b≠it->s.1.get? b=A? o->h'.get? b=A? o)->h'.get? S=A? {cls:=.type "list",dict:=B?,data:=.seq xZ c',slots:=#[]}->xZ.toList=es.toList.map (·.key)->R (.ok (.ret res)) {s with heap:=h'}) ->
 UW (R7 prog w) A (.builtin "list.extend.loop" ⟨[.ref S,.ref it,res],[]⟩) R s:=by
 intro k;induction k with
 | zero =>
   intro i s acc c hk hi hit hd hS xr hR;have xY:i=es.size:=by lia
   subst xY;refine UC Wx ?_;rw[Ug TL _];show RQ _ A.in1 (UZ (.ref it) >>= _) _ _ s;refine Rv (bb_keyEnd hh hit hd g2 (RI _) λh' xE=>RD ?_);refine hR h' acc c (λb o _ hb e=>xE b o hb e) (xE _ _ CU hS) ?_;rw[xr,Tt (by rw[Sd];lia)]
 | succ k ih =>
   intro i s acc c hk hi hit hd hS xr hR;have xf:i<es.size:=by lia
   refine UC Wx ?_;rw[Ug TL _];show RQ _ A.in1 (UZ (.ref it) >>= _) _ _ s;have hx:es[i]?=A? es[i]:=Ut xf
   have yt:acc.size=i:=by
    have:=Zd S4 xr;rw[Sd,Rw,Sq,Sd]at this;lia
   refine Rv (bb_keyNext hit hd g2 hx λh' IK xE=>?_);have Bo:=(xE.2 S CU).trans hS;have En:=(xE.2 d NM).trans hd;show RQ _ A.in1 (WC S (·.push es[i].key) >>= _) _ _ _;refine Rv ?_;have zO:∀b o,b≠S->h'.get? b=A? o->(h'.update S (SQ (·.push es[i].key))).get? b=A? o:=λb o hb e=>(S8 _ _ (Tn hb)).trans e
   refine Tx Bo rfl (RD ⟨UO TL _,ih (i+1) _ (acc.push es[i].key) _ (by lia) xf (IK.at λo e=>zO _ _ (Tn CU) e) (zO _ _ (Tn E3) En) (SO _ Bo rfl) ?_ λDO xZ c' CK CL AQ=>?_⟩)
    (by rw[yt];lia) (by show(acc.push _).size<=RZ+1;rw[Array.size_push,yt];lia)
   .rw[Array.toList_push,xr,TY,RA (by rw[Sd];exact xf),R4];simp
   .exact hR DO xZ c' (λb o hb hb2 e=>CK b o hb hb2 (zO b o hb ((xE.2 b hb2).trans e))) CL AQ
theorem bb_list_keys{es:Array Wc}{od:TC}(hh:A.in1.in1.handled=B?)(ns:(d == Tv)=C?)(hd:s.1.get? d=A? od)(gc:od.cls=.type "dict")(g2:od.data=.dict es ep)(hz:es.size<=RZ)
 (hQ:∀h' acc c,(∀b o,s.1.get? b=A? o->h'.get? b=A? o)->h'.get? s.1.1.size=A? {cls:=.type "list",dict:=B?,data:=.seq acc c,slots:=#[]}->acc.toList=es.toList.map (·.key)->Q (.ref s.1.1.size) {s with heap:=h'}) :
 RQ (R7 prog w) A (call (.type "list") [.ref d]) Q E s:=by
 have CV:=RY hd;have E3:s.1.1.size≠d:=US CV
 refine callType_codes (Q₁:=λobj l'=>obj=.ref s.1.1.size/\l'={s with heap:=s.1.push {cls:=.type "list",data:=.seq #[]}}) F.called_list (F.typeCall_list_1 _) F.entry_list_init
  (code_list_new _ ⟨rfl,rfl⟩) λobj l' xh=>?_
 obtain⟨rfl,rfl⟩:=xh;have hS:(s.1.push {cls:=.type "list",data:=.seq #[]}).get? s.1.1.size=A? {cls:=.type "list",data:=.seq #[]}:=RJ _ rfl;refine⟨⟨_,hS,CA⟩,F.args_list_init_2 _ _,?_⟩;show RQ _ A.in1.in1 (do let old <-VZ (.ref s.1.1.size);Builtin.List.listUpdate (.ref s.1.1.size) (λ_=>#[]);letGo old.toList.reverse;Vk (.ref s.1.1.size) (.ref d) .none) _ _ _;refine Rv ?_;unfold VZ;refine Rv (Tc hS rfl (RD ?_));refine Rv (Tx hS rfl ?_);have y9:=SO (SQ (λ_=>(#[]:Array Rz))) hS rfl;refine Rv (UH ?_);have Ad:((s.1.push {cls:=.type "list",data:=.seq #[]}).update s.1.1.size (SQ (λ_=>(#[]:Array Rz)))).objs.size=s.1.1.size+1:=by rw[Wb,SV]
 generalize hH:(s.1.push {cls:=.type "list",data:=.seq #[]}).update s.1.1.size (SQ (λ_=>(#[]:Array Rz)))=H2 at y9 Ad |-
 have old:∀b o,s.1.get? b=A? o->H2.get? b=A? o:=λb o e=>by
  rw[<-hH,S8 _ _ (Tn (Sa (RY e)))];exact RB _ e
 obtain⟨c2,ET⟩:∃c,H2.get? s.1.1.size=A? {cls:=.type "list",data:=.seq #[] c}:=⟨_,y9⟩;have hd2:=old _ _ hd;have EU:({s with heap:=H2}:RE).TypeIs (.ref d) "dict":=⟨_,hd2,gc⟩;unfold Vk;refine Rv (VP EU ?_);have h1:VC (.ref s.1.1.size) (.ref d)=false:=by simp[VC,E3]
 have h2:(Vc "dict" == Vc "list")=false:=by decide
 have h3:(Vc "dict" == Vc "tuple")=false:=by decide
 simp only[h1,h2,h3,Bool.or_false,Uq,if_false];refine Rv (bb_keyIter (s:={s with heap:=H2}) ns hd2 gc g2 ?_);refine Rv (SN ?_);have CY:(H2.push {cls:=.type "dict_keyiterator",data:=.fields #[.ref d,.int 0 0,.int es.size 0,.int ep 0]}).IsKeyIter H2.objs.size d 0 es.size ep:=⟨_,RJ _ rfl,rfl,rfl⟩;have GQ:∀b o,H2.get? b=A? o->(H2.push {cls:=.type "dict_keyiterator",data:=.fields #[.ref d,.int 0 0,.int es.size 0,.int ep 0]}).get? b=A? o:=λb o e=>RB _ e;have E4:s.1.1.size≠H2.objs.size:=by rw[Ad];lia
 have IL:d≠H2.objs.size:=by rw[Ad];exact Sa (XQ CV)
 show RQ _ _ _ _ _ ({s with heap:=H2.push {cls:=.type "dict_keyiterator",data:=.fields #[.ref d,.int 0 0,.int es.size 0,.int ep 0]}}:RE);generalize H2.push {cls:=.type "dict_keyiterator",data:=.fields #[.ref d,.int 0 0,.int es.size 0,.int ep 0]}=H3 at CY GQ |-;have Lg:=GQ _ _ hd2;have IM:=GQ _ _ ET;have IP:({s with heap:=H3}:RE).TypeIs (.ref d) "dict":=⟨_,Lg,gc⟩
 have key:∀(h:SM)(c₁:Nat),h.IsKeyIter H2.objs.size d 0 es.size ep->(∀b o,b≠s.1.1.size->H3.get? b=A? o->h.get? b=A? o)->h.get? s.1.1.size=A? {cls:=.type "list",data:=.seq #[] c₁} ->
  UW (R7 prog w) A.in1 (.builtin "list.extend.loop" ⟨[.ref s.1.1.size,.ref H2.objs.size,.none],[]⟩) (wants (λr xM=>r=.none/\Q (.ref s.1.1.size) xM) E) {s with heap:=h}:=by
  intro h c₁ hit hk AR;refine bb_key_loop hh hz E4 E3 IL g2 .none es.size 0 _ #[] c₁ rfl (Sn _) hit (hk _ _ (Tn E3) Lg) AR rfl λh' xZ c' hm Bo xr=>?_;refine⟨CA,hQ h' xZ c' (λb o e=>?_) Bo xr⟩;have hb:=Sa (RY e);exact hm b o hb (by rw[Ad];exact Sa (XQ (RY e))) (hk b o hb (GQ b o (old b o e)))
 unfold Builtin.List.listLengthHint;refine Rv (Xp IP F.slot_dict_len.lookup ?_);generalize hid:("dict.__len__":String)=NN
 wp_delta
 rw[show splitId NN=A? ("dict","__len__")from by subst hid;decide +kernel];subst hid;refine Rv (W8 (T:="dict") (b:=Bz) IP (by rw[isSubtype_type];kernel_rfl) ?_);refine wpAny_ite_split (λAq=>Yd Aq (by decide)) (λ_=>?_);refine wpAny_ite_split (λ_=>?_) (λAq=>Yd (by decide +kernel) Aq);refine Rv (VP IP ?_);refine RD ?_;refine wpAny_ite_split (λ_=>?_) (λ_=>RD ⟨UO TL _,key _ c2 CY (λb o _ e=>e) IM⟩);refine Rv (V7 ?_);refine Rv ?_;show RQ _ _ (WC s.1.1.size (·.push .none) >>= λ_=>WC s.1.1.size (·.pop)) _ _ _;refine Rv (Tx IM rfl ?_);have za:=SO (SQ (·.push SY)) IM rfl;refine Tx (hz:=by seq_fits) za rfl ?_;have AS:=SO (SQ (·.pop)) za rfl
 have zO:∀b o,b≠s.1.1.size->H3.get? b=A? o->((H3.update s.1.1.size (SQ (·.push SY))).update s.1.1.size (SQ (·.pop))).get? b=A? o :=
  λb o hb e=>(S8 _ _ (Tn hb)).trans ((S8 _ _ (Tn hb)).trans e)
 exact RD ⟨UO TL _,key _ _ (CY.at λo e=>zO _ _ (Tn E4) e) zO AS⟩
end PySem
namespace L2
open PySem PySem.Spec PyProof.Rows
def uH:List V->Hp->VK->Prop:=λxs H Q=>∃(a:Ry)(kvs:List (List Key×V)),xs=[.ref a]/\H a=A? (.dT kvs)/\∀(l:Ry)(bs:List Ry),H l=B?->Sb (λkv b=>H b=A? (.tup (kv.1.map kV))) kvs bs->Q (.ref l) (upd H l (.lst (bs.map Zf)))
theorem qi{ys:List (List Key×Ry×Rz)}(rel:KTd H kvs ys):Sb (λkv b=>H b=A? (.tup (kv.1.map kV))) kvs (ys.map λy=>y.2.1):=by
 induction rel with
 |nil=>exact .nil
 |cons h t ih=>exact .cons h.2.1 ih
theorem ja{X:Cx}(hc:X.calm=Bz):io X (.type "list") uH:=by
 intro Y s σ H xs us Q I r h;obtain⟨a,kvs,rfl,e,q⟩:=h;obtain⟨u,rfl,rx⟩:=vals1 r;cases rx;obtain⟨z,hd,ys,rel,dd⟩:=oy I.hok e;have hT:=dd.typeIs;obtain⟨o,es,ep,ho,Q2,E5,he,GP,hn⟩:=dd;obtain⟨o',zo,xp⟩:=hT;have eo:o'=o:=RN (zo.symm.trans ho);subst eo;have hl:kvs.length=ys.length:=R9 rel
 have zC:es.toList.map (·.key)=ys.map λy=>Sg y.2.1:=by
  rw[he,Sr];rfl
 have hsz:es.size<=RZ:=by
  have:=Zd S4 zC;rw[Rw,Rw,Sd]at this;lia
 have hh:X.A.in1.in1.handled=none:=I.ok.hd hc;refine bb_list_keys hh hd zo xp E5 hsz λh' acc c hk hS xr=>?_;have hp:Sb (λkv b=>H b=A? (.tup (kv.1.map kV))) kvs (ys.map λy=>y.2.1):=qi rel;refine⟨.ref s.1.1.size,upd H s.1.1.size (.lst ((ys.map λy=>y.2.1).map Zf)),?_,CA,q _ _ I.fresh hp⟩;refine I.laid (t':=s.toks) hk (RI _) ⟨by rw[Rw,Rw];lia,acc.toList,c,?_,hS⟩;rw[xr,zC];clear hn GP he zC xr hS hl z rel hp q;induction ys with
 |nil=>exact .nil
 |cons y ys ih=>exact .cons rfl ih
open BB
theorem we{es:List Dv}{ws:List V}(r1:Vals ws its)(zA:DAts H es ws)(j:Nat)(z:Rz)(hz:its[j]?=A? z):∃e y',es[j]?=A? e/\DAt H e y'/\RelV y' z:=by
 have hj:j<its.length:=(glE hz);have l1:=r1.length;have l2:=zA.length;have Cg:j<es.length:=by lia
 obtain⟨y',CC,dy⟩:=zA.at (RA Cg);obtain⟨v',An,CN⟩:=r1.get CC;rw[hz]at An;cases An;exact⟨_,y',RA Cg,dy,CN⟩
theorem tT{z:Rz}{e e':Dv}{y' GR:V}(h1:DAt H e y')(h2:RelV y' z)(h3:DAt H e' GR)(h4:RelV GR z):e=e':=by
 have:=h2.inj h4;subst this;exact h1.inj h3
def oO(K:RH)(B:Nat):R2:=λx y H Q=>∃b ws d es,y=.ref b/\SqL K H b ws/\DAt H d x/\DAts H es ws/\ej es<=B/\∀r:Bool,(r=Bz↔d∉es)->Q (.bl r) H
open Classical in
theorem pX{X:Cx}{B:Nat}(hu:X.A.units+B+2<Ve):OpR X (UB .NotIn) (oO X.K B):=by
 intro Y s σ H x y v u Q I rx ry h;obtain⟨b,ws,d,es,rfl,hb,hd,zA,hB,q⟩:=h;cases ry;obtain⟨its,r1,p1,_⟩:=I.list hb;have l1:=r1.length;have l2:=zA.length;refine SeqAt.notIn_listAt (λz=>decide (∃y',DAt H d y'/\RelV y' z)) p1.isList (λz hz=>?_) ⟨.bl _,H,I,rfl,q _ ?_⟩
 .obtain⟨j,hj⟩:=RS.mp (show z∈its by simpa using hz);obtain⟨e,y',he,dy,ry⟩:=we r1 zA j z hj;have hq:=jx he
  have e3:decide (∃y',DAt H d y'/\RelV y' z)=decide (e=d):=by
   by_cases h:e=d
   .rw[Yc h,Yc ⟨y',h ▸ dy,ry⟩]
   .rw[Zb h,Zb];rintro⟨GR,h1,h2⟩;exact h (tT dy ry h1 h2)
  rw[e3];refine oA I _ e d (RI _) y' x z v X.A.in1 dy hd ry rx ?_;show X.A.units+1+_<Ve;lia
 .rw[XY,<-Bool.not_eq_true];refine not_congr ?_;constructor
  .intro z;obtain⟨v',h1,h2⟩:=Array.any_eq_true'.mp z;obtain⟨j,hj⟩:=RS.mp (show v'∈its by simpa using h1);obtain⟨e,y',he,dy,ry⟩:=we r1 zA j v' hj;obtain⟨GR,h3,h4⟩:=Zc h2;rw[<-tT dy ry h3 h4];exact Rx he
  .intro z;obtain⟨j,hj⟩:=RS.mp z;obtain⟨y',CC,dy⟩:=zA.at hj;obtain⟨v',An,CN⟩:=r1.get CC;refine Array.any_eq_true'.mpr ⟨v',?_,Yc ⟨y',dy,CN⟩⟩;have:=Rx An;simpa using this
end L2
namespace PySem
open Sem (wp)
section
variable{K:Type}[DecidableEq K](knd:HeapKind prog w K)(d:Ry)
theorem bb_meets_len(hd:(d == Tv)=C?) :
 MeetsIn prog w (Ur.«dict.__len__» ⟨[.ref d],[]⟩) (λ_ R s=>∃xs,s.1.DictOfH knd d xs/\R (.ok (.ret (.int xs.length s.toks))) {s with toks:=s.toks+1}) :=
 .of_wp λA R s⟨xs,hm,h⟩=>by
  obtain⟨o,es,ep,ho,hc,IQ,he,hp,hn⟩:=hm;show RQ _ _ (dictSize d >>= _) _ _ s;unfold dictSize;refine Rv (Rv (Uh ho IQ (RD ?_)));show RQ _ _ (Builtin.Dict.pendingCount d >>= _) _ _ s;refine Rv (wpAny_pendingCount_other hd ?_);refine wpAny_ret_mkInt ?_
  have:es.size=xs.length:=by
   have:=Zd S4 he;rw[Rw,Sd]at this;exact this
  rw[Nat.add_zero,this];exact h
end
section
variable{K:Type}[DecidableEq K]{knd:HeapKind prog w K}
theorem bb_call_len{xs:List (K×Ry×Rz)}(hd:(d == Tv)=C?)(hm:s.1.DictOfH knd d xs)(Ez:(xs.length:Int)<2 ^ 63)
 (h:Q (.int xs.length (s.toks+1)) {s with toks:=s.toks+1+1}):RQ (R7 prog w) A (call (.builtin "len") [.ref d]) Q E s:=by
 refine Calls.call_function_entry kind_len plain_len entry_len (args_len1 _) ?_;unfold Ur.«len»;refine Rv (m:=oneArg "len" _) (RD ?_)
 refine Rv (m:=callSpecial? (.ref d) (RF "__len__")) (SF (name:=RF "__len__") hm.typeIs F.slot_dict_len
  (call_meetsIn F.slot_dict_len hm.typeIs F.entry_dict_len (F.args_dict_len_1 _) (bb_meets_len knd d hd) ⟨xs,hm,?_⟩))
 show RQ _ _ _ _ _ {s with toks:=s.toks+1};refine Rv (SN (RD ?_));refine Rv (UH ?_);show RQ _ _ (if((xs.length:Nat):Int)<0 then _ else _) _ _ _;rw[Za (by lia)];show RQ _ _ (if((xs.length:Nat):Int) >= 2 ^ 63 then _ else _) _ _ _;rw[Za (by lia)];exact Rv (wpAny_mkInt (RD ⟨_,rfl,h⟩))
end
end PySem
namespace L2
open PySem PySem.Spec PyProof.Rows
def vO:List V->Hp->VK->Prop:=λxs H Q=>∃(a:Ry)(kvs:List (List Key×V)),xs=[.ref a]/\H a=A? (.dT kvs)/\Q (.int kvs.length) H
theorem gJ{X:Cx}:io X (.builtin "len") vO:=by
 intro Y s σ H xs us Q I r h;obtain⟨a,kvs,rfl,e,q⟩:=h;obtain⟨u,rfl,rx⟩:=vals1 r;cases rx;obtain⟨z,hd,ys,rel,dd⟩:=oy I.hok e;have hl:kvs.length=ys.length:=R9 rel;refine bb_call_len hd dd (by rw[VG]at z;lia) ?_;rw[<-hl];exact⟨.int kvs.length,H,I.tok _,⟨_,CA⟩,q⟩
end L2
namespace BB
open PySem L2
def eZ(e:R1×List Nat):List Key:=.inr e.1::e.2.map λ(i:Nat)=>(Sj ((i:Nat):Int):Key)
theorem qe{e f:R1×List Nat}(h:eZ e=eZ f):e=f:=by
 obtain⟨n,is⟩:=e;obtain⟨m,js⟩:=f;unfold eZ at h;obtain⟨h1,h2⟩:=VO h
 have h3:is=js:=by
  clear h h1;induction is generalizing js with
  | nil=>cases js with
    |nil=>rfl
    |cons j js=>cases h2
  | cons i is ih=>cases js with
    |nil=>cases h2
    | cons j js =>
      rw[R6,R6]at h2;obtain⟨g1,g2⟩:=VO h2;have g3:=Wv g1;rw[ih js g2,show i=j by lia]
 rw[h3];cases Sum.inr.inj h1;rfl
def kvsOf(E:List (R1×List Nat)):List (List Key×V):=E.zipIdx.map λz=>(eZ z.1,Yh (z.2:Nat))
theorem gx(E:List (R1×List Nat)):(kvsOf E).length=E.length:=by unfold kvsOf;rw[Rw,List.length_zipIdx]
theorem nN(E:List (R1×List Nat))(e:R1×List Nat):kvsOf (E++[e])=kvsOf E++[(eZ e,Yh (E.length:Nat))]:=by
 unfold kvsOf;rw[Xw,R4];simp
theorem pK{E:List (R1×List Nat)}{p:List Key×V}(h:p∈kvsOf E):∃i e,p=(eZ e,Yh (i:Nat))/\E[i]?=A? e:=by
 unfold kvsOf at h;obtain⟨z,hz,rfl⟩:=RP.mp h;exact⟨z.2,z.1,CA,U2.mp hz⟩
theorem mH{E:List (R1×List Nat)}{e:R1×List Nat}{u:V}(h:br (kvsOf E) (eZ e)=A? u):∃i:Nat,u=.int (i:Nat)/\E[i]?=A? e:=by
 unfold br at h;obtain⟨p,hp,rfl⟩:=RW.mp h;obtain⟨i,f,rfl,hf⟩:=pK (List.mem_of_find?_eq_some hp);have hq:=List.find?_some hp;have:=Zc (show decide (eZ f=eZ e)=Bz from hq);rw[qe this]at hf;exact⟨i,CA,hf⟩
theorem mr{E:List (R1×List Nat)}{e:R1×List Nat}(h:br (kvsOf E) (eZ e)=B?):e∉E/\putK (kvsOf E) (eZ e) (.int (E.length:Nat))=kvsOf (E++[e]):=by
 unfold br at h;have h1:=Option.map_eq_none_iff.mp h;rw[List.find?_eq_none]at h1;refine⟨λhm=>?_,?_⟩
 .obtain⟨i,hi⟩:=RS.mp hm;refine h1 (eZ e,Yh (i:Nat)) ?_ (Yc rfl);unfold kvsOf;exact RP.mpr ⟨(e,i),U2.mpr hi,rfl⟩
 .rw[nN];unfold putK;rw[Za];intro z;obtain⟨p,hp,xK⟩:=VN.mp z;exact h1 p hp xK
structure Cl(E:List (R1×List Nat))(Ts:List Th):Prop where
 len:E.length=Ts.length
 nd:Ts.Nodup
 ent:∀(i:Nat)(e:R1×List Nat),E[i]?=A? e->∃kids,Ts[i]?=A? (.knot e.1 kids)/\Sb (λid u=>id<i/\Ts[id]?=A? u) e.2 kids
theorem cY(h:l.Nodup){x:α}(hi:l[i]?=A? x)(hj:l[j]?=A? x):i=j:=by
 obtain⟨h1,e1⟩:=Td.mp hi;obtain⟨h2,e2⟩:=Td.mp hj;rcases Nat.lt_trichotomy i j with z|z|z
 .exact Yd (e1.trans e2.symm) (Wr.mp h i j h1 h2 z)
 .exact z
 .exact Yd (e2.trans e1.symm) (Wr.mp h j i h2 h1 z)
theorem oG(h:Ts.Nodup):∀{ids js:List Nat}{kids:List Th},Sb (λid u=>Ts[id]?=A? u) ids kids->Sb (λid u=>Ts[id]?=A? u) js kids->ids=js
 |_,_,_,.nil,.nil=>rfl
 |_,_,_,.cons a b,.cons c d=>by rw[cY h a c,oG h b d]
theorem lC:∀{ids:List Nat}{ks js:List Th},Sb (λid u=>Ts[id]?=A? u) ids ks->Sb (λid u=>Ts[id]?=A? u) ids js->ks=js
 |_,_,_,.nil,.nil=>rfl
 | _,_,_,.cons a b,.cons c d=>by
   rw[a]at c;cases c;rw[lC b d]
theorem Cl.found{E:List (R1×List Nat)}(c:Cl E Ts){n:R1}{kids:List Th}(h:E[i]?=A? (n,ids))(hp:Sb (λid u=>Ts[id]?=A? u) ids kids):Ts[i]?=A? (.knot n kids):=by
 obtain⟨ks,h1,h2⟩:=c.ent i _ h;rw[lC hp (Yj (λ_ _ z=>z.2) h2)];exact h1
theorem Cl.snoc{E:List (R1×List Nat)}(c:Cl E Ts){n:R1}{kids:List Th}(hn:(n,ids)∉E)(hp:Sb (λid u=>Ts[id]?=A? u) ids kids):Cl (E++[(n,ids)]) (Ts++[.knot n kids]):=by
 have up:∀{id:Nat}{u:Th},Ts[id]?=A? u->(Ts++[Zi n kids])[id]?=A? u:=λ{id u}h=>by
  rw[Sl (glE h)];exact h
 refine⟨by rw[RK,RK,c.len];rfl,?_,λi e he=>?_⟩
 .rw[SW];refine⟨c.nd,by simp,λa ha b hb z=>?_⟩;rw[RC.mp hb]at z;subst z;obtain⟨i,hi⟩:=RS.mp ha;have yD:i<E.length:=by rw[c.len];exact(glE hi)
  obtain⟨ks,h1,h2⟩:=c.ent i _ (RA yD);rw[hi]at h1;have h3:=RN h1;injection h3 with h4 h5;subst h5;have h6:=oG c.nd hp (Yj (λ_ _ z=>z.2) h2);refine hn ?_;have:(n,ids)=E[i]:=XN h4 h6;rw[this];exact VL yD
 .by_cases hi:i<E.length
  .rw[Sl hi]at he;obtain⟨ks,h1,h2⟩:=c.ent i e he;exact⟨ks,up h1,Yj (λ_ _ z=>⟨z.1,up z.2⟩) h2⟩
  .rw[Sx (by lia)]at he
   have h0:i - E.length=0:=by
    have:=(glE he);simp at this;lia
   rw[h0]at he;cases he;have NO:i=Ts.length:=by have:=c.len;lia
   subst NO;refine⟨kids,by simp,Yj (λid u z=>⟨(glE z),up z⟩) hp⟩
def fkv(F:List Nat):List (Key×V):=F.zipIdx.map λz=>((Sj ((z.1:Nat):Int):Key),Yh (z.2:Nat))
theorem sN(F:List Nat):(fkv F).length=F.length:=by unfold fkv;rw[Rw,List.length_zipIdx]
theorem ql(F:List Nat)(i:Nat):fkv (F++[i])=fkv F++[((Sj ((i:Nat):Int):Key),Yh (F.length:Nat))]:=by
 unfold fkv;rw[Xw,R4];simp
theorem tK{F:List Nat}{p:Key×V}(h:p∈fkv F):∃i id,p=((Sj ((id:Nat):Int):Key),Yh (i:Nat))/\F[i]?=A? id:=by
 unfold fkv at h;obtain⟨z,hz,rfl⟩:=RP.mp h;exact⟨z.2,z.1,CA,U2.mp hz⟩
theorem sL{a b:Nat}(h:(Sj ((a:Nat):Int):Key)=Sj ((b:Nat):Int)):a=b:=by
 have:=Wv h;lia
theorem gh{F:List Nat}{id:Nat}{u:V}(h:br (fkv F) (Sj ((id:Nat):Int):Key)=A? u):∃i:Nat,u=.int (i:Nat)/\F[i]?=A? id:=by
 unfold br at h;obtain⟨p,hp,rfl⟩:=RW.mp h;obtain⟨i,f,rfl,hf⟩:=tK (List.mem_of_find?_eq_some hp);have hq:=List.find?_some hp;have:=Zc (show decide ((Sj ((f:Nat):Int):Key)=Sj ((id:Nat):Int))=Bz from hq);rw[sL this]at hf;exact⟨i,CA,hf⟩
theorem fT{F:List Nat}{id:Nat}(h:br (fkv F) (Sj ((id:Nat):Int):Key)=B?):id∉F/\∀v,putK (fkv F) (Sj ((id:Nat):Int):Key) v=fkv F++[(Sj ((id:Nat):Int),v)]:=by
 unfold br at h;have h1:=Option.map_eq_none_iff.mp h;rw[List.find?_eq_none]at h1;refine⟨λhm=>?_,λv=>?_⟩
 .obtain⟨i,hi⟩:=RS.mp hm;refine h1 (Sj ((id:Nat):Int),Yh (i:Nat)) ?_ (Yc rfl);unfold fkv;exact RP.mpr ⟨(id,i),U2.mpr hi,rfl⟩
 .unfold putK;rw[Za];intro z;obtain⟨p,hp,xK⟩:=VN.mp z;exact h1 p hp xK
theorem sE{F:List Nat}{id:Nat}(h:id∉F):br (fkv F) (Sj ((id:Nat):Int):Key)=none:=by
 cases hv:br (fkv F) (Sj ((id:Nat):Int):Key)with
 |none=>rfl
 | some u =>
   obtain⟨i,_,hi⟩:=gh hv;exact Yd (Rx hi) h
theorem nA(F:List Nat)(id:Nat):(br (fkv F) (Sj ((id:Nat):Int):Key)).isSome=decide (id∈F):=by
 cases hv:br (fkv F) (Sj ((id:Nat):Int):Key)with
 |none=>rw[Zb (fT hv).1];rfl
 | some u =>
   obtain⟨i,_,hi⟩:=gh hv;rw[Yc (Rx hi)];rfl
def unt(N:Nat)(F:List Nat):Nat:=((SK N).filter λi=>decide (i∉F)).length
theorem vA{N:Nat}{F:List Nat}{a:Nat}(h1:a<N)(h2:a∉F):unt N (F++[a])<unt N F:=by
 unfold unt
 have e:((SK N).filter λi=>decide (i∉F++[a]))=(((SK N).filter λi=>decide (i∉F)).filter λi=>decide (i≠a)):=by
  rw[List.filter_filter];congr 1;funext i;simp only[RM,RC,not_or];by_cases h3:i∈F <;> by_cases h4:i=a <;> simp[h3,h4]
 rw[e];refine List.length_filter_lt_length_iff_exists.mpr ⟨a,?_,by simp⟩;exact Vr.mpr ⟨TZ.mpr h1,Yc h2⟩
theorem kF:∀(n:Nat),(∀(t:Th)(L:List Th),t.size<=n->L.length<=(post t L).length/\(post t L).length<=L.length+t.size)/\(∀(ts:List Th)(L:List Th),au ts<=n->L.length<=(aK ts L).length/\(aK ts L).length<=L.length+au ts):=by
 intro n;induction n with
 | zero =>
   refine⟨λt L h=>?_,λts L h=>?_⟩
   .have:=t.size_eq;lia
   .cases ts with
    |nil=>rw[aK,au];exact⟨RI _,RI _⟩
    | cons t ts =>
      rw[au]at h;have:=t.size_eq;lia
 | succ n ih =>
   have hT:∀(t:Th)(L:List Th),t.size<=n+1->L.length<=(post t L).length/\(post t L).length<=L.length+t.size:=by
    intro t L h;have hs:=t.size_eq;obtain⟨h1,h2⟩:=ih.2 t.kids L (by lia);rw[post_eq];split
    .lia
    .rw[RK];show L.length<=_+1/\_+1<=_;lia
   refine⟨hT,λts=>?_⟩;induction ts with
   |nil=>intro L _;rw[aK,au];exact⟨RI _,RI _⟩
   | cons t ts E2 =>
     intro L h;rw[au]at h;obtain⟨h1,h2⟩:=hT t L (by lia);obtain⟨h3,h4⟩:=E2 (post t L) (by lia);rw[aK,au];lia
theorem qI(t:Th)(L:List Th):L.length<=(post t L).length/\(post t L).length<=L.length+t.size:=(kF t.size).1 t L (RI _)
open PySem.Builtin PySem.Builtin.Str
end BB
namespace L2
open PySem PySem.Spec PySem.Calls PyProof.Rows BB
section
variable{X:Cx}{σ:List (Option V)}
end
open PySem.Builtin PySem.Builtin.Str
variable{X:Cx}
end L2
namespace BB
open PySem L2
section
variable{t:Th}{ts:List Th}{es:List Ry}
end
end BB
namespace L2
open PySem PySem.Spec PyProof.Rows BB
variable{X:Cx}
end L2
namespace L2
open PySem PySem.Spec PyProof.Rows PySem.W
open BB
variable{X:Cx}
end L2
namespace L2
open PySem PySem.Spec PySem.Calls PyProof.Rows PySem.W
end L2
namespace BB
open PySem L2 PySem.Builtin PySem.Builtin.Str
end BB
namespace L2
open PySem PySem.Spec PySem.Calls PyProof.Rows PySem.Builtin PySem.Builtin.Str BB
variable{X:Cx}
end L2
namespace L2
open PySem PySem.Spec PyProof.Rows
end L2
namespace BB
open PySem L2
end BB
namespace L2
open PySem PySem.Spec PyProof.Rows
open PySem.Calls
structure pD(P:R3)(w:Se)(K:RH)(mg:R1->Option Rz)(base:SM)(CX:CXT)(k:Nat)(f:Ry)(sp:Sp):Prop where
 fn:∀(A:Si)(outer:List Xz)(s:RE)(H:Hp)(vs:List V)(Q:VK)(E:XK),Env0 P w K mg base A outer s H->sp vs H Q E->PySem.W.FnAt f s.1
 run:∀(A:Si)(outer:List Xz)(s:RE)(H:Hp)(us:List Rz)(vs:List V)(Q:VK)(E:XK),Room k A->Env0 P w K mg base A outer s H->Vals vs us->sp vs H Q E ->
  UW (R7 P w) A (.call (.ref f) ⟨us,[]⟩) (CR CX outer P w H s Q E) s
section
variable{X:Cx}{k:Nat}{E:XK}{p:UX}{es:List Su}{t:TA}
end
def fgt(S:List Ry)(H:Hp):Hp:=λb=>if b∈S then B? else H b
def rst(S:List Ry)(H H':Hp):Hp:=λb=>if b∈S then H b else H' b
theorem jc(h:b∈S):fgt S H b=none:=Yb h
theorem da(h:b∉S):fgt S H b=H b:=Za h
theorem uG(h:b∈S):rst S H H' b=H b:=Yb h
theorem dS(h:b∉S):rst S H H' b=H' b:=Za h
theorem qR(h:fgt S H b=A? o):b∉S/\H b=A? o:=by
 by_cases hb:b∈S
 .rw[jc hb]at h;cases h
 .exact⟨hb,by rw[da hb]at h;exact h⟩
def Exts(S:List Ry)(H:Hp):Prop:=∀b∈S,∃φ,H b=A? (.ext φ)
theorem Exts.out(x:Exts S H)(e:H b=A? o)(n:∀φ,o≠.ext φ):b∉S:=λz=>by
 obtain⟨φ,h⟩:=x b z;rw[e]at h;exact n φ (RN h)
theorem HOk.fgt(x:HOk P w H h)(hS:Exts S H):HOk P w (fgt S H) h:=λa o e=>by
 obtain⟨ha,e'⟩:=qR e;exact(x a o e').stay (λ_ _ _ q=>q) (λb q=>by rw[da (hS.out q (by intro φ z;cases z))];exact q) λb xs q=>by rw[da (hS.out q (by intro φ z;cases z))];exact q
theorem HOk.rst(x:HOk P w H h)(x':HOk P w H' h')(hS:Exts S H)(hk:∀b∈S,∀o,h.get? b=A? o->h'.get? b=A? o)(hn:∀b∈S,H' b=B?):HOk P w (rst S H H') h':=λa o e=>by
 by_cases ha:a∈S
 .rw[uG ha]at e;obtain⟨φ,NP⟩:=hS a ha;have e2:=NP;rw[e]at e2;cases e2;obtain⟨p,⟨ob,q⟩,st⟩:=x a _ e;exact⟨st _ _ p (λo z=>hk a ha o z),⟨ob,hk a ha ob q⟩,st⟩
 .rw[dS ha]at e;have out:∀b u,H' b=A? u->b∉S:=λb u q z=>by rw[hn b z]at q;cases q
  exact(x' a o e).stay (λ_ _ _ q=>q) (λb q=>by rw[dS (out b _ q)];exact q) λb xs q=>by rw[dS (out b _ q)];exact q
def CellAt(H:Hp)(c:Ry)(v:V):Prop:=∃φ,H c=A? (.ext φ)/\∀h:SM,φ h->∃u,RelV v u/\h.IsCell c (A? u)
def CodeAt(H:Hp)(c:Ry)(qual:R1):Prop:=∃φ,H c=A? (.ext φ)/\∀h:SM,φ h->h.CodeRec (.ref c) qual
def sT(H:Hp)(cl:List (R1×Ry))(ns:List R1)(ws:List V):Prop:=Sb (λ(x:R1)(v:V)=>∃c,cl.lookup x=A? c/\CellAt H c v) ns ws
def LamAt(H:Hp)(f c':Ry)(name qual:R1)(params:WE)(body:Su)(scope:UR)(cl:List (R1×Ry)):Prop:=∃φ,H f=A? (.ext φ)/\∀h:SM,φ h->∃pm zc,h.get? f=A? (Uu name qual params body scope cl pm c' zc)
theorem CodeAt.mono(s:Same H H'){q:R1}(h:CodeAt H c q):CodeAt H' c q:=by
 obtain⟨φ,h1,h2⟩:=h;exact⟨φ,s _ _ h1,h2⟩
theorem LamAt.mono(s:Same H H'){c':Ry}{body:Su}(h:LamAt H f c' name qual params body scope cl):LamAt H' f c' name qual params body scope cl:=by
 obtain⟨φ,h1,h2⟩:=h;exact⟨φ,s _ _ h1,h2⟩
theorem CellAt.now(x:HOk P w H h)(z:CellAt H c v):∃u,RelV v u/\h.IsCell c (A? u):=by
 obtain⟨φ,h1,h2⟩:=z;exact h2 h (x c _ h1).1
def cxL(P:R3)(w:Se)(K:RH)(mg:R1->Option Rz)(base:SM)(N:List R1)(qual:R1)(scope:UR)(f:Ry)(cd:Rz)(cl:List (R1×Ry))(A:Si)(outer:List Xz)(s:RE)(H:Hp):Cx where
 prog:=P
 w:=w
 K:=K
 mg:=mg
 base:=base
 A:=A.deeper (WU qual scope s.1.1.size f cd cl)
 N:=N
 s₀:=s
 H₀:=fgt (cl.map (·.2)) H
 env:=WU qual scope s.1.1.size f cd cl
 outer:=outer
 stack:=WU qual scope s.1.1.size f cd cl::outer
 ex:=[]
 calm:=Bz
 fn:=λ_=>C?
 pn:=[]
 xe:=λ_ _=>False
structure lE(N ps:List R1)(cl:List (R1×Ry))(sc:UR):Prop where
 kind:sc.kind=.function
 co:sc.isCoroutine=C?
 gen:sc.isGenerator=C?
 nocell:∀x∈sc.names,x.2≠.cell
 nd:N.Nodup
 pre:N.take ps.length=ps
 par:∀x∈ps,sc.names.lookup x=A? .local
 fre:∀x∈N.drop ps.length,sc.names.lookup x=A? .free
 has:∀x,sc.names.lookup x=A? .free->∃c,cl.lookup x=A? c
 inj:∀x y c,cl.lookup x=A? c->cl.lookup y=A? c->x=y
theorem lv(h:cl.lookup x=A? c):c∈cl.map (·.2):=RP.mpr ⟨(x,c),Tz h,rfl⟩
theorem jU:∀{l:List (R1×Rz)}{x:R1}{u:Rz},(l.map (·.1)).Nodup->(x,u)∈l->l.lookup x=A? u
 | [],_,_,_,h=>by cases h
 | (y,v)::l,x,u,nd,h=>by
   rw[R6,Sz]at nd;rw[Tu];rcases RR.mp h with e|e
   .cases e;rw[beq_self_eq_true]
   .have xx:(x == y)=false:=by
     rw[beq_eq_false_iff_ne];intro z;subst z;exact nd.1 (RP.mpr ⟨_,e,rfl⟩)
    rw[xx];exact jU nd.2 e
theorem lJ(nd:ps.Nodup)(hl:us.length=ps.length)(h1:ps[i]?=A? x)(h2:us[i]?=A? u):(ps.zip us).reverse.lookup x=A? u:=by
 refine jU ?_ ?_
 .rw[List.map_reverse,List.map_fst_zip (by lia)];exact(List.pairwise_reverse.mpr (nd.imp λh z=>h z.symm))
 .rw[List.mem_reverse];exact Rx (T2.mpr ⟨h1,h2⟩)
theorem vq{k:Nat}{c':Ry}{body:Su}
 (S:lE N ps cl scope) (bind:∀(pm zc:Rz)(us:List Rz),us.length=ps.length->Wh (PySem.W.kla_fn name qual params body scope cl pm (.ref c') zc) ⟨us,[]⟩=pure (ps.zip us))
 (yw:∀vs H Q E,sp vs H Q E->vs.length=ps.length/\LamAt H f c' name qual params body scope cl/\CodeAt H c' qual/\Exts (cl.map (·.2)) H/\∀x c,cl.lookup x=A? c->∃v,CellAt H c v)
 (xF:∀(A:Si)(outer:List Xz)(s:RE)(H:Hp)(vs:List V)(Q:VK)(E:XK),Room k (A.deeper (WU qual scope s.1.1.size f (.ref c') cl))->sp vs H Q E ->
  ∃t ws,sT H cl (N.drop ps.length) ws/\PE (cxL P w K mg base N qual scope f (.ref c') cl A outer s H) body t/\t (vs.map A?++ws.map A?) (fgt (cl.map (·.2)) H) λv H'=>Q v (rst (cl.map (·.2)) H H')) :
 pD P w K mg base CX0 (k+1) f sp where
 fn:=λA outer s H vs Q E e0 h=>by
  obtain⟨_,⟨φ,h1,h2⟩,_⟩:=yw _ _ _ _ h;obtain⟨pm,zc,e⟩:=h2 _ (e0.hok f _ h1).1;exact⟨_,_,_,_,e⟩
 run:=λA outer s H us vs Q E hr e0 r h=>by
  obtain⟨hl,⟨φ,h1,h2⟩,⟨ψ,g1,g2⟩,hx,NQ⟩:=yw _ _ _ _ h;obtain⟨pm,zc,ef⟩:=h2 _ (e0.hok f _ h1).1;have NR:=g2 _ (e0.hok c' _ g1).1;have GF:us.length=ps.length:=by rw[<-r.length];exact hl
  have IT:∀y∈ps.zip us,scope.names.lookup y.1=A? .local:=λ⟨n,v⟩hy=>S.par n (Vq hy).1;refine PySem.W.kla_callFunE hr.depth ef rfl S.co S.gen rfl NR ?_;rw[show Wh _ _=_ from bind pm zc us GF];refine RD (wpAny_newFunctionEnv S.nocell IT (λxh zp yQ=>?_) S.kind);have zd:∀b o,s.1.get? b=A? o->xh.get? b=A? o:=λb o e=>yQ.extBut b o (Sa (RY e)) (RB _ e);refine⟨e0.mod.nolimit.keeps λb o e=>zd b o (e0.bs b o e).1,?_⟩;show UW _ _ (.expr body (WU qual scope s.1.1.size f (.ref c') cl)) _ _;obtain⟨t,ws,zA,ht,hq⟩:=xF A outer s H vs Q E (hr.deeper _) h;have zw:(N.drop ps.length).length=ws.length:=R9 zA;have yv:ps.length<=N.length:=by have:=Zd S4 S.pre;rw[Sq]at this;lia
  have xp:∀x c,cl.lookup x=A? c->c∈cl.map (·.2):=λx c e=>lv e
  have xf:∀c∈cl.map (·.2),c<s.1.1.size:=λc hc=>by
   obtain⟨DT,e⟩:=hx c hc;exact e0.hok.lt e
  have CZ:∀x c,cl.lookup x=A? c->∃v,xh.IsCell c v:=λx c e=>by
   obtain⟨v,hv⟩:=NQ x c e;obtain⟨u,_,o,ho,hd⟩:=hv.now e0.hok;exact⟨_,o,zd _ _ ho,hd⟩
  have DU:∀b,H b=B?->fgt (cl.map (·.2)) H b=none:=λb e=>by
   by_cases hb:b∈cl.map (·.2)
   .exact jc hb
   .rw[da hb];exact e
  have GC:ps.Nodup:=by rw[<-S.pre];exact S.nd.sublist (List.take_sublist _ _)
  have I:Inv (cxL P w K mg base N qual scope f (.ref c') cl A outer s H) [] (vs.map A?++ws.map A?) (fgt (cl.map (·.2)) H) {s with heap:=xh,toks:=s.toks+(ps.zip us).length}:=by
   refine⟨⟨e0.mod,S.kind,CA,CA,RI _,S.inj,λx hx=>?_,λx c hf _=>(by cases hf),λ_=>hr.hd,Around.frames_deeper e0.frames,.inr ⟨rfl,rfl⟩,λb z=>(by cases z),λb o e=>⟨(e0.bs b o e).1,?_⟩,e0.bsz,λb _ _ z=>(by cases z),λb z=>(by cases z),e0.funs,λb hb=>?_⟩,
    rfl,e0.bare,Un.kept zd,⟨_,zp,λi x v e1 e2 e3=>?_⟩,CZ,?_,λx c e=>jc (xp x c e),λp hp=>(by cases hp),?_,?_⟩
   .have yL:scope.names.lookup x=A? .cell\/scope.names.lookup x=A? .free:=hx;rcases yL with z|z
    .exact Yd rfl (S.nocell _ (Tz z))
    .exact S.has x z
   .exact DU b (e0.bs b o e).2
   .exact DU b (e0.frf b hb)
   .by_cases hi:i<vs.length
    .rw[Sl (by rw[Rw];exact hi),RG]at e2;obtain⟨v',An,e4⟩:=RW.mp e2;cases e4;obtain⟨u,hu,rv⟩:=r.get An
     have hp:ps[i]?=A? x:=by
      rw[<-S.pre,List.getElem?_take_of_lt (by lia)];exact e1
     exact⟨u,rv,.inl ⟨S.par x (Rx hp),lJ GC GF hp hu⟩⟩
    .rw[Sx (by rw[Rw];lia),RG,Rw]at e2;obtain⟨v',An,e4⟩:=RW.mp e2;cases e4
     have hd:(N.drop ps.length)[i - vs.length]?=A? x:=by
      rw[List.getElem?_drop,hl,show ps.length+(i - ps.length)=i by lia];exact e1
     obtain⟨w',yG,c,hc,yB⟩:=Zl zA hd;rw[An]at yG;cases yG;obtain⟨u,ru,o,ho,NS⟩:=yB.now e0.hok;exact⟨u,ru,.inr ⟨.inr (S.fre x (Rx hd)),c,hc,o,zd _ _ ho,NS⟩⟩
   .exact DU _ (e0.hok.fresh (RI _))
   .exact(e0.hok.fgt hx).kept zd
   .show(vs.map A?++ws.map A?).length=N.length;rw[RK,Rw,Rw,<-zw,Uj];lia
  refine PySem.W.kla_codeExpr (Tq (ht [] _ _ _ _ I hq) (λu s' HS=>?_) λe s' z=>z.elim);obtain⟨v,H',I',rv,q'⟩:=HS;have un:Un (frs outer) [] (fgt (cl.map (·.2)) H) H' s.1 s'.1:=I'.base
  have kS:∀b∈cl.map (·.2),∀o,s.1.get? b=A? o->s'.1.get? b=A? o:=λb hb o e=>un.keep b o e (jc hb) (λz=>by
   obtain⟨DT,e'⟩:=hx b hb;rw[e0.frf b z]at e';cases e') (by simp)
  have NT:∀b∈cl.map (·.2),H' b=none:=λb hb=>by
   obtain⟨DT,e'⟩:=hx b hb;obtain⟨_,⟨o,ho⟩,_⟩:=e0.hok b _ e';exact un.free b o ho (jc hb) (by simp)
  have nS:∀b,H b=B?->b∉cl.map (·.2):=λb e hb=>by
   obtain⟨DT,e'⟩:=hx b hb;rw[e]at e';cases e'
  refine⟨v,rst (cl.map (·.2)) H H',I'.os,I'.bare,⟨λb o e n hb yL=>un.keep b o e (DU b n) hb yL,λb o e n hb yL=>un.slot b o e (DU b n) hb yL,λb o e n yL=>?_,λb o e yL=>un.there b o e yL,λb xs e=>?_,λb o u' e=>?_,λb pp e=>?_⟩,HOk.rst e0.hok I'.hok hx kS NT,rv,q'⟩
  .rw[dS (nS b n)];exact un.free b o e (DU b n) yL
  .have hb:=hx.out e (by intro DT z;cases z);rw[dS hb];exact un.tups b xs (by rw[da hb];exact e)
  .have hb:=hx.out e (by intro DT z;cases z);rw[dS hb];exact un.frzs b o u' (by rw[da hb];exact e)
  .have hb:=hx.out e (by intro DT z;cases z);rw[dS hb];exact un.tbls b pp (by rw[da hb];exact e)
structure Lam(mg:R1->Option Rz)(base:SM)(c P:Ry):Prop where
 hd:PySem.W.CodeHd base c P
 bl:base.BuiltinsAt mg P
def SameT(P:Ry)(H H':Hp):Prop:=∀b o,b≠P->H b=A? o->H' b=A? o
def tabOf(pos:UX)(c':Ry):Array Rz:=#[Ud pos.line,Ud pos.col,.ref c']
def TabSt(H:Hp)(P:Ry)(pos:UX)(qual:R1):Prop:=H P=A? (.tbl #[])\/∃c',H P=A? (.tbl (tabOf pos c'))/\CodeAt H c' qual
theorem TabSt.mono(s:Same H H'){P:Ry}(h:TabSt H P pos qual):TabSt H' P pos qual:=by
 rcases h with h|⟨c',h1,h2⟩
 .exact .inl (s _ _ h)
 .exact .inr ⟨c',s _ _ h1,h2.mono s⟩
theorem SameT.refl(P:Ry)(H:Hp):SameT P H H:=λ_ _ _ e=>e
theorem SameT.trans{P:Ry}(a:SameT P H H1)(b:SameT P H1 H2):SameT P H H2:=λc o n e=>b c o n (a c o n e)
theorem Same.t(s:Same H H')(P:Ry):SameT P H H':=λb o _ e=>s b o e
theorem qw(pos:UX)(c':Ry):TriplesOk (tabOf pos c').toList:=trivial
theorem pE(pos:UX)(c':Ry):codeAmong pos (tabOf pos c').toList=A? (.ref c'):=by
 show codeAmong pos [Ud pos.line,Ud pos.col,.ref c']=_;simp[codeAmong,Ud]
def wD(X:Cx)(P:Ry)(pos:UX)(params:WE)(body:Su)(scope:UR)(cl:List (R1×Ry)):TE:=λ_ H Q=>TabSt H P pos (X.env.qual++"<lambda>") /\
 ∀f c' H',SameT P H H'->H' P=A? (.tbl (tabOf pos c'))->CodeAt H' c' (X.env.qual++"<lambda>")->LamAt H' f c' "<lambda>" (X.env.qual++"<lambda>") params body scope cl->H f=B?->Q (.ref f) H'
theorem uX{X:Cx}{P:Ry}{body:Su}(L:Lam X.mg X.base c P)(hc:X.env.code=.ref c)(xp:closureFor scope X.env=pure cl)(IU:defaultsOf params X.env=([],[]):=by rfl) :
 PE X (.Lambda params body scope pos) (wD X P pos params body scope cl):=by
 intro Y s σ H Q I h;obtain⟨tab,q⟩:=h;have IV:s.1.Ns Te X.mg:=I.mod.glob.keeps I.bk;have C:PySem.W.CodeHd s.1 c P:=L.hd.keeps I.bk
 have hb:s.1.BuiltinsAt X.mg P:=by
  obtain⟨bm,o,h1,h2,h3,h4,h5,h6⟩:=L.bl;exact⟨bm,o,h1,h2,h3,h4,I.bk _ _ h5,h6⟩
 refine PySem.W.kla_eval IU ?_;rcases tab with hP|⟨c',hP,BA⟩
 .have GS:s.1.get? P=A? (Wi #[]):=I.hok P _ hP
  have NU:Te≠P:=λz=>by
   obtain⟨o,es,ep,e,d,_⟩:=IV;rw[z,GS]at e;cases e;cases d
  refine PySem.W.kla_makeFunction xp I.ok.glob IV hc C GS trivial rfl NU hb λc' zc h' tk hx E6 xf E7 Lh=>?_;have hsz:s.1.1.size<=h'.objs.size:=Ss E6 (TV xf);have Li:H c'=none:=I.hok.fresh E6;have nf:H h'.objs.size=none:=I.hok.fresh hsz;have NV:c'≠h'.objs.size:=Sa xf;have NW:P≠c':=λz=>by rw[z,Li]at hP;cases hP
  have NX:P≠h'.objs.size:=λz=>by rw[z,nf]at hP;cases hP
  have kp:∀b o,b≠P->s.1.get? b=A? o->(h'.push (Uu "<lambda>" (X.env.qual++"<lambda>") params body scope cl ((X.mg "__name__").getD .none) c' zc)).get? b=A? o:=λb o n e=>RB _ (hx b o n e);obtain⟨H',GU⟩:∃H',H'=upd (upd (upd H P (.tbl (tabOf pos c'))) c' (.ext λh=>h.CodeRec (.ref c') (X.env.qual++"<lambda>"))) h'.objs.size (.ext λh=>h.get? h'.objs.size=A? (Uu "<lambda>" (X.env.qual++"<lambda>") params body scope cl ((X.mg "__name__").getD .none) c' zc)):=⟨_,rfl⟩;have eP:H' P=A? (.tbl (tabOf pos c')):=by rw[GU,ac NX,ac NW,ad]
  have ec:H' c'=A? (.ext λh=>h.CodeRec (.ref c') (X.env.qual++"<lambda>")):=by rw[GU,ac NV,ad]
  have ef:H' h'.objs.size=A? (.ext λh=>h.get? h'.objs.size=A? (Uu "<lambda>" (X.env.qual++"<lambda>") params body scope cl ((X.mg "__name__").getD .none) c' zc)):=by rw[GU,ad]
  have eo:∀b,b≠P->b≠c'->b≠h'.objs.size->H' b=H b:=λb n1 n2 n3=>by rw[GU,ac n3,ac n2,ac n1]
  have es:∀b o,H b=A? o->b≠P->H' b=A? o:=λb o e n=>by rw[eo b n (λz=>by rw[z,Li]at e;cases e) (λz=>by rw[z,nf]at e;cases e)];exact e
  have un:Un X.fs [] H H' s.1 (h'.push (Uu "<lambda>" (X.env.qual++"<lambda>") params body scope cl ((X.mg "__name__").getD .none) c' zc)):=by
   have nP:∀b,H b=B?->b≠P:=λb n z=>by rw[z,hP]at n;cases n
   refine⟨λb o e n _ _=>kp b o (nP b n) e,λb o e n _ _=>⟨o.slots,kp b o (nP b n) e⟩,λb o e n _=>?_,λb o e _=>?_,λb xs e=>es b _ e (λz=>by rw[z,hP]at e;cases e),λb o u e=>es b _ e (λz=>by rw[z,hP]at e;cases e),λb pp e=>?_⟩
   .rw[eo b (nP b n) (Sa (So (RY e) E6)) (Sa (So (RY e) hsz))];exact n
   .by_cases hb:b=P
    .exact⟨_,by rw[hb];exact RB _ Lh⟩
    .exact⟨o,kp b o hb e⟩
   .by_cases hb:b=P
    .subst hb;rw[hP]at e;cases e;exact⟨tabOf pos c',by rw[eP];simp⟩
    .exact⟨#[],by rw[es b _ e hb];simp⟩
  have hok:HOk X.prog X.w H' (h'.push (Uu "<lambda>" (X.env.qual++"<lambda>") params body scope cl ((X.mg "__name__").getD .none) c' zc)):=λa o e=>by
   by_cases ha:a=P
   .subst ha;rw[eP]at e;cases e;exact RB _ Lh
   by_cases xP:a=c'
   .subst xP;rw[ec]at e;cases e;refine⟨E7.push _,?_,λh1 h2 z k=>?_⟩
    .obtain⟨_,oc,_,_,e1,e2,_⟩:=E7;cases e1;exact⟨oc,RB _ e2⟩
    .obtain⟨_,oc,vs,t,e1,e2,e3⟩:=z;cases e1;exact⟨_,oc,vs,t,CA,k _ e2,e3⟩
   by_cases Ar:a=h'.objs.size
   .subst Ar;rw[ef]at e;cases e;exact⟨RJ _ rfl,⟨_,RJ _ rfl⟩,λh1 h2 z k=>k _ z⟩
   rw[eo a ha xP Ar]at e;refine(I.hok a o e).stay (λb u hb z=>kp b u ?_ z) (λb z=>es b _ z (λy=>by rw[y,hP]at z;cases z)) λb xs z=>es b _ z (λy=>by rw[y,hP]at z;cases z);rcases hb with hb|hb
   .rw[hb];exact ha
   .exactλy=>by rw[y,hP]at hb;cases hb
  refine⟨.ref h'.objs.size,H',I.un un hok,CA,q _ c' H' (λb o n e=>es b o e n) eP ⟨_,ec,λ_ z=>z⟩ ⟨_,ef,λ_ z=>⟨_,_,z⟩⟩ nf⟩
 .have GS:s.1.get? P=A? (Wi (tabOf pos c')):=I.hok P _ hP;refine PySem.W.kla_makeFunctionHit xp I.ok.glob IV hc C GS (qw pos c') (pE pos c') hb λzc h' tk hk hsz=>?_;have nf:H h'.objs.size=none:=I.hok.fresh hsz
  have I':=I.laid (h':=h'.push {cls:=.type "function",data:=.func (PySem.W.kla_fn "<lambda>" (X.env.qual++"<lambda>") params body scope cl ((X.mg "__name__").getD .none) (.ref c') zc)}) (a:=h'.objs.size) (t':=tk)
   (o:=.ext λh=>h.get? h'.objs.size=A? (Uu "<lambda>" (X.env.qual++"<lambda>") params body scope cl ((X.mg "__name__").getD .none) c' zc)) (λb u e=>RB _ (hk b u e)) hsz ⟨RJ _ rfl,⟨_,RJ _ rfl⟩,λh1 h2 z k=>k _ z⟩
  have sm:Same H (upd H h'.objs.size (.ext λh=>h.get? h'.objs.size=A? (Uu "<lambda>" (X.env.qual++"<lambda>") params body scope cl ((X.mg "__name__").getD .none) c' zc))):=ao nf _;exact⟨.ref h'.objs.size,_,I',CA,q _ c' _ (sm.t P) (sm _ _ hP) (BA.mono sm) ⟨_,ad,λ_ z=>⟨_,_,z⟩⟩ nf⟩
section
variable{X:Cx}{k:Nat}{p:UX}{es:List Su}{t:TA}
end
theorem o9{mb:R1->Option Rz}{k:Nat}{fa T:Ry}{l':RE}{vs:List Rz}
 (KX:K.In l'.heap) (zp:l'.heap.Ns Te mg) (hb:l'.heap.Ns builtinsNs mb) (Lj:∀x:R1,x≠"__name__"->mb x=Wz x) (IW:l'.heap.NoLimit) (hg:l'.gens=#[])
 (ha:l'.heap.get? a=A? {cls:=.type "list",data:=.seq vs.toArray}) (hi:WR vs ns) (hl:ns.length<=RZ) (hr:Room k callerA)
 (hC:PySem.W.CodeHd l'.heap c T) (hT:l'.heap.get? T=A? (Wi #[])) (Ab:l'.heap.BuiltinsAt mg T) (IX:K.lookup T=B?)
 (F:∀base:SM,K.In base->base.Ns Te mg->Lam mg base c T->FnOk P w K mg base CX k fa fd [x] sp) (E8:∀(s:RE)(u:Rz),BindsTo s fd ⟨[u],[]⟩ [(x,u)])
 (yw:∀H:Hp,SqL K H a (ns.map Yh)->H T=A? (.tbl #[])->sp [.ref a] H (λv _=>v=.bl Bz) λ_ _ _=>False)
 (IY:∀H e s',CX [] H l' (λ_ _ _=>False) e s'->False) :
 UW (R7 P w) callerA (.call (.ref fa) ⟨[.ref a],[]⟩) (λr s'=>r=.ok (.ret (.bool Bz))/\OldK l'.heap s'.1/\s'.os=l'.os/\Xy s'.gens) l':=by
 have rv:=j9 hi;have IZ:=hi.length;have Lk:a≠T:=λz=>by rw[z,hT]at ha;cases ha
 have core:∀H:Hp,(∀b,H b=B?\/(∃o xs,H b=A? (.frz o (.lst xs)))\/(b=T/\H b=A? (.tbl #[])))->H T=A? (.tbl #[])->SqL K H a (ns.map Yh)->HOk P w H l'.heap->(∀b,H b≠B?->b=a\/b=T)->(H a≠B?->K.lookup a=B?) ->
  UW (R7 P w) callerA (.call (.ref fa) ⟨[.ref a],[]⟩) (λr s'=>r=.ok (.ret (.bool Bz))/\OldK l'.heap s'.1/\s'.os=l'.os/\Xy s'.gens) l':=by
  intro H hO Ja hS hok hA hK;have yg:∀{b:Ry}{o:TC},l'.heap.get? b=A? o->H b=B?->(jI l'.heap H).get? b=A? o:=λe n=>qH e n
  have Jb:∀{b:Ry}{o:TC},l'.heap.get? b=A? o->(∀xs n,o.data≠.seq xs n)->(∀xs,o.data≠.fields xs\/o.cls≠.none)->H b=none:=λ{b o}e d1 d2=>by
   cases q:H b with
   |none=>rfl
   | some u =>
     rcases hA b (by rw[q];simp)with e'|e'
     .subst e';rw[ha]at e;cases e;exact Yd rfl (d1 _ _)
     .subst e';rw[hT]at e;cases e;rcases d2 #[]with z|z
      .exact Yd rfl z
      .exact Yd rfl z
  have GV:∀{b:Ry}{m:R1->Option Rz},l'.heap.Ns b m->(jI l'.heap H).Ns b m:=λ{b m}⟨o,es,ep,e,d,r⟩=>⟨o,es,ep,yg e (Jb e (λxs n=>by rw[d];exactλz=>nomatch z) (λxs=>.inl (by rw[d];exactλz=>nomatch z))),d,r⟩
  have Ll:K.In (jI l'.heap H):=λb o e=>yg (KX b o e) (by
   cases q:H b with
   |none=>rfl
   | some u =>
     rcases hA b (by rw[q];simp)with e'|e'
     .subst e';rw[hK (by rw[q];simp)]at e;cases e
     .subst e';rw[IX]at e;cases e)
  have hM:Mod K mg (jI l'.heap H):=⟨Ll,GV zp,⟨mb,GV hb,Lj⟩,let⟨mc,h1,h2⟩:=IW;⟨mc,GV h1,h2⟩⟩
  have hL:Lam mg (jI l'.heap H) c T:=by
   refine⟨?_,?_⟩
   .obtain⟨o,NY,file,tf,flags,tg,NZ,text,tt,e1,r1,r2,r3⟩:=hC;exact⟨o,NY,file,tf,flags,tg,NZ,text,tt,yg e1 (Jb e1 (λxs n=>by rw[r2];exactλz=>nomatch z) (λxs=>.inr (by rw[r1];exactλz=>nomatch z))),r1,r2,r3⟩
   .obtain⟨bm,o,h1,h2,h3,h4,h5,h6,h7,h8⟩:=Ab;exact⟨bm,o,h1,h2,h3,h4,yg h5 (Jb h5 (λxs n=>by rw[h8];exactλz=>nomatch z) (λxs=>.inl (by rw[h8];exactλz=>nomatch z))),h6,h7,h8⟩
  have e0:Env0 P w K mg (jI l'.heap H) callerA [] l' H:=⟨rfl,hM,λb o e=>tM e,XR (pL _ _),trivial,λb hb=>Yd (show b∈([]:List Ry)from hb) (by simp),hok,.of_eq hg⟩;refine VU ((F _ Ll (GV zp) hL).run callerA [] l' H ⟨[.ref a],[]⟩ [.ref a] [.ref a] _ _ hr e0 (E8 l' (.ref a)) (.cons rfl .nil) (yw H hS Ja)) λr s' h=>?_;cases r with
  |error e=>exact(IY H e s' h).elim
  | ok fl =>
    cases fl with
    |next=>exact TM h
    |brk=>exact TM h
    |cont=>exact TM h
    | ret u =>
      obtain⟨v,H',os,bare,un,E9,r',q⟩:=h;have q':v=.bl true:=q;subst q';obtain rfl:u=UQ true:=r';refine⟨CA,⟨λb o e=>?_,λb o e=>un.there b o e (by simp)⟩,os,bare⟩;cases q:H b with
      |none=>exact .inl (un.keep b o e q (by intro z;exact Yd (show b∈([]:List Ry)from z) (by simp)) (by simp))
      | some u =>
        rcases hO b with z|⟨ob,xs,z⟩|⟨rfl,z⟩
        .rw[q]at z;cases z
        .have z2:=un.frzs b ob _ z;obtain⟨e1,_⟩:=hok b _ z;obtain⟨e2,_⟩:=E9 b _ z2;rw[e]at e1;cases e1;exact .inl e2
        .obtain⟨more,z2⟩:=un.tbls b _ z;have e2:s'.1.get? b=A? {cls:=.none,data:=.fields (#[]++more)}:=E9 b _ z2;rw[hT]at e;cases e;exact .inr (.inl ⟨(hC.tab hT).isCodeTable,rfl,#[],more,rfl,e2⟩)
 have Lm:∀H:Hp,ObjOk P w H l'.heap T (.tbl #[]):=λ_=>hT;cases hk:K.lookup a with
 | some o =>
   have e:=KX a o hk;rw[ha]at e;cases e;refine core (λb=>if b=T then A? (.tbl #[])else B?) (λb=>?_) (Yb rfl) (.inr ⟨_,vs.toArray,_,hk,rfl,rfl,rfl,by rw[RO,IZ];exact hl,by simpa using rv⟩) (λb u z=>?_) (λb z=>?_) λz=>Yd (Za Lk) z
   .by_cases hb:b=T
    .exact .inr (.inr ⟨hb,Yb hb⟩)
    .exact .inl (Za hb)
   .by_cases hb:b=T
    .have z':=(Yb hb).symm.trans z;cases z';rw[hb];exact Lm _
    .have z':=(Za hb).symm.trans z;cases z'
   .by_cases hb:b=T
    .exact .inr hb
    .exact Yd (Za hb) z
 | none =>
   refine core (λb=>if b=T then A? (.tbl #[])else if b=a then A? (.frz {cls:=.type "list",data:=.seq vs.toArray} (.lst (ns.map Yh)))else B?) (λb=>?_) (Yb rfl) (.inl (.inr ⟨{cls:=.type "list",data:=.seq vs.toArray},(Za Lk).trans (Yb rfl)⟩)) (λb u z=>?_) (λb z=>?_) λ_=>hk
   .by_cases hb:b=T
    .exact .inr (.inr ⟨hb,Yb hb⟩)
    .by_cases xC:b=a
     .exact .inr (.inl ⟨_,_,(Za hb).trans (Yb xC)⟩)
     .exact .inl ((Za hb).trans (Za xC))
   .by_cases hb:b=T
    .have z':=(Yb hb).symm.trans z;cases z';rw[hb];exact Lm _
    .have z':=(Za hb).symm.trans z;by_cases xC:b=a
     .have z2:=(Yb xC).symm.trans z';cases z2;subst xC;exact⟨ha,by rw[Rw];exact hl,vs,_,rv,ha⟩
     .have z2:=(Za xC).symm.trans z';cases z2
   .by_cases hb:b=T
    .exact .inr hb
    .by_cases xC:b=a
     .exact .inl xC
     .exact Yd ((Za hb).trans (Za xC)) z
def tabAt(o:TC):Option Ry:=match o.data with
 | .fields vs=>(match(vs[11]?:Option Rz)with
   |some (.ref P)=>A? P
   |_=>B?)
 |_=>B?
end L2
namespace BB
open PySem L2
section
variable{head:Th}
end
end BB
namespace L2
open PySem PySem.Spec PySem.SeqAt PyProof.Rows
section
variable{X:Cx}{o i value:Su}{td ty tv:TE}
end
end L2
namespace BB
open PySem L2
section
variable{mid outs:List (R1×Int)}{S1 S2:Int}{AX AY:Th}{AZ Ba:List (List Th)}
end
end BB
namespace L2
open PySem PySem.Spec PySem.Calls PyProof.Rows
end L2
namespace BB
open PySem L2
section
variable{mid outs:List (R1×Int)}{S1 S2:Int}{AX AY:Th}{AZ Ba:List (List Th)}{N0 N1 N2 N3 N4 N5 N6:Nat}
end
end BB
namespace L2
open PySem PySem.Spec PySem.Calls PyProof.Rows
end L2
namespace BB
open PySem L2
section
variable{k0 k1 k2 k3:List (R1×Int)}{SA SB SC:Int}{a0 b0 c0:Th}{Ln Lo Lp:List (List Th)}
end
section
variable{mid outs:List (R1×Int)}{S1 S2:Int}{AX AY:Th}{AZ Ba:List (List Th)}{N0 N1 N2 N3 N4 N5 N6:Nat}
end
theorem hid{G:Prop}(k:∀F:Prop,(G->F)->F):G:=k G id
inductive Ex1{A0:Type}(p:A0->Prop):Prop
 |mk (x0:A0) (h:p x0):Ex1 p
inductive Ex2{A0 A1:Type}(p:A0->A1->Prop):Prop
 |mk (x0:A0) (x1:A1) (h:p x0 x1):Ex2 p
inductive Ex3{A0 A1 A2:Type}(p:A0->A1->A2->Prop):Prop
 |mk (x0:A0) (x1:A1) (x2:A2) (h:p x0 x1 x2):Ex3 p
inductive Ex4{A0 A1 A2 A3:Type}(p:A0->A1->A2->A3->Prop):Prop
 |mk (x0:A0) (x1:A1) (x2:A2) (x3:A3) (h:p x0 x1 x2 x3):Ex4 p
inductive Ex5{A0 A1 A2 A3 A4:Type}(p:A0->A1->A2->A3->A4->Prop):Prop
 |mk (x0:A0) (x1:A1) (x2:A2) (x3:A3) (x4:A4) (h:p x0 x1 x2 x3 x4):Ex5 p
inductive Ex7{A0 A1 A2 A3 A4 A5 A6:Type}(p:A0->A1->A2->A3->A4->A5->A6->Prop):Prop
 |mk (x0:A0) (x1:A1) (x2:A2) (x3:A3) (x4:A4) (x5:A5) (x6:A6) (h:p x0 x1 x2 x3 x4 x5 x6):Ex7 p
inductive Ex8{A0 A1 A2 A3 A4 A5 A6 A7:Type}(p:A0->A1->A2->A3->A4->A5->A6->A7->Prop):Prop
 |mk (x0:A0) (x1:A1) (x2:A2) (x3:A3) (x4:A4) (x5:A5) (x6:A6) (x7:A7) (h:p x0 x1 x2 x3 x4 x5 x6 x7):Ex8 p
inductive Ex9{A0 A1 A2 A3 A4 A5 A6 A7 A8:Type}(p:A0->A1->A2->A3->A4->A5->A6->A7->A8->Prop):Prop
 |mk (x0:A0) (x1:A1) (x2:A2) (x3:A3) (x4:A4) (x5:A5) (x6:A6) (x7:A7) (x8:A8) (h:p x0 x1 x2 x3 x4 x5 x6 x7 x8):Ex9 p
inductive wd{A0 A1 A2 A3 A4 A5 A6 A7 A8 A9:Type}(p:A0->A1->A2->A3->A4->A5->A6->A7->A8->A9->Prop):Prop
 |mk (x0:A0) (x1:A1) (x2:A2) (x3:A3) (x4:A4) (x5:A5) (x6:A6) (x7:A7) (x8:A8) (x9:A9) (h:p x0 x1 x2 x3 x4 x5 x6 x7 x8 x9):wd p
inductive An2(a0 a1:Prop):Prop
 |mk (h0:a0) (h1:a1):An2 a0 a1
inductive An3(a0 a1 a2:Prop):Prop
 |mk (h0:a0) (h1:a1) (h2:a2):An3 a0 a1 a2
inductive An4(a0 a1 a2 a3:Prop):Prop
 |mk (h0:a0) (h1:a1) (h2:a2) (h3:a3):An4 a0 a1 a2 a3
inductive An5(a0 a1 a2 a3 a4:Prop):Prop
 |mk (h0:a0) (h1:a1) (h2:a2) (h3:a3) (h4:a4):An5 a0 a1 a2 a3 a4
inductive An6(a0 a1 a2 a3 a4 a5:Prop):Prop
 |mk (h0:a0) (h1:a1) (h2:a2) (h3:a3) (h4:a4) (h5:a5):An6 a0 a1 a2 a3 a4 a5
inductive An7(a0 a1 a2 a3 a4 a5 a6:Prop):Prop
 |mk (h0:a0) (h1:a1) (h2:a2) (h3:a3) (h4:a4) (h5:a5) (h6:a6):An7 a0 a1 a2 a3 a4 a5 a6
inductive An8(a0 a1 a2 a3 a4 a5 a6 a7:Prop):Prop
 |mk (h0:a0) (h1:a1) (h2:a2) (h3:a3) (h4:a4) (h5:a5) (h6:a6) (h7:a7):An8 a0 a1 a2 a3 a4 a5 a6 a7
inductive An9(a0 a1 a2 a3 a4 a5 a6 a7 a8:Prop):Prop
 |mk (h0:a0) (h1:a1) (h2:a2) (h3:a3) (h4:a4) (h5:a5) (h6:a6) (h7:a7) (h8:a8):An9 a0 a1 a2 a3 a4 a5 a6 a7 a8
inductive ur(a0 a1 a2 a3 a4 a5 a6 a7 a8 a9 Lq Lr Lu Lw:Prop):Prop
 |mk (h0:a0) (h1:a1) (h2:a2) (h3:a3) (h4:a4) (h5:a5) (h6:a6) (h7:a7) (h8:a8) (h9:a9) (Q3:Lq) (Q4:Lr) (Q5:Lu) (Q6:Lw):ur a0 a1 a2 a3 a4 a5 a6 a7 a8 a9 Lq Lr Lu Lw
end BB
namespace L2
open PySem PySem.Spec PyProof.Rows
end L2
namespace BB
open PySem L2
section
variable{outs:List (R1×Int)}{S:Int}{d:Nat}{head:Th}
end
end BB
namespace L2
open PySem PySem.Spec PyProof.Rows
def Thaws(H H1 H2:Hp):Prop:=∀b,H2 b=H1 b\/∃o u,H1 b=A? (.frz o u)/\H b=A? u/\H2 b=A? u
theorem Thaws.refl(H H1:Hp):Thaws H H1 H1:=λ_=>.inl rfl
theorem vd{o:TC}{u:HO}(h:u=.frz o u):False:=by
 have:=Zd sizeOf h;simp at this
theorem Inv.thaw{X:Cx}{xA:St}{s1:RE}(I:Inv X Y σ H s)(I1:Inv X Y xA H1 s1)(h:Thaws H H1 H2):Inv X Y xA H2 s1:=by
 have keep:∀b u,H1 b=A? u->(∀o v,u≠.frz o v)->H2 b=A? u:=λb u e n=>by
  rcases h b with z|⟨o,v,z,_⟩
  .rw[z];exact e
  .rw[e]at z;cases z;exact Yd rfl (n o v)
 have non:∀b,H1 b=B?->H2 b=none:=λb e=>by
  rcases h b with z|⟨o,v,z,_⟩
  .rw[z];exact e
  .rw[e]at z;cases z
 have ht:∀b xs,H1 b=A? (.tup xs)->H2 b=A? (.tup xs):=λb xs e=>keep b _ e (λ_ _ z=>nomatch z);have hw:∀c b,H1 b=A? (.own c)->H2 b=A? (.own c):=λc b e=>keep b _ e (λ_ _ z=>nomatch z);refine⟨I1.ok,I1.os,I1.bare,⟨I1.base.keep,I1.base.slot,λb o e n x=>non b (I1.base.free b o e n x),I1.base.there,λb xs e=>ht b xs (I1.base.tups b xs e),λb o u e=>?_,λb ps e=>?_⟩,I1.loc,I1.cell,non _ I1.free,λx c e=>non _ (I1.freeC x c e),λp hp=>?_,λb u e=>?_,I1.len⟩
 .have e1:=I1.base.frzs b o u e;have e2:=I.base.frzs b o u e;rcases h b with z|⟨o',v,z,z2,_⟩
  .rw[z];exact e1
  .rw[e1]at z;cases z;rw[e2]at z2;exact(vd (RN z2).symm).elim
 .obtain⟨more,e1⟩:=I1.base.tbls b ps e;exact⟨more,keep b _ e1 (λ_ _ z=>nomatch z)⟩
 .obtain⟨a1,a2,a3⟩:=I1.pin p hp;exact⟨a1,non _ a2,a3⟩
 .rcases h b with z|⟨o,v,z,_,z3⟩
  .rw[z]at e;exact(I1.hok b u e).stay (λ_ _ _ q=>q) (hw b) ht
  .rw[z3]at e;cases e;obtain⟨_,k⟩:=(show ObjOk X.prog X.w H1 s1.1 b (.frz o u)from I1.hok b _ z);exact k.stay (λ_ _ _ q=>q) (hw b) ht
def vS(t:TS):TS:=λD σ H=>t {D with nx:=λxA H1=>∃H2,Thaws H H1 H2/\D.nx xA H2} σ H
theorem eM{X:Cx}{t:TS}(h:PS X st t):PS X st (vS t):=λY s σ H D I q=>thn (h Y s σ H _ I q) λf s' r=>by
 cases f with
 | next =>
   obtain⟨xA,H1,I1,H2,th,q2⟩:=r;exact⟨xA,H2,I.thaw I1 th,q2⟩
 |brk=>exact r
 |cont=>exact r
 |ret u=>exact r
def iY(t:TE):TE:=λσ H Q=>t σ H λv H1=>∃H2,Thaws H H1 H2/\Q v H2
theorem rT{X:Cx}{t:TE}(h:PE X e t):PE X e (iY t):=λY s σ H Q I q=>thn (h Y s σ H _ I q) λv s' r=>by
 obtain⟨x,H1,I1,rv,H2,th,q2⟩:=r;exact⟨x,H2,I.thaw I1 th,rv,q2⟩
theorem dj:entryFor table "dict_itemiterator.__iter__"=A? Ur.«dict_keyiterator.__iter__»:=entryFor_alias (id':="dict_keyiterator.__iter__") (by kernel_rfl) rfl (by decide +kernel) (by kernel_rfl)
theorem Inv.freezeK{X:Cx}{kvs:List (Key×V)}{o:TC}(I:Inv X Y σ H s)(ha:H a=A? (.dK kvs))(ho:s.1.get? a=A? o):Inv X Y σ (upd H a (.frz o (.dK kvs))) s:=by
 have ne:∀b u,H b=A? u->u≠.dK kvs->b≠a:=λb u e d z=>by rw[z,ha]at e;exact d (RN e).symm
 have ht:∀b xs,H b=A? (.tup xs)->upd H a (.frz o (.dK kvs)) b=A? (.tup xs):=λb xs e=>by rw[ac (ne b _ e (by intro z;cases z))];exact e
 have hw:∀c b,H b=A? (.own c)->upd H a (.frz o (.dK kvs)) b=A? (.own c):=λc b e=>by rw[ac (ne b _ e (by intro z;cases z))];exact e
 have st:∀b u,H b=A? u->ObjOk X.prog X.w (upd H a (.frz o (.dK kvs))) s.1 b u:=λb u e=>(I.hok b u e).stay (λ_ _ _ q=>q) (hw b) ht;refine I.step (g':=s.gens) (d':=s.drawn) (t':=s.toks) (ch:=[]) (λ_ z=>nomatch z) (λb ob _ _ _ e _=>e) (λb ob _ _ _ e _=>⟨ob.slots,e⟩) (λb ob _ e n=>?_) (λb ob _ e=>⟨ob,e⟩) ht (λb ob u e=>?_) (λb ps e=>⟨#[],?_⟩) (λm hm=>hm) (λb u e=>?_) I.bare
 .rw[ac (λz=>by rw[z,ha]at n;cases n)];exact n
 .rw[ac (ne b _ e (by intro z;cases z))];exact e
 .rw[ac (ne b _ e (by intro z;cases z)),e];simp
 .by_cases hb:b=a
  .subst hb;rw[ad]at e;cases e;exact⟨ho,st _ _ ha⟩
  .rw[ac hb]at e;exact st b u e
theorem nR{o:TC}{es:Array Wc}{kvs:List (Key×V)}(hd:o.data=.dict es ep)(k:ObjOk P w H h a (.frz o (.dK kvs))) :
 ∃vs,KV kvs vs/\h.DictAt (aQ P w) a vs ep/\vs.length=kvs.length:=by
 obtain⟨e0,z,y,vs,rel,o',DE,DF,h1,h2,h3,h4⟩:=k;rw[e0]at h1;cases h1;rw[hd]at h3;cases h3;exact⟨vs,rel,⟨o,es,e0,h2,hd,h4⟩,(R9 rel).symm⟩
theorem ss{k:Key}{v:Rz}(h:(aQ P w).is k v=Bz):RelV (kV k) v:=by
 rcases bg h with⟨i,tk,e1,e2⟩|⟨x,tk,e1,e2⟩
 .rw[e1];exact⟨tk,e2⟩
 .rw[e1];exact⟨tk,e2⟩
def ItI(a:Ry)(o:TC)(kvs:List (Key×V)):It :=
 ⟨λi H=>H a=A? (.frz o (.dK kvs))/\i<kvs.length,
  λi H v H'=>∃p kv,H p=B?/\v=.ref p/\H'=upd H p (.tup [kV kv.1,kv.2])/\kvs[i]?=A? kv,
  λi H=>H a=A? (.frz o (.dK kvs))/\kvs.length<=i⟩
theorem m7{k1}(a it:Ry)(o:TC)(es:Array Wc)(ep:Nat)(kvs:List (Key×V))(hd:o.data=.dict es ep) :
 Turn P w K (.Tuple elts k1 pos) (ItI a o kvs) [it] it (λi h=>∃ok ov,WQ h it a i kvs.length ep ok ov) where
 mem:=by simp
 obj:=λi h st b hb=>by
  obtain⟨ok,ov,e⟩:=st;have eb:b=it:=by simpa using hb
  subst eb;exact⟨_,e,λv z=>by cases z⟩
 keep:=λi h h' st k=>by
  obtain⟨ok,ov,e⟩:=st;exact⟨ok,ov,k it (by simp) _ e⟩
 item:=by
  intro X hP hw hK hc i Y s σ H E I hf st hg;subst hP hw hK;obtain⟨hq,xf⟩:=hg;obtain⟨ok,ov,hit⟩:=st;obtain⟨vs,rel,dat,hlen⟩:=nR hd (I.hok a _ hq);obtain⟨kv,xQ⟩:∃kv,kvs[i]?=A? kv:=⟨_,RA xf⟩;obtain⟨xv,N7,r1,r2⟩:=Zl rel xQ;rw[<-hlen]at hit;have yD:it<s.1.1.size:=RY hit;obtain⟨f0,f1,f2,f3,f4,f5⟩:=hf it (by simp);refine wpAny_pyNext_items_item hit dat (k:=xv.1) (v:=xv.2) N7 λkey h1 yK C0 ze hsz Bb=>?_;refine⟨_,CA,wpAny_letOwnedTupleGo_items C0 λh2 g1 sb=>?_⟩;replace sb:S0 it h1 h2:=sb;have CI:H s.1.1.size=none:=I.hok.fresh (RI _)
  have IA:Inv X Y σ (upd H s.1.1.size (.tup [kV kv.1,kv.2])) {s with heap:=s.1.push {cls:=.type "tuple",data:=.seq #[key,xv.2]},toks:=s.toks} :=
   I.laid (o:=.tup [kV kv.1,kv.2]) (λb ob q=>RB _ q) (RI _) ⟨by show 2<=RZ;decide,[key,xv.2],0,.cons (by rw[r1];exact ss yK) (.cons r2 .nil),RJ _ rfl⟩
  refine⟨.ref s.1.1.size,upd H s.1.1.size (.tup [kV kv.1,kv.2]),?_,CA,⟨_,kv,CI,CA,CA,xQ⟩,⟨_,_,by rw[<-hlen];exact g1⟩,λc hc=>?_⟩
  .refine Inv.turnedL (s:={s with heap:=s.1.push {cls:=.type "tuple",data:=.seq #[key,xv.2]},toks:=s.toks}) (h':=h2) (fp:=[it]) (t':=s.toks) IA (λc oc hc q=>?_) λc hc=>?_
   .have n1:c≠it:=λe=>hc (by simp[e]);rw[sb.2 c n1];by_cases hb2:c=s.1.1.size
    .subst hb2;have q':(s.1.push {cls:=.type "tuple",data:=.seq #[key,xv.2]}).get? s.1.1.size=A? oc:=q;rw[RJ _ rfl]at q';rw[<-q'];exact ze
    .have q':(s.1.push {cls:=.type "tuple",data:=.seq #[key,xv.2]}).get? c=A? oc:=q;rw[W0 _ _ _ hb2]at q';exact Bb c oc n1 q'
   .have e:c=it:=by simpa using hc
    subst e;exact⟨by rw[ac (Sa yD)];exact f0,f1,f2,f3,f4,f5⟩
  .have e:c=it:=by simpa using hc
   subst e;rw[ac (Sa yD)];exact f0
 done:=by
  intro X hP hw hK hc i Y s σ H E I hf st hg;subst hP hw hK;obtain⟨hq,E6⟩:=hg;obtain⟨ok,ov,hit⟩:=st;obtain⟨vs,rel,dat,hlen⟩:=nR hd (I.hok a _ hq);rw[<-hlen]at hit;obtain⟨f0,f1,f2,f3,f4,f5⟩:=hf it (by simp);exact wpAny_pyNext_items_end (I.ok.hd hc) hit dat (Tj (by lia)) λh' eb=>⟨rfl,I.turned (t':=s.toks) (λb ob hb e=>eb b ob hb e) f0 f1 f3 f4 f5⟩
 self:=by
  intro A i s Q E st h;obtain⟨ok,ov,e⟩:=st;have hT:s.TypeIs (.ref it) "dict_itemiterator":=⟨_,e,rfl⟩;refine VR hT Va (SI Va hT dj ?_ (F.args_dict_itemiterator_iter_1 _));exact RD ⟨_,rfl,"dict_itemiterator",_,hT,Tf.lookup,h⟩
section
variable{X:Cx}{te:TE}{apos xk:UX}
def uV(tl:TE):TI:=λσ H R=>tl σ H λx H1=>∃a kvs,x=.ref a/\H1 a=A? (.dK kvs)/\∀o,R (ItI a o kvs) (upd H1 a (.frz o (.dK kvs)))
theorem iK{k1}(he:PE X e te)(yi:Vz e "items" X.env (TN e X.env)=TN e X.env:=by rfl)(yj:(apos.endLine == xk.line)=true:=by rfl) :
 PI X (.Tuple elts k1 pos) (.Call (.Attribute e "items" apos) [] [] xk) (uV te):=by
 intro Y s σ H R I h;refine W9 yi yj (thn (he Y s σ H _ I h) λv s1⟨x,H1,I1,r1,a,kvs,ex,ha,q⟩=>?_);subst ex;cases r1;obtain⟨z,y,vs,rel,dd⟩:=(show ObjOk X.prog X.w H1 s1.1 a (.dK kvs)from I1.hok a _ ha);obtain⟨o,es,ep,h1,h2,h3,h4⟩:=id dd;have hlen:kvs.length=vs.length:=R9 rel;have dat:s1.1.DictAt (aQ X.prog X.w) a vs ep:=⟨o,es,h1,h2,h3,h4⟩;refine⟨"dict","dict.items",F.plainAttrs_dict,W2,F.type_dict_items,dd.typeIs,dd.mapOf.noDict,?_⟩;refine method_meetsIn W2 F.entry_dict_items rfl (Xl ⟨rfl,dd.typeIs,F.args_dict_items_1 _,_,meets_dict_items (aQ X.prog X.w) a y,⟨vs,dd⟩,?_⟩);have I2:=I1.freezeK ha h1;refine wpAny_pyIter_items (kvs:=vs) (ep:=ep) ⟨_,RJ _ rfl,rfl,rfl⟩ (dat.push _) ?_;generalize hN:((s1.1.push {cls:=.type "dict_items",data:=.fields #[.ref a]}).objs.size)=n;have hn:n=s1.1.1.size+1:=by rw[<-hN,SV]
 have kept:∀b ob,s1.1.get? b=A? ob->((s1.1.push {cls:=.type "dict_items",data:=.fields #[.ref a]}).push {cls:=.type "dict_itemiterator",data:=.fields #[.none,.bool C?,.ref a,.int 0 0,.int vs.length 0,.int ep 0,.none,.none]}).get? b=A? ob:=λb ob e=>RB _ (RB _ e);have hz:s1.1.1.size<=n:=by lia
 refine⟨n,[n],_,_,upd H1 a (.frz o (.dK kvs)),CA,I2.kept (t':=s1.toks) kept,m7 a n o es ep kvs h3,⟨.none,.none,?_⟩,λb hb=>?_,q o⟩
 .rw[<-hN,hlen];exact RJ _ rfl
 .have e:b=n:=by simpa using hb
  subst e;exact I2.fpOk hz (I2.hok.fresh hz)
theorem gz{o:TC}{kvs:List (Key×V)}{g:TG}(Pv:Nat->St->Hp->Prop)(h0:Pv 0 σ H)(hl:∀i σ H,i<=kvs.length->Pv i σ H->H a=A? (.frz o (.dK kvs)))
 (hs:∀i kv p σ H,kvs[i]?=A? kv->H p=B?->Pv i σ H->g (.ref p) σ (upd H p (.tup [kV kv.1,kv.2])) λxl H2=>tb {D with nx:=Pv (i+1),ct:=Pv (i+1),bk:=D.nx} xl H2) (hd:∀σ H,Pv kvs.length σ H->D.nx σ H) :
 ∃W:Nat->Nat->St->Hp->Prop,(∃m,W 0 m σ H)/\∀i m σ H,W i m σ H ->
   ((ItI a o kvs).stop i H/\D.nx σ H)\/((ItI a o kvs).go i H/\∃N:St->Hp->Prop,(∀i' H',N i' H'->∃m',m'<m/\W (i+1) m' i' H')/\∀x H',(ItI a o kvs).yld i H x H'->g x σ H' λxl H2=>tb {D with nx:=N,ct:=N,bk:=D.nx} xl H2):=by
 refine⟨λi m σ H=>m=kvs.length - i/\i<=kvs.length/\Pv i σ H,⟨kvs.length,by simp,Sn _,h0⟩,?_⟩;rintro i m σ H ⟨rfl,hi,p⟩;have q:=hl i σ H hi p;by_cases xf:i<kvs.length
 .refine .inr ⟨⟨q,xf⟩,Pv (i+1),λi' H' p'=>⟨kvs.length - (i+1),by lia,rfl,xf,p'⟩,λx H' y=>?_⟩;obtain⟨pa,kv,hp,rfl,rfl,xQ⟩:=y;exact hs i kv pa σ H xQ hp p
 .have e:i=kvs.length:=by lia
  subst e;exact .inl ⟨⟨q,RI _⟩,hd σ H p⟩
end
section
variable{X:Cx}{te:TE}{apos xk:UX}
end
end L2
namespace PySem
open Sem (wp)
section
variable{od:TC}{es:Array Wc}{ok ov:Rz}
theorem bb_put{vs:Array Rz}{x:Rz}{Q:Unit->RE->Prop}(e:s.1.get? it=A? {cls:=.type "dict_itemiterator",dict:=B?,data:=.fields vs,slots:=#[]})(hj:j<vs.size)
 (k:∀h',h'.get? it=A? {cls:=.type "dict_itemiterator",dict:=B?,data:=.fields (vs.setIfInBounds j x),slots:=#[]}->S0 it s.1 h'->Q () {s with heap:=h'}):RQ (R7 prog w) A (setField (.ref it) j x) Q E s :=
 T8 e hj λh' e' sb=>k h' e' sb
theorem bb_itemNextT{en:Wc}{Q:Option Rz->RE->Prop}(g:WQ s.1 it d i es.size ep ok ov)(g1:s.1.get? d=A? od)(g2:od.data=.dict es ep)(hx:es[i]?=A? en)
 (fin:∀h',IsItemIterOut h' it d (i+1) es.size ep en.key en.val s.1.1.size->h'.get? s.1.1.size=A? {cls:=.type "tuple",data:=.seq #[en.key,en.val]}->(∀b o,b≠it->s.1.get? b=A? o->h'.get? b=A? o)->Q (A? (.ref s.1.1.size)) {s with heap:=h'}) :
 RQ (R7 prog w) A (UZ (.ref it)) Q E s:=by
 obtain⟨h0,gn,dr,tk,os⟩:=s;have gT:Shared.TypeIs ⟨h0,gn,dr,tk,os⟩ (.ref it) "dict_itemiterator":=⟨_,g,rfl⟩;have own:Ul "dict_itemiterator"=true:=by decide
 have lt:i<es.size:=(Vh.mp hx).1;have ee:es[i]=en:=(Vh.mp hx).2;have yD:it<h0.objs.size:=RY g;unfold UZ;refine Rv (Wd (SF (name:=RF "__next__") gT Tf (SI Tf gT F.entry_dict_itemiterator_next ?_ (F.args_dict_itemiterator_next_1 _))));refine Rv (RD (Rv (Rv ?_)));first|refine Rv (UY gT (RD ?_))|refine Rv (Vv gT (RD ?_))
 refine Rv (XB g rfl ?_);simp only[own,if_true];show RQ _ _ (if(Sg d == SY)=Bz then _ else _) _ _ _;rw[Za (show¬((Sg d == SY)=Bz)from R0)];refine Rv (RD (Rv (Uh g1 g2 ?_)));rw[Za (by simp)];refine Rv (RD (Rv (VE g1 g2 ?_)));rw[Za (by simp)];refine RD ?_;simp only[show¬((i:Int)<0)from by lia,if_false,RU,Ut lt];rw[ee];refine Rv ?_;first|refine Rv (UY gT (RD ?_))|refine Rv (Vv gT (RD ?_))
 refine Rv (Xh gT ?_);show RQ _ _ (setField (.ref it) 3 (Ud ((i:Int)+1)) >>= _) _ _ _;refine Rv (bb_put g (by simp) λh1 e1 GW=>?_);replace GW:S0 it h0 h1:=GW
 replace e1:WQ h1 it d (i+1) es.size ep ok ov:=by
  have e:((i+1:Nat):Int)=(i:Int)+1:=by lia
  unfold WQ;rw[e];simpa[Ud]using e1
 have Lx:Shared.TypeIs ⟨h1,gn,dr,tk,os⟩ (.ref it) "dict_itemiterator":=⟨_,e1,rfl⟩;refine Rv (SN (Rv (Xh Lx (Rv (Xh Lx ?_)))));show RQ _ _ (Builtin.Dict_items.pairFromOwner (.ref it) 6 en.key en.val) _ _ ⟨h1,gn,dr,tk,os⟩;unfold Builtin.Dict_items.pairFromOwner;refine Rv (wpAny_newTuple ?_);have z1:h1.objs.size=h0.objs.size:=GW.1;have e2:WQ (h1.push {cls:=.type "tuple",data:=.seq #[en.key,en.val]}) it d (i+1) es.size ep ok ov:=RB _ e1;have t2:(h1.push {cls:=.type "tuple",data:=.seq #[en.key,en.val]}).get? h0.objs.size=A? {cls:=.type "tuple",data:=.seq #[en.key,en.val]}:=by rw[<-z1];exact RJ _ rfl
 have k2:∀b o,b≠it->h0.get? b=A? o->(h1.push {cls:=.type "tuple",data:=.seq #[en.key,en.val]}).get? b=A? o:=λb o hb q=>RB _ (GW.extBut b o hb q);rw[z1];generalize h1.push {cls:=.type "tuple",data:=.seq #[en.key,en.val]}=h2 at e2 t2 k2 |-;show RQ _ _ (Builtin.Dict_items.ownedTupleIsFree (.ref it) >>= _) _ _ ⟨h2,gn,dr,tk,os⟩;refine Rv ?_;unfold Builtin.Dict_items.ownedTupleIsFree;refine Rv (Sy e2 rfl (x:=.none) rfl (RD ?_));simp only[if_true];refine Rv (Sy e2 rfl (x:=ok) rfl (Rv (Sy e2 rfl (x:=ov) rfl ?_)));refine Rv (bb_put e2 (by simp) λh3 e3 Jc=>?_);replace Jc:S0 it h2 h3:=Jc;refine Rv (bb_put e3 (by simp) λh4 e4 DV=>?_);replace DV:S0 it h3 h4:=DV;refine Rv (bb_put e4 (by simp) λh5 e5 Jd=>?_);replace Jd:S0 it h4 h5:=Jd;refine Rv (bb_put e5 (by simp) λh6 e6 Je=>?_);replace Je:S0 it h5 h6:=Je;have up:∀b o,b≠it->h2.get? b=A? o->h6.get? b=A? o:=λb o hb q=>Je.extBut b o hb (Jd.extBut b o hb (DV.extBut b o hb (Jc.extBut b o hb q)));exact Rv (UH (RD (RD ⟨_,rfl,RD (fin h6 (by unfold IsItemIterOut;simpa[Ud]using e6) (up _ _ (US yD) t2) λb o hb q=>up b o hb (k2 b o hb q))⟩)))
theorem bb_itemEndT{Q:Option Rz->RE->Prop}(calm:A.handled=B?)(g:WQ s.1 it d i es.size ep ok ov)(g1:s.1.get? d=A? od)(g2:od.data=.dict es ep)(hx:es.size<=i)
 (fin:∀h',XW it s.1 h'->Q B? {s with heap:=h'}):RQ (R7 prog w) A (UZ (.ref it)) Q E s:=by
 have gT:s.TypeIs (.ref it) "dict_itemiterator":=⟨_,g,rfl⟩;have own:Ul "dict_itemiterator"=true:=by decide
 unfold UZ;refine Rv (Wd (SF (name:=RF "__next__") gT Tf (SI Tf gT F.entry_dict_itemiterator_next ?_ (F.args_dict_itemiterator_next_1 _))));refine Rv (RD (Rv (Rv ?_)));first|refine Rv (UY gT (RD ?_))|refine Rv (Vv gT (RD ?_))
 refine Rv (XB g rfl ?_);simp only[own,if_true];show RQ _ _ (if(Sg d == SY)=Bz then _ else _) _ _ s;rw[Za (show¬((Sg d == SY)=Bz)from R0)];refine Rv (RD (Rv (Uh g1 g2 ?_)));rw[Za (by simp)];refine Rv (RD (Rv (VE g1 g2 ?_)));rw[Za (by simp)];refine RD ?_;simp only[show¬((i:Int)<0)from by lia,if_false,RU,VD hx];refine Rv ?_;first|refine Rv (UY gT (RD ?_))|refine Rv (Vv gT (RD ?_))
 show RQ _ _ (setField (.ref it) 2 .none >>= _) _ _ s;refine Rv (WG g rfl (by simp) ?_);show RQ _ _ (newExc (.type "StopIteration") [] >>= _) _ _ _;refine Rv ?_;simp only[newExc,newTuple];refine Rv (Sv ?_ (by size_fits));refine Rv (m:=VT _ _) (wpAny_of_eq (a:=SY) (by first|rfl|(simp only[VT];rfl)) ?_);refine Sv ?_ (by size_fits);simp only[raiseNew];refine Rv (wpAny_handled ?_);rw[show A.in1.handled=B? from calm];refine Rv (RD (wpAny_throw ?_));refine Rv (W8 (T:="StopIteration") (b:=Bz) ⟨_,RJ _ rfl,rfl⟩ isSubtype_stop ?_);exact RD (fin _ (((Ta ..).extBut.push _).push _))
theorem bb_itemsT(ns:(d == Tv)=C?)(gT:s.TypeIs (.ref d) "dict")(fin:Q (.ref s.1.1.size) {s with heap:=s.1.push {cls:=.type "dict_items",data:=.fields #[.ref d]}}):RQ (R7 prog w) A (call (.builtin "dict.items") [.ref d]) Q E s:=by
 refine SI W2 gT F.entry_dict_items ?_ (F.args_dict_items_1 _);unfold Ur.«dict.items»;refine Rv ?_;unfold Builtin.Dict.noArgs;refine Rv (Xu gT ?_);show RQ _ _ (pure d) _ _ s;refine RD ?_;show RQ _ _ (V6 d >>= _) _ _ s;unfold V6;rw[Za (by rw[ns];exact R0)];exact Rv (RD (Rv (Sv (RD ⟨_,rfl,fin⟩))))
theorem bb_itemsIterT{v:Ry}(hv:s.1.IsItemsView v d)(g1:s.1.get? d=A? od)(g2:od.data=.dict es ep)
 (fin:Q (.ref s.1.1.size) {s with heap:=s.1.push {cls:=.type "dict_itemiterator",data:=.fields #[.none,.bool C?,.ref d,.int 0 0,.int es.size 0,.int ep 0,.none,.none]}}):RQ (R7 prog w) A (pyIter (.ref v)) Q E s:=by
 obtain⟨o,e1,e2,e3⟩:=id hv;have own:Ul "dict_itemiterator"=true:=by decide
 refine VR hv.typeIs F.slot_dict_items_iter (SI F.slot_dict_items_iter hv.typeIs F.entry_dict_items_iter ?_ (F.args_dict_items_iter_1 _));unfold Ur.«dict_items.__iter__»;refine Rv (RD (Rv ?_));unfold Builtin.Dict_items.dictOf;refine Rv (Sy e1 e3 (x:=.ref d) rfl (RD ?_));refine Rv ?_;unfold Builtin.Dict_items.newIterator;refine Rv (Uh g1 g2 (Rv (VE g1 g2 ?_)));simp only[own,if_true];refine Sv (RD ⟨_,rfl,"dict_itemiterator",_,⟨_,RJ _ rfl,rfl⟩,Tf.lookup,?_⟩) (by simp only[sizeOk,Builtin.Dict_items.ownedTupleFields,RO,RK,RV,U4,VG];lia);simpa[Ud,Builtin.Dict_items.ownedTupleFields]using fin
end
end PySem
namespace L2
open PySem PySem.Spec PyProof.Rows
def qD(a:Ry)(o:TC)(kvs:List (List Key×V)):It :=
 ⟨λi H=>H a=A? (.frz o (.dT kvs))/\i<kvs.length,
  λi H v H'=>∃p b kv,H p=B?/\v=.ref p/\H'=upd H p (.tup [.ref b,kv.2])/\kvs[i]?=A? kv/\H b=A? (.tup (kv.1.map kV)),
  λi H=>H a=A? (.frz o (.dT kvs))/\kvs.length<=i⟩
theorem lr{k1}(a it:Ry)(o:TC)(es:Array Wc)(ep:Nat)(kvs:List (List Key×V))(hd:o.data=.dict es ep) :
 Turn P w K (.Tuple elts k1 pos) (qD a o kvs) [it] it (λi h=>∃ok ov,WQ h it a i es.size ep ok ov) where
 mem:=by simp
 obj:=λi h st b hb=>by
  obtain⟨ok,ov,e⟩:=st;have eb:b=it:=by simpa using hb
  subst eb;exact⟨_,e,λv z=>by cases z⟩
 keep:=λi h h' st k=>by
  obtain⟨ok,ov,e⟩:=st;exact⟨ok,ov,k it (by simp) _ e⟩
 item:=by
  intro X hP hw hK hc i Y s σ H E I hf st hg;subst hP hw hK;obtain⟨hq,xf⟩:=hg;obtain⟨ok,ov,hit⟩:=st;obtain⟨e0,z,y,xs,r,o',DE,DF,h1,h2,h3,h4,h5⟩:=(show ObjOk X.prog X.w H s.1 a (.frz o (.dT kvs))from I.hok a _ hq);rw[e0]at h1;cases h1;rw[hd]at h3;cases h3;obtain⟨kv,xQ⟩:∃kv,kvs[i]?=A? kv:=⟨_,RA xf⟩;obtain⟨q',yq,hr⟩:=Zl r xQ;have Fb:es[i]?=A? (entryOfKey (WD (aQ X.prog X.w)) q'):=by rw[<-U6,h4,RG,yq];rfl
  have yD:it<s.1.1.size:=RY hit;obtain⟨f0,f1,f2,f3,f4,f5⟩:=hf it (by simp);refine bb_itemNextT hit e0 hd Fb λh1 C0 ze Bb=>?_;refine⟨_,CA,wpAny_letOwnedTupleGo_items C0 λh2 g1 sb=>?_⟩;replace sb:S0 it h1 h2:=sb;have CI:H s.1.1.size=none:=I.hok.fresh (RI _)
  have IA:Inv X Y σ (upd H s.1.1.size (.tup [.ref q'.2.1,kv.2])) {s with heap:=s.1.push {cls:=.type "tuple",data:=.seq #[.ref q'.2.1,q'.2.2]},toks:=s.toks} :=
   I.laid (o:=.tup [.ref q'.2.1,kv.2]) (λb ob q=>RB _ q) (RI _) ⟨by show 2<=RZ;decide,[.ref q'.2.1,q'.2.2],0,.cons rfl (.cons hr.2.2 .nil),RJ _ rfl⟩
  refine⟨.ref s.1.1.size,upd H s.1.1.size (.tup [.ref q'.2.1,kv.2]),?_,CA,⟨_,q'.2.1,kv,CI,CA,CA,xQ,hr.2.1⟩,⟨_,_,g1⟩,λc hc=>?_⟩
  .refine Inv.turnedL (s:={s with heap:=s.1.push {cls:=.type "tuple",data:=.seq #[.ref q'.2.1,q'.2.2]},toks:=s.toks}) (h':=h2) (fp:=[it]) (t':=s.toks) IA (λc oc hc q=>?_) λc hc=>?_
   .have n1:c≠it:=λe=>hc (by simp[e]);rw[sb.2 c n1];by_cases hb2:c=s.1.1.size
    .subst hb2;have q2:(s.1.push {cls:=.type "tuple",data:=.seq #[.ref q'.2.1,q'.2.2]}).get? s.1.1.size=A? oc:=q;rw[RJ _ rfl]at q2;rw[<-q2];exact ze
    .have q2:(s.1.push {cls:=.type "tuple",data:=.seq #[.ref q'.2.1,q'.2.2]}).get? c=A? oc:=q;rw[W0 _ _ _ hb2]at q2;exact Bb c oc n1 q2
   .have e:c=it:=by simpa using hc
    subst e;exact⟨by rw[ac (Sa yD)];exact f0,f1,f2,f3,f4,f5⟩
  .have e:c=it:=by simpa using hc
   subst e;rw[ac (Sa yD)];exact f0
 done:=by
  intro X hP hw hK hc i Y s σ H E I hf st hg;subst hP hw hK;obtain⟨hq,E6⟩:=hg;obtain⟨ok,ov,hit⟩:=st;obtain⟨e0,z,y,xs,r,o',DE,DF,h1,h2,h3,h4,h5⟩:=(show ObjOk X.prog X.w H s.1 a (.frz o (.dT kvs))from I.hok a _ hq);rw[e0]at h1;cases h1;rw[hd]at h3;cases h3;have hl:=R9 r
  have yk:es.size=xs.length:=by
   have:=Zd S4 h4;rw[Rw,Sd]at this;exact this
  obtain⟨f0,f1,f2,f3,f4,f5⟩:=hf it (by simp);exact bb_itemEndT (I.ok.hd hc) hit e0 hd (by lia) λh' eb=>⟨rfl,I.turned (t':=s.toks) (λb ob hb e=>eb b ob hb e) f0 f1 f3 f4 f5⟩
 self:=by
  intro A i s Q E st h;obtain⟨ok,ov,e⟩:=st;have hT:s.TypeIs (.ref it) "dict_itemiterator":=⟨_,e,rfl⟩;refine VR hT Va (SI Va hT dj ?_ (F.args_dict_itemiterator_iter_1 _));exact RD ⟨_,rfl,"dict_itemiterator",_,hT,Tf.lookup,h⟩
section
variable{X:Cx}{te:TE}{apos xk:UX}
def lc(tl:TE):TI:=λσ H R=>tl σ H λx H1=>∃a kvs,x=.ref a/\H1 a=A? (.dT kvs)/\∀o,R (qD a o kvs) (upd H1 a (.frz o (.dT kvs)))
theorem eN{k1}(he:PE X e te)(yi:Vz e "items" X.env (TN e X.env)=TN e X.env:=by rfl)(yj:(apos.endLine == xk.line)=true:=by rfl) :
 PI X (.Tuple elts k1 pos) (.Call (.Attribute e "items" apos) [] [] xk) (lc te):=by
 intro Y s σ H R I h;refine W9 yi yj (thn (he Y s σ H _ I h) λv s1⟨x,H1,I1,r1,a,kvs,ex,ha,q⟩=>?_);subst ex;cases r1;obtain⟨z,y,xs,r,dd⟩:=(show ObjOk X.prog X.w H1 s1.1 a (.dT kvs)from I1.hok a _ ha);obtain⟨o,es,ep,h1,h2,h3,h4,h5⟩:=id dd;have gT:s1.TypeIs (.ref a) "dict":=⟨_,h1,h2.1⟩;refine⟨"dict","dict.items",F.plainAttrs_dict,W2,F.type_dict_items,gT,λc e=>by cases e;exact⟨_,h1,h2.2.1⟩,?_⟩;refine VY rfl (Xl (bb_itemsT y gT ?_));have I2:=I1.freeze ha h1;refine bb_itemsIterT (d:=a) (od:=o) (es:=es) (ep:=ep) ⟨_,RJ _ rfl,rfl,rfl⟩ (RB _ h1) h3 ?_;generalize hN:((s1.1.push {cls:=.type "dict_items",data:=.fields #[.ref a]}).objs.size)=n;have hn:n=s1.1.1.size+1:=by rw[<-hN,SV]
 have hz:s1.1.1.size<=n:=by lia
 refine⟨n,[n],_,_,upd H1 a (.frz o (.dT kvs)),CA,I2.kept (t':=s1.toks) (λb ob e=>RB _ (RB _ e)),lr a n o es ep kvs h3,⟨.none,.none,?_⟩,λb hb=>?_,q o⟩
 .rw[<-hN];exact RJ _ rfl
 .have e:b=n:=by simpa using hb
  subst e;exact I2.fpOk hz (I2.hok.fresh hz)
end
section
variable{X:Cx}{e1 e2:Su}{t:TA}{p2 xq:UX}
end
section
variable{X:Cx}
end
end L2
namespace BB
open PySem L2
def ky(c:Int×Int):List Key:=[Sj c.1,Sj c.2]
theorem mY{a b:Int×Int}(h:ky a=ky b):a=b:=by
 obtain⟨a1,a2⟩:=a;obtain⟨b1,b2⟩:=b;simp only[ky,List.cons.injEq,Sum.inl.injEq,and_true]at h;rw[h.1,h.2]
abbrev CLs:=List ((Int×Int)×Int)
def dE(es:CLs):List (List Key×V):=es.map λe=>(ky e.1,Yh e.2)
def dC(es:CLs)(k:Int×Int)(v:Int):CLs:=if k∈es.map (·.1)then es.map (λe=>if e.1=k then(e.1,v)else e)else es++[(k,v)]
def cF:CLs->Int×Int->Option Int
 | [],_=>B?
 |e::es,k=>if e.1=k then A? e.2 else cF es k
theorem iB(k:Int×Int):∀es:CLs,br (dE es) (ky k)=(cF es k).map Yh
 | []=>rfl
 | e::es=>by
   show br ((ky e.1,Yh e.2)::dE es) (ky k)=_;rw[cF];by_cases h:e.1=k
   .rw[Yb h,dG (by rw[h])];rfl
   .rw[Za h,dD (λz=>h (mY z)),iB k es]
theorem vm(k:Int×Int)(es:CLs):((dE es).any λkv=>decide (kv.1=ky k))=decide (k∈es.map (·.1)):=by
 rw[V5,VN,decide_eq_true_iff];constructor
 .rintro⟨x,hx,hk⟩;obtain⟨e,he,rfl⟩:=RP.mp hx;exact RP.mpr ⟨e,he,mY (Zc hk)⟩
 .intro h;obtain⟨e,he,rfl⟩:=RP.mp h;exact⟨_,RP.mpr ⟨e,he,CA⟩,Yc rfl⟩
theorem n5(es:CLs)(k:Int×Int)(v:Int):putK (dE es) (ky k) (.int v)=dE (dC es k v):=by
 unfold putK dC;rw[vm];by_cases h:k∈es.map (·.1)
 .rw[Yb (Yc h),Yb h];unfold dE;rw[Sr,Sr];refine Vl λe he=>?_;simp only[Function.comp];by_cases g:e.1=k
  .rw[Yb (by rw[g]),Yb g]
  .rw[Za (λz=>g (mY z)),Za g]
 .rw[Za (λz=>h (Zc z)),Za h];unfold dE;rw[R4];rfl
theorem eh{es:CLs}{k:Int×Int}{v:Int}(h:cF es k=A? v):(k,v)∈es:=by
 induction es with
 |nil=>cases h
 | cons e es ih =>
   rw[cF]at h;by_cases g:e.1=k
   .rw[Yb g]at h;cases h;rw[<-g];exact RX ..
   .rw[Za g]at h;exact RT _ (ih h)
theorem pY{es:CLs}{k:Int×Int}(h:cF es k=B?):k∉es.map (·.1):=by
 induction es with
 |nil=>intro z;cases z
 | cons e es ih =>
   rw[cF]at h;by_cases g:e.1=k
   .rw[Yb g]at h;cases h
   .rw[Za g]at h;intro z;rcases RR.mp z with z|z
    .exact g z.symm
    .exact ih h z
theorem sV{es:CLs}(nd:(es.map (·.1)).Nodup){e:(Int×Int)×Int}(h:e∈es):cF es e.1=A? e.2:=by
 induction es with
 |nil=>cases h
 | cons x es ih =>
   rw[R6,Sz]at nd;rw[cF];rcases RR.mp h with rfl|h
   .rw[Yb rfl]
   .rw[Za (λz=>nd.1 (by rw[z];exact RP.mpr ⟨e,h,rfl⟩))];exact ih nd.2 h
theorem o7(es:CLs)(k:Int×Int)(v:Int):(dC es k v).map (·.1)=if k∈es.map (·.1)then es.map (·.1)else es.map (·.1)++[k]:=by
 unfold dC;by_cases h:k∈es.map (·.1)
 .rw[Yb h,Yb h,Sr];refine Vl λe he=>?_;simp only[Function.comp];by_cases g:e.1=k
  .rw[Yb g]
  .rw[Za g]
 .rw[Za h,Za h,R4];rfl
theorem jr{es:CLs}(nd:(es.map (·.1)).Nodup)(k:Int×Int)(v:Int):((dC es k v).map (·.1)).Nodup:=by
 rw[o7];by_cases h:k∈es.map (·.1)
 .rw[Yb h];exact nd
 .rw[Za h,SW];refine⟨nd,by simp,λa ha b hb=>?_⟩;rw[RC.mp hb];exactλz=>h (z ▸ ha)
theorem fO{es:CLs}{k:Int×Int}{v:Int}{e:(Int×Int)×Int}(h:e∈dC es k v):e=(k,v)\/(e∈es/\e.1≠k):=by
 unfold dC at h;by_cases g:k∈es.map (·.1)
 .rw[Yb g]at h;obtain⟨x,hx,rfl⟩:=RP.mp h;by_cases e:x.1=k
  .rw[Yb e,e];exact .inl rfl
  .rw[Za e];exact .inr ⟨hx,e⟩
 .rw[Za g]at h;rcases RM.mp h with h|h
  .exact .inr ⟨h,λz=>g (z ▸ RP.mpr ⟨e,h,rfl⟩)⟩
  .exact .inl (RC.mp h)
theorem qa(es:CLs)(k:Int×Int)(v:Int):(k,v)∈dC es k v:=by
 unfold dC;by_cases g:k∈es.map (·.1)
 .rw[Yb g];obtain⟨x,hx,hk⟩:=RP.mp g;exact RP.mpr ⟨x,hx,by rw[Yb hk,hk]⟩
 .rw[Za g];exact R5 _ (RC.mpr rfl)
theorem oU{es:CLs}{k:Int×Int}{v:Int}{e:(Int×Int)×Int}(h:e∈es)(hk:e.1≠k):e∈dC es k v:=by
 unfold dC;by_cases g:k∈es.map (·.1)
 .rw[Yb g];exact RP.mpr ⟨e,h,Za hk⟩
 .rw[Za g];exact RL _ h
theorem lI(es:CLs)(k:Int×Int)(v:Int):(dC es k v).length<=es.length+1:=by
 unfold dC;split
 .rw[Rw];lia
 .rw[RK];exact RI _
end BB
variable{es:BB.CLs}
namespace BB
open PySem L2
def FrB(S:List Ry)(H H':Hp):Prop:=∀b o,b∉S->H b=A? o->H' b=A? o
theorem FrB.refl:FrB S H H:=λ_ _ _ e=>e
theorem FrB.of(h:Ye H H'):FrB S H H':=λb o _ e=>h b o e
theorem FrB.trans{A B C:Hp}(h:FrB S A B)(k:FrB S B C):FrB S A C:=λb o hb e=>k b o hb (h b o hb e)
theorem FrB.more{R:List Ry}{A B:Hp}(h:FrB S A B)(k:∀b∈S,b∈R):FrB R A B:=λb o hb e=>h b o (λz=>hb (k b z)) e
theorem FrB.set(h:a∈S):FrB S H (upd H a o):=λb u hb e=>by rw[ac (show b≠a fromλz=>hb (by rw[z];exact h))];exact e
theorem dw:∀{l m:List α},l.Nodup->(∀a∈l,a∈m)->l.length<=m.length
 | [],m,_,_=>Sn _
 | a::l,m,h,hs=>by
   rw[Sz]at h;obtain⟨m1,m2,rfl⟩:=List.append_of_mem (hs a (RX ..))
   have:l.length<=(m1++m2).length:=dw h.2 λb hb=>by
    rcases RM.mp (hs b (RT _ hb))with z|z
    .exact RL _ z
    .rcases RR.mp z with z|z
     .exact Yd (z ▸ hb) h.1
     .exact R5 _ z
   rw[RK,RV]at*;rw[RV];lia
end BB
open BB.FrB renaming of->Zn,set->Yo
namespace L2
open PySem
theorem qS{g:TG}(Pv:Nat->St->Hp->Prop)(h0:Pv 0 σ H)(hl:∀i σ H,i<=xs.length->Pv i σ H->SqT K H a xs)
 (hs:∀i x p σ H,xs[i]?=A? x->H p=B?->Pv i σ H->g (.ref p) σ (upd H p (.tup [.int (i:Nat),x])) λxl H2=>tb {D with nx:=Pv (i+1),ct:=Pv (i+1),bk:=D.nx} xl H2) (hd:∀σ H,Pv xs.length σ H->D.nx σ H) :
 ∃W:Nat->Nat->St->Hp->Prop,(∃m,W 0 m σ H)/\∀i m σ H,W i m σ H ->
   ((Ite K a).stop i H/\D.nx σ H)\/((Ite K a).go i H/\∃N:St->Hp->Prop,(∀i' H',N i' H'->∃m',m'<m/\W (i+1) m' i' H')/\∀x H',(Ite K a).yld i H x H'->g x σ H' λxl H2=>tb {D with nx:=N,ct:=N,bk:=D.nx} xl H2):=by
 refine⟨λi m σ H=>m=xs.length - i/\i<=xs.length/\Pv i σ H,⟨xs.length,by simp,Sn _,h0⟩,?_⟩;rintro i m σ H ⟨rfl,hi,p⟩;have q:=hl i σ H hi p;by_cases xf:i<xs.length
 .refine .inr ⟨⟨xs,xs[i],q,by simp[xf]⟩,Pv (i+1),λi' H' p'=>⟨xs.length - (i+1),by lia,rfl,xf,p'⟩,λx H' y=>?_⟩;obtain⟨pa,y,hp,rfl,rfl,hy⟩:=y;exact hs i y pa σ H (hy xs q) hp p
 .have e:i=xs.length:=by lia
  subst e;exact .inl ⟨⟨xs,q,rfl⟩,hd σ H p⟩
end L2
namespace BB
open PySem L2
theorem oa[DecidableEq κ]{kvs:List (κ×V)}{k:κ}(h:br kvs k=A? v):(k,v)∈kvs:=by
 induction kvs with
 |nil=>cases h
 | cons p r ih =>
   by_cases e:p.1=k
   .rw[dG e]at h;cases h;rw[<-e];exact RX ..
   .rw[dD e]at h;exact RT _ (ih h)
theorem map_set(f:α->β){a b:α}(h:l[i]?=A? a)(e:f b=f a):(l.set i b).map f=l.map f:=by
 rw[List.map_set];refine U9 λj=>?_;rw[XS];split
 .rename_i z
  subst z;rw[Rw,Yb (glE h),RG,h,e];rfl
 .rfl
theorem mem_set{b x:α}(h:x∈l.set i b):x=b\/∃j,j≠i/\l[j]?=A? x:=by
 obtain⟨j,hj⟩:=RS.mp h;rw[XS]at hj;split at hj
 .split at hj
  .exact .inl (RN hj).symm
  .cases hj
 .rename_i z
  exact .inr ⟨j,λe=>z e.symm,hj⟩
section
variable{Dp:DP}{head:Th}{ok:Th->Prop}{L:Lv}{n:Nd}{B:Lv}{Hg:Hp}{B':Lv}{sp:List (Key×V)}
end
theorem Ats.get'{ts:List Th}{as:List Ry}(h:Ats H ts as){t:Th}(hi:ts[i]?=A? t):∃a,as[i]?=A? a/\At H t a:=by
 have hl:=h.length;have xf:=(glE hi);obtain⟨a,ha⟩:∃a,as[i]?=A? a:=⟨_,RA (by lia)⟩;obtain⟨t',ht,hA⟩:=h.get ha;rw[hi]at ht;cases ht;exact⟨a,ha,hA⟩
section
variable{Dp:DP}{head:Th}{ok:Th->Prop}{H0:Hp}{L B:Lv}{L' B':Lv}
end
theorem gF:∀(n:Nat)(ts:List Th),au ts<=n->∀(i:Nat)(p:Th),(walks ts)[i]?=A? p->∃rest,(walks ts).drop i=p.walk++rest
 |_,[],_,i,p,h=>by cases h
 | 0,t::ts,hn,i,p,h=>by
   have:=t.size_pos;rw[au]at hn;lia
 | n+1,t::ts,hn,i,p,h=>by
   rw[au]at hn;rw[walks]at h |-;by_cases hi:i<t.walk.length
   .rw[Sl hi]at h;rw[List.drop_append_of_le_length (TV hi)];rw[t.walk_eq]at h |-;cases i with
    | zero =>
      cases h;rw[VB,<-t.walk_eq];exact⟨_,CA⟩
    | succ i =>
      rw[Vx]at h;rw[Xn];have hk:au t.kids<=n:=by have:=t.size_eq;lia
      obtain⟨r,hr⟩:=gF n t.kids hk i p h;exact⟨r++walks ts,by rw[hr,Uy]⟩
   .rw[Sx (by lia)]at h;have:=t.size_pos;obtain⟨r,hr⟩:=gF n ts (by lia) _ p h;refine⟨r,?_⟩;rw[List.drop_append,List.drop_eq_nil_of_le (by lia),V3];exact hr
theorem sR(g:Int->Int->Th)(t:Th)(h:t.walk[i]?=A? p):∃S,bl ((t.walk.map (cj g)).drop i)=p.fill g::S:=by
 have e:walks [t]=t.walk:=by simp[walks]
 obtain⟨r,hr⟩:=gF _ [t] (RI _) i p (by rw[e];exact h);rw[e]at hr;rw[<-List.map_drop,hr,R4];have h2:=(fR g _ [p] (RI _) (r.map (cj g))).1;have e2:walks [p]=p.walk:=by simp[walks]
 rw[e2]at h2;exact⟨_,h2⟩
end BB
namespace L2
open PySem
end L2
namespace BB
open PySem L2
end BB
namespace L2
open PySem PySem.Spec PyProof.Rows PySem.W
end L2
namespace BB
open PySem L2
end BB
namespace L2
open PySem PySem.Spec PySem.Calls PyProof.Rows PySem.W
theorem Fun.okT1{k:Nat}(F:Fun K x qual st f fd)(hc:fd.code=.ref c)(S:bp N ps (ax st))(len:∀vs H Q E,sp vs H Q E->vs.length=ps.length)
 (xF:∀(A:Si)(outer:List Xz)(s:RE)(H:Hp)(vs:List V)(Q:VK)(E:XK),Room k (A.deeper (UN qual (ax st) s.1.1.size f (.ref c)))->sp vs H Q E ->
  ∃t,PSs (iy (CX1 P w) P w K mg base N qual (ax st) f (.ref c) A outer s H E) (bq st) t/\t {nx:=λ_ H'=>Q .non H',rt:=Q} (start N vs) H):FnOk P w K mg base (CX1 P w) (k+1) f fd ps sp:=by
 obtain⟨oc,od,kV,doc,pm,an,xi,ct,Bm,rfl,lk,yf⟩:=F.ex;have xP:xi=.ref c:=hc;subst xP;exact qo lk yf S len λA outer s H vs Q E hr yw=>xF A outer s H vs Q E hr yw
end L2
namespace BB
open PySem L2
theorem bK(n:Nat):((2 ^ n:Nat):Int)=2 ^ n:=by exact_mod_cast rfl
def bt(x:Int)(i:Nat):Bool:=x.toNat.testBit i
theorem sr{x y:Int}(hx:0<=x)(hy:0<=y):SH x y=((x.toNat &&& y.toNat:Nat):Int):=by
 unfold SH;rw[Yc hx,Yc hy]
theorem kB(x:Int):S9 (S9 x)=x:=by unfold S9;lia
theorem uU{x y:Int}(hx:0<=x)(hy:0<=y):Ua x y=((x.toNat |||y.toNat:Nat):Int):=by
 have h1:¬0<=S9 x:=by unfold S9;lia
 have h2:¬0<=S9 y:=by unfold S9;lia
 unfold Ua SH;rw[Zb h1,Zb h2];dsimp only;rw[kB,kB,kB]
theorem uT{x y:Int}(hx:0<=x)(hy:0<=y):0<=SH x y/\∀i,bt (SH x y) i=(bt x i && bt y i):=by
 rw[sr hx hy];refine⟨Wo _,λi=>?_⟩;unfold bt;rw[RU,Nat.testBit_and]
theorem uh{x y:Int}(hx:0<=x)(hy:0<=y)(lx:x<2 ^ n)(ly:y<2 ^ n):0<=Ua x y/\Ua x y<2 ^ n/\∀i,bt (Ua x y) i=(bt x i ||bt y i):=by
 rw[uU hx hy];refine⟨Wo _,?_,λi=>?_⟩
 .have:=Nat.or_lt_two_pow (x:=x.toNat) (y:=y.toNat) (n:=n) (by have:=bK n;lia) (by have:=bK n;lia)
  exact_mod_cast this
 .unfold bt;rw[RU,Nat.testBit_or]
def ones(n:Nat):Int:=2 ^ n - 1
theorem n9(n:Nat):0<=ones n:=by
 have:=V2 n;have:=bK n;unfold ones;lia
theorem sS(n i:Nat):bt (ones n) i=decide (i<n):=by
 have h0:=V2 n
 have e:(ones n).toNat=2 ^ n - 1:=by
  have:=bK n;unfold ones;lia
 unfold bt;rw[e,Nat.testBit_two_pow_sub_one]
theorem mW(n i:Nat):bt (1 * 2 ^ (n:Int).toNat) i=decide (n=i):=by
 rw[Int.one_mul,RU,<-bK];unfold bt;rw[RU,Nat.testBit_two_pow]
theorem rV{y:Int}(hy:0<=y)(ly:y<2 ^ n):0<=SH (ones n) (S9 y)/\∀i,bt (SH (ones n) (S9 y)) i=(decide (i<n) && !bt y i):=by
 have h0:=V2 n;have hc:=bK n;have Ly:y.toNat<2 ^ n:=by lia
 have e:(ones n).toNat=2 ^ n - 1:=by unfold ones;lia
 have h2:¬0<=S9 y:=by unfold S9;lia
 have e2:SH (ones n) (S9 y)=((2 ^ n - (y.toNat+1):Nat):Int):=by
  unfold SH;rw[Yc (n9 n),Zb h2];dsimp only;rw[kB,e,Nat.and_comm,Nat.and_two_pow_sub_one_eq_mod,Nat.mod_eq_of_lt Ly];unfold ones;lia
 rw[e2];refine⟨Wo _,λi=>?_⟩;unfold bt;rw[RU,Nat.testBit_two_pow_sub_succ Ly]
theorem lq(i:Nat):bt 0 i=false:=by unfold bt;exact Nat.zero_testBit i
theorem uS{x:Int}(hx:0<=x)(i:Nat):decide (SH (x / 2 ^ ((i:Nat):Int).toNat) 1=1)=bt x i:=by
 rw[PyProof.Rows.bitAnd_m1,RU,<-bK];unfold bt;rw[Nat.testBit_eq_decide_div_mod_eq];congr 1;have:x=(x.toNat:Int):=by lia
 rw[this];rw[RU];generalize x.toNat=m;apply propext;constructor
 .intro h;exact_mod_cast h
 .intro h;exact_mod_cast h
structure Cand where
 b:Int
 n:Int
 ks:List Nat
structure Least(S:Cand->Prop)(D:List Cand):Prop where
 nd:(D.map (·.b)).Nodup
 sub:∀e∈D,S e
 le:∀c,S c->∃e∈D,e.b=c.b/\e.n<=c.n
theorem Least.congr{S S':Cand->Prop}{D:List Cand}(h:Least S D)(e:∀c,S c↔S' c):Least S' D:=⟨h.nd,λx hx=>(e x).mp (h.sub x hx),λc hc=>h.le c ((e c).mpr hc)⟩
theorem Least.nil:Least (λ_=>False) []:=⟨by simp,(by intro e h;cases h),(by intro c h;exact h.elim)⟩
theorem Least.one(c:Cand):Least (λx=>x=c) [c]:=⟨by simp,(by intro e h;exact RC.mp h),(by intro x h;exact⟨c,by simp,by rw[h],by rw[h];exact Int.le_refl _⟩)⟩
theorem Least.add{S:Cand->Prop}{D:List Cand}{c:Cand}(h:Least S D)(hn:c.b∉D.map (·.b)):Least (λx=>S x\/x=c) (D++[c]):=by
 refine⟨?_,λe he=>?_,λx hx=>?_⟩
 .rw[R4,SW];refine⟨h.nd,by simp,λa ha b hb z=>hn ?_⟩;rw[Xx,RC]at hb;rw[<-hb,<-z];exact ha
 .rcases RM.mp he with he|he
  .exact .inl (h.sub e he)
  .exact .inr (RC.mp he)
 .rcases hx with hx|rfl
  .obtain⟨e,he,h1⟩:=h.le x hx;exact⟨e,RL _ he,h1⟩
  .exact⟨x,by simp,CA,Int.le_refl _⟩
theorem Least.keep{S:Cand->Prop}{D:List Cand}{c e:Cand}(h:Least S D)(he:e∈D)(hb:e.b=c.b)(hn:e.n<=c.n):Least (λx=>S x\/x=c) D :=
 ⟨h.nd,λx hx=>.inl (h.sub x hx),λx hx=>by
  rcases hx with hx|rfl
  .exact h.le x hx
  .exact⟨e,he,hb,hn⟩⟩
theorem Least.set{S:Cand->Prop}{D:List Cand}{c:Cand}{i:Nat}{e:Cand}(h:Least S D)(he:D[i]?=A? e)(hb:e.b=c.b)(hn:c.n<=e.n):Least (λx=>S x\/x=c) (D.set i c):=by
 have hi:=(glE he);refine⟨by rw[map_set (λx:Cand=>x.b) he hb.symm];exact h.nd,λx hx=>?_,λx hx=>?_⟩
 .rcases mem_set hx with rfl|⟨j,_,hj⟩
  .exact .inr rfl
  .exact .inl (h.sub x (Rx hj))
 .have hc:c∈D.set i c:=Rx (i:=i) (by rw[SS hi]);rcases hx with hx|rfl
  .obtain⟨y,hy,h1,h2⟩:=h.le x hx;obtain⟨j,hj⟩:=RS.mp hy;by_cases z:i=j
   .subst z;rw[he]at hj;cases hj;exact⟨c,hc,hb.symm.trans h1,by lia⟩
   .exact⟨y,Rx (i:=j) (by rw[SU z];exact hj),h1,h2⟩
  .exact⟨x,hc,CA,Int.le_refl _⟩
def Cand.ext(ag sz:List Int)(e:Cand)(n:Nat):Cand:=⟨SH e.b (ag.getD n 0),e.n+sz.getD n 0,e.ks++[n]⟩
theorem Least.trans{S:Cand->Prop}{D D':List Cand}{ag sz:List Int}{ns:List Nat}(h:Least S D)(h':Least (λx=>∃e∈D,∃n∈ns,x=e.ext ag sz n) D'):Least (λx=>∃e,S e/\∃n∈ns,x=e.ext ag sz n) D':=by
 refine⟨h'.nd,λx hx=>?_,λc hc=>?_⟩
 .obtain⟨e,he,g⟩:=h'.sub x hx;exact⟨e,h.sub e he,g⟩
 .obtain⟨e,he,n,hn,rfl⟩:=hc;obtain⟨d,hd,h1,h2⟩:=h.le e he;obtain⟨x,hx,g1,g2⟩:=h'.le (d.ext ag sz n) ⟨d,hd,n,hn,rfl⟩;refine⟨x,hx,?_,?_⟩
  .rw[g1];show SH d.b _=SH e.b _;rw[h1]
  .have:(d.ext ag sz n).n=d.n+sz.getD n 0:=rfl;have:(e.ext ag sz n).n=e.n+sz.getD n 0:=rfl;lia
def cnd(AG:List (List Int))(sz:List Int)(all:Int)(ks:List Nat):Cand:=ks.zipIdx.foldl (λc p=>c.ext (AG.getD p.2 []) sz p.1) ⟨all,0,[]⟩
theorem eG(AG:List (List Int))(sz:List Int)(all:Int)(ks:List Nat)(n:Nat):cnd AG sz all (ks++[n])=(cnd AG sz all ks).ext (AG.getD ks.length []) sz n:=by
 unfold cnd;rw[Xw,List.foldl_append];simp
theorem snoc_ind{P:List Nat->Prop}(h0:P [])(hs:∀l a,P l->P (l++[a])):∀l,P l:=λl=>by
 have:∀r:List Nat,P r.reverse:=by
  intro r;induction r with
  |nil=>exact h0
  |cons a r ih=>rw[SJ];exact hs _ _ ih
 have:=this l.reverse
 rwa [T6]at this
theorem vp(AG:List (List Int))(sz:List Int)(all:Int):∀ks,(cnd AG sz all ks).ks=ks:=snoc_ind rfl λl a ih=>by
 rw[eG];show(cnd AG sz all l).ks++[a]=_;rw[ih]
theorem vk{AG:List (List Int)}{sz:List Int}{N L:Nat}(N8:∀j n,j<AG.length->n<L->0<=(AG.getD j []).getD n 0):∀ks:List Nat,ks.length<=AG.length->(∀n∈ks,n<L) ->
 0<=(cnd AG sz (ones N) ks).b/\∀i,bt (cnd AG sz (ones N) ks).b i=Bz↔i<N/\∀j n,ks[j]?=A? n->bt ((AG.getD j []).getD n 0) i=true:=by
 refine snoc_ind (λ_ _=>⟨n9 N,λi=>?_⟩) λl a ih hl hL=>?_
 .show bt (ones N) i=Bz↔_;rw[sS,decide_eq_true_iff];exact⟨λh=>⟨h,λj n e=>by simp at e⟩,λh=>h.1⟩
 .rw[RK,R8]at hl;obtain⟨h0,h1⟩:=ih (by lia) λn hn=>hL n (RL _ hn);have ha:=N8 l.length a (by lia) (hL a (by simp));obtain⟨g0,g1⟩:=uT h0 ha;rw[eG];refine⟨g0,λi=>?_⟩;show bt (SH _ _) i=Bz↔_;rw[g1,UM,h1];constructor
  .rintro⟨⟨h2,h3⟩,h4⟩;refine⟨h2,λj n e=>?_⟩;by_cases z:j<l.length
   .rw[Sl z]at e;exact h3 j n e
   .have hj:j=l.length:=by
     have:=(glE e);rw[RK,R8]at this;lia
    subst hj;rw[Sx (RI _),VA]at e;cases e;exact h4
  .rintro⟨h2,h3⟩;refine⟨⟨h2,λj n e=>h3 j n ?_⟩,h3 l.length a ?_⟩
   .rw[Sl (glE e)];exact e
   .rw[Sx (RI _),VA];rfl
def InB(lo hi:Nat->Nat)(ks:List Nat):Prop:=∀j n,ks[j]?=A? n->lo j<=n/\n<hi j
theorem InB.snoc{lo hi:Nat->Nat}{ks:List Nat}:InB lo hi (ks++[n])↔InB lo hi ks/\lo ks.length<=n/\n<hi ks.length:=by
 constructor
 .intro h;refine⟨λj m e=>h j m ?_,h ks.length n ?_⟩
  .rw[Sl (glE e)];exact e
  .rw[Sx (RI _),VA];rfl
 .rintro⟨h1,h2⟩ j m e;by_cases z:j<ks.length
  .rw[Sl z]at e;exact h1 j m e
  .have hj:j=ks.length:=by
    have:=(glE e);rw[RK,R8]at this;lia
   subst hj;rw[Sx (RI _),VA]at e;cases e;exact h2
def SrcP(AG:List (List Int))(sz:List Int)(all:Int)(lo hi:Nat->Nat)(p:Nat)(x:Cand):Prop:=∃ks:List Nat,ks.length=p/\InB lo hi ks/\x=cnd AG sz all ks
theorem SrcP.zero(AG:List (List Int))(sz:List Int)(all:Int)(lo hi:Nat->Nat)(x:Cand):x=⟨all,0,[]⟩↔SrcP AG sz all lo hi 0 x:=by
 constructor
 .rintro rfl;exact⟨[],CA,λj n e=>by simp at e,CA⟩
 .rintro⟨ks,h,_,rfl⟩;cases ks with
  |nil=>rfl
  |cons a l=>simp at h
theorem SrcP.succ(AG:List (List Int))(sz:List Int)(all:Int)(lo hi:Nat->Nat)(p:Nat)(ns:List Nat)(zp:∀n,n∈ns↔lo p<=n/\n<hi p)(x:Cand) :
 (∃e,SrcP AG sz all lo hi p e/\∃n∈ns,x=e.ext (AG.getD p []) sz n)↔SrcP AG sz all lo hi (p+1) x:=by
 constructor
 .rintro⟨e,⟨ks,h1,h2,rfl⟩,n,hn,rfl⟩;refine⟨ks++[n],by simp[h1],InB.snoc.mpr ⟨h2,by rw[h1];exact(zp n).mp hn⟩,?_⟩;rw[eG,h1]
 .rintro⟨ks,h1,h2,rfl⟩;have xx:ks≠[]:=λz=>by rw[z]at h1;simp at h1
  obtain⟨l,a,rfl⟩:∃l a,ks=l++[a]:=⟨_,_,(TJ xx).symm⟩;rw[RK,R8]at h1;obtain⟨h3,h4⟩:=InB.snoc.mp h2;have hl:l.length=p:=by lia
  exact⟨_,⟨l,hl,h3,CA⟩,a,(zp a).mpr (by rw[<-hl];exact h4),by rw[eG,hl]⟩
def loF(last first p:Nat):Nat:=if p=first then last else 0
def hiF(last first p:Nat):Nat:=if p<first then last else last+1
theorem jB{last:Nat}{ks:List Nat}(hl:ks.length=m):(∃first,first<m/\InB (loF last first) (hiF last first) ks)↔(∀n∈ks,n<=last)/\last∈ks:=by
 constructor
 .rintro⟨f,hf,h⟩;obtain⟨n,hn⟩:∃n,ks[f]?=A? n:=⟨_,RA (by lia)⟩;have h1:=h f n hn;unfold loF hiF at h1;rw[Yb rfl,Za (S7 _)]at h1;refine⟨λa ha=>?_,?_⟩
  .obtain⟨j,hj⟩:=RS.mp ha;have h2:=(h j a hj).2;unfold hiF at h2;split at h2 <;> lia
  .have:n=last:=by lia
   rw[<-this];exact Rx hn
 .rintro⟨h1,h2⟩;refine⟨ks.idxOf last,by rw[<-hl];exact Wa h2,λj n e=>?_⟩;have hn:=h1 n (Rx e);unfold loF hiF;have hj:=(glE e);refine⟨?_,?_⟩
  .split
   .rename_i z
    have h3:=List.findIdx_getElem (p:=λx=>x == last) (xs:=ks) (w:=Wa h2)
    have h4:ks[ks.idxOf last]?=A? last:=by
     rw[RA (Wa h2)];exact Zd A? (eq_of_beq h3)
    rw[<-z,e]at h4;cases h4;exact RI _
   .exact Sn _
  .split
   .rename_i z
    have:n≠last:=λy=>by
     have h3:=List.not_of_lt_findIdx (p:=λx=>x == last) (xs:=ks) (i:=j) z;rw[RA hj]at e;cases e;simp[y]at h3
    lia
   .lia
end BB
namespace HT
open PySem PyProof.Rows PySem.SeqAt
open PySem.AutoSeq1 (wpAny_loadPart')
open PySem.MeetsSeq PySem.MeetsSeq2 PySem.MeetsSeq3
theorem tuple_lt_two(l b:Ry)(v1 v2 w1 w2:Rz)(n n2:Nat)(dd zK:Option Ry)(sl zL:Array (Option Rz))(e1 e2 b1 b2:Bool) :
 Meets (Ur.«tuple.__lt__» ⟨[.ref l,.ref b],[]⟩)
  (λA R s=>s.1.get? l=A? {cls:=.type "tuple",dict:=dd,data:=.seq #[v1,v2] n,slots:=sl}/\s.1.get? b=A? {cls:=.type "tuple",dict:=zK,data:=.seq #[w1,w2] n2,slots:=zL} /\
   EqAt A.in1 s v1 w1 e1/\EqAt A.in1 s v2 w2 e2/\(e1=C?->∀prog w E Q,Q (.bool b1) s->RQ (R7 prog w) A.in1 (XE .Lt v1 w1) Q E s)/\(e2=C?->∀prog w E Q,Q (.bool b2) s->RQ (R7 prog w) A.in1 (XE .Lt v2 w2) Q E s) /\
   R (.ok (.ret (.bool (if e1=Bz then(if e2=Bz then C? else b2)else b1)))) s) :=
 .of_wp λprog w A R s h=>by
  obtain⟨hp,g,d,tk,os⟩:=s;obtain⟨hl,hb,q1,q2,r1,r2,h⟩:=h;have f2:=W7
  wp_walk using Xq hl,Xq hb,wpAny_forIn_list _ (λrest b s'=>b.1=B?/\s'=⟨hp,g,d,tk,os⟩/\((rest=[(v1,w1),(v2,w2)]/\R (.ok (.ret (.bool (if e1=Bz then(if e2=Bz then C? else b2)else b1)))) ⟨hp,g,d,tk,os⟩)\/(rest=[(v2,w2)]/\R (.ok (.ret (.bool (if e2=Bz then C? else b2)))) ⟨hp,g,d,tk,os⟩)\/(rest=[]/\R (.ok (.ret (.bool C?))) ⟨hp,g,d,tk,os⟩))) _
  case turn =>
   rintro⟨y,x⟩ rest b s' ⟨xC,rfl,⟨hz,hR⟩|⟨hz,hR⟩|⟨hz,hR⟩⟩
   .injection hz with Eu yW;injection Eu with hy hx;subst hy hx;refine Rv (q1 prog w _ _ ?_);cases e1 with
    | true =>
      rw[Yb rfl]at hR
      wp_walk
      exact⟨CA,CA,.inr (.inl ⟨yW,hR⟩)⟩
    | false =>
      rw[Za R0]at hR;have Ex:=r1 rfl prog w
      wp_walk using Ex
      exact⟨_,CA,by simpa using hR⟩
   .injection hz with Eu yW;injection Eu with hy hx;subst hy hx;refine Rv (q2 prog w _ _ ?_);cases e2 with
    | true =>
      rw[Yb rfl]at hR
      wp_walk
      exact⟨CA,CA,.inr (.inr ⟨yW,hR⟩)⟩
    | false =>
      rw[Za R0]at hR;have Ex:=r2 rfl prog w
      wp_walk using Ex
      exact⟨_,CA,by simpa using hR⟩
   .cases hz
  case fin =>
   rintro⟨c1,c2⟩ s' ⟨xC,rfl,⟨hz,hR⟩|⟨hz,hR⟩|⟨hz,hR⟩⟩
   .cases hz
   .cases hz
   simp only at xC;subst xC
   wp_walk
   exact⟨_,CA,by simpa[Builtin.Tuple.tupleCompareSizes]using hR⟩
  case h =>
   exact⟨CA,CA,.inl ⟨CA,h⟩⟩
end HT
namespace L2
open PySem PySem.Spec PySem.Calls PyProof.Rows PySem.SeqAt
def jC(H:Hp)(κ:Ry)(k:Int×List Int):Prop:=∃na,H κ=A? (.tup [.int k.1,.ref na])/\H na=A? (.tup (k.2.map Yh))
def keyLt(a b:Int×List Int):Bool:=if a.1=b.1 then Ym a.2 b.2 else decide (a.1<b.1)
theorem gL:∀l:List Int,Ym l l=C?
 | []=>rfl
 |x::l=>by rw[Zp,Yb rfl,gL l]
theorem eW:∀ns:List Int,BB.DAts H (ns.map Zj) (ns.map Yh)
 | []=>by rw[T5,T5,BB.DAts]
 |n::ns=>by rw[R6,R6,BB.DAts];exact⟨_,_,CA,by rw[BB.DAt],eW ns⟩
theorem jn:∀{a b:List Int},a.map Zj=b.map Zj->a=b
 | [],[],_=>rfl
 | [],_::_,h=>by cases h
 |_::_,[],h=>by cases h
 | x::a,y::b,h=>by
   rw[R6,R6]at h;injection h with h1 h2;injection h1 with h1;rw[h1,jn h2]
theorem fC:∀ns:List Int,BB.ej (ns.map Zj)<=1
 | []=>by rw[T5,BB.ej];lia
 | n::ns=>by
   have:=fC ns;rw[R6,BB.ej,BB.Dv.deep];lia
open Classical in
theorem uM{X:Cx}(I:Inv X Y σ H s){k m:Int×List Int}(ha:jC H a k)(hb:jC H b m)(hu:A.units+4<Ve)(q:Q (.bool (keyLt k m)) s) :
 RQ (R7 X.prog X.w) A (XE .Lt (.ref a) (.ref b)) Q E s:=by
 obtain⟨na,ea,en⟩:=ha;obtain⟨ma,eb,em⟩:=hb;obtain⟨its,r1,p1,_⟩:=I.tuple (Ze (K:=X.K) ea);obtain⟨xn,r2,p2,_⟩:=I.tuple (Ze (K:=X.K) eb);obtain⟨u1,u2,rfl,⟨t,rfl⟩,q2⟩:=vals2 r1;obtain⟨w1,w2,rfl,⟨t',rfl⟩,q3⟩:=vals2 r2;obtain rfl:u2=Sg na:=q2;obtain rfl:w2=Sg ma:=q3;obtain⟨⟨cls,dd,data,sl⟩,ho,hc,n,hd⟩:=id p1;obtain⟨⟨BD,zK,data2,zL⟩,z8,yC,n2,hd2⟩:=id p2;simp only at hc hd yC hd2;subst hc hd yC hd2
 have h2:=oA I _ (.tup (k.2.map Zj)) (.tup (m.2.map Zj)) (RI _) (.ref na) (.ref ma) (.ref na) (.ref ma) A.in1 (by rw[BB.DAt];exact⟨na,_,CA,en,eW _⟩) (by rw[BB.DAt];exact⟨ma,_,CA,em,eW _⟩) rfl rfl (by
  have:=fC k.2;rw[BB.Dv.deep];show A.units+1+_<Ve;lia)
 obtain⟨N9,r3,p3,_⟩:=I.tuple (Ze (K:=X.K) en);obtain⟨Oa,r4,p4,_⟩:=I.tuple (Ze (K:=X.K) em);obtain⟨e1,g1,g2⟩:=HT.eqAt_int A.in1 s k.1 t m.1 t';refine richCompare_meets_room (op:=.Lt) ⟨_,ho,rfl⟩ ⟨_,z8,rfl⟩ PySem.F.slot_tuple_lt PySem.F.entry_tuple_lt (PySem.F.args_tuple_lt_2 _ _) (HT.tuple_lt_two a b (.int k.1 t) (.ref na) (.int m.1 t') (.ref ma) n n2 dd zK sl zL e1 (decide (Yp (k.2.map Zj)=Yp (m.2.map Zj))) (decide (k.1<m.1)) (Ym k.2 m.2)) ?_ (by lia);refine⟨ho,z8,g1,h2,λ_ prog w E Q h=>HT.rcLt_int _ s _ _ _ _ prog w E Q h,λ_ prog w E Q h=>(HT.lt_tupInts p3 p4 (intsAre_of r3) (intsAre_of r4) (show A.units+1<Ve by lia) h:RQ (R7 prog w) A.in1 (UB .Lt (.ref na) (.ref ma)) Q E s),(λx=>nomatch x),?_⟩
 have e:keyLt k m=(if e1=Bz then(if decide (Yp (k.2.map Zj)=Yp (m.2.map Zj))=Bz then C? else Ym k.2 m.2)else decide (k.1<m.1)):=by
  unfold keyLt;by_cases h1:k.1=m.1
  .rw[Yb h1,Yb (g2.mpr h1)];by_cases h3:k.2=m.2
   .rw[h3,gL,Yb (Yc rfl)]
   .rw[Za];intro z;exact h3 (jn (BB.Dv.tup.inj (Zc z)))
  .rw[Za h1,Za (λz=>h1 (g2.mp z))]
 rw[<-e];exact q
theorem g9:∀{a b c:List Int},Ym a b=Bz->Ym b c=Bz->Ym a c=Bz
 | [],[],_,h,_=>by cases h
 |_::_,[],_,h,_=>by cases h
 | [],_::_,[],_,h=>by cases h
 | [],_::_,_::_,_,_=>rfl
 |_::_,_::_,[],_,h=>by cases h
 | x::a,y::b,z::c,h,g=>by
   rw[Zp]at h g |-;by_cases e:x=y
   .rw[Yb e]at h;subst e;by_cases e2:x=z
    .rw[Yb e2]at g |-;exact g9 h g
    .rw[Za e2]at g |-;exact g
   .rw[Za e]at h;have h:=Zc h;by_cases e2:y=z
    .subst e2;rw[Za e];exact Yc h
    .rw[Za e2]at g;have g:=Zc g;rw[Za (by lia)];exact Yc (by lia)
theorem keyLt_trans{a b c:Int×List Int}(h:keyLt a b=Bz)(g:keyLt b c=Bz):keyLt a c=true:=by
 unfold keyLt at h g |-;by_cases e:a.1=b.1
 .rw[Yb e]at h;by_cases e2:b.1=c.1
  .rw[Yb e2]at g;rw[Yb (e.trans e2)];exact g9 h g
  .rw[Za e2]at g;rw[Za (by lia),e];exact g
 .rw[Za e]at h;have h:=Zc h;by_cases e2:b.1=c.1
  .rw[Za (by lia),<-e2];exact Yc h
  .rw[Za e2]at g;have g:=Zc g;rw[Za (by lia)];exact Yc (by lia)
theorem dA(a:Int×List Int):keyLt a a=false:=by
 unfold keyLt;rw[Yb rfl,gL]
section
variable{X:Cx}{H0:Hp}{l q I S:Ry}{ws:List V}{key:Nat->Int×List Int}{k:Nat}
structure vP(X:Cx)(Y:List (Ry×TC))(σ:St)(H0:Hp)(l I S:Ry)(ws:List V)(key:Nat->Int×List Int)(H:Hp)(s:RE)(j i:Nat)(vb:Rz)(κ:Ry)(c:Nat):Prop where
 inv:Inv X Y σ H s
 fI:FpOk X Y H I
 fS:FpOk X Y H S
 it:s.1.IsListIter I l j
 st:s.1.get? S=A? (seqObj "list" #[vb,.ref κ] c)
 sm:Same H0 H
 rv:∃x,ws[i]?=A? x/\RelV x vb
 ky:jC H κ (key i)
theorem FpOk.of(f:FpOk X Y H b)(h:H' b=B?):FpOk X Y H' b:=⟨h,f.2⟩
theorem l3(hc:X.calm=Bz)(hr:Room (k+1) X.A)(F:pD X.prog X.w X.K X.mg X.base CX0 k q sp)(I1:Inv X Y σ H s)(fI:FpOk X Y H I)(fS:FpOk X Y H S){oI oS:TC}(gI:s.1.get? I=A? oI)(gS:s.1.get? S=A? oS)
 (cI:∀v,oI.data≠.cell v) (cS:∀v,oS.data≠.cell v) {x:V} {v:Rz} (rx:RelV x v) {m:Int×List Int} (h:sp [x] H (λr H'=>∃κ,r=.ref κ/\Same H H'/\jC H' κ m) E0)
 (hQ:∀κ H' s',Inv X Y σ H' s'->FpOk X Y H' I->FpOk X Y H' S->s'.1.get? I=A? oI->s'.1.get? S=A? oS->Same H H'->jC H' κ m->Q (.ref κ) s') :
 RQ (R7 X.prog X.w) X.A.in1 (call (.ref q) [v]) Q E s:=by
 have hf:∀b∈[I,S],FpOk X Y H b:=λb hb=>by
  rcases RR.mp hb with rfl|hb
  .exact fI
  .rw[RC.mp hb];exact fS
 have hp:=I1.pinned hf λb hb=>by
  rcases RR.mp hb with rfl|hb
  .exact⟨_,gI,cI⟩
  .rw[RC.mp hb];exact⟨_,gS,cS⟩
 refine wpAny_call (VU (F.run X.A.in1 X.stack s H [v] [x] _ _ hr.in1 hp.env0.in1 (.cons rx .nil) h) λr s' hq=>?_);cases r with
 |error e=>exact hq.elim
 | ok fl =>
   cases fl with
   |next=>exact hq.elim
   |brk=>exact hq.elim
   |cont=>exact hq.elim
   | ret u =>
     obtain⟨y,H',I2,ry,κ,rfl,sm,ky⟩:=hp.after hq;obtain rfl:u=Sg κ:=ry;have pI:=I2.pin _ (R5 _ (R5 _ (cn (RX ..) gI)));have pS:=I2.pin _ (R5 _ (R5 _ (cn (RT _ (RX ..)) gS)));exact hQ κ H' s' I2.unpinned (fI.of pI.2.1) (fS.of pS.2.1) pI.1 pS.1 sm ky
theorem rO(hc:X.calm=Bz)(hr:Room (k+1) X.A)(Jf:I≠S)(hl:H0 l=A? (.lst ws))(F:pD X.prog X.w X.K X.mg X.base CX0 k q sp)
 (turn:∀i x H,ws[i]?=A? x->Same H0 H->sp [x] H (λr H'=>∃κ,r=.ref κ/\Same H H'/\jC H' κ (key i)) E0)
 (hR:∀i x vb H s,Inv X Y σ H s->Same H0 H->ws[i]?=A? x->RelV x vb->(∀j,j<ws.length->keyLt (key j) (key i)=C?)->R (.ok (.ret vb)) s) :
 ∀(r j i:Nat)(H:Hp)(s:RE)(vb:Rz)(κ:Ry)(c:Nat),ws.length - j=r->j<=ws.length->vP X Y σ H0 l I S ws key H s j i vb κ c->(∀j',j'<j->keyLt (key j') (key i)=C?) ->
   UW (R7 X.prog X.w) X.A (.builtin "min.loop" ⟨[.ref I,.ref q,.ref S],[]⟩) R s:=by
 have zf:(toString "min"++toString ".loop":String)="min.loop":=by decide
 have hh:=X.A.handled;intro r;induction r with
 | zero =>
   intro j i H s vb κ c Ci hj M hb;obtain⟨its,rv,pl,_⟩:=M.inv.list (Yg (M.sm _ _ hl));have W:=Walks.list (prog:=X.prog) (w:=X.w) (A:=X.A.in1) hr.hd I l (λz=>by have:=M.fI.1;rw[<-z,M.sm _ _ hl]at this;cases this) its.toArray;have hsz:its.toArray.size=j:=by rw[RO,<-rv.length];lia
   refine UC WW ?_;rw[Ug TU _];show RQ _ X.A.in1 (seqItems? (.ref S) >>= _) _ _ _;refine Rv (Tc M.st rfl ?_);show RQ _ X.A.in1 (tryCatch (UZ (.ref I)) _ >>= _) _ _ _;refine Rv (VQ (W.done _ _ _ ⟨by rw[hsz];exact M.it,pl.isList⟩ λh' Fc xE=>?_));have I2:=M.inv.turned (h':=h') (t':=Fc) (it:=I) (λb o xC e=>xE b o (by simpa using xC) e) M.fI.1 M.fI.2.1 M.fI.2.2.2.1 M.fI.2.2.2.2.1 M.fI.2.2.2.2.2;have gS:=xE S _ (by simpa using Jf.symm) M.st;show RQ _ X.A.in1 (WC S (λ_=>#[]) >>= _) _ _ _;refine Rv ?_;refine Tx gS rfl (Rv (UH (RD ?_)));obtain⟨x,hx,rx⟩:=M.rv;refine hR i x vb H _ (I2.turned (it:=S) (λb o xC e=>?_) M.fS.1 M.fS.2.1 M.fS.2.2.2.1 M.fS.2.2.2.2.1 M.fS.2.2.2.2.2) M.sm hx rx λj' DW=>hb j' (by lia);exact(Ta h' S (SQ λ_=>(#[]:Array Rz))).2 b xC |>.trans e
 | succ r ih =>
   intro j i H s vb κ c Ci hj M hb;obtain⟨its,rv,pl,_⟩:=M.inv.list (Yg (M.sm _ _ hl));have W:=Walks.list (prog:=X.prog) (w:=X.w) (A:=X.A.in1) hr.hd I l (λz=>by have:=M.fI.1;rw[<-z,M.sm _ _ hl]at this;cases this) its.toArray;have hlen:=rv.length;have xf:j<its.toArray.size:=by rw[RO];lia
   refine UC WW ?_;rw[Ug TU _];show RQ _ X.A.in1 (seqItems? (.ref S) >>= _) _ _ _;refine Rv (Tc M.st rfl ?_);show RQ _ X.A.in1 (tryCatch (UZ (.ref I)) _ >>= _) _ _ _;refine Rv (VQ (W.item j _ _ _ xf ⟨M.it,pl.isList⟩ λv h' Fc hP AO xE=>?_));have hv:its[j]?=A? v:=by simpa using hP
   obtain⟨x,hx,rx⟩:∃x,ws[j]?=A? x/\RelV x v:=by
    obtain⟨x,hx⟩:∃x,ws[j]?=A? x:=⟨_,RA (by lia)⟩;obtain⟨v',h1,h2⟩:=rv.get hx;rw[hv]at h1;cases h1;exact⟨x,hx,h2⟩
   have I2:=M.inv.turned (h':=h') (t':=Fc) (it:=I) (λb o xC e=>xE b o (by simpa using xC) e) M.fI.1 M.fI.2.1 M.fI.2.2.2.1 M.fI.2.2.2.2.1 M.fI.2.2.2.2.2;have gS:=xE S _ (by simpa using Jf.symm) M.st;obtain⟨oI,Jg,zJ,BK⟩:=id AO.1;show RQ _ X.A.in1 (tryCatch (Xi [v] (call (.ref q) [v])) _ >>= _) _ _ _;refine Rv (VQ (SN (l3 hc hr F I2 M.fI M.fS Jg gS (λz e=>by rw[BK]at e;cases e) (λz e=>by cases e) rx (turn j x H hx M.sm) λzQ H2 s2 I3 GX zR GY DX Fd GZ=>?_)));have Lz:=M.sm.trans Fd
   have LA:jC H2 κ (key i):=by
    obtain⟨na,e1,e2⟩:=M.ky;exact⟨na,Fd _ _ e1,Fd _ _ e2⟩
   show RQ _ X.A.in1 (tryCatch (Xi [v,.ref zQ] (XE .Lt (.ref zQ) (.ref κ) >>= _)) _ >>= _) _ _ _;refine Rv (VQ (SN (Rv (uM I3 GZ LA (by have:=hr.units;show X.A.units+1+4<Ve;lia) ?_))));refine Rv (SN (Vj ?_));refine Rv (UH (RD ?_));have Ob:s2.1.IsListIter I l (j+1):=⟨oI,GY,zJ,BK⟩;by_cases xC:keyLt (key j) (key i)=Bz
   .simp only[xC,if_true];obtain⟨c2,yC⟩:∃c2,(s2.1.update S (SQ λ_=>#[v,.ref zQ])).get? S=A? (seqObj "list" #[v,.ref zQ] c2):=⟨_,get?_update_seq DX λ_=>#[v,.ref zQ]⟩;have sb:=Ta s2.1 S (SQ λ_=>#[v,.ref zQ]);refine Rv ?_;refine Tx DX rfl (Rv (UH ?_));rw[zf];refine RD ⟨UO TU _,ih (j+1) j H2 _ v zQ c2 (by lia) (by lia) ⟨I3.turned (it:=S) (λb o hn e=>(sb.2 b hn).trans e) zR.1 zR.2.1 zR.2.2.2.1 zR.2.2.2.2.1 zR.2.2.2.2.2,GX,zR,⟨oI,(sb.2 I Jf).trans GY,zJ,BK⟩,yC,Lz,⟨x,hx,rx⟩,GZ⟩ λj' DW=>?_⟩;by_cases e:j'=j
    .rw[e];exact dA _
    .have h1:=hb j' (by lia);cases h2:keyLt (key j') (key j)with
     |false=>rfl
     |true=>rw[keyLt_trans h2 xC]at h1;cases h1
   .simp only[xC,if_false];refine Rv (UH ?_);rw[zf];refine RD ⟨UO TU _,ih (j+1) i H2 _ vb κ c (by lia) (by lia) ⟨I3,GX,zR,Ob,DX,Lz,M.rv,LA⟩ λj' DW=>?_⟩;by_cases e:j'=j
    .rw[e];cases h2:keyLt (key j) (key i)with
     |false=>rfl
     |true=>exact Yd h2 xC
    .exact hb j' (by lia)
theorem tq(hc:X.calm=Bz)(hr:Room (k+1) X.A)(hl:H0 l=A? (.lst ws))(xx:0<ws.length)(F:pD X.prog X.w X.K X.mg X.base CX0 k q sp)(I0:Inv X Y σ H0 s)
 (turn:∀i x H,ws[i]?=A? x->Same H0 H->sp [x] H (λr H'=>∃κ,r=.ref κ/\Same H H'/\jC H' κ (key i)) E0)
 (hR:∀i x vb H s,Inv X Y σ H s->Same H0 H->ws[i]?=A? x->RelV x vb->(∀j,j<ws.length->keyLt (key j) (key i)=C?)->Q vb s) :
 RQ (R7 X.prog X.w) X.A (call (.builtin "min") [.ref l] [(RF "key",.ref q)]) Q E s:=by
 have zf:(toString "min"++toString ".loop":String)="min.loop":=by decide
 obtain⟨its,rv,pl,_⟩:=I0.list (Yg hl);have hlen:=rv.length;obtain⟨ol,Oc,_⟩:=id pl.isList;have Q7:l<s.1.1.size:=RY Oc;refine kmk_tree PySem.F.kind_min PySem.F.plain_min PySem.F.entry_min (kmk_min_key _ _) ?_;show RQ _ X.A.in1 (Builtin.Builtins.bindParams "min" ["key","default"] 0 ⟨[],[(RF "key",.ref q)]⟩ >>= _) _ _ s;refine Rv (wpAny_of_eq (show Builtin.Builtins.bindParams "min" ["key","default"] 0 ⟨[],[(RF "key",.ref q)]⟩=pure [A? (.ref q),B?]from rfl) ?_);refine Rv (RD ?_);refine Rv (wpAny_pyIter_list pl.isList ?_);refine Rv (wpAny_newList ?_ (Sn _));rw[zf];have hS:(s.1.push {cls:=.type "list_iterator",data:=.fields #[.ref l,.int 0 0]}).objs.size=s.1.1.size+1:=size_push' ..;have ES:(s.1.push {cls:=.type "list_iterator",data:=.fields #[.ref l,.int 0 0]}).objs.size≠s.1.1.size:=by rw[hS];exact US (UK _)
 refine RD ⟨UO TU _,?_⟩
 have gI:((s.1.push {cls:=.type "list_iterator",data:=.fields #[.ref l,.int 0 0]}).push (seqObj "list" #[] 0)).get? s.1.1.size=A? {cls:=.type "list_iterator",data:=.fields #[.ref l,.int 0 0]} :=
  RB _ (RJ _ rfl)
 have gS:((s.1.push {cls:=.type "list_iterator",data:=.fields #[.ref l,.int 0 0]}).push (seqObj "list" #[] 0)).get? (s.1.push {cls:=.type "list_iterator",data:=.fields #[.ref l,.int 0 0]}).objs.size=A? (seqObj "list" #[] 0):=RJ _ rfl;have I1:Inv X Y σ H0 {s with heap:=(s.1.push {cls:=.type "list_iterator",data:=.fields #[.ref l,.int 0 0]}).push (seqObj "list" #[] 0),toks:=s.toks}:=I0.kept (t':=s.toks) λb u e=>RB _ (RB _ e);have fI:FpOk X Y H0 s.1.1.size:=I0.fpOk (RI _) (I0.hok.fresh (RI _))
 have fS:FpOk X Y H0 (s.1.push {cls:=.type "list_iterator",data:=.fields #[.ref l,.int 0 0]}).objs.size:=by
  have h:s.1.1.size<=(s.1.push {cls:=.type "list_iterator",data:=.fields #[.ref l,.int 0 0]}).objs.size:=by rw[hS];lia
  exact I0.fpOk h (I0.hok.fresh h)
 have Od:=(I1.list (Yg hl));obtain⟨its,rv,pl,_⟩:=Od;have hlen:=rv.length;generalize(s.1.push {cls:=.type "list_iterator",data:=.fields #[.ref l,.int 0 0]}).objs.size=S at*;generalize s.1.1.size=I at*;have W:=Walks.list (prog:=X.prog) (w:=X.w) (A:=X.A.in1) hr.hd I l (λz=>by have:=fI.1;rw[<-z,hl]at this;cases this) its.toArray;refine UC WW ?_;rw[Ug TU _];show RQ _ X.A.in1 (seqItems? (.ref _) >>= _) _ _ _;refine Rv (Tc gS rfl ?_);show RQ _ X.A.in1 (tryCatch (UZ (.ref I)) _ >>= _) _ _ _;refine Rv (VQ (W.item 0 _ _ _ (by rw[RO];lia) ⟨⟨_,gI,rfl,rfl⟩,pl.isList⟩ λv h' Fc hP AO xE=>?_));have hv:its[0]?=A? v:=by simpa using hP
 obtain⟨x,hx,rx⟩:∃x,ws[0]?=A? x/\RelV x v:=by
  obtain⟨x,hx⟩:∃x,ws[0]?=A? x:=⟨_,RA xx⟩;obtain⟨v',h1,h2⟩:=rv.get hx;rw[hv]at h1;cases h1;exact⟨x,hx,h2⟩
 have I2:=I1.turned (h':=h') (t':=Fc) (it:=I) (λb o xC e=>xE b o (by simpa using xC) e) fI.1 fI.2.1 fI.2.2.2.1 fI.2.2.2.2.1 fI.2.2.2.2.2;have Oe:=xE S _ (by simpa using ES) gS;obtain⟨oI,Jg,zJ,BK⟩:=id AO.1;show RQ _ X.A.in1 (tryCatch (Xi [v] (call (.ref q) [v])) _ >>= _) _ _ _;refine Rv (VQ (SN (l3 hc hr F I2 fI fS Jg Oe (λz e=>by rw[BK]at e;cases e) (λz e=>by cases e) rx (turn 0 x H0 hx (λ_ _ e=>e)) λzQ H2 s2 I3 GX zR GY DX Fd GZ=>?_)));obtain⟨c2,yC⟩:∃c2,(s2.1.update S (SQ λ_=>#[v,.ref zQ])).get? S=A? (seqObj "list" #[v,.ref zQ] c2):=⟨_,get?_update_seq DX λ_=>#[v,.ref zQ]⟩;have sb:=Ta s2.1 S (SQ λ_=>#[v,.ref zQ]);show RQ _ X.A.in1 (WC S (λ_=>#[v,.ref zQ]) >>= _) _ _ _;refine Rv ?_;refine Tx DX rfl ?_;rw[zf];refine RD ⟨UO TU _,rO hc hr ES.symm hl F turn hR _ 1 0 H2 _ v zQ c2 rfl xx ⟨I3.turned (it:=S) (λb o hn e=>(sb.2 b hn).trans e) zR.1 zR.2.1 zR.2.2.2.1 zR.2.2.2.2.1 zR.2.2.2.2.2,GX,zR,⟨oI,(sb.2 I ES.symm).trans GY,zJ,BK⟩,yC,Fd,⟨x,hx,rx⟩,GZ⟩ λj' DW=>?_⟩;have e:j'=0:=by lia
 rw[e];exact dA _
end
inductive uk(X:Cx)(k:Nat)(vs:List V)(f:V)(H2:Hp)(Q:VK):Prop
 |mk (l q:Ry) (ws:List V) (key:Nat->Int×List Int) (sp:Sp) (e1:vs=[.ref l]) (e2:f=.ref q) (hl:H2 l=A? (.lst ws)) (hn:0<ws.length) (F:pD X.prog X.w X.K X.mg X.base CX0 k q sp)
  (turn:∀i x H,ws[i]?=A? x->Same H2 H->sp [x] H (λr H'=>∃κ,r=.ref κ/\Same H H'/\jC H' κ (key i)) E0)
  (hR:∀i x H',ws[i]?=A? x->Same H2 H'->(∀j,j<ws.length->keyLt (key j) (key i)=C?)->Q x H'):uk X k vs f H2 Q
def wy(X:Cx)(k:Nat)(t:TA)(tf:TE):TE:=λσ H Q=>t σ H λvs H1=>tf σ H1 λf H2=>uk X k vs f H2 Q
theorem sJ{X:Cx}{k:Nat}{f:Su}{t:TA}{tf:TE}{p kp:UX}(hc:X.calm=Bz)(hr:Room (k+1) X.A)(hg:Gl X "min")(hm:X.mg "min"=B?)(ha:PA X [e] t)(hf:PE X f tf)
 (h1:UP pos (Sk [e] X.env)=(C?,TN e X.env)::UP pos (Sk [] X.env):=by rfl) (h2:(UP pos (Sk [e] X.env)).any (·.1)=false:=by rfl) :
 PE X (.Call (.Name "min" p) [e] [⟨A? "key",f,kp⟩] pos) (wy X k t tf):=by
 intro Y s σ H Q I h;refine SX (cy I hg hm boot_min ?_);refine callWith_kw (thn (ha pos Y s σ H _ I h) λus s1⟨vs,H1,I1,r1,q1⟩=>kws_cons (thn (hf Y s1 σ H1 _ I1 q1) λu2 s2⟨f',H2,I2,r2,q2⟩=>kws_nil ?_)) h1 h2;obtain⟨l,q,ws,key,sp,rfl,rfl,hl,hn,F,turn,hR⟩:=q2;obtain⟨u,rfl,ru⟩:=vals1 r1;obtain rfl:u=Sg l:=ru;obtain rfl:u2=Sg q:=r2;exact tq hc hr hl hn F I2 turn λi x vb H3 s3 I3 sm hx rx hb=>⟨x,H3,I3,rx,hR i x H3 hx sm hb⟩
theorem qM{acc:List Rz}:∀(n k:Nat),acc.length=n->(∀i v,acc[i]?=A? v->∃t,v=Value.int ((k+i:Nat):Int) t)->Vals ((Vf k n).map λ(i:Nat)=>Yh (i:Nat)) acc:=by
 induction acc with
 |nil=>intro n k hn _;subst hn;exact .nil
 | cons a acc ih =>
   intro n k hn h;subst hn;rw[RV,List.range'_succ,R6];refine .cons ?_ (ih _ (k+1) rfl λi v hv=>?_)
   .obtain⟨t,e⟩:=h 0 a rfl;exact⟨t,e⟩
   .obtain⟨t,e⟩:=h (i+1) v hv;refine⟨t,?_⟩;rw[e];congr 2;lia
section
variable{X:Cx}{t:TA}{p p2 xq:UX}
end
section
variable{X:Cx}
theorem wv:PIp X .BitOr (ipI λi j=>Ua i j):=by
 intro Y s σ H x y v u Q I r1 r2 h;obtain⟨i,j,e1,e2,q⟩:=h;subst e1;subst e2;obtain⟨t,rfl⟩:=r1;obtain⟨t',rfl⟩:=r2;exact ior_int ⟨.int _,H,I.tok _,⟨_,rfl⟩,q⟩
end
def uu(t:TA):TE:=λσ H Q=>t σ H λvs H1=>∃i j:Nat,vs=[.int (i:Nat),.int (j:Nat)]/\j<=1000000/\i<=1000000/\∀l:Ry,H1 l=B?->Q (.ref l) (upd H1 l (.lst ((Vf i (j - i)).map λ(i:Nat)=>Yh (i:Nat))))
section
variable{X:Cx}{e1 e2:Su}{t:TA}{p p2 xq:UX}
theorem qf(hc:X.calm=Bz)(g1:Gl X "list")(m1:X.mg "list"=B?)(g2:Gl X "range")(m2:X.mg "range"=B?)(ha:PA X [e1,e2] t)
 (h1:Sk [.Call (.Name "range" p2) [e1,e2] [] xq] X.env=[(C?,TN (.Call (.Name "range" p2) [e1,e2] [] xq) X.env)]:=by rfl) (h2:Sk [e1,e2] X.env=(C?,TN e1 X.env)::Sk [e2] X.env:=by rfl) (h3:(UP xq (Sk [e2] X.env)).any (·.1)=false:=by rfl) :
 PE X (.Call (.Name "list" p) [.Call (.Name "range" p2) [e1,e2] [] xq] [] pos) (uu t):=by
 intro Y s σ H Q I h;refine SX (cy I g1 m1 boot_list (SR ?_ h1 rfl));rw[h1];show RQ _ _ (spliced ((C?,TN (.Call (.Name "range" p2) [e1,e2] [] xq) X.env)::[])) _ _ s;refine TQ ?_;refine SX (cy I g2 m2 boot_range (SR (thn (ha xq Y s σ H _ I h) λus s2⟨vs,H2,I2,r,i,j,ev,hj,hi,q⟩=>?_) h2 h3));subst ev;obtain⟨u,u',rfl,⟨ti,rfl⟩,⟨tu,rfl⟩⟩:=vals2 r;refine call_range_2 (Ui ?_);have hh:X.A.handled=none:=I2.ok.hd hc
 have hs:Builtin.Range.rangeSize (i:Nat) (j:Nat) 1=((j - i:Nat):Int):=by
  rw[rangeSize_one];split <;> lia
 refine call_list_range hh (IsRange.new ..) (small_one (by lia) (by lia) (by lia) (by lia)) hs (by lia) λh' tk acc c hk hS xr=>?_;have I3:Inv X Y σ H2 {s2 with heap:=s2.1.push {cls:=.type "range",data:=.fields #[.int (i:Nat) ti,.int (j:Nat) tu,.int 1 s2.toks]},toks:=s2.toks+1}:=I2.kept λb o e=>RB _ e;refine⟨.ref (s2.1.push {cls:=.type "range",data:=.fields #[.int (i:Nat) ti,.int (j:Nat) tu,.int 1 s2.toks]}).objs.size,_,?_,CA,q _ (I3.hok.fresh (RI _))⟩;refine I3.laid (t':=tk) hk (RI _) ⟨by rw[Rw,List.length_range'];exact Ss (show j - i<=1000000 by lia) (by decide),acc.toList,c,?_,hS⟩;obtain⟨hsz,hit⟩:=xr
 exact qM (acc:=acc.toList) (j - i) i (by rw[Sd];exact hsz) λn v hv=>by
  rw[U6]at hv;obtain⟨t,e⟩:=hit n v hv;refine⟨t,?_⟩;rw[e];congr 1;lia
end
end L2
namespace BB
open PySem L2
def Ars(ar:R1->Nat)(t:Th):Prop:=∀n ks,Zi n ks∈t.walk->ks.length=ar n
theorem jp{t u:Th}(h:u∈t.kids):∀x∈u.walk,x∈t.walk:=λx hx=>by
 rw[t.walk_eq];refine RT _ ?_
 have:∀ts:List Th,u∈ts->x∈walks ts:=by
  intro ts;induction ts with
  |nil=>intro z;cases z
  | cons a ts ih =>
    intro z;rw[walks];rcases RR.mp z with rfl|z
    .exact RL _ hx
    .exact R5 _ (ih z)
 exact this _ h
theorem Ars.kids{t u:Th}(h:Ars ar t)(hu:u∈t.kids):Ars ar u:=λn ks m=>h n ks (jp hu _ m)
theorem Ars.len{n:R1}{ks:List Th}(h:Ars ar (.knot n ks)):ks.length=ar n:=h n ks (by rw[Zm];exact RX ..)
structure hG(Ls:List Th)(p u:Th)(es:CLs):Prop where
 nd:(es.map (·.1)).Nodup
 ok:∀e∈es,(∃w:Nat,e.2=(w:Int)/\w<Ls.length)/\Yi e.1.1 e.1.2∈p.walk
 iff:∀g:Int->Int->Th,p.fill g=u↔∀e∈es,Ls[e.2.toNat]?=A? (g e.1.1 e.1.2)
structure NeedI(Ls:List Th)(p u:Th)(es:CLs)(As:List (Th×Nat)):Prop where
 nd:(es.map (·.1)).Nodup
 ok:∀e∈es,(∃w:Nat,e.2=(w:Int)/\w<Ls.length)/\Yi e.1.1 e.1.2∈p.walk
 iff:∀g:Int->Int->Th,p.fill g=u↔(∀e∈es,Ls[e.2.toNat]?=A? (g e.1.1 e.1.2))/\∀a∈As,Ls[a.2]?=A? (a.1.fill g)
 sub:∀a∈As,∀x∈a.1.walk,x∈p.walk
 ix:∀a∈As,a.2<Ls.length
theorem NeedI.start{u:Th}(h:Ls[n]?=A? u):NeedI Ls p u [] [(p,n)] :=
 ⟨by simp,(by intro e he;cases he),λg=>by
  constructor
  .intro e;refine⟨(by intro e he;cases he),λa ha=>?_⟩;rw[RC.mp ha];show Ls[n]?=A? (p.fill g);rw[e];exact h
  .rintro⟨_,h2⟩;have:=h2 _ (RC.mpr rfl);dsimp only at this;rw[h]at this;exact(RN this).symm,λa ha x hx=>by rw[RC.mp ha]at hx;exact hx,λa ha=>by rw[RC.mp ha];exact(glE h)⟩
theorem NeedI.done{u:Th}(h:NeedI Ls p u es []):hG Ls p u es:=⟨h.nd,h.ok,λg=>(h.iff g).trans ⟨λz=>z.1,λz=>⟨z,(by intro a ha;cases ha)⟩⟩⟩
theorem cX{P:α->Prop}{a:α}:(∀x∈l++[a],P x)↔(∀x∈l,P x)/\P a :=
 ⟨λh=>⟨λx hx=>h x (RL _ hx),h a (by simp)⟩,λh x hx=>by
  rcases RM.mp hx with hx|hx
  .exact h.1 x hx
  .rw[RC.mp hx];exact h.2⟩
theorem NeedI.put{u:Th}{s k:Int}{w:Nat}(h:NeedI Ls p u es (As++[(.call s k,w)]))(hn:cF es (s,k)=B?):NeedI Ls p u (dC es (s,k) (w:Int)) As:=by
 have hk:=pY hn;have e:dC es (s,k) (w:Int)=es++[((s,k),(w:Int))]:=by unfold dC;rw[Za hk]
 refine⟨jr h.nd _ _,?_,λg=>?_,λa ha=>h.sub a (RL _ ha),λa ha=>h.ix a (RL _ ha)⟩
 .rw[e];exact cX.mpr ⟨h.ok,⟨w,rfl,h.ix (.call s k,w) (by simp)⟩,h.sub (.call s k,w) (by simp) _ (by rw[Zm];exact RX ..)⟩
 .rw[h.iff g,e,cX,cX,Th.fill];dsimp only;rw[RU];exact⟨λ⟨a,b,c⟩=>⟨⟨a,c⟩,b⟩,λ⟨⟨a,c⟩,b⟩=>⟨a,b,c⟩⟩
theorem NeedI.same{u:Th}{s k:Int}{w:Nat}(h:NeedI Ls p u es (As++[(.call s k,w)]))(hn:cF es (s,k)=A? (w:Int)):NeedI Ls p u es As:=by
 refine⟨h.nd,h.ok,λg=>?_,λa ha=>h.sub a (RL _ ha),λa ha=>h.ix a (RL _ ha)⟩;rw[h.iff g,cX,Th.fill];refine⟨λ⟨a,b,c⟩=>⟨a,b⟩,λ⟨a,b⟩=>⟨a,b,?_⟩⟩;have:=a _ (eh hn);dsimp only at this;rw[RU]at this;exact this
theorem NeedI.clash{u:Th}{s k v:Int}{w:Nat}(yx:Ls.Nodup)(h:NeedI Ls p u es (As++[(.call s k,w)]))(hn:cF es (s,k)=A? v)(hv:v≠(w:Int)):∀g,p.fill g≠u:=λg e=>by
 obtain⟨a,b⟩:=(h.iff g).mp e;have h1:=a _ (eh hn);have h2:=(cX.mp b).2;obtain⟨⟨w',e',_⟩,_⟩:=h.ok _ (eh hn);dsimp only at h1 h2 e';rw[Th.fill]at h2;rw[e',RU]at h1;have:=cY yx h1 h2;lia
theorem jO{g:Int->Int->Th}:∀{ks kids:List Th}{ids:List Nat},Sb (λid u=>Ls[id]?=A? u) ids kids->ks.length=kids.length->(fills g ks=kids↔∀a∈ks.zip ids,Ls[a.2]?=A? (a.1.fill g))
 | [],[],_,.nil,_=>by
   rw[fills];exact⟨λ_=>(by intro a ha;simp at ha),λ_=>rfl⟩
 | [],_::_,_,_,h=>by cases h
 |_::_,[],_,_,h=>by cases h
 | x::ks,y::kids,_::ids,.cons h t,hl=>by
   rw[fills,Wl,List.cons.injEq,jO t (by simpa using hl)];constructor
   .rintro⟨h1,h2⟩ a ha;rcases RR.mp ha with rfl|ha
    .dsimp only;rw[h1];exact h
    .exact h2 a ha
   .intro q;refine⟨?_,λa ha=>q a (RT _ ha)⟩;have:=q _ (RX ..);dsimp only at this;rw[h]at this;exact(RN this).symm
theorem NeedI.knot{u:Th}{n:R1}{ks kids:List Th}{w:Nat}(h:NeedI Ls p u es (As++[(.knot n ks,w)]))(hw:Ls[w]?=A? (.knot n kids))(hp:Sb (λid u=>Ls[id]?=A? u) ids kids)(hl:ks.length=kids.length):NeedI Ls p u es (As++ks.zip ids):=by
 refine⟨h.nd,h.ok,λg=>?_,λa ha x hx=>?_,λa ha=>?_⟩
 .rw[h.iff g,cX,Th.fill];dsimp only;rw[hw,Option.some.injEq,Th.knot.injEq,eq_comm (a:=kids),jO hp hl];refine⟨λ⟨a,b,_,c⟩=>⟨a,λx hx=>(RM.mp hx).elim (b x) (c x)⟩,λ⟨a,b⟩=>⟨a,λx hx=>b x (RL _ hx),CA,λx hx=>b x (R5 _ hx)⟩⟩
 .rcases RM.mp ha with ha|ha
  .exact h.sub a (RL _ ha) x hx
  .exact h.sub (.knot n ks,w) (by simp) x (jp (t:=.knot n ks) (Vq ha).1 x hx)
 .rcases RM.mp ha with ha|ha
  .exact h.ix a (RL _ ha)
  .obtain⟨i,hi⟩:=RS.mp (Vq ha).2;obtain⟨y,_,e⟩:=Zl hp hi;exact(glE e)
theorem NeedI.other{u:Th}{n n':R1}{ks kids:List Th}{w:Nat}(h:NeedI Ls p u es (As++[(.knot n ks,w)]))(hw:Ls[w]?=A? (.knot n' kids))(hn:n≠n'):∀g,p.fill g≠u:=λg e=>by
 have h2:=(cX.mp ((h.iff g).mp e).2).2;dsimp only at h2;rw[hw,Th.fill]at h2;injection h2 with h2;injection h2 with h2 _;exact hn h2.symm
theorem j5:∀(ks:List Th)(ids:List Nat),ids.length=ks.length->au ((ks.zip ids).map (·.1))=au ks
 | [],_,_=>by rw[List.zip_nil_left];rfl
 |_::_,[],h=>by cases h
 |k::ks,i::ids,h=>by rw[Wl,R6,au,au,j5 ks ids (by simpa using h)]
theorem fB(ts:List Th):ts.length<=au ts:=by
 induction ts with
 |nil=>exact Sn _
 | cons t ts ih =>
   have:=t.size_pos;rw[au,RV];lia
def NdAt(H:Hp)(a:Th×Nat)(b:Ry):Prop:=∃pa,H b=A? (.tup [.ref pa,.int (a.2:Nat)])/\At H a.1 pa
theorem NdAt.mono(k:KT H H'){a:Th×Nat}(h:NdAt H a b):NdAt H' a b:=by
 obtain⟨pa,h1,h2⟩:=h;exact⟨pa,k _ _ h1,h2.mono k⟩
def nW(i:Nat):V:=.int (i:Nat)
def RowE(H:Hp)(c:Cand)(kv:Key×V):Prop:=kv.1=Sj c.b/\∃a ka,kv.2=.ref a/\H a=A? (.tup [.int c.n,.ref ka])/\H ka=A? (.tup (c.ks.map nW))
theorem RowE.mono(k:KT H H'){c:Cand}{kv:Key×V}(h:RowE H c kv):RowE H' c kv:=by
 obtain⟨h1,a,ka,h2,h3,h4⟩:=h;exact⟨h1,a,ka,h2,k _ _ h3,k _ _ h4⟩
def cz(H:Hp)(d:Ry)(D:List Cand):Prop:=∃kvs,H d=A? (.dK kvs)/\Sb (RowE H) D kvs
theorem kf:∀{D:List Cand}{kvs:List (Key×V)},Sb (RowE H) D kvs->kvs.map (·.1)=D.map λc=>(Sj c.b:Key)
 | [],_,.nil=>rfl
 |c::D,_,.cons h t=>by rw[R6,R6,kf t,h.1]
theorem jT:∀{l:List Int},l.Nodup->(l.map λb=>(Sj b:Key)).Nodup
 | [],_=>by simp
 | x::l,h=>by
   rw[Sz]at h;rw[R6,Sz];refine⟨λz=>?_,jT h.2⟩;obtain⟨y,hy,e⟩:=RP.mp z;exact h.1 (Wv e ▸ hy)
theorem lV[DecidableEq κ]{kvs:List (κ×V)}{k:κ}(h:k∉kvs.map (·.1)):putK kvs k v=kvs++[(k,v)]:=by
 unfold putK;rw[Za];intro z;obtain⟨x,hx,e⟩:=VN.mp z;exact h (RP.mpr ⟨x,hx,Zc e⟩)
theorem lL[DecidableEq κ]{kvs:List (κ×V)}(nd:(kvs.map (·.1)).Nodup){k:κ}{u:V}(h:kvs[i]?=A? (k,u)):putK kvs k v=kvs.set i (k,v):=by
 unfold putK;rw[Yb (VN.mpr ⟨_,Rx h,Yc rfl⟩)];refine U9 λj=>?_;rw[RG,XS];by_cases z:i=j
 .subst z;rw[Yb rfl,Yb (glE h),h];show A? (if k=k then(k,v)else(k,u))=_;rw[Yb rfl]
 .rw[Za z];cases hj:kvs[j]? with
  |none=>rfl
  | some x =>
    show A? (if x.1=k then(x.1,v)else x)=A? x;rw[Za];intro e;have h1:(kvs.map (·.1))[i]?=A? k:=by rw[RG,h];rfl
    have h2:(kvs.map (·.1))[j]?=A? k:=by rw[RG,hj,<-e];rfl
    exact z (cY nd h1 h2)
theorem iQ[DecidableEq κ]{kvs:List (κ×V)}{k:κ}(h:br kvs k=B?):k∉kvs.map (·.1):=λz=>by
 induction kvs with
 |nil=>cases z
 | cons p r ih =>
   by_cases e:p.1=k
   .rw[dG e]at h;cases h
   .rw[dD e]at h;rw[R6]at z;rcases RR.mp z with z|z
    .exact e z.symm
    .exact ih h z
theorem t4{F:α->β->Prop}:∀{a:List α}{b:List β},Sb F a b->∀(i:Nat){x:α}{y:β},F x y->Sb F (a.set i x) (b.set i y)
 |_,_,.nil,_,_,_,_=>.nil
 |_,_,.cons h t,0,_,_,f=>.cons f t
 |_,_,.cons h t,i+1,_,_,f=>.cons h (t4 t i f)
structure Kept(D:List Cand)(c:Cand)(D':List Cand):Prop where
 len:D'.length<=D.length+1
 least:∀S,Least S D->Least (λx=>S x\/x=c) D'
theorem lk0{a:R1}{r:List (R1×V)}:((a,v)::r).lookup a=A? v:=by rw[Tu,beq_self_eq_true]
theorem lk1{a b:R1}{r:List (R1×V)}(h:(a == b)=C?):((b,v)::r).lookup a=r.lookup a:=by rw[Tu,h]
theorem bO{f g:R1}{u:V}{r:List (R1×V)}(h:(f == g)=C?):aF f v ((g,u)::r)=(g,u)::aF f v r:=by
 have h':¬g=f:=λz=>by rw[z,beq_self_eq_true]at h;cases h
 rw[aF,Za h']
def wyF(nm:R1)(pl nl al:Ry):List (R1×V):=[(RF "kind_name",.str nm),(RF "pairs",.ref pl),(RF "needing",.ref nl),(RF "agreeing",.ref al)]
theorem vZ:(wyF nm pl nl al).lookup (RF "kind_name")=A? (.str nm):=lk0
theorem oB:(wyF nm pl nl al).lookup (RF "pairs")=A? (.ref pl):=(lk1 (by decide +kernel)).trans lk0
theorem qY:(wyF nm pl nl al).lookup (RF "needing")=A? (.ref nl):=(lk1 (by decide +kernel)).trans ((lk1 (by decide +kernel)).trans lk0)
theorem ow:(wyF nm pl nl al).lookup (RF "agreeing")=A? (.ref al):=(lk1 (by decide +kernel)).trans ((lk1 (by decide +kernel)).trans ((lk1 (by decide +kernel)).trans lk0))
theorem eu{m:R1}(h1:(m == RF "kind_name")=false:=by decide +kernel)(h2:(m == RF "pairs")=false:=by decide +kernel)(h3:(m == RF "needing")=false:=by decide +kernel)(h4:(m == RF "agreeing")=false:=by decide +kernel):(wyF nm pl nl al).lookup m=B? :=
 (lk1 h1).trans ((lk1 h2).trans ((lk1 h3).trans ((lk1 h4).trans rfl)))
theorem sF(nm:R1)(pl nl al:Ry):aF (RF "agreeing") (.ref al) (aF (RF "needing") (.ref nl) (aF (RF "pairs") (.ref pl) (aF (RF "kind_name") (.str nm) [])))=wyF nm pl nl al:=by
 have e1:∀(f:R1)(v:V),aF f v []=[(f,v)]:=λf v=>by rw[aF]
 rw[e1,bO (by decide +kernel),e1,bO (by decide +kernel),bO (by decide +kernel),bO (by decide +kernel),e1,bO (by decide +kernel),bO (by decide +kernel),e1];rfl
structure Kd where
 d:Ry
 es:CLs
 a:Ry
 ag:List Int
structure Wy where
 x:Ry
 dx:Ry
 nm:R1
 pl:Ry
 nl:Ry
 al:Ry
 ps:List (Int×Int×Ry)
 ks:List Kd
structure WyAt(C:Ry)(H:Hp)(w:Wy):Prop where
 ins:H w.x=A? (.ins C w.dx (wyF w.nm w.pl w.nl w.al))
 pl:H w.pl=A? (.lst (w.ps.map λq=>Zf q.2.2))
 pr:∀q∈w.ps,H q.2.2=A? (.tup [.int q.1,.int q.2.1])
 nl:H w.nl=A? (.lst (w.ks.map λk=>Zf k.d))
 al:H w.al=A? (.lst (w.ks.map λk=>Zf k.a))
 nd:∀k∈w.ks,H k.d=A? (.dT (dE k.es))
 ag:∀k∈w.ks,H k.a=A? (.lst (k.ag.map Yh))
 n1:w.pl≠w.nl
 n2:w.pl≠w.al
 n3:w.nl≠w.al
 n4:∀k∈w.ks,k.a≠w.pl/\k.a≠w.nl/\k.a≠w.al
 nda:(w.ks.map (·.a)).Nodup
 ndd:(w.ks.map (·.d)).Nodup
def Wy.own(w:Wy):List Ry:=w.x::w.pl::w.nl::w.al::(w.ks.map (·.d)++w.ks.map (·.a))
theorem Wy.own_d{w:Wy}{k:Kd}(h:k∈w.ks):k.d∈w.own:=by unfold Wy.own;simp;exact .inr (.inr (.inr (.inr (.inl ⟨k,h,rfl⟩))))
theorem Wy.own_a{w:Wy}{k:Kd}(h:k∈w.ks):k.a∈w.own:=by unfold Wy.own;simp;exact .inr (.inr (.inr (.inr (.inr ⟨k,h,rfl⟩))))
theorem WyAt.keep{w:Wy}(h:WyAt C H w)(k:KT H H')(f:∀b∈w.own,∀o,H b=A? o->H' b=A? o):WyAt C H' w :=
 ⟨f _ (by simp[Wy.own]) _ h.ins,f _ (by simp[Wy.own]) _ h.pl,λq hq=>k _ _ (h.pr q hq),f _ (by simp[Wy.own]) _ h.nl,f _ (by simp[Wy.own]) _ h.al,λkd hk=>f _ (Wy.own_d hk) _ (h.nd kd hk),λkd hk=>f _ (Wy.own_a hk) _ (h.ag kd hk),h.n1,h.n2,h.n3,h.n4,h.nda,h.ndd⟩
theorem WyAt.same{w:Wy}(h:WyAt C H w)(s:Ye H H'):WyAt C H' w:=h.keep (Zg s) λb _ o e=>s b o e
abbrev bI:=Int×Int×CLs
structure NeedT(Ws:List bI)(k:Nat)(es:CLs):Prop where
 nd:(es.map (·.1)).Nodup
 rng:∀e∈es,0<=e.2/\e.2<2 ^ Ws.length
 bit:∀(c w:Int)(i:Nat),(∃e∈es,e.1=(c,w)/\bt e.2 i=Bz)↔∃q,Ws[i]?=A? q/\((c,(k:Int)),w)∈q.2.2
 nz:∀e∈es,e.2≠0
theorem NeedT.nil(k:Nat):NeedT [] k []:=⟨by simp,(by intro e h;cases h),λc w i=>⟨λ⟨e,h,_⟩=>(by cases h),λ⟨q,h,_⟩=>(by simp at h)⟩,(by intro e h;cases h)⟩
theorem aI{a b:α}:(l++[a])[i]?=A? b↔l[i]?=A? b\/(i=l.length/\a=b):=by
 by_cases h:i<l.length
 .rw[Sl h];exact⟨.inl,λz=>z.elim id λz=>by lia⟩
 .rw[Sx (by lia),Tj (show l.length<=i by lia)];by_cases e:i=l.length
  .subst e;rw[VA];exact⟨λz=>.inr ⟨CA,(by simpa using z)⟩,λz=>z.elim (λy=>(by cases y)) λy=>(by rw[y.2];rfl)⟩
  .rw[Tj (by simp;lia)];exact⟨λz=>(by cases z),λz=>z.elim (λy=>y) λy=>Yd y.1 e⟩
theorem NeedT.more{Ws:List bI}{k:Nat}(h:NeedT Ws k es)(s p:Int):NeedT (Ws++[(s,p,[])]) k es:=by
 refine⟨h.nd,λe he=>⟨(h.rng e he).1,?_⟩,λc w i=>?_,h.nz⟩
 .have h1:=(h.rng e he).2;have h2:=bK Ws.length;have h3:=bK (Ws++[((s,p,[]):bI)]).length;have:2 ^ Ws.length<=2 ^ (Ws++[((s,p,[]):bI)]).length:=Xc (by decide) (by simp);lia
 .rw[h.bit];constructor
  .rintro⟨q,hq,hm⟩;exact⟨q,aI.mpr (.inl hq),hm⟩
  .rintro⟨q,hq,hm⟩;rcases aI.mp hq with hq|⟨_,rfl⟩
   .exact⟨q,hq,hm⟩
   .cases hm
theorem NeedT.other{Ws:List bI}{k:Nat}{L:CLs}{s p:Int}{e:(Int×Int)×Int}(h:NeedT (Ws++[(s,p,L)]) k es)(hk:e.1.2≠(k:Int)):NeedT (Ws++[(s,p,L++[e])]) k es:=by
 refine⟨h.nd,λe' he=>by have:=h.rng e' he;simpa using this,λc w i=>?_,h.nz⟩;rw[h.bit];constructor
 .rintro⟨q,hq,hm⟩;rcases aI.mp hq with hq|⟨hi,rfl⟩
  .exact⟨q,aI.mpr (.inl hq),hm⟩
  .exact⟨_,aI.mpr (.inr ⟨hi,CA⟩),RL _ hm⟩
 .rintro⟨q,hq,hm⟩;rcases aI.mp hq with hq|⟨hi,rfl⟩
  .exact⟨q,aI.mpr (.inl hq),hm⟩
  .rcases RM.mp hm with hm|hm
   .exact⟨_,aI.mpr (.inr ⟨hi,CA⟩),hm⟩
   .have:=RC.mp hm;rw[<-this]at hk;exact Yd rfl hk
theorem NeedT.put{Ws:List bI}{k:Nat}{L:CLs}{s p c w:Int}(h:NeedT (Ws++[(s,p,L)]) k es) :
 NeedT (Ws++[(s,p,L++[((c,(k:Int)),w)])]) k (dC es (c,w) (Ua ((cF es (c,w)).getD 0) (1 * 2 ^ ((Ws.length:Nat):Int).toNat))):=by
 have hp:=bK Ws.length;have yF:=bK (Ws.length+1);have hq:(2:Nat) ^ (Ws.length+1)=2 * 2 ^ Ws.length:=by rw[Nat.pow_succ];lia
 have AW:=V2 Ws.length;have hlen:(Ws++[((s,p,L):bI)]).length=Ws.length+1:=by simp
 have r0:0<=(cF es (c,w)).getD 0/\(cF es (c,w)).getD 0<2 ^ (Ws.length+1):=by
  cases e:cF es (c,w)with
  |none=>exact⟨by decide,by show(0:Int)<_;lia⟩
  | some v =>
    have:=h.rng _ (eh e);rw[hlen]at this;exact this
 have Fe:(1 * 2 ^ ((Ws.length:Nat):Int).toNat:Int)=2 ^ Ws.length:=by rw[Int.one_mul,RU]
 obtain⟨b0,b1,b2⟩:=uh (n:=Ws.length+1) r0.1 (y:=1 * 2 ^ ((Ws.length:Nat):Int).toNat) (by rw[Fe];lia) r0.2 (by rw[Fe];lia);refine⟨jr h.nd _ _,λe he=>?_,λc' w' i=>?_,λe he=>?_⟩
 .rw[RK,R8];rcases fO he with rfl|⟨he,_⟩
  .exact⟨b0,b1⟩
  .have:=h.rng e he;rw[hlen]at this;exact this
 .have old:=h.bit c' w' i;by_cases hk:(c',w')=(c,w)
  .injection hk with e1 e2;subst e1 e2;constructor
   .rintro⟨e,he,e1,e2⟩;rcases fO he with rfl|⟨he,xx⟩
    .rw[b2,Bool.or_eq_true]at e2;rcases e2 with e2|e2
     .cases hg:cF es (c',w')with
      |none=>rw[hg]at e2;exact Yd e2 (by show¬bt 0 i=Bz;rw[lq];decide)
      | some v =>
        rw[hg]at e2;obtain⟨q,hq,hm⟩:=old.mp ⟨_,eh hg,rfl,e2⟩;rcases aI.mp hq with hq|⟨hi,rfl⟩
        .exact⟨q,aI.mpr (.inl hq),hm⟩
        .exact⟨_,aI.mpr (.inr ⟨hi,CA⟩),RL _ hm⟩
     .rw[mW]at e2;exact⟨_,aI.mpr (.inr ⟨(Zc e2).symm,CA⟩),by simp⟩
    .exact Yd e1 xx
   .rintro⟨q,hq,hm⟩;refine⟨_,qa es (c',w') _,CA,?_⟩;rw[b2,Bool.or_eq_true];rcases aI.mp hq with hq|⟨hi,rfl⟩
    .obtain⟨e,he,e1,e2⟩:=old.mpr ⟨q,aI.mpr (.inl hq),hm⟩;have hg:=sV h.nd he;rw[e1]at hg;rw[hg];exact .inl e2
    .rw[mW];exact .inr (Yc hi.symm)
  .constructor
   .rintro⟨e,he,e1,e2⟩;rcases fO he with rfl|⟨he,xx⟩
    .exact Yd e1.symm hk
    .obtain⟨q,hq,hm⟩:=old.mp ⟨e,he,e1,e2⟩;rcases aI.mp hq with hq|⟨hi,rfl⟩
     .exact⟨q,aI.mpr (.inl hq),hm⟩
     .exact⟨_,aI.mpr (.inr ⟨hi,CA⟩),RL _ hm⟩
   .rintro⟨q,hq,hm⟩
    have:∃q,(Ws++[(s,p,L)])[i]?=A? q/\((c',(k:Int)),w')∈q.2.2:=by
     rcases aI.mp hq with hq|⟨hi,rfl⟩
     .exact⟨q,aI.mpr (.inl hq),hm⟩
     .rcases RM.mp hm with hm|hm
      .exact⟨_,aI.mpr (.inr ⟨hi,CA⟩),hm⟩
      .have:=RC.mp hm;simp only[Prod.mk.injEq]at this;exact Yd (by rw[this.1.1,this.2]) hk
    obtain⟨e,he,e1,e2⟩:=old.mpr this;exact⟨e,oU he (by rw[e1];exact hk),e1,e2⟩
 .rcases fO he with rfl|⟨he,_⟩
  .intro z;have:=b2 Ws.length;rw[mW,Yc rfl,Bool.or_true]at this;dsimp only at z;rw[z,lq]at this;cases this
  .exact h.nz e he
def Agr(Ws:List bI)(note:List Int)(k i:Nat):Prop:=∃q,Ws[i]?=A? q/\∀c w:Int,((c,(k:Int)),w)∈q.2.2->note[c.toNat]?=A? w
structure Agst(es:CLs)(note:List Int)(N j:Nat)(x:Int):Prop where
 rng:0<=x/\x<2 ^ N
 bit:∀i,bt x i=Bz↔∃e∈es.take j,note[e.1.1.toNat]?≠A? e.1.2/\bt e.2 i=Bz
theorem Agst.zero(es:CLs)(note:List Int)(N:Nat):Agst es note N 0 0:=by
 have h1:=V2 N;have h2:=bK N;exact⟨⟨by decide,by lia⟩,λi=>by rw[lq,Uo];exact⟨λz=>(by cases z),λ⟨e,he,_⟩=>(by cases he)⟩⟩
theorem Agst.step{note:List Int}{N:Nat}{x:Int}{e:(Int×Int)×Int}(h:Agst es note N j x)(he:es[j]?=A? e)(hr:0<=e.2/\e.2<2 ^ N):(note[e.1.1.toNat]?=A? e.1.2->Agst es note N (j+1) x)/\(note[e.1.1.toNat]?≠A? e.1.2->Agst es note N (j+1) (Ua x e.2)):=by
 have ht:es.take (j+1)=es.take j++[e]:=by rw[TY,he];rfl
 refine⟨λhn=>⟨h.rng,λi=>?_⟩,λhn=>?_⟩
 .rw[h.bit,ht];constructor
  .rintro⟨e',xH,g⟩;exact⟨e',RL _ xH,g⟩
  .rintro⟨e',xH,g⟩;rcases RM.mp xH with xH|xH
   .exact⟨e',xH,g⟩
   .rw[RC.mp xH]at g;exact Yd hn g.1
 .obtain⟨b0,b1,b2⟩:=uh h.rng.1 hr.1 h.rng.2 hr.2;refine⟨⟨b0,b1⟩,λi=>?_⟩;rw[b2,Bool.or_eq_true,h.bit,ht];constructor
  .rintro(⟨e',xH,g⟩|g)
   .exact⟨e',RL _ xH,g⟩
   .exact⟨e,by simp,hn,g⟩
  .rintro⟨e',xH,g⟩;rcases RM.mp xH with xH|xH
   .exact .inl ⟨e',xH,g⟩
   .rw[RC.mp xH]at g;exact .inr g.2
theorem Agst.done{Ws:List bI}{k:Nat}{note:List Int}{x:Int}(h:Agst es note Ws.length es.length x)(hN:NeedT Ws k es):0<=SH (ones Ws.length) (S9 x)/\∀i,bt (SH (ones Ws.length) (S9 x)) i=Bz↔Agr Ws note k i:=by
 obtain⟨b0,b1⟩:=rV h.rng.1 h.rng.2;refine⟨b0,λi=>?_⟩;rw[b1,UM,decide_eq_true_iff,XY,<-Bool.not_eq_true,h.bit,T3];constructor
 .rintro⟨hi,xu⟩;refine⟨Ws[i],RA hi,λc w hm=>?_⟩;obtain⟨e,he,e1,e2⟩:=(hN.bit c w i).mpr ⟨_,RA hi,hm⟩;by_cases z:note[c.toNat]?=A? w
  .exact z
  .exact Yd ⟨e,he,by rw[e1];exact z,e2⟩ xu
 .rintro⟨q,hq,xc⟩;refine⟨(glE hq),λ⟨e,he,e1,e2⟩=>?_⟩;obtain⟨q',yq,hm⟩:=(hN.bit e.1.1 e.1.2 i).mp ⟨e,he,rfl,e2⟩;rw[hq]at yq;cases yq;exact e1 (xc _ _ hm)
structure NoteBy(W:List (Int×Int×Ry))(b:Int)(S:Nat)(j:Nat)(note:List Int):Prop where
 len:note.length=S
 at':∀s:Nat,s<S->(∃i q,i<j/\W[i]?=A? q/\q.1=(s:Int)/\bt b i=Bz/\note[s]?=A? q.2.1)\/((∀i q,i<j->W[i]?=A? q->q.1=(s:Int)->bt b i=C?)/\note[s]?=A? (-1))
theorem NoteBy.zero(W:List (Int×Int×Ry))(b:Int)(S:Nat):NoteBy W b S 0 (Sh S (-1)) :=
 ⟨VJ,λs hs=>.inr ⟨λi q h=>by lia,by rw[List.getElem?_replicate,Yb hs]⟩⟩
theorem NoteBy.skip{b:Int}{S:Nat}{note:List Int}{q:Int×Int×Ry}(h:NoteBy W b S j note)(hq:W[j]?=A? q)(hb:bt b j=C?):NoteBy W b S (j+1) note :=
 ⟨h.len,λs hs=>by
  rcases h.at' s hs with⟨i,q',h1,h2⟩|⟨h1,h2⟩
  .exact .inl ⟨i,q',by lia,h2⟩
  .refine .inr ⟨λi q' hi yq zP=>?_,h2⟩;by_cases z:i=j
   .rw[z];exact hb
   .exact h1 i q' (by lia) yq zP⟩
theorem NoteBy.set{b:Int}{S:Nat}{note:List Int}{q:Int×Int×Ry}(h:NoteBy W b S j note)(hq:W[j]?=A? q)(hb:bt b j=Bz)(C1:q.1=(s0:Int)):NoteBy W b S (j+1) (note.set s0 q.2.1) :=
 ⟨by rw[U3];exact h.len,λs hs=>by
  by_cases z:s0=s
  .subst z;exact .inl ⟨j,q,by lia,hq,C1,hb,by rw[SS (by rw[h.len];exact hs)]⟩
  .rw[SU z];rcases h.at' s hs with⟨i,q',h1,h2⟩|⟨h1,h2⟩
   .exact .inl ⟨i,q',by lia,h2⟩
   .refine .inr ⟨λi q' hi yq zP=>?_,h2⟩;by_cases y:i=j
    .subst y;rw[hq]at yq;cases yq;exact Yd (Int.ofNat.inj (C1.symm.trans zP)) z
    .exact h1 i q' (by lia) yq zP⟩
end BB
variable{Ws:List BB.bI}{kd:BB.Kd}{xb:List BB.Kd}
namespace L2
open PySem PySem.Spec PySem.SeqAt PyProof.Rows
section
variable{X:Cx}{o i value:Su}{td ty tv:TE}
end
section
variable{X:Cx}{o i f:Su}{apos xk:UX}{td ty tx:TE}
end
end L2
namespace BB
open PySem L2
theorem gQ(g:fX ins){n:R1}{m:Int}(hj:ins[j]?=A? (n,m)):(ins.map (·.1)).idxOf n=j:=by
 have h1:n∈ins.map (·.1):=RP.mpr ⟨_,Rx hj,rfl⟩;have h2:=List.idxOf_lt_length_iff.mpr h1;have h3:(ins.map (·.1))[(ins.map (·.1)).idxOf n]=n:=List.getElem_idxOf h2;rw[Rw]at h2;rw[List.getElem_map]at h3;exact g.nd _ _ _ _ (RA h2) hj h3
section
variable{mid outs:List (R1×Int)}{S1 S2:Int}{AX AY:Th}{AZ Ba:List (List Th)}
end
section
variable{D:Int->List Int->Bool}{mk f0:Int->Th}
end
end BB
namespace L2
open PySem PySem.Spec PyProof.Rows
def qO(K:RH)(a:Ry):It:=⟨λi H=>∃xs x,SqL K H a xs/\xs[i]?=A? x,λi H x H'=>∃p y,H p=B?/\x=.ref p/\H'=upd H p (.tup [.int (i:Nat),y])/\∀xs,SqL K H a xs->xs[i]?=A? y,λi H=>∃xs,SqL K H a xs/\xs.length=i⟩
theorem no{k1}(a e it:Ry):Turn P w K (.Tuple elts k1 pos) (qO K a) [e,it] e (λi h=>(∃old,IsEnum h e it ((i:Nat):Int) old)/\h.IsListIter it a i) where
 mem:=by simp
 obj:=λi h st b hb=>by
  obtain⟨⟨old,he⟩,o,e1,e2,e3⟩:=st;rcases RR.mp hb with rfl|hb
  .exact⟨_,he,λv z=>by cases z⟩
  .have:b=it:=by simpa using hb
   subst this;exact⟨o,e1,λv z=>by rw[e3]at z;cases z⟩
 keep:=λi h h' st k=>by
  obtain⟨⟨old,he⟩,o,e1,e2⟩:=st;exact⟨⟨old,k e (by simp) _ he⟩,o,k it (by simp) _ e1,e2⟩
 item:=by
  intro X hP hw hK hc i Y s σ H E I hf st hg;subst hP hw hK;obtain⟨xs,x,hq,hx⟩:=hg;obtain⟨its,rv,p,hz⟩:=I.list hq;obtain⟨u,hu,ru⟩:=rv.get hx;obtain⟨⟨old,he⟩,hi⟩:=st
  have CH:e≠it:=by
   rintro rfl;obtain⟨o,e1,e2,_⟩:=hi;rw[he]at e1;cases e1;exact Yd (Tw e2) (by decide)
  have BG:a≠it:=by
   rintro rfl;obtain⟨o,e1,e2,_⟩:=hi;obtain⟨o',Aa,yd,_⟩:=p.isList;rw[Aa]at e1;cases e1;rw[yd]at e2;exact Yd (Tw e2) (by decide)
  have Im:a≠e:=by
   rintro rfl;obtain⟨o',Aa,yd,_⟩:=p.isList;rw[he]at Aa;cases Aa;exact Yd (Tw yd) (by decide)
  have xf:i<its.toArray.size:=by
   have:=(glE hu);simpa using this
  have DN:e<s.1.1.size:=RY he;have yD:it<s.1.1.size:=by obtain⟨o,e1,_⟩:=hi;exact RY e1
  refine wpAny_pyNext_enum_itemD (Draws.list (A:=X.A.in1) (show X.A.in1.handled=B? from I.ok.hd hc) it a BG its.toArray) he ⟨hi,p.isList⟩ xf CH (by simp[CH,Im.symm]) λy h1 tk hy ho Io hT hsz hk=>?_
  have Ip:y=u:=by
   have:its[i]?=A? y:=by simpa using hy
   rw[hu]at this;exact(RN this).symm
  subst Ip;refine⟨_,CA,wpAny_letOwnedTupleGo_enum ho λh2 Iq AH=>?_⟩;replace AH:S0 e h1 h2:=AH
  have xx:∀b∈[e,it],b<s.1.1.size:=λb hb=>by
   rcases RR.mp hb with rfl|hb
   .exact DN
   .have:b=it:=by simpa using hb
    subst this;exact yD
  have CI:H s.1.1.size=none:=I.hok.fresh (RI _)
  have IA:Inv X Y σ (upd H s.1.1.size (.tup [.int (i:Nat),x])) {s with heap:=s.1.push {cls:=.type "tuple",data:=.seq #[.int (i:Nat) tk,y]},toks:=tk} :=
   I.laid (o:=.tup [.int (i:Nat),x]) (λb ob q=>RB _ q) (RI _) ⟨by show 2<=RZ;decide,[.int (i:Nat) tk,y],0,.cons ⟨tk,rfl⟩ (.cons ru .nil),RJ _ rfl⟩
  refine⟨.ref s.1.1.size,upd H s.1.1.size (.tup [.int (i:Nat),x]),?_,CA,⟨_,x,CI,CA,CA,λys zM=>by rw[I.list_inj zM hq];exact hx⟩,⟨⟨y,by simpa using Iq⟩,?_⟩,λb hb=>?_⟩
  .have IB:Inv X Y σ (upd H s.1.1.size (.tup [.int (i:Nat),x])) {s with heap:=h2,toks:=tk+1}:=by
    refine Inv.turnedL (s:={s with heap:=s.1.push {cls:=.type "tuple",data:=.seq #[.int (i:Nat) tk,y]},toks:=tk}) (h':=h2) (fp:=[e,it]) (t':=tk+1) IA (λb o hb q=>?_) λb hb=>?_
    .have zY:b≠e:=λz=>hb (by simp[z]);have EJ:b≠it:=λz=>hb (by simp[z]);rw[AH.2 b zY];by_cases hb2:b=s.1.1.size
     .subst hb2;rw[hT];have q':(s.1.push {cls:=.type "tuple",data:=.seq #[.int (i:Nat) tk,y]}).get? s.1.1.size=A? o:=q;rw[RJ _ rfl]at q';exact q'
     .have Ab:b<(s.1.push {cls:=.type "tuple",data:=.seq #[.int (i:Nat) tk,y]}).objs.size:=RY q;rw[SV]at Ab;refine hk b o zY EJ ?_;have q':(s.1.push {cls:=.type "tuple",data:=.seq #[.int (i:Nat) tk,y]}).get? b=A? o:=q;rw[W0 _ _ _ hb2]at q';exact q'
    .obtain⟨f0,f1⟩:=hf b hb;exact⟨by rw[ac (Sa (xx b hb))];exact f0,f1⟩
   exact IB
  .obtain⟨o,e1,r⟩:=Io.1;exact⟨o,(AH.2 it (Tn CH)).trans e1,r⟩
  .rw[ac (Sa (xx b hb))];exact(hf b hb).1
 done:=by
  intro X hP hw hK hc i Y s σ H E I hf st hg;subst hP hw hK;obtain⟨xs,hq,hx⟩:=hg;obtain⟨its,rv,p,hz⟩:=I.list hq;obtain⟨⟨old,he⟩,hi⟩:=st
  have BG:a≠it:=by
   rintro rfl;obtain⟨o,e1,e2,_⟩:=hi;obtain⟨o',Aa,yd,_⟩:=p.isList;rw[Aa]at e1;cases e1;rw[yd]at e2;exact Yd (Tw e2) (by decide)
  have hn:its.toArray.size=i:=by
   have:=rv.length;rw[RO];lia
  refine wpAny_pyNext_enum_endD (Draws.list (A:=X.A.in1) (show X.A.in1.handled=B? from I.ok.hd hc) it a BG its.toArray) he (by rw[hn];exact⟨hi,p.isList⟩) λh' eb=>⟨rfl,?_⟩;exact I.turnedL (fp:=[e,it]) (t':=s.toks) (λb o hb q=>eb b o (λz=>hb (by simp[z])) q) hf
 self:=λ_ _ _ _ _ st h=>by
  obtain⟨⟨old,he⟩,_⟩:=st;exact WX he h
section
variable{X:Cx}{te:TE}{p2 xq:UX}
def uW(K:RH)(tl:TE):TI:=λσ H R=>tl σ H λx H1=>∃a,x=.ref a/\(∃xs,SqL K H1 a xs)/\R (qO K a) H1
theorem fJ{k1}(g2:Gl X "enumerate")(m2:X.mg "enumerate"=B?)(he:PE X e te)(h2:Sk [e] X.env=[(C?,TN e X.env)]:=by rfl):PI X (.Tuple elts k1 pos) (.Call (.Name "enumerate" p2) [e] [] xq) (uW X.K te):=by
 intro Y s σ H R I h;refine SX (cy I g2 m2 boot_enumerate (SR ?_ h2 rfl));rw[h2];show RQ _ _ (spliced ((C?,TN e X.env)::[])) _ _ s;refine TQ (thn (he Y s σ H _ I h) λu s1⟨x,H1,I1,r1,a,ex,⟨xs,hq⟩,q⟩=>Ui ?_);subst ex;cases r1;obtain⟨its,rv,p,hz⟩:=I1.list hq;refine call_enumerate_list (show s1.1.IsList a its.toArray from p.isList) λh' g1 g2 g3 g4=>?_;refine WX (s:={s1 with heap:=h'}) g1 ?_;refine⟨s1.1.1.size+1,[s1.1.1.size+1,s1.1.1.size],_,_,H1,CA,I1.kept (t':=s1.toks) g4,no a _ _,⟨⟨_,g1⟩,g2⟩,λb hb=>?_,q⟩
 have xC:s1.1.1.size<=b:=by
  rcases RR.mp hb with rfl|hb
  .lia
  .have:b=s1.1.1.size:=by simpa using hb
   exact XR this.symm
 exact I1.fpOk xC (I1.hok.fresh xC)
end
theorem eO{g:TG}(Pv:Nat->St->Hp->Prop)(h0:Pv 0 σ H)(hl:∀i σ H,i<=xs.length->Pv i σ H->SqL K H a xs)
 (hs:∀i x p σ H,xs[i]?=A? x->H p=B?->Pv i σ H->g (.ref p) σ (upd H p (.tup [.int (i:Nat),x])) λxl H2=>tb {D with nx:=Pv (i+1),ct:=Pv (i+1),bk:=D.nx} xl H2) (hd:∀σ H,Pv xs.length σ H->D.nx σ H) :
 ∃W:Nat->Nat->St->Hp->Prop,(∃m,W 0 m σ H)/\∀i m σ H,W i m σ H ->
   ((qO K a).stop i H/\D.nx σ H)\/((qO K a).go i H/\∃N:St->Hp->Prop,(∀i' H',N i' H'->∃m',m'<m/\W (i+1) m' i' H')/\∀x H',(qO K a).yld i H x H'->g x σ H' λxl H2=>tb {D with nx:=N,ct:=N,bk:=D.nx} xl H2):=by
 refine⟨λi m σ H=>m=xs.length - i/\i<=xs.length/\Pv i σ H,⟨xs.length,by simp,Sn _,h0⟩,?_⟩;rintro i m σ H ⟨rfl,hi,p⟩;have q:=hl i σ H hi p;by_cases xf:i<xs.length
 .refine .inr ⟨⟨xs,xs[i],q,by simp[xf]⟩,Pv (i+1),λi' H' p'=>⟨xs.length - (i+1),by lia,rfl,xf,p'⟩,λx H' y=>?_⟩;obtain⟨pa,y,hp,rfl,rfl,hy⟩:=y;exact hs i y pa σ H (hy xs q) hp p
 .have e:i=xs.length:=by lia
  subst e;exact .inl ⟨⟨xs,q,rfl⟩,hd σ H p⟩
end L2
namespace BB
open PySem L2
theorem ji{o:TC}{g:TG}(Pv:Nat->St->Hp->Prop)(h0:Pv 0 σ H)(hl:∀i σ H,i<=es.length->Pv i σ H->H a=A? (.frz o (.dT (dE es))))
 (hs:∀(i:Nat)(e:(Int×Int)×Int)(p b:Ry)(σ:St)(H:Hp),es[i]?=A? e->H p=B?->H b=A? (.tup [.int e.1.1,.int e.1.2])->Pv i σ H->g (.ref p) σ (upd H p (.tup [.ref b,.int e.2])) λxl H2=>tb {D with nx:=Pv (i+1),ct:=Pv (i+1),bk:=D.nx} xl H2) (hd:∀σ H,Pv es.length σ H->D.nx σ H) :
 ∃W:Nat->Nat->St->Hp->Prop,(∃m,W 0 m σ H)/\∀i m σ H,W i m σ H ->
   ((qD a o (dE es)).stop i H/\D.nx σ H)\/((qD a o (dE es)).go i H/\∃N:St->Hp->Prop,(∀i' H',N i' H'->∃m',m'<m/\W (i+1) m' i' H')/\∀x H',(qD a o (dE es)).yld i H x H'->g x σ H' λxl H2=>tb {D with nx:=N,ct:=N,bk:=D.nx} xl H2):=by
 have hlen:(dE es).length=es.length:=by unfold dE;rw[Rw]
 refine⟨λi m σ H=>m=es.length - i/\i<=es.length/\Pv i σ H,⟨es.length,by simp,Sn _,h0⟩,?_⟩;rintro i m σ H ⟨rfl,hi,p⟩;have q:=hl i σ H hi p;by_cases xf:i<es.length
 .refine .inr ⟨⟨q,by lia⟩,Pv (i+1),λi' H' p'=>⟨es.length - (i+1),by lia,rfl,xf,p'⟩,λx H' y=>?_⟩;obtain⟨pa,b,kv,hp,rfl,rfl,xQ,eb⟩:=y;unfold dE at xQ;rw[RG]at xQ;obtain⟨e,he,rfl⟩:=RW.mp xQ;exact hs i e pa b σ H he hp eb p
 .have e:i=es.length:=by lia
  subst e;exact .inl ⟨⟨q,by lia⟩,hd σ H p⟩
theorem Least.join{S1 S2:Cand->Prop}{D Dt:List Cand}(h:Least (λc=>S1 c\/∃e∈D,c=e) Dt)(g:Least S2 D):Least (λc=>S1 c\/S2 c) Dt :=
 ⟨h.nd,λe he=>(h.sub e he).imp id λ⟨e',xH,z⟩=>by rw[z];exact g.sub e' xH,λc hc=>by
  rcases hc with hc|hc
  .exact h.le c (.inl hc)
  .obtain⟨e,he,h1,h2⟩:=g.le c hc;obtain⟨d,hd,h3,h4⟩:=h.le e (.inr ⟨e,he,rfl⟩);exact⟨d,hd,h3.trans h1,by lia⟩⟩
theorem cU{f:α->β}(h:(l.map f).Nodup){x y:α}(hi:l[i]?=A? x)(hj:l[j]?=A? y)(e:f x=f y):i=j :=
 cY h (gmE hi) (by rw[RG,hj,e];rfl)
theorem WyAt.setAg{w:Wy}{k:Nat}{l:List Int}(h:WyAt C H w)(hk:w.ks[k]?=A? kd):WyAt C (upd H kd.a (.lst (l.map Yh))) {w with ks:=w.ks.set k {kd with ag:=l}}:=by
 have hm:=Rx hk;have ea:=h.ag kd hm;have hn:=h.n4 kd hm;have md:(w.ks.set k {kd with ag:=l}).map (·.d)=w.ks.map (·.d):=map_set _ hk rfl;have ma:(w.ks.set k {kd with ag:=l}).map (·.a)=w.ks.map (·.a):=map_set _ hk rfl;have rd:(w.ks.set k {kd with ag:=l}).map (λk=>Zf k.d)=w.ks.map (λk=>Zf k.d):=map_set _ hk rfl;have ra:(w.ks.set k {kd with ag:=l}).map (λk=>Zf k.a)=w.ks.map (λk=>Zf k.a):=map_set _ hk rfl
 have mem:∀x∈w.ks.set k {kd with ag:=l},x={kd with ag:=l}\/(x∈w.ks/\x.a≠kd.a):=λx hx=>by
  rcases mem_set hx with rfl|⟨j,hj,hx⟩
  .exact .inl rfl
  .exact .inr ⟨Rx hx,λz=>hj (cU h.nda hx hk z)⟩
 refine⟨?_,?_,λq hq=>?_,?_,?_,λx hx=>?_,λx hx=>?_,h.n1,h.n2,h.n3,λx hx=>?_,?_,?_⟩
 .exact(ac (aC h.ins ea (λz=>nomatch z))).trans h.ins
 .exact(ac hn.1.symm).trans h.pl
 .exact(ac (aC (h.pr q hq) ea (λz=>nomatch z))).trans (h.pr q hq)
 .exact((ac hn.2.1.symm).trans h.nl).trans (Zd (λz=>A? (HO.lst z)) rd.symm)
 .exact((ac hn.2.2.symm).trans h.al).trans (Zd (λz=>A? (HO.lst z)) ra.symm)
 .rcases mem x hx with rfl|⟨hx,_⟩
  .exact(ac (aC (h.nd kd hm) ea (λz=>nomatch z))).trans (h.nd kd hm)
  .exact(ac (aC (h.nd x hx) ea (λz=>nomatch z))).trans (h.nd x hx)
 .rcases mem x hx with rfl|⟨hx,xx⟩
  .exact ad
  .exact(ac xx).trans (h.ag x hx)
 .rcases mem x hx with rfl|⟨hx,_⟩
  .exact hn
  .exact h.n4 x hx
 .exact(Zd Wn ma).mpr h.nda
 .exact(Zd Wn md).mpr h.ndd
structure Took(Ws:List bI)(note:List Int)(ks:List Kd)(j:Nat)(xb:List Kd):Prop where
 len:xb.length=ks.length
 lo:∀(k:Nat)(kd:Kd),k<j->ks[k]?=A? kd->∃b:Int,xb[k]?=A? {kd with ag:=kd.ag++[b]}/\0<=b/\∀i,bt b i=Bz↔Agr Ws note k i
 hi:∀(k:Nat)(kd:Kd),j<=k->ks[k]?=A? kd->xb[k]?=A? kd
theorem Took.zero(Ws:List bI)(note:List Int)(ks:List Kd):Took Ws note ks 0 ks:=⟨rfl,λk kd h=>Yd h (Vp _),λk kd _ h=>h⟩
theorem Took.step{note:List Int}{ks:List Kd}{b:Int}(h:Took Ws note ks j xb)(hk:ks[j]?=A? kd)(hb:0<=b)(G0:∀i,bt b i=Bz↔Agr Ws note j i):Took Ws note ks (j+1) (xb.set j {kd with ag:=kd.ag++[b]}):=by
 have hj:j<xb.length:=by rw[h.len];exact(glE hk)
 refine⟨by rw[U3];exact h.len,λk yo xf xE=>?_,λk yo hle xE=>?_⟩
 .by_cases z:j=k
  .subst z;rw[hk]at xE;cases xE;exact⟨b,by rw[SS hj],hb,G0⟩
  .rw[SU z];exact h.lo k yo (by lia) xE
 .rw[SU (by lia)];exact h.hi k yo (by lia) xE
theorem Took.map{note:List Int}{ks:List Kd}(h:Took Ws note ks j xb):xb.map (·.a)=ks.map (·.a)/\xb.map (·.d)=ks.map (·.d):=by
 have key:∀k:Nat,∀kd,ks[k]?=A? kd->∃yo,xb[k]?=A? yo/\yo.a=kd.a/\yo.d=kd.d:=λk kd hk=>by
  by_cases z:k<j
  .obtain⟨b,h1,_⟩:=h.lo k kd z hk;exact⟨_,h1,CA,CA⟩
  .exact⟨kd,h.hi k kd (by lia) hk,CA,CA⟩
 refine⟨U9 λk=>?_,U9 λk=>?_⟩
 all_goals
  rw[RG,RG];by_cases hk:k<ks.length
  .obtain⟨yo,h1,h2,h3⟩:=key k _ (RA hk);rw[h1,RA hk]
   first|exact Zd A? h2|exact Zd A? h3
  .have hl:=h.len;rw[Tj (show xb.length<=k by lia),Tj (show ks.length<=k by lia)]
theorem WyAt.setEs{w:Wy}{k:Nat}(h:WyAt C H w)(hk:w.ks[k]?=A? kd):WyAt C (upd H kd.d (.dT (dE es))) {w with ks:=w.ks.set k {kd with es:=es}}:=by
 have hm:=Rx hk;have ed:=h.nd kd hm;have md:(w.ks.set k {kd with es:=es}).map (·.d)=w.ks.map (·.d):=map_set _ hk rfl;have ma:(w.ks.set k {kd with es:=es}).map (·.a)=w.ks.map (·.a):=map_set _ hk rfl;have rd:(w.ks.set k {kd with es:=es}).map (λk=>Zf k.d)=w.ks.map (λk=>Zf k.d):=map_set _ hk rfl;have ra:(w.ks.set k {kd with es:=es}).map (λk=>Zf k.a)=w.ks.map (λk=>Zf k.a):=map_set _ hk rfl;have lst:∀{b:Ry}{xs:List V},H b=A? (.lst xs)->(upd H kd.d (.dT (dE es))) b=A? (.lst xs):=λe=>(ac (aC e ed (λz=>nomatch z))).trans e
 have mem:∀x∈w.ks.set k {kd with es:=es},x={kd with es:=es}\/(x∈w.ks/\x.d≠kd.d):=λx hx=>by
  rcases mem_set hx with rfl|⟨j,hj,hx⟩
  .exact .inl rfl
  .exact .inr ⟨Rx hx,λz=>hj (cU h.ndd hx hk z)⟩
 refine⟨?_,lst h.pl,λq hq=>?_,?_,?_,λx hx=>?_,λx hx=>?_,h.n1,h.n2,h.n3,λx hx=>?_,?_,?_⟩
 .exact(ac (aC h.ins ed (λz=>nomatch z))).trans h.ins
 .exact(ac (aC (h.pr q hq) ed (λz=>nomatch z))).trans (h.pr q hq)
 .exact(lst h.nl).trans (Zd (λz=>A? (HO.lst z)) rd.symm)
 .exact(lst h.al).trans (Zd (λz=>A? (HO.lst z)) ra.symm)
 .rcases mem x hx with rfl|⟨hx,xx⟩
  .exact ad
  .exact(ac xx).trans (h.nd x hx)
 .rcases mem x hx with rfl|⟨hx,xx⟩
  .exact lst (h.ag kd hm)
  .exact lst (h.ag x hx)
 .rcases mem x hx with rfl|⟨hx,_⟩
  .exact h.n4 kd hm
  .exact h.n4 x hx
 .exact(Zd Wn ma).mpr h.nda
 .exact(Zd Wn md).mpr h.ndd
theorem WyAt.addP{w:Wy}{s p:Int}(h:WyAt C H w)(ea:H a=A? (.tup [.int s,.int p])):WyAt C (upd H w.pl (.lst ((w.ps.map λq=>Zf q.2.2)++[.ref a]))) {w with ps:=w.ps++[(s,p,a)]}:=by
 have o:∀{b:Ry}{u:HO},b≠w.pl->H b=A? u->(upd H w.pl (.lst ((w.ps.map λq=>Zf q.2.2)++[.ref a]))) b=A? u:=λhb e=>(ac hb).trans e;have tu:∀{b:Ry}{xs:List V},H b=A? (.tup xs)->(upd H w.pl (.lst ((w.ps.map λq=>Zf q.2.2)++[.ref a]))) b=A? (.tup xs):=λe=>o (aC e h.pl (λz=>nomatch z)) e;refine⟨o (aC h.ins h.pl (λz=>nomatch z)) h.ins,?_,λq hq=>?_,o h.n1.symm h.nl,o h.n2.symm h.al,λx hx=>o (aC (h.nd x hx) h.pl (λz=>nomatch z)) (h.nd x hx),λx hx=>o (h.n4 x hx).1 (h.ag x hx),h.n1,h.n2,h.n3,h.n4,h.nda,h.ndd⟩
 .show(upd H w.pl _) w.pl=_;rw[ad,R4];rfl
 .rcases RM.mp hq with hq|hq
  .exact tu (h.pr q hq)
  .rw[RC.mp hq];exact tu ea
def Kd.sh(k:Kd):Ry×Ry×List Int:=(k.d,k.a,k.ag)
theorem lz{g:TG}{te:TE}(hn:n<=1000000)
 (hb:∀(i:Nat)(H2:Hp)(R:VK),i<n->(∀p,H2 p=B?->R (.ref p) (upd H2 p o))->g (.int (0+(i:Nat))) (cσ js σ) H2 λxl H3=>te xl H3 R)
 (xN:∀(D:Ry)(H':Hp)(as:List Ry),H D=B?->Ye H H'->H' D=A? (.lst (as.map Zf))->as.length=n->as.Nodup->(∀a∈as,H' a=A? o/\H a=B?/\a≠D)->fin D H') :
 ∀D,H D=B?->∃(m:Nat)(W:Nat->Hp->Prop),W 0 (upd H D (.lst []))/\ff js g bN te σ (Itr 0 n) D m W λH'=>fin D H':=by
 intro D hD;refine⟨n,λi H'=>i<=n/\Ye H H'/\∃as:List Ry,H' D=A? (.lst (as.map Zf))/\as.length=i/\as.Nodup/\∀a∈as,H' a=A? o/\H a=B?/\a≠D,⟨Sn _,ao hD _,[],by rw[ad];rfl,CA,T7,(by intro a ha;cases ha)⟩,?_⟩;rintro i H' ⟨hi,s1,as,e1,hl,yx,has⟩;by_cases xf:i<n
 .refine .inr ⟨xf,xf,λv H1 hy=>?_⟩;obtain⟨rfl,rfl⟩:=hy;refine hb i H1 _ xf λp hp=>?_;have Cj:p≠D:=λz=>by rw[z,e1]at hp;cases hp
  have Of:H p=none:=by
   cases z:H p with
   |none=>rfl
   |some u=>rw[s1 _ _ z]at hp;cases hp
  have G1:p∉as:=λz=>by rw[(has p z).1]at hp;cases hp
  refine⟨as.map Zf,(ac Cj.symm).trans e1,lbE (by lia),xf,aV (s1.trans (ao hp _)) hD,as++[p],uAE,by rw[RK,R8];lia,?_,λa ha=>?_⟩
  .rw[SW];refine⟨yx,by simp,λa ha b hb z=>?_⟩;rw[RC.mp hb]at z;exact G1 (z ▸ ha)
  .rcases RM.mp ha with ha|ha
   .obtain⟨h1,h2,h3⟩:=has a ha;exact⟨(ac h3).trans ((ao hp _) _ _ h1),h2,h3⟩
   .rw[RC.mp ha];exact⟨(ac Cj).trans ad,Of,Cj⟩
 .have e:i=n:=by lia
  subst e;exact .inl ⟨RI _,xN D H' as hD s1 e1 hl yx has⟩
def fD:List Ry->List Ry->List Kd
 |d::ds,a::as=>⟨d,[],a,[]⟩::fD ds as
 |_,_=>[]
theorem rg:∀{ds as:List Ry},ds.length=as.length->(fD ds as).map (·.d)=ds/\(fD ds as).map (·.a)=as/\(∀k∈fD ds as,k.es=[]/\k.ag=[])
 | [],[],_=>⟨rfl,rfl,(by intro k hk;cases hk)⟩
 | [],_::_,h=>by cases h
 |_::_,[],h=>by cases h
 | d::ds,a::as,h=>by
   obtain⟨h1,h2,h3⟩:=rg (ds:=ds) (as:=as) (by simpa using h);rw[fD];refine⟨by rw[R6,h1],by rw[R6,h2],λk hk=>?_⟩;rcases RR.mp hk with rfl|hk
   .exact⟨CA,CA⟩
   .exact h3 k hk
structure WSp(Ls:List Th)(pats:List Th)(done:Nat->Nat->Prop)(Ws:List bI):Prop where
 wf:∀q∈Ws,∃(s pt:Nat)(p u:Th),q.1=(s:Int)/\q.2.1=(pt:Int)/\pats[s]?=A? p/\Ls[pt]?=A? u/\hG Ls p u q.2.2
 all:∀(s pt:Nat)(p u:Th),done s pt->pats[s]?=A? p->Ls[pt]?=A? u->(∃q∈Ws,q.1=(s:Int)/\q.2.1=(pt:Int))\/∀g,p.fill g≠u
theorem WSp.nil(Ls pats:List Th):WSp Ls pats (λ_ _=>False) []:=⟨(by intro q hq;cases hq),λ_ _ _ _ h=>h.elim⟩
theorem WSp.congr{d d':Nat->Nat->Prop}(h:WSp Ls pats d Ws)(e:∀s pt,(∃p,pats[s]?=A? p)->(∃u,Ls[pt]?=A? u)->d' s pt->d s pt):WSp Ls pats d' Ws :=
 ⟨h.wf,λs pt p u hd hp hu=>h.all s pt p u (e s pt ⟨p,hp⟩ ⟨u,hu⟩ hd) hp hu⟩
theorem WSp.none{d:Nat->Nat->Prop}{s pt:Nat}{u:Th}(h:WSp Ls pats d Ws)(hp:pats[s]?=A? p)(hu:Ls[pt]?=A? u)(hn:∀g,p.fill g≠u):WSp Ls pats (λs' BL=>d s' BL\/(s'=s/\BL=pt)) Ws :=
 ⟨h.wf,λs' BL p' u' hd CG AU=>by
  rcases hd with hd|⟨rfl,rfl⟩
  .exact h.all s' BL p' u' hd CG AU
  .rw[hp]at CG;rw[hu]at AU;cases CG;cases AU;exact .inr hn⟩
theorem WSp.add{d:Nat->Nat->Prop}{s pt:Nat}{u:Th}{L:CLs}(h:WSp Ls pats d Ws)(hp:pats[s]?=A? p)(hu:Ls[pt]?=A? u)(hn:hG Ls p u L):WSp Ls pats (λs' BL=>d s' BL\/(s'=s/\BL=pt)) (Ws++[((s:Int),(pt:Int),L)]) :=
 ⟨λq hq=>by
  rcases RM.mp hq with hq|hq
  .exact h.wf q hq
  .rw[RC.mp hq];exact⟨s,pt,p,u,CA,CA,hp,hu,hn⟩,λs' BL p' u' hd CG AU=>by
  rcases hd with hd|⟨rfl,rfl⟩
  .exact(h.all s' BL p' u' hd CG AU).imp (λ⟨q,hq,z⟩=>⟨q,RL _ hq,z⟩) id
  .exact .inl ⟨_,R5 _ (RC.mpr rfl),rfl,rfl⟩⟩
theorem jW{u:Th}{L:CLs}(h:hG Ls p u L):L.length<=p.size:=by
 have Jh:∀(l:List (Int×Int)),l.Nodup->(l.map λc=>Yi c.1 c.2).Nodup:=λl=>by
  induction l with
  |nil=>intro _;simp
  | cons c l ih =>
    intro hn;rw[Sz]at hn;rw[R6,Sz];refine⟨λz=>?_,ih hn.2⟩;obtain⟨c',xP,e⟩:=RP.mp z;injection e with e1 e2;exact hn.1 ((XN e1 e2:c'=c) ▸ xP)
 have:=dw (m:=p.walk) (Jh _ h.nd) λt ht=>by
  obtain⟨c,hc,rfl⟩:=RP.mp ht;obtain⟨e,he,rfl⟩:=RP.mp hc;exact(h.ok e he).2
 rw[Rw,Rw,Th.walk_len]at this;exact this
def bd:Th:=.call 0 0
mutual
def aD(ins:List (R1×Int))(rows:List (List Th)):Th->List Th
 |.knot n ks=>rows.map λrow=>(row.getD ((ins.map (·.1)).idxOf n) bd).fill λs k=>((lh ins rows ks).getD k.toNat []).getD s.toNat bd
 |.call _ _=>[]
def lh(ins:List (R1×Int))(rows:List (List Th)):List Th->List (List Th)
 | []=>[]
 |t::ts=>aD ins rows t::lh ins rows ts
end
theorem jf(ins:List (R1×Int))(rows:List (List Th)):∀ts,lh ins rows ts=ts.map (aD ins rows)
 | []=>rfl
 |t::ts=>by rw[lh,R6,jf ins rows ts]
def bZ(ins:List (R1×Int))(rows:List (List Th))(ks:List Th)(s k:Int):Th:=((ks.map (aD ins rows)).getD k.toNat []).getD s.toNat bd
theorem ay(ins:List (R1×Int))(rows:List (List Th))(n:R1)(ks:List Th):aD ins rows (.knot n ks)=rows.map λrow=>(row.getD ((ins.map (·.1)).idxOf n) bd).fill (bZ ins rows ks):=by
 rw[aD,jf];rfl
structure IsNote(Ls:List Th)(ms:List Th)(note:List Int):Prop where
 len:note.length=ms.length
 at':∀(s:Nat)(u:Th),ms[s]?=A? u->(∃j:Nat,Ls[j]?=A? u/\note[s]?=A? (j:Int))\/(u∉Ls/\note[s]?=A? (-1))
theorem IsNote.uniq{ms:List Th}{a b:List Int}(nd:Ls.Nodup)(ha:IsNote Ls ms a)(hb:IsNote Ls ms b):a=b:=by
 refine U9 λs=>?_;by_cases hs:s<ms.length
 .have hu:=RA hs;rcases ha.at' s _ hu with⟨i,h1,h2⟩|⟨h1,h2⟩
  .rcases hb.at' s _ hu with⟨j,g1,g2⟩|⟨g1,g2⟩
   .rw[h2,g2,cY nd h1 g1]
   .exact Yd (Rx h1) g1
  .rcases hb.at' s _ hu with⟨j,g1,g2⟩|⟨g1,g2⟩
   .exact Yd (Rx g1) h1
   .rw[h2,g2]
 .rw[Tj (by rw[ha.len];lia),Tj (by rw[hb.len];lia)]
theorem IsNote.iff{ms:List Th}{note:List Int}(nd:Ls.Nodup)(h:IsNote Ls ms note){s w:Nat}{u:Th}(hu:ms[s]?=A? u):note[s]?=A? (w:Int)↔Ls[w]?=A? u:=by
 rcases h.at' s u hu with⟨j,h1,h2⟩|⟨h1,h2⟩
 .rw[h2];constructor
  .intro e
   have:j=w:=by
    have:=RN e;lia
   rw[<-this];exact h1
  .intro e;rw[cY nd h1 e]
 .rw[h2];constructor
  .intro e;have:=RN e;lia
  .intro e;exact Yd (Rx e) h1
theorem pT{a:Nat}{b:Int}{xs:List Th}{notes:List (List Int)}{note:List Int}
 (nd:Ls.Nodup) (Br:(ins.map (·.1)).idxOf nm=a) (zg:rows.map (λrow=>row.getD a bd)=pats) (yw:WSp Ls pats (λ_ _=>True) Ws) (hW:W.map (λq=>(q.1,q.2.1))=Ws.map (λq=>(q.1,q.2.1)))
 (DY:xs.length=m) (zp:∀(k:Nat)(x:Th),xs[k]?=A? x->∃n,notes[k]?=A? n/\IsNote Ls (aD ins rows x) n)
 (Bc:∀p∈pats,∀s k:Int,Yi s k∈p.walk->(∃k':Nat,k=(k':Int)/\k'<m)/\∃s':Nat,s=(s':Int)/\s'<rows.length) (hlen:∀x∈xs,(aD ins rows x).length=rows.length)
 (hb:∀i,bt b i=Bz↔∃q,Ws[i]?=A? q/\∀(k:Nat)(n:List Int),notes[k]?=A? n->k<m->∀c w:Int,((c,(k:Int)),w)∈q.2.2->n[c.toNat]?=A? w)
 (hn:NoteBy W b rows.length W.length note):IsNote Ls (aD ins rows (.knot nm xs)) note:=by
 have Ff:W.length=Ws.length:=by
  have:=Zd S4 hW;rw[Rw,Rw]at this;exact this
 have Og:∀(i:Nat)(q:Int×Int×Ry),W[i]?=A? q->∃q',Ws[i]?=A? q'/\q'.1=q.1/\q'.2.1=q.2.1:=λi q h=>by
  have:(W.map (λq=>(q.1,q.2.1)))[i]?=(Ws.map (λq=>(q.1,q.2.1)))[i]?:=by rw[hW]
  rw[RG,RG,h]at this;obtain⟨q',h1,h2⟩:=RW.mp this.symm;exact⟨q',h1,Zd WL h2,Zd XM h2⟩
 have Oh:∀(i:Nat)(q':bI),Ws[i]?=A? q'->∃q,W[i]?=A? q/\q'.1=q.1/\q'.2.1=q.2.1:=λi q' h=>by
  have:(W.map (λq=>(q.1,q.2.1)))[i]?=(Ws.map (λq=>(q.1,q.2.1)))[i]?:=by rw[hW]
  rw[RG,RG,h]at this;obtain⟨q,h1,h2⟩:=RW.mp this;exact⟨q,h1,(Zd WL h2).symm,(Zd XM h2).symm⟩
 have need:∀p∈pats,∀(u:Th)(L:CLs),hG Ls p u L->∀e∈L,∃(k c w:Nat)(n:List Int),e.1.2=(k:Int)/\k<m/\e.1.1=(c:Int)/\e.2=(w:Int)/\notes[k]?=A? n/\(n[c]?=A? (w:Int)↔Ls[w]?=A? (bZ ins rows xs e.1.1 e.1.2)):=λp hp u L hL e he=>by
  obtain⟨⟨w,hw,_⟩,hc⟩:=hL.ok e he;obtain⟨⟨k,hk,zD⟩,c,BA,Ao⟩:=Bc p hp _ _ hc;obtain⟨x,hx⟩:∃x,xs[k]?=A? x:=⟨_,RA (by lia)⟩;obtain⟨n,h1,h2⟩:=zp k x hx;have hl:=hlen x (Rx hx);refine⟨k,c,w,n,hk,zD,BA,hw,h1,h2.iff nd (s:=c) ?_⟩;unfold bZ;rw[hk,BA,RU,RU,Sf (l:=xs.map _),RG,hx,Sf];show(aD ins rows x)[c]?=A? (((aD ins rows x)[c]?).getD bd);rw[RA (by lia)];rfl
 rw[ay,Br];refine⟨by rw[hn.len,Rw],λs u hu=>?_⟩;rw[RG]at hu;obtain⟨row,xO,rfl⟩:=RW.mp hu;have hs:=(glE xO);have hp:pats[s]?=A? (row.getD a bd):=by rw[<-zg,RG,xO];rfl
 have G3:=Rx hp;rcases hn.at' s hs with⟨i,q,hi,hq,Q8,EJ,zh⟩|⟨xu,zh⟩
 .obtain⟨q',yq,e1,e2⟩:=Og i q hq;obtain⟨s0,pt,p0,u0,w1,w2,w3,w4,w5⟩:=yw.wf q' (Rx yq);have:s0=s:=by lia
  subst this;rw[hp]at w3;cases w3;obtain⟨q2,LB,xc⟩:=(hb i).mp EJ;rw[yq]at LB;cases LB;left;refine⟨pt,?_,by rw[zh,<-e2,w2]⟩;rw[w4];refine Zd A? (Eq.symm ((w5.iff _).mpr λe he=>?_));obtain⟨k,c,w,n,h1,h2,h3,h4,h5,h6⟩:=need _ G3 _ _ w5 e he;have:=xc k n h5 h2 e.1.1 e.2 (by rw[<-h1];exact he);rw[h3,RU,h4]at this;rw[h4,RU];exact h6.mp this
 .right;refine⟨λhm=>?_,zh⟩;obtain⟨pt,G4⟩:=RS.mp hm;rcases yw.all s pt _ _ trivial hp G4 with⟨q',yq,e1,e2⟩|xx
  .obtain⟨i,hi⟩:=RS.mp yq;obtain⟨s0,Oi,p0,u0,w1,w2,w3,w4,w5⟩:=yw.wf q' yq;have h1:s0=s:=by lia
   have h2:Oi=pt:=by lia
   subst h1 h2;rw[hp]at w3;rw[G4]at w4;cases w3;cases w4;obtain⟨q,hq,f1,f2⟩:=Oh i q' hi;have LC:=xu i q (by rw[Ff];exact(glE hi)) hq (by lia);rw[(hb i).mpr ⟨q',hi,λk n hk zD c w LD=>?_⟩]at LC
   .cases LC
   .obtain⟨k',c',w',n',g1,g2,g3,g4,g5,g6⟩:=need _ G3 _ _ w5 _ LD;dsimp only at g1 g3 g4;have:k'=k:=by lia
    subst this;rw[hk]at g5;cases g5;rw[g3,RU,g4];have:=(w5.iff _).mp rfl _ LD;dsimp only at this;rw[g4,RU]at this;exact g6.mpr this
  .exact xx _ rfl
structure NtE where
 n:Nat
 note:List Int
 t:Th
 a:Ry
 na:Ry
 ta:Ry
def NtE.key(e:NtE):Int×List Int:=((e.n:Int),e.note)
structure NtA(H:Hp)(e:NtE):Prop where
 a:H e.a=A? (.tup [.int (e.n:Nat),.ref e.na,.ref e.ta])
 na:H e.na=A? (.tup (e.note.map Yh))
 ta:At H e.t e.ta
theorem NtA.mono(k:KT H H'){e:NtE}(h:NtA H e):NtA H' e:=⟨k _ _ h.a,k _ _ h.na,h.ta.mono k⟩
def eg(note:List Int):List Key:=note.map Sj
theorem lN{a b:List Int}(h:eg a=eg b):a=b:=by
 unfold eg at h;exact List.map_inj_right (λx y e=>Wv e) |>.mp h
theorem qA(note:List Int):(eg note).map kV=note.map Yh:=by unfold eg;rw[Sr];rfl
def nfv(F:List NtE):List (List Key×V):=F.map λe=>(eg e.note,Zf e.a)
theorem iE(F:List NtE):(nfv F).length=F.length:=Rw _
theorem oN{F:List NtE}{note:List Int}(h:br (nfv F) (eg note)=A? v):∃(i:Nat)(e:NtE),F[i]?=A? e/\e.note=note/\v=.ref e.a:=by
 obtain⟨i,hi⟩:=RS.mp (oa h);unfold nfv at hi;rw[RG]at hi;obtain⟨e,he,z⟩:=RW.mp hi;exact⟨i,e,he,lN (Zd WL z),(Zd XM z).symm⟩
theorem jm{F:List NtE}{note:List Int}(h:br (nfv F) (eg note)=B?):note∉F.map (·.note):=λz=>by
 obtain⟨e,he,rfl⟩:=RP.mp z;exact iQ h (by unfold nfv;rw[Sr];exact RP.mpr ⟨e,he,rfl⟩)
theorem tJ{F:List NtE}{c:NtE}(h:br (nfv F) (eg c.note)=B?):putK (nfv F) (eg c.note) (.ref c.a)=nfv (F++[c]):=by
 rw[lV (iQ h)];unfold nfv;rw[R4];rfl
theorem uO{F:List NtE}(nd:(F.map (·.note)).Nodup):((nfv F).map (·.1)).Nodup:=by
 unfold nfv;rw[Sr]
 have:∀l:List (List Int),l.Nodup->(l.map eg).Nodup:=λl=>by
  induction l with
  |nil=>intro _;simp
  | cons c l ih =>
    intro hn;rw[Sz]at hn;rw[R6,Sz];refine⟨λz=>?_,ih hn.2⟩;obtain⟨c',xP,e⟩:=RP.mp z;exact hn.1 (lN e ▸ xP)
 have:=this _ nd;rw[Sr]at this;exact this
theorem sy{F:List NtE}(nd:(F.map (·.note)).Nodup){e c:NtE}(h:F[i]?=A? e)(hn:e.note=c.note):putK (nfv F) (eg c.note) (.ref c.a)=nfv (F.set i c):=by
 rw[lL (uO nd) (i:=i) (u:=.ref e.a) (by unfold nfv;rw[RG,h,<-hn];rfl)];unfold nfv;rw[List.map_set]
structure Tb where
 x:Ry
 dx:Ry
 S:Nat
 wl:Ry
 fd:Ry
 st:Ry
 ws:List Wy
 found:List NtE
 settled:List NtE
def tbF(S:Nat)(wl fd st:Ry):List (R1×V):=[(RF "states",.int (S:Nat)),(RF "ways",.ref wl),(RF "found",.ref fd),(RF "settled",.ref st)]
theorem vN{S:Nat}{fd st:Ry}:(tbF S wl fd st).lookup (RF "states")=A? (.int (S:Nat)):=lk0
theorem ui{S:Nat}{fd st:Ry}:(tbF S wl fd st).lookup (RF "ways")=A? (.ref wl):=(lk1 (by decide +kernel)).trans lk0
theorem jl{S:Nat}{fd st:Ry}:(tbF S wl fd st).lookup (RF "found")=A? (.ref fd):=(lk1 (by decide +kernel)).trans ((lk1 (by decide +kernel)).trans lk0)
theorem kh{S:Nat}{fd st:Ry}:(tbF S wl fd st).lookup (RF "settled")=A? (.ref st):=(lk1 (by decide +kernel)).trans ((lk1 (by decide +kernel)).trans ((lk1 (by decide +kernel)).trans lk0))
theorem kI{m:R1}{S:Nat}{fd st:Ry}(h1:(m == RF "states")=false:=by decide +kernel)(h2:(m == RF "ways")=false:=by decide +kernel)(h3:(m == RF "found")=false:=by decide +kernel)(h4:(m == RF "settled")=false:=by decide +kernel):(tbF S wl fd st).lookup m=B? :=
 (lk1 h1).trans ((lk1 h2).trans ((lk1 h3).trans ((lk1 h4).trans rfl)))
theorem tN(S:Nat)(wl fd st:Ry):aF (RF "settled") (.ref st) (aF (RF "found") (.ref fd) (aF (RF "ways") (.ref wl) (aF (RF "states") (.int (S:Nat)) [])))=tbF S wl fd st:=by
 have e1:∀(f:R1)(v:V),aF f v []=[(f,v)]:=λf v=>by rw[aF]
 rw[e1,bO (by decide +kernel),e1,bO (by decide +kernel),bO (by decide +kernel),bO (by decide +kernel),e1,bO (by decide +kernel),bO (by decide +kernel),e1];rfl
def Wy.bs(w:Wy):List Ry:=w.pl::w.nl::w.al::(w.ks.map (·.d)++w.ks.map (·.a))
structure TbAt(CT CW:Ry)(H:Hp)(tb:Tb):Prop where
 ins:H tb.x=A? (.ins CT tb.dx (tbF tb.S tb.wl tb.fd tb.st))
 wl:H tb.wl=A? (.lst (tb.ws.map λw=>Zf w.x))
 wa:∀w∈tb.ws,WyAt CW H w
 fd:H tb.fd=A? (.dT (nfv tb.found))
 st:H tb.st=A? (.lst (tb.settled.map λe=>Zf e.a))
 fe:∀e∈tb.found,NtA H e
 se:∀e∈tb.settled,NtA H e
 nd:(tb.ws.flatMap Wy.bs).Nodup
 sep:∀b∈tb.ws.flatMap Wy.bs,b≠tb.wl/\b≠tb.st/\b≠tb.fd
 n1:tb.wl≠tb.st
theorem fz{ws:List Wy}{w:Wy}(h:w∈ws)(hb:b∈w.bs):b∈ws.flatMap Wy.bs:=UL.mpr ⟨w,h,hb⟩
theorem u8{w:Wy}(h:b∈w.ks.map (·.a)):b∈w.bs:=by unfold Wy.bs;simp only[RR,RM];exact .inr (.inr (.inr (.inr h)))
theorem WyAt.frame{w:Wy}(h:WyAt C H w)(f:FrB S H H')(k:KT H H')(hx:w.x∉S)(hS:∀b∈w.bs,b∉S):WyAt C H' w:=h.keep k λb hb o e=>f b o (by
 unfold Wy.own at hb;rcases RR.mp hb with rfl|hb
 .exact hx
 .exact hS b hb) e
theorem TbAt.same{tb:Tb}(h:TbAt CT CW H tb)(s:Ye H H'):TbAt CT CW H' tb :=
 ⟨s _ _ h.ins,s _ _ h.wl,λw hw=>(h.wa w hw).same s,s _ _ h.fd,s _ _ h.st,λe he=>(h.fe e he).mono (Zg s),λe he=>(h.se e he).mono (Zg s),h.nd,h.sep,h.n1⟩
theorem KT.of_frame(f:FrB S H H')(hS:∀b∈S,∃o,H b=A? o/\∀xs,o≠.tup xs):KT H H':=λb xs e=>f b _ (λz=>by
 obtain⟨o,h1,h2⟩:=hS b z;rw[e]at h1;exact h2 xs (RN h1).symm) e
theorem vg(e:H b=A? o)(hS:∀a∈S,∃u,H a=A? u/\u≠o):b∉S:=λz=>by
 obtain⟨u,h1,h2⟩:=hS b z;rw[e]at h1;exact h2 (RN h1).symm
theorem TbAt.setFound{tb:Tb}{F:List NtE}(h:TbAt CT CW H tb)(hF:∀e∈F,NtA H e):TbAt CT CW (upd H tb.fd (.dT (nfv F))) {tb with found:=F}:=by
 have k:KT H (upd H tb.fd (.dT (nfv F))):=λb xs e=>by rw[ac (aC e h.fd (λz=>nomatch z))];exact e
 have o:∀{b:Ry}{u:HO},H b=A? u->b≠tb.fd->(upd H tb.fd (.dT (nfv F))) b=A? u:=λe hb=>(ac hb).trans e;refine⟨o h.ins (aC h.ins h.fd (λz=>nomatch z)),o h.wl (aC h.wl h.fd (λz=>nomatch z)),λw hw=>(h.wa w hw).frame (Yo (RC.mpr rfl)) k ?_ λb hb=>?_,ad,o h.st (aC h.st h.fd (λz=>nomatch z)),λe he=>(hF e he).mono k,λe he=>(h.se e he).mono k,h.nd,h.sep,h.n1⟩
 .exactλz=>aC (h.wa w hw).ins h.fd (λz=>nomatch z) (RC.mp z)
 .exactλz=>(h.sep b (fz hw hb)).2.2 (RC.mp z)
theorem TbAt.push{tb:Tb}{e:NtE}(h:TbAt CT CW H tb)(he:NtA H e):TbAt CT CW (upd H tb.st (.lst ((tb.settled.map λe=>Zf e.a)++[.ref e.a]))) {tb with settled:=tb.settled++[e]}:=by
 have k:KT H (upd H tb.st (.lst ((tb.settled.map λe=>Zf e.a)++[.ref e.a]))):=λb xs e=>by rw[ac (aC e h.st (λz=>nomatch z))];exact e
 have o:∀{b:Ry}{u:HO},H b=A? u->b≠tb.st->(upd H tb.st (.lst ((tb.settled.map λe=>Zf e.a)++[.ref e.a]))) b=A? u:=λe hb=>(ac hb).trans e;refine⟨o h.ins (aC h.ins h.st (λz=>nomatch z)),o h.wl h.n1,λw hw=>(h.wa w hw).frame (Yo (RC.mpr rfl)) k ?_ λb hb=>?_,o h.fd (aC h.fd h.st (λz=>nomatch z)),?_,λe he=>(h.fe e he).mono k,λe' xH=>?_,h.nd,h.sep,h.n1⟩
 .exactλz=>aC (h.wa w hw).ins h.st (λz=>nomatch z) (RC.mp z)
 .exactλz=>(h.sep b (fz hw hb)).2.1 (RC.mp z)
 .show(upd H tb.st _) tb.st=_;rw[ad,R4];rfl
 .rcases RM.mp xH with xH|xH
  .exact(h.se e' xH).mono k
  .rw[RC.mp xH];exact he.mono k
theorem oh:∀{ws:List Wy}{i j:Nat}{w w':Wy},(ws.flatMap Wy.bs).Nodup->ws[i]?=A? w->ws[j]?=A? w'->i≠j->∀{b:Ry},b∈w.bs->b∈w'.bs->False
 | [],_,_,_,_,_,hi,_,_,_,_,_=>by simp at hi
 |x::ws,0,0,_,_,_,_,_,h,_,_,_=>h rfl
 | x::ws,0,j+1,w,w',nd,hi,hj,_,b,h1,h2=>by
   rw[XT,SW]at nd;rw[List.getElem?_cons_zero]at hi;rw[Vx]at hj;cases hi;exact nd.2.2 b h1 b (fz (Rx hj) h2) rfl
 | x::ws,i+1,0,w,w',nd,hi,hj,_,b,h1,h2=>by
   rw[XT,SW]at nd;rw[List.getElem?_cons_zero]at hj;rw[Vx]at hi;cases hj;exact nd.2.2 b h2 b (fz (Rx hi) h1) rfl
 | x::ws,i+1,j+1,w,w',nd,hi,hj,Ji,b,h1,h2=>by
   rw[XT,SW]at nd;rw[Vx]at hi hj;exact oh nd.2.1 hi hj (λz=>Ji (by rw[z])) h1 h2
theorem TbAt.setWy{tb:Tb}{w w':Wy}(h:TbAt CT CW H tb)(hi:tb.ws[i]?=A? w)(f:FrB (w.ks.map (·.a)) H H')(yG:WyAt CW H' w')(hx:w'.x=w.x)(hb:w'.bs=w.bs):TbAt CT CW H' {tb with ws:=tb.ws.set i w'}:=by
 have hm:=Rx hi;have yu:=h.wa w hm
 have hS:∀b∈w.ks.map (·.a),∃xs,H b=A? (.lst xs):=λb hb=>by
  obtain⟨k,hk,rfl⟩:=RP.mp hb;exact⟨_,yu.ag k hk⟩
 have k:KT H H':=KT.of_frame f λb hb=>by
  obtain⟨xs,e⟩:=hS b hb;exact⟨_,e,λys z=>nomatch z⟩
 have nS:∀{b:Ry}{o:HO},H b=A? o->(∀xs,o≠.lst xs)->b∉w.ks.map (·.a):=λe ho=>vg e λa ha=>by
  obtain⟨xs,e'⟩:=hS a ha;exact⟨_,e',(ho xs).symm⟩
 have sp:∀b∈w.ks.map (·.a),b≠tb.wl/\b≠tb.st/\b≠tb.fd:=λb hb=>h.sep b (fz hm (u8 hb))
 have LF:(tb.ws.set i w').flatMap Wy.bs=tb.ws.flatMap Wy.bs:=by
  rw[WN,WN,map_set _ hi hb]
 refine⟨f _ _ (nS h.ins (λxs z=>nomatch z)) h.ins,?_,λv hv=>?_,f _ _ (nS h.fd (λxs z=>nomatch z)) h.fd,f _ _ (λz=>(sp _ z).2.1 rfl) h.st,λe he=>(h.fe e he).mono k,λe he=>(h.se e he).mono k,?_,?_,h.n1⟩
 .exact(f _ _ (λz=>(sp _ z).1 rfl) h.wl).trans (Zd (λz=>A? (HO.lst z)) (map_set (λw:Wy=>Zf w.x) hi (by rw[hx])).symm)
 .rcases mem_set hv with rfl|⟨j,hj,hv⟩
  .exact yG
  .have LG:=h.wa v (Rx hv);exact LG.frame f k (nS LG.ins (λxs z=>nomatch z)) λb hb Oj=>oh h.nd hi hv (Tn hj) (u8 Oj) hb
 .show((tb.ws.set i w').flatMap Wy.bs).Nodup;rw[LF];exact h.nd
 .show∀b∈(tb.ws.set i w').flatMap Wy.bs,_;rw[LF];exact h.sep
end BB
variable{F F':List BB.NtE}
namespace BB
open PySem L2
inductive Entd(F:List NtE)(c:NtE):List NtE->Prop
 |keep (e:NtE):e∈F->e.note=c.note->e.n<=c.n->Entd F c F
 |set (i:Nat) (e:NtE):F[i]?=A? e->e.note=c.note->c.n<e.n->Entd F c (F.set i c)
 |add:c.note∉F.map (·.note)->F.length≠30->Entd F c (F++[c])
theorem Entd.mem{c:NtE}(h:Entd F c F'):∀e∈F',e∈F\/e=c:=λe he=>by
 cases h with
 |keep=>exact .inl he
 | set i e0 h1 h2 h3 =>
   rcases mem_set he with rfl|⟨j,_,hj⟩
   .exact .inr rfl
   .exact .inl (Rx hj)
 | add =>
   rcases RM.mp he with he|he
   .exact .inl he
   .exact .inr (RC.mp he)
def az(settled:List NtE)(ks:List Nat):List Th:=ks.map λk=>((settled[k]?).map (·.t)).getD bd
theorem nQ{settled:List NtE}:∀{ks:List Nat},(∀k∈ks,k<settled.length)->(∀e∈settled,NtA H e)->Ats H (az settled ks) (ks.map λk=>((settled[k]?).map (·.ta)).getD 0)
 | [],_,_=>.nil
 | k::ks,h,hs=>by
   have hk:=h k (RX ..);have e:=RA hk;unfold az;rw[R6,R6];refine .cons ?_ (nQ (λk hk=>h k (RT _ hk)) hs);rw[e];exact(hs _ (VL hk)).ta
theorem kj:∀{a b:List Int},Ym a b=C?->Ym b a=C?->a=b
 | [],[],_,_=>rfl
 | [],_::_,h,_=>by cases h
 |_::_,[],_,h=>by cases h
 | x::a,y::b,h,g=>by
   rw[Zp]at h g;by_cases e:x=y
   .rw[Yb e]at h;rw[Yb e.symm]at g;rw[e,kj h g]
   .rw[Za e]at h;rw[Za (Tn e)]at g;have h:=of_decide_eq_false h;have g:=of_decide_eq_false g;lia
theorem pN{a b:Int×List Int}(h:keyLt a b=C?)(g:keyLt b a=C?):a=b:=by
 unfold keyLt at h g;by_cases e:a.1=b.1
 .rw[Yb e]at h;rw[Yb e.symm]at g;exact XN e (kj h g)
 .rw[Za e]at h;rw[Za (Tn e)]at g;have h:=of_decide_eq_false h;have g:=of_decide_eq_false g;lia
theorem oH{a b:Int×List Int}(h:keyLt a b=Bz):a.1<=b.1:=by
 unfold keyLt at h;by_cases e:a.1=b.1
 .lia
 .rw[Za e]at h;have:=Zc h;lia
theorem rq{a b:Int×List Int}(h:a.1<b.1):keyLt a b=true:=by
 unfold keyLt;rw[Za (by lia)];exact Yc h
structure Told(ins:List (R1×Int))(rows:List (List Th))(Ls:List Th)(e:NtE):Prop where
 n:e.n=e.t.size
 fit:e.t.Fit ins
 note:IsNote Ls (aD ins rows e.t) e.note
structure PInv(ins:List (R1×Int))(rows:List (List Th))(Ls:List Th)(F St:List NtE)(cl:R1->List Nat->Prop):Prop where
 f1:∀e∈F,Told ins rows Ls e
 f2:(F.map (·.note)).Nodup
 f3:F.length<=30
 s1:∀e∈St,e∈F
 s2:St.Pairwise λa b=>keyLt a.key b.key=Bz
 s3:∀e∈F,e∉St->∀s∈St,keyLt s.key e.key=Bz
 cl:∀nm ks,cl nm ks->∃e∈F,IsNote Ls (aD ins rows (.knot nm (az St ks))) e.note/\e.n<=(Zi nm (az St ks)).size
theorem PInv.congr{St:List NtE}{c d:R1->List Nat->Prop}(h:PInv ins rows Ls F St c)(e:∀nm ks,d nm ks->c nm ks):PInv ins rows Ls F St d:=⟨h.f1,h.f2,h.f3,h.s1,h.s2,h.s3,λnm ks z=>h.cl nm ks (e nm ks z)⟩
theorem PInv.nil:PInv ins rows Ls [] [] (λ_ _=>False):=⟨(by intro e he;cases he),by simp,Sn _,(by intro e he;cases he),.nil,(by intro e he;cases he),λ_ _ h=>h.elim⟩
theorem PInv.enter{St:List NtE}{c:R1->List Nat->Prop}{x:NtE}(h:PInv ins rows Ls F St c)(hd:Entd F x F')(hx:Told ins rows Ls x)(xf:∀s∈St,s.n<x.n):PInv ins rows Ls F' St (λnm ks=>c nm ks\/Zi nm (az St ks)=x.t):=by
 have hk:∀s∈St,keyLt s.key x.key=true:=λs hs=>rq (by have:=xf s hs;show(s.n:Int)<(x.n:Int);lia);cases hd with
 | keep e he h1 h2 =>
   refine⟨h.f1,h.f2,h.f3,h.s1,h.s2,h.s3,λnm ks z=>?_⟩;rcases z with z|z
   .exact h.cl nm ks z
   .rw[z];exact⟨e,he,by rw[h1];exact hx.note,by rw[<-hx.n];exact h2⟩
 | set i e he h1 h2 =>
   have zC:e∉St:=λz=>by have:=xf e z;lia
   have hi:=(glE he);have LH:x∈F.set i x:=Rx (i:=i) (by rw[SS hi])
   have old:∀y∈F,y≠e->y∈F.set i x:=λy hy xx=>by
    obtain⟨j,hj⟩:=RS.mp hy;by_cases z:i=j
    .subst z;rw[he]at hj;cases hj;exact Yd rfl xx
    .exact Rx (i:=j) (by rw[SU z];exact hj)
   have mem:∀y∈F.set i x,y=x\/y∈F:=λy hy=>by
    rcases mem_set hy with rfl|⟨j,_,hj⟩
    .exact .inl rfl
    .exact .inr (Rx hj)
   refine⟨λy hy=>?_,by rw[map_set _ he h1.symm];exact h.f2,by rw[U3];exact h.f3,λs hs=>old s (h.s1 s hs) (λz=>zC (z ▸ hs)),h.s2,λy hy zM s hs=>?_,λnm ks z=>?_⟩
   .rcases mem y hy with rfl|hy
    .exact hx
    .exact h.f1 y hy
   .rcases mem y hy with rfl|hy
    .exact hk s hs
    .exact h.s3 y hy zM s hs
   .rcases z with z|z
    .obtain⟨y,hy,g1,g2⟩:=h.cl nm ks z;by_cases ye:y=e
     .subst ye;exact⟨x,LH,by rw[<-h1];exact g1,by lia⟩
     .exact⟨y,old y hy ye,g1,g2⟩
    .rw[z];exact⟨x,LH,hx.note,by rw[<-hx.n];exact RI _⟩
 | add h1 h2 =>
   have h3:=h.f3;refine⟨λy hy=>?_,?_,by rw[RK,R8];lia,λs hs=>RL _ (h.s1 s hs),h.s2,λy hy zM s hs=>?_,λnm ks z=>?_⟩
   .rcases RM.mp hy with hy|hy
    .exact h.f1 y hy
    .rw[RC.mp hy];exact hx
   .rw[R4,SW];refine⟨h.f2,by simp,λa ha b hb z=>h1 ?_⟩;rw[Xx,RC]at hb;rw[<-hb,<-z];exact ha
   .rcases RM.mp hy with hy|hy
    .exact h.s3 y hy zM s hs
    .rw[RC.mp hy];exact hk s hs
   .rcases z with z|z
    .obtain⟨y,hy,g⟩:=h.cl nm ks z;exact⟨y,RL _ hy,g⟩
    .rw[z];exact⟨x,by simp,hx.note,by rw[<-hx.n];exact RI _⟩
theorem lR{St:List NtE}{e:NtE}{ks:List Nat}(h:∀k∈ks,k<St.length):az (St++[e]) ks=az St ks:=by
 unfold az;refine Vl λk hk=>?_;rw[Sl (h k hk)]
theorem PInv.settle{St:List NtE}{c:R1->List Nat->Prop}{e:NtE}(h:PInv ins rows Ls F St c)(he:e∈F)(hn:e∉St)(zE:∀y∈F,y∉St->keyLt y.key e.key=C?) :
 PInv ins rows Ls F (St++[e]) (λnm ks=>c nm ks/\∀k∈ks,k<St.length)/\∀s∈St,s.n<=e.n:=by
 have hs:=h.s3 e he hn;refine⟨⟨h.f1,h.f2,h.f3,λs hs=>?_,?_,λy hy zM s zP=>?_,λnm ks z=>?_⟩,λs h'=>?_⟩
 .rcases RM.mp hs with hs|hs
  .exact h.s1 s hs
  .rw[RC.mp hs];exact he
 .rw[Vg];exact⟨h.s2,by simp,λa ha b hb=>by rw[RC.mp hb];exact hs a ha⟩
 .have LI:y∉St:=λz=>zM (RL _ z);rcases RM.mp zP with zP|zP
  .exact h.s3 y hy LI s zP
  .rw[RC.mp zP];cases hk:keyLt e.key y.key with
   |true=>rfl
   | false =>
     have:=pN hk (zE y hy LI);have xx:y≠e:=λz=>zM (by rw[z];simp);have zh:y.note=e.note:=(Zd XM this).symm;obtain⟨i,hi⟩:=RS.mp hy;obtain⟨j,hj⟩:=RS.mp he;have:=cU h.f2 hi hj zh;subst this;rw[hi]at hj;exact Yd (RN hj) xx
 .rw[lR z.2];exact h.cl nm ks z.1
 .have:=oH (hs s h');have h1:(s.n:Int)<=(e.n:Int):=this;lia
def Over(ins:List (R1×Int))(rows:List (List Th))(Ls:List Th):Prop:=∃l:List (List Int),l.length=31/\l.Nodup/\∀note∈l,∃t:Th,t.Fit ins/\IsNote Ls (aD ins rows t) note
theorem PInv.over{St:List NtE}{c:R1->List Nat->Prop}{t:Th}{note:List Int}(h:PInv ins rows Ls F St c)(Fg:F.length=30)(xu:note∉F.map (·.note))(hf:t.Fit ins)(hn:IsNote Ls (aD ins rows t) note):Over ins rows Ls:=by
 refine⟨note::F.map (·.note),by rw[RV,Rw,Fg],Sz.mpr ⟨xu,h.f2⟩,λx hx=>?_⟩;rcases RR.mp hx with rfl|hx
 .exact⟨t,hf,hn⟩
 .obtain⟨e,he,rfl⟩:=RP.mp hx;exact⟨e.t,(h.f1 e he).fit,(h.f1 e he).note⟩
theorem gK{g1 g2:Int->Int->Th}(hL:bi Ls):∀(p:Th),(∀s k:Int,Yi s k∈p.walk->∀u∈Ls,g1 s k=u->g2 s k=u)->∀u∈Ls,p.fill g1=u->p.fill g2=u
 | .call s k,h,u,hu,e=>by
   rw[Th.fill]at e |-;exact h s k (by rw[Zm];exact RX ..) u hu e
 | .knot n ks,h,u,hu,e=>by
   rw[Th.fill]at e |-;subst e;have hk:=hL _ hu;refine Zd (Zi n) ?_
   have:∀ts:List Th,(∀t∈ts,t∈ks)->(∀x∈fills g1 ts,x∈Ls)->fills g2 ts=fills g1 ts:=by
    intro ts;induction ts with
    |nil=>intro _ _;rw[fills,fills]
    | cons t ts ih =>
      intro ht hx;rw[fills]at hx |-;rw[fills,ih (λt h=>ht t (RT _ h)) λx h=>hx x (RT _ h)];have LJ:=ht t (RX ..);rw[gK hL t (λs k m=>h s k (jp (t:=.knot n ks) LJ _ m)) (t.fill g1) (hx _ (RX ..)) rfl]
   exact this ks (λt h=>h) hk
termination_by p=>p.size
decreasing_by
 all_goals
  have:=rP (t:=.knot n ks) LJ;exact this
theorem nO{xs ys:List Th}{note:List Int}(hL:bi Ls)(nd:Ls.Nodup)(hc:∀p,(∃row∈rows,p=row.getD ((ins.map (·.1)).idxOf nm) bd)->∀s k:Int,Yi s k∈p.walk->(∃k':Nat,k=(k':Int)/\k'<xs.length)/\∃s':Nat,s=(s':Int)/\s'<rows.length)
 (hp:Sb (λx y=>∃n,IsNote Ls (aD ins rows x) n/\IsNote Ls (aD ins rows y) n/\n.length=rows.length) xs ys) (hn:IsNote Ls (aD ins rows (.knot nm xs)) note):IsNote Ls (aD ins rows (.knot nm ys)) note:=by
 rw[ay]at hn |-
 have key:∀row∈rows,∀s k:Int,Yi s k∈(row.getD ((ins.map (·.1)).idxOf nm) bd).walk->∀u∈Ls,bZ ins rows xs s k=u↔bZ ins rows ys s k=u:=λrow hr s k hm u hu=>by
  obtain⟨⟨k',rfl,xE⟩,s',rfl,zP⟩:=hc _ ⟨row,hr,rfl⟩ _ _ hm;obtain⟨x,hx⟩:∃x,xs[k']?=A? x:=⟨_,RA xE⟩;obtain⟨y,hy,n,h1,h2,h3⟩:=Zl hp hx;obtain⟨w,hw⟩:=RS.mp hu
  have get:∀(zs:List Th)(z:Th),zs[k']?=A? z->IsNote Ls (aD ins rows z) n->(bZ ins rows zs (s':Int) (k':Int)=u↔n[s']?=A? (w:Int)):=λzs z hz Bl=>by
   have hl:s'<(aD ins rows z).length:=by rw[<-Bl.len,h3];exact zP
   have e:(aD ins rows z)[s']?=A? (bZ ins rows zs (s':Int) (k':Int)):=by
    unfold bZ;rw[RU,RU,Sf (l:=zs.map _),RG,hz,Sf];show _=A? (((aD ins rows z)[s']?).getD bd);rw[RA hl];rfl
   rw[Bl.iff nd e,hw];exact⟨λz=>by rw[z],λz=>(RN z).symm⟩
  rw[get xs x hx h1,get ys y hy h2]
 refine⟨by rw[hn.len,Rw,Rw],λs u hu=>?_⟩;rw[RG]at hu;obtain⟨row,xO,rfl⟩:=RW.mp hu;have hr:=Rx xO;rcases hn.at' s _ (gmE xO)with⟨j,h1,h2⟩|⟨h1,h2⟩
 .have:=gK hL _ (λs k m u hu e=>(key row hr s k m u hu).mp e) _ (Rx h1) rfl;exact .inl ⟨j,by rw[this];exact h1,h2⟩
 .refine .inr ⟨λz=>h1 ?_,h2⟩;have:=gK hL _ (λs k m u hu e=>(key row hr s k m u hu).mpr e) _ z rfl;show Th.fill (bZ ins rows xs) _∈Ls;rw[this];exact z
structure KAg(Ws:List bI)(St:List NtE)(ks:List Kd):Prop where
 len:∀kd∈ks,kd.ag.length=St.length
 at':∀(k:Nat)(kd:Kd)(n:Nat)(e:NtE),ks[k]?=A? kd->St[n]?=A? e->∃b,kd.ag[n]?=A? b/\0<=b/\∀i,bt b i=Bz↔Agr Ws e.note k i
theorem KAg.nil{ks:List Kd}(h:∀kd∈ks,kd.ag=[]):KAg Ws [] ks :=
 ⟨λkd hk=>by rw[h kd hk];rfl,λk kd n e _ he=>by simp at he⟩
theorem KAg.take{St:List NtE}{e:NtE}{ks:List Kd}(h:KAg Ws St ks)(t:Took Ws e.note ks ks.length xb):KAg Ws (St++[e]) xb:=by
 have old:∀(k:Nat)(yo:Kd),xb[k]?=A? yo->∃kd b,ks[k]?=A? kd/\yo={kd with ag:=kd.ag++[b]}/\0<=b/\∀i,bt b i=Bz↔Agr Ws e.note k i:=λk yo hk=>by
  have hl:k<ks.length:=by rw[<-t.len];exact(glE hk)
  obtain⟨b,h1,h2,h3⟩:=t.lo k _ hl (RA hl);rw[hk]at h1;exact⟨_,b,RA hl,RN h1,h2,h3⟩
 refine⟨λyo hk=>?_,λk yo n e' hk he=>?_⟩
 .obtain⟨k,hk⟩:=RS.mp hk;obtain⟨kd,b,h1,rfl,_⟩:=old k yo hk;show(kd.ag++[b]).length=_;rw[RK,RK,h.len kd (Rx h1)];rfl
 .obtain⟨kd,b,h1,rfl,h2,h3⟩:=old k yo hk;have hl:=h.len kd (Rx h1);rcases aI.mp he with he|⟨rfl,rfl⟩
  .obtain⟨b',g1,g2⟩:=h.at' k kd n e' h1 he;exact⟨b',aI.mpr (.inl g1),g2⟩
  .exact⟨b,aI.mpr (.inr ⟨hl.symm,CA⟩),h2,h3⟩
def fG(St:List NtE)(js:List Nat):List (List Int):=js.map λj=>((St[j]?).map (·.note)).getD []
theorem KAg.bits{St:List NtE}{ks:List Kd}(h:KAg Ws St ks){js:List Nat}(hl:js.length=ks.length)(hj:∀n∈js,n<St.length) :
 0<=(cnd (ks.map (·.ag)) Z (ones Ws.length) js).b/\∀i,bt (cnd (ks.map (·.ag)) Z (ones Ws.length) js).b i=Bz↔∃q,Ws[i]?=A? q/\∀(k:Nat)(n:List Int),(fG St js)[k]?=A? n->k<ks.length->∀c w:Int,((c,(k:Int)),w)∈q.2.2->n[c.toNat]?=A? w:=by
 have get:∀j n,j<ks.length->n<St.length->∃e b,St[n]?=A? e/\((ks.map (·.ag)).getD j []).getD n 0=b/\0<=b/\∀i,bt b i=Bz↔Agr Ws e.note j i:=λj n h1 h2=>by
  have e1:=RA h1;have e2:=RA h2;obtain⟨b,g1,g2⟩:=h.at' j _ n _ e1 e2;refine⟨_,b,e2,?_,g2⟩;rw[Sf,Sf,RG,e1];show((ks[j].ag)[n]?).getD 0=b;rw[g1];rfl
 obtain⟨b0,b1⟩:=vk (AG:=ks.map (·.ag)) (sz:=Z) (N:=Ws.length) (L:=St.length) (λj n h1 h2=>by
  obtain⟨e,b,_,g2,g3,_⟩:=get j n (by simpa using h1) h2;rw[g2];exact g3) js (by rw[Rw];lia) hj
 refine⟨b0,λi=>?_⟩;rw[b1];constructor
 .rintro⟨hi,xc⟩;refine⟨_,RA hi,λk n hk zD c w hm=>?_⟩;unfold fG at hk;rw[RG]at hk;obtain⟨j,zq,rfl⟩:=RW.mp hk;obtain⟨e,b,g1,g2,_,g4⟩:=get k j zD (hj j (Rx zq));have:=xc k j zq;rw[g2,g4]at this;obtain⟨q,hq,Fh⟩:=this;rw[RA hi]at hq;cases hq;rw[g1];exact Fh c w hm
 .rintro⟨q,hq,xc⟩;refine⟨(glE hq),λk j zq=>?_⟩;have hk:k<ks.length:=by rw[<-hl];exact(glE zq)
  obtain⟨e,b,g1,g2,_,g4⟩:=get k j hk (hj j (Rx zq));rw[g2,g4];refine⟨q,hq,λc w hm=>?_⟩;refine xc k e.note ?_ hk c w hm;unfold fG;rw[RG,zq];show A? (((St[j]?).map (·.note)).getD [])=_;rw[g1];rfl
theorem KAg.note{a:Nat}{St:List NtE}{ks:List Kd}{Z:List Int}{js:List Nat}{note:List Int}
 (h:KAg Ws St ks) (nd:Ls.Nodup) (Br:(ins.map (·.1)).idxOf nm=a) (zg:rows.map (λrow=>row.getD a bd)=pats) (yw:WSp Ls pats (λ_ _=>True) Ws) (hW:W.map (λq=>(q.1,q.2.1))=Ws.map (λq=>(q.1,q.2.1)))
 (hl:js.length=ks.length) (hj:∀n∈js,n<St.length) (ht:∀e∈St,Told ins rows Ls e) (hlen:∀e∈St,(aD ins rows e.t).length=rows.length)
 (Bc:∀p∈pats,∀s k:Int,Yi s k∈p.walk->(∃k':Nat,k=(k':Int)/\k'<ks.length)/\∃s':Nat,s=(s':Int)/\s'<rows.length)
 (hn:NoteBy W (cnd (ks.map (·.ag)) Z (ones W.length) js).b rows.length W.length note):IsNote Ls (aD ins rows (.knot nm (az St js))) note:=by
 have Ff:W.length=Ws.length:=by
  have:=Zd S4 hW;rw[Rw,Rw]at this;exact this
 have kid:∀(k:Nat)(x:Th),(az St js)[k]?=A? x->∃j e,js[k]?=A? j/\St[j]?=A? e/\x=e.t:=λk x hx=>by
  unfold az at hx;rw[RG]at hx;obtain⟨j,zq,rfl⟩:=RW.mp hx;have e:=RA (hj j (Rx zq));exact⟨j,_,zq,e,by rw[e];rfl⟩
 refine pT (m:=ks.length) (notes:=fG St js) nd Br zg yw hW (by unfold az;rw[Rw];exact hl) (λk x hx=>?_) Bc (λx hx=>?_) (h.bits hl hj (Z:=Z)).2 (by rw[<-Ff];exact hn)
 .obtain⟨j,e,h1,h2,rfl⟩:=kid k x hx;refine⟨e.note,?_,(ht e (Rx h2)).note⟩;unfold fG;rw[RG,h1];show A? (((St[j]?).map (·.note)).getD [])=_;rw[h2];rfl
 .obtain⟨k,hk⟩:=RS.mp hx;obtain⟨j,e,h1,h2,rfl⟩:=kid k x hk;exact hlen e (Rx h2)
theorem vG{x:Int}(h:0<=x)(hz:x≠0):∃i,bt x i=true:=by
 have:x.toNat≠0:=by lia
 obtain⟨i,hi⟩:=Nat.exists_testBit_of_ne_zero this;exact⟨i,hi⟩
structure KOk(ins:List (R1×Int))(rows:List (List Th))(Ls:List Th)(St:List NtE)(a:Nat)(w:Wy)(Ws:List bI):Prop where
 nm:ins[a]?=A? (w.nm,((w.ks.length:Nat):Int))
 m3:w.ks.length<=3
 sp:WSp Ls (rows.map λrow=>row.getD a bd) (λ_ _=>True) Ws
 ps:w.ps.map (λq=>(q.1,q.2.1))=Ws.map (λq=>(q.1,q.2.1))
 nt:∀(k:Nat)(kd:Kd),w.ks[k]?=A? kd->NeedT Ws k kd.es
 len:Ws.length<=4000
 call:∀p∈rows.map (λrow=>row.getD a bd),∀s k:Int,Yi s k∈p.walk->(∃k':Nat,k=(k':Int)/\k'<w.ks.length)/\∃s':Nat,s=(s':Int)/\s'<rows.length
 ag:KAg Ws St w.ks
 nq:w.nm≠q
section
variable{St:List NtE}{a:Nat}{w:Wy}
theorem KOk.psl(h:KOk ins rows Ls St a w Ws):w.ps.length=Ws.length:=by
 have:=Zd S4 h.ps;rw[Rw,Rw]at this;exact this
theorem KOk.pz(h:KOk ins rows Ls St a w Ws):∀p∈w.ps,∃s:Nat,p.1=(s:Int)/\s<rows.length:=λp hp=>by
 have:(p.1,p.2.1)∈Ws.map (λq=>(q.1,q.2.1)):=by rw[<-h.ps];exact RP.mpr ⟨p,hp,rfl⟩
 obtain⟨q,hq,e⟩:=RP.mp this;obtain⟨s,pt,x,u,h1,h2,h3,_⟩:=h.sp.wf q hq;refine⟨s,by rw[<-h1];exact(Zd WL e).symm,?_⟩;have:=(glE h3);rw[Rw]at this;exact this
theorem KOk.nc(h:KOk ins rows Ls St a w Ws):∀kd∈w.ks,∀e∈kd.es,∃c:Nat,e.1.1=(c:Int)/\c<rows.length:=λkd hk e he=>by
 obtain⟨k,hk⟩:=RS.mp hk;have nt:=h.nt k kd hk;obtain⟨i,hi⟩:=vG (nt.rng e he).1 (nt.nz e he);obtain⟨q,hq,hm⟩:=(nt.bit e.1.1 e.1.2 i).mp ⟨e,he,rfl,hi⟩;obtain⟨s,pt,x,u,h1,h2,h3,h4,h5⟩:=h.sp.wf q (Rx hq);exact(h.call x (Rx h3) _ _ (h5.ok _ hm).2).2
theorem KOk.ix(h:KOk ins rows Ls St a w Ws)(g:fX ins):(ins.map (·.1)).idxOf w.nm=a:=gQ g h.nm
theorem KOk.take{e:NtE}(h:KOk ins rows Ls St a w Ws)(t:Took Ws e.note w.ks w.ks.length xb):KOk ins rows Ls (St++[e]) a {w with ks:=xb} Ws:=by
 have hl:xb.length=w.ks.length:=t.len;refine⟨?_,by show xb.length<=3;rw[hl];exact h.m3,h.sp,h.ps,λk yo hk=>?_,h.len,?_,h.ag.take t,h.nq⟩
 .show ins[a]?=A? (w.nm,((xb.length:Nat):Int));rw[hl];exact h.nm
 .have xf:k<w.ks.length:=by rw[<-hl];exact(glE hk)
  obtain⟨b,h1,_⟩:=t.lo k _ xf (RA xf);have hk:xb[k]?=A? yo:=hk;rw[hk]at h1;have e2:=h.nt k _ (RA xf);rw[RN h1];exact e2
 .show∀p∈rows.map (λrow=>row.getD a bd),∀s k:Int,Yi s k∈p.walk->(∃k':Nat,k=(k':Int)/\k'<xb.length)/\_;rw[hl];exact h.call
theorem cg{e:NtE}(h:Told ins rows Ls e):(aD ins rows e.t).length=rows.length:=by
 have hf:=h.fit;cases ht:e.t with
 |call s k=>rw[ht,Yn]at hf;exact hf.elim
 |knot n ks=>rw[ay,Rw]
theorem ju{St:List NtE}{js:List Nat}:(az St js).length=js.length:=Rw _
theorem mV{js:List Nat}(hj:∀n∈js,n<St.length)(ht:∀e∈St,Told ins rows Ls e):Fits ins (az St js):=by
 induction js with
 |nil=>exact trivial
 | cons j js ih =>
   have e:=RA (hj j (RX ..));refine⟨?_,ih λn hn=>hj n (RT _ hn)⟩;show Yn ins (((St[j]?).map (·.t)).getD bd);rw[e];exact(ht _ (VL _)).fit
theorem KOk.told{js:List Nat}{c:NtE}(h:KOk ins rows Ls St a w Ws)(hn:fX ins)(nd:Ls.Nodup)(ht:∀e∈St,Told ins rows Ls e)(hl:js.length=w.ks.length)(hj:∀n∈js,n<St.length)
 (hb:NoteBy w.ps (cnd (w.ks.map (·.ag)) Z (ones w.ps.length) js).b rows.length w.ps.length c.note) (hc:c.t=.knot w.nm (az St js)) (hz:c.n=(Zi w.nm (az St js)).size):Told ins rows Ls c:=by
 refine⟨by rw[hc];exact hz,?_,?_⟩
 .rw[hc,Yn];refine⟨?_,mV hj ht⟩;rw[ju,hl];exact Rx h.nm
 .rw[hc];exact h.ag.note nd (h.ix hn) rfl h.sp h.ps hl hj ht (λe he=>cg (ht e he)) h.call hb
end
def Tb.mut(tb:Tb):List Ry:=tb.fd::tb.st::tb.ws.flatMap λw=>w.ks.map (·.a)
structure TInv(ins:List (R1×Int))(rows:List (List Th))(Ls:List Th)(old:List NtE)(i:Nat)(cl:R1->List Nat->Prop)(tb:Tb):Prop where
 p:PInv ins rows Ls tb.found tb.settled cl
 S:tb.S=rows.length
 n:tb.ws.length=ins.length
 k:∀(a:Nat)(w:Wy),tb.ws[a]?=A? w->∃Ws,KOk ins rows Ls (if a<i then tb.settled else old) a w Ws
section
variable{old:List NtE}{cl:R1->List Nat->Prop}{tb:Tb}
theorem TInv.congr{Fi:R1->List Nat->Prop}(h:TInv ins rows Ls old i cl tb)(e:∀nm ks,Fi nm ks->cl nm ks):TInv ins rows Ls old i Fi tb:=⟨h.p.congr e,h.S,h.n,h.k⟩
theorem TInv.enter{c:NtE}{js:List Nat}(h:TInv ins rows Ls old i cl tb)(hd:Entd tb.found c F')(hc:Told ins rows Ls c)(ht:c.t=.knot nm (az tb.settled js))(xf:∀s∈tb.settled,s.n<c.n) :
 TInv ins rows Ls old i (λm ks=>cl m ks\/(m=nm/\ks=js)) {tb with found:=F'} :=
 ⟨(h.p.enter hd hc xf).congr λm ks z=>z.imp id λy=>by rw[ht,y.1,y.2],h.S,h.n,h.k⟩
theorem TInv.take{Fj:List NtE}{e:NtE}{w:Wy}(h:TInv ins rows Ls Fj i cl tb)(hs:tb.settled=Fj++[e])(hw:tb.ws[i]?=A? w)(hk:KOk ins rows Ls Fj i w Ws)(t:Took Ws e.note w.ks w.ks.length xb) :
 TInv ins rows Ls Fj (i+1) cl {tb with ws:=tb.ws.set i {w with ks:=xb}}:=by
 have hi:=(glE hw);refine⟨h.p,h.S,by show(tb.ws.set i _).length=_;rw[U3];exact h.n,λa v hv=>?_⟩;have hv:(tb.ws.set i {w with ks:=xb})[a]?=A? v:=hv;show∃Ws,KOk ins rows Ls (if a<i+1 then tb.settled else Fj) a v Ws;by_cases z:i=a
 .subst z;rw[SS hi]at hv;rw[<-RN hv,Yb (UK _),hs];exact⟨Ws,hk.take t⟩
 .rw[SU z]at hv;have:=h.k a v hv;by_cases y:a<i
  .rw[Yb y]at this;rw[Yb (by lia)];exact this
  .rw[Za y]at this;rw[Za (by lia)];exact this
theorem TInv.settle{e:NtE}(h:TInv ins rows Ls old tb.ws.length cl tb)(he:e∈tb.found)(hn:e∉tb.settled)(zE:∀y∈tb.found,y∉tb.settled->keyLt y.key e.key=C?) :
 TInv ins rows Ls tb.settled 0 (λnm ks=>cl nm ks/\∀k∈ks,k<tb.settled.length) {tb with settled:=tb.settled++[e]}/\∀s∈tb.settled++[e],s.n<=e.n:=by
 obtain⟨h1,h2⟩:=h.p.settle he hn zE;refine⟨⟨h1,h.S,h.n,λa w hw=>?_⟩,λs hs=>?_⟩
 .have hw:tb.ws[a]?=A? w:=hw;rw[Za (Vp _)];have:=h.k a w hw;rw[Yb (glE hw)]at this;exact this
 .rcases RM.mp hs with hs|hs
  .exact h2 s hs
  .rw[RC.mp hs];exact RI _
end
theorem dA(a:Int×List Int):keyLt a a=false:=by
 unfold keyLt;rw[Yb rfl]
 have:∀l:List Int,Ym l l=false:=λl=>by
  induction l with
  |nil=>rfl
  |cons x l ih=>rw[Zp,Yb rfl];exact ih
 exact this _
theorem sub_len:∀{l m:List α},l.Nodup->(∀x∈l,x∈m)->l.length<=m.length
 | [],_,_,_=>Sn _
 | x::l,m,nd,h=>by
   rw[Sz]at nd;obtain⟨s,t,rfl⟩:=List.append_of_mem (h x (RX ..))
   have:=sub_len (m:=s++t) nd.2 λy hy=>by
    have:=h y (RT _ hy);rcases RM.mp this with g|g
    .exact RL _ g
    .rcases RR.mp g with rfl|g
     .exact Yd hy nd.1
     .exact R5 _ g
   rw[RK]at this;rw[RV,RK,RV];lia
theorem PInv.s30{St:List NtE}{c:R1->List Nat->Prop}(h:PInv ins rows Ls F St c):St.length<=30:=by
 refine Ss (sub_len ?_ h.s1) h.f3;refine List.Pairwise.imp (λ{a b}k z=>?_) h.s2;rw[z,dA]at k;cases k
theorem TbAt.beside{tb:Tb}{r:Ry}{v o':HO}(h:TbAt CT CW H tb)(hr:H r=A? v)(v1:∀xs,v≠.tup xs)(v2:∀xs,v≠.lst xs)(v3:∀xs,v≠.dT xs)(v4:∀c d f,v≠.ins c d f):TbAt CT CW (upd H r o') tb:=by
 have k:KT H (upd H r o'):=λb xs e=>by rw[ac (aC e hr (v1 xs).symm)];exact e
 have o:∀{b:Ry}{u:HO},H b=A? u->u≠v->(upd H r o') b=A? u:=λe hb=>(ac (aC e hr hb)).trans e;refine⟨o h.ins (v4 _ _ _).symm,o h.wl (v2 _).symm,λw hw=>(h.wa w hw).frame (S:=[r]) (Yo (RC.mpr rfl)) k ?_ λb hb=>?_,o h.fd (v3 _).symm,o h.st (v2 _).symm,λe he=>(h.fe e he).mono k,λe he=>(h.se e he).mono k,h.nd,h.sep,h.n1⟩
 .exactλz=>aC (h.wa w hw).ins hr (v4 _ _ _).symm (RC.mp z)
 .intro z;have yu:=h.wa w hw;have z:=RC.mp z;unfold Wy.bs at hb;simp only[RR,RM]at hb;rcases hb with rfl|rfl|rfl|hb|hb
  .exact aC yu.pl hr (v2 _).symm z
  .exact aC yu.nl hr (v2 _).symm z
  .exact aC yu.al hr (v2 _).symm z
  .obtain⟨kd,hk,rfl⟩:=RP.mp hb;exact aC (yu.nd kd hk) hr (v3 _).symm z
  .obtain⟨kd,hk,rfl⟩:=RP.mp hb;exact aC (yu.ag kd hk) hr (v2 _).symm z
theorem jw{AG:List (List Int)}{all:Int}{St:List NtE}:∀js:List Nat,(∀j∈js,j<St.length)->(∀e∈St,e.n=e.t.size)->(cnd AG (St.map λy=>((y.n:Nat):Int)) all js).n=((au (az St js):Nat):Int)/\(cnd AG (St.map λy=>((y.n:Nat):Int)) all js).ks=js:=by
 have snoc:∀(l:List Th)(t:Th),au (l++[t])=au l+t.size:=λl t=>by
  induction l with
  |nil=>show t.size+0=0+t.size;lia
  |cons x l ih=>show x.size+au (l++[t])=x.size+au l+t.size;lia
 refine snoc_ind (λ_ _=>⟨rfl,rfl⟩) λl a ih hj ht=>?_;obtain⟨h1,h2⟩:=ih (λj h=>hj j (RL _ h)) ht;rw[eG];refine⟨?_,by show _++[a]=_;rw[h2]⟩;show(cnd AG (St.map λy=>((y.n:Nat):Int)) all l).n+(St.map λy=>((y.n:Nat):Int)).getD a 0=_;have hl:=hj a (by simp);have e:=RA hl
 have e2:az St (l++[a])=az St l++[(St[a]).t]:=by
  unfold az;rw[R4];show _++[((St[a]?).map (·.t)).getD bd]=_;rw[e];rfl
 rw[h1,e2,snoc,Sf,RG,e];show _+((St[a].n:Nat):Int)=_;rw[ht _ (VL hl)];lia
theorem rJ:∀{ks:List Th}{t:Th},t∈ks->t.size<=au ks
 | x::ks,t,h=>by
   show t.size<=x.size+au ks;rcases RR.mp h with rfl|h
   .lia
   .have:=rJ h;lia
theorem TInv.more{old:List NtE}{cl Fi:R1->List Nat->Prop}{tb:Tb}(h:TInv ins rows Ls old i cl tb)
 (e:∀nm ks,Fi nm ks->cl nm ks\/∃y∈tb.found,IsNote Ls (aD ins rows (.knot nm (az tb.settled ks))) y.note/\y.n<=(Zi nm (az tb.settled ks)).size):TInv ins rows Ls old i Fi tb :=
 ⟨⟨h.p.f1,h.p.f2,h.p.f3,h.p.s1,h.p.s2,h.p.s3,λnm ks z=>(e nm ks z).elim (h.p.cl nm ks) id⟩,h.S,h.n,h.k⟩
section
variable{St:List NtE}
def ClAll(ins:List (R1×Int))(n:Nat)(nm:R1)(ks:List Nat):Prop:=(∃m:Nat,ins[m]?=A? (nm,((ks.length:Nat):Int)))/\∀k∈ks,k<n
theorem ClAll.succ{ks:List Nat}(h:ClAll ins (n+1) nm ks):(ClAll ins n nm ks/\∀k∈ks,k<n)\/((∃m:Nat,ins[m]?=A? (nm,((ks.length:Nat):Int)))/\(∀k∈ks,k<=n)/\n∈ks):=by
 by_cases z:n∈ks
 .exact .inr ⟨h.1,λk hk=>by have:=h.2 k hk;lia,z⟩
 .have:∀k∈ks,k<n:=λk hk=>by
   have h1:=h.2 k hk;have h2:k≠n:=λy=>z (y ▸ hk);lia
  exact .inl ⟨⟨h.1,this⟩,this⟩
theorem PInv.full(hL:bi Ls)(nd:Ls.Nodup)(hc:∀nm c,(nm,c)∈ins->∀p,(∃row∈rows,p=row.getD ((ins.map (·.1)).idxOf nm) bd)->∀s k:Int,Yi s k∈p.walk->(∃k':Nat,k=(k':Int)/\(k':Int)<c)/\∃s':Nat,s=(s':Int)/\s'<rows.length)
 (h:PInv ins rows Ls F St (ClAll ins St.length)) (xc:∀e∈F,e∈St):∀(n:Nat)(t:Th),t.size<=n->t.Fit ins->∃e∈St,IsNote Ls (aD ins rows t) e.note/\e.n<=t.size
 |0,t,hz,_=>by have:=Th.size_pos t;lia
 |n+1,.call s k,_,hf=>by rw[Yn]at hf;exact hf.elim
 | n+1,.knot nm ts,hz,hf=>by
   rw[Yn]at hf;have hz:au ts+1<=n+1:=hz;have ih:=PInv.full hL nd hc h xc n
   have rowsOf:∀us:List Th,au us<=n->Fits ins us->∃ks:List Nat,ks.length=us.length/\(∀k∈ks,k<St.length)/\au (az St ks)<=au us/\Sb (λx y=>∃n,IsNote Ls (aD ins rows x) n/\IsNote Ls (aD ins rows y) n/\n.length=rows.length) (az St ks) us:=λus=>by
    induction us with
    |nil=>exactλ_ _=>⟨[],rfl,(by intro k hk;cases hk),RI _,.nil⟩
    | cons u us Ol =>
      intro hs LK;have hs:u.size+au us<=n:=hs;obtain⟨ks,h1,h2,h3,h4⟩:=Ol (by lia) LK.2;obtain⟨e,he,g1,g2⟩:=ih u (by lia) LK.1;obtain⟨i,hi⟩:=RS.mp he;have yD:=(glE hi);have ht:=h.f1 e (h.s1 e he)
      have ek:az St (i::ks)=e.t::az St ks:=by
       unfold az;show((St[i]?).map (·.t)).getD bd::_=_;rw[hi];rfl
      refine⟨i::ks,by rw[RV,RV,h1],λk hk=>?_,?_,?_⟩
      .rcases RR.mp hk with rfl|hk
       .exact yD
       .exact h2 k hk
      .rw[ek];show e.t.size+au (az St ks)<=u.size+au us;have:=ht.n;lia
      .rw[ek];exact .cons ⟨e.note,ht.note,g1,by rw[ht.note.len,cg ht]⟩ h4
   obtain⟨ks,h1,h2,h3,h4⟩:=rowsOf ts (by lia) hf.2;obtain⟨m,hm⟩:=RS.mp hf.1;obtain⟨e,he,g1,g2⟩:=h.cl nm ks ⟨⟨m,by rw[h1];exact hm⟩,h2⟩;refine⟨e,xc e he,nO hL nd (λp hp s k hw=>?_) h4 g1,?_⟩
   .obtain⟨⟨k',e1,e2⟩,h5⟩:=hc nm _ hf.1 p hp s k hw;exact⟨⟨k',e1,by rw[ju,h1];lia⟩,h5⟩
   .have q1:(Zi nm (az St ks)).size=au (az St ks)+1:=rfl;have q2:(Zi nm ts).size=au ts+1:=rfl;lia
end
section
variable{St:List NtE}{c:R1->List Nat->Prop}
theorem PInv.snd(h:PInv ins rows Ls F St c):St.Nodup :=
 List.Pairwise.imp (λ{a b}k z=>by rw[z,dA]at k;cases k) h.s2
theorem PInv.all(h:PInv ins rows Ls F St c)(hl:F.length<=St.length):∀e∈F,e∈St:=λe he=>by
 by_cases z:e∈St
 .exact z
 .have:=sub_len (l:=e::St) (m:=F) (Sz.mpr ⟨z,h.snd⟩) λx hx=>by
   rcases RR.mp hx with rfl|hx
   .exact he
   .exact h.s1 x hx
  rw[RV]at this;lia
theorem PInv.late(h:PInv ins rows Ls F St c){y:NtE}(hy:y∈F):y.note∈St.map (·.note)↔y∈St:=by
 constructor
 .intro z;obtain⟨e,he,g⟩:=RP.mp z;obtain⟨i,hi⟩:=RS.mp hy;obtain⟨j,hj⟩:=RS.mp (h.s1 e he);have:=cU h.f2 hi hj g.symm;subst this;rw[hi]at hj;rw[RN hj];exact he
 .exactλz=>RP.mpr ⟨y,z,rfl⟩
theorem PInv.some_late(h:PInv ins rows Ls F St c)(hl:St.length<F.length):∃e∈F,e∉St:=by
 refine Wu λz=>?_;have xc:∀e∈F,e∈St:=λe he=>Wu λy=>z ⟨e,he,y⟩
 have fn:F.Nodup:=by
  have:=h.f2;exact(List.pairwise_map.mp this).imp λ{a b}k z=>k (by rw[z])
 have:=sub_len fn xc;lia
end
theorem TInv.nil{tb:Tb}(hf:tb.found=[])(hs:tb.settled=[])(hS:tb.S=rows.length)(hn:tb.ws.length=ins.length)(hk:∀(a:Nat)(w:Wy),tb.ws[a]?=A? w->∃Ws,KOk ins rows Ls [] a w Ws)(old:List NtE) :
 TInv ins rows Ls old tb.ws.length (λ_ _=>False) tb :=
 ⟨by rw[hf,hs];exact PInv.nil,hS,hn,λa w hw=>by rw[Yb (glE hw),hs];exact hk a w hw⟩
theorem WyAt.bsnd{w:Wy}(h:WyAt C H w):w.bs.Nodup:=by
 have dn:∀k∈w.ks,∀{b:Ry}{xs:List V},H b=A? (.lst xs)->b≠k.d:=λk hk{b xs}e z=>by
  have:=h.nd k hk;rw[<-z,e]at this;cases this
 have g:∀{f:Kd->Ry}{x:Ry},x∈w.ks.map f->∃k∈w.ks,x=f k:=λhx=>by
  obtain⟨k,hk,e⟩:=RP.mp hx;exact⟨k,hk,e.symm⟩
 have Fl:(w.ks.map (·.d)++w.ks.map (·.a)).Nodup:=by
  rw[SW];refine⟨h.ndd,h.nda,λx hx y hy z=>?_⟩;obtain⟨k,hk,rfl⟩:=g hx;obtain⟨k',xE,rfl⟩:=g hy;exact dn k hk (h.ag k' xE) z.symm
 unfold Wy.bs;rw[Sz,Sz,Sz]
 have Jj:∀{b:Ry}{xs:List V},H b=A? (.lst xs)->(∀k∈w.ks,b≠k.a)->b∉w.ks.map (·.d)++w.ks.map (·.a):=λ{b xs}e ha z=>by
  rcases RM.mp z with z|z
  .obtain⟨k,hk,y⟩:=g z;exact dn k hk e y
  .obtain⟨k,hk,y⟩:=g z;exact ha k hk y
 refine⟨λz=>?_,λz=>?_,Jj h.al λk hk=>(h.n4 k hk).2.2.symm,Fl⟩
 .rcases RR.mp z with z|z
  .exact h.n1 z
  .rcases RR.mp z with z|z
   .exact h.n2 z
   .exact Jj h.pl (λk hk=>(h.n4 k hk).1.symm) z
 .rcases RR.mp z with z|z
  .exact h.n3 z
  .exact Jj h.nl (λk hk=>(h.n4 k hk).2.1.symm) z
theorem WyAt.some_bs{w:Wy}(h:WyAt C H w):∀b∈w.bs,∃o,H b=A? o/\(∀xs,o≠.tup xs)/\(∀c d f,o≠.ins c d f)/\∀z,o≠.tbl z:=λb hb=>by
 unfold Wy.bs at hb;simp only[RR,RM]at hb;rcases hb with rfl|rfl|rfl|hb|hb
 .exact⟨_,h.pl,λ_ z=>(nomatch z),(λ_ _ _ z=>nomatch z),λ_ z=>nomatch z⟩
 .exact⟨_,h.nl,λ_ z=>(nomatch z),(λ_ _ _ z=>nomatch z),λ_ z=>nomatch z⟩
 .exact⟨_,h.al,λ_ z=>(nomatch z),(λ_ _ _ z=>nomatch z),λ_ z=>nomatch z⟩
 .obtain⟨k,hk,rfl⟩:=RP.mp hb;exact⟨_,h.nd k hk,λ_ z=>(nomatch z),(λ_ _ _ z=>nomatch z),λ_ z=>nomatch z⟩
 .obtain⟨k,hk,rfl⟩:=RP.mp hb;exact⟨_,h.ag k hk,λ_ z=>(nomatch z),(λ_ _ _ z=>nomatch z),λ_ z=>nomatch z⟩
def jE(S:Nat)(wl:Ry):List (R1×V):=aF (RF "ways") (.ref wl) (aF (RF "states") (.int (S:Nat)) [])
theorem qx{S:Nat}:(jE S wl).lookup (RF "ways")=A? (.ref wl):=by
 have e1:∀(f:R1)(v:V),aF f v []=[(f,v)]:=λf v=>by rw[aF]
 unfold jE;rw[e1,bO (by decide +kernel),e1];exact(lk1 (by decide +kernel)).trans lk0
theorem qh(S:Nat)(wl fd st:Ry):aF (RF "settled") (.ref st) (aF (RF "found") (.ref fd) (jE S wl))=tbF S wl fd st:=tN S wl fd st
structure TiI(C CW:Ry)(H:Hp)(x dx wl:Ry)(ins:List (R1×Int))(rows:List (List Th))(Ls:List Th)(n S:Nat)(H7:Hp)(ws:List Wy):Prop where
 sb:SameB x H H7
 self:H7 x=A? (.ins C dx (jE S wl))
 wll:H7 wl=A? (.lst (ws.map λw=>Zf w.x))
 wln:H wl=B?
 wa:∀w∈ws,WyAt CW H7 w
 fr:∀b∈ws.flatMap Wy.bs,H b=B?/\b≠wl
 nd:(ws.flatMap Wy.bs).Nodup
 len:ws.length=n
 k:∀(a:Nat)(w:Wy),ws[a]?=A? w->∃Ws,KOk ins rows Ls [] a w Ws
section
variable{H7:Hp}{x dx:Ry}{S:Nat}{ws:List Wy}
theorem TiI.same(h:TiI C CW H x dx wl ins rows Ls n S H7 ws)(s:Ye H7 H8):TiI C CW H x dx wl ins rows Ls n S H8 ws :=
 ⟨h.sb.trans (Zk s),s _ _ h.self,s _ _ h.wll,h.wln,λw hw=>(h.wa w hw).same s,h.fr,h.nd,h.len,h.k⟩
theorem TiI.null(h:TiI C CW H x dx wl ins rows Ls n S H7 ws)(hb:H7 b=B?):H b=B?/\b≠x/\b≠wl:=by
 have h1:b≠x:=λz=>by rw[z,h.self]at hb;cases hb
 refine⟨?_,h1,λz=>by rw[z,h.wll]at hb;cases hb⟩;cases z:H b with
 |none=>rfl
 |some o=>rw[h.sb b o h1 z]at hb;cases hb
theorem jQ{y dy:Ry}(hy:H7 y=B?)(G5:H7 dy=B?)(sb:SameB y (upd (upd H7 dy (.own y)) y (.ins CW dy [])) H8):Ye H7 H8:=λb o e=>sb b o (aq e hy) (by rw[ac (aq e hy),ac (aq e G5)];exact e)
theorem TiI.add{w:Wy}(h:TiI C CW H x dx wl ins rows Ls n S H7 ws)(wa:WyAt CW H7 w)(fr:∀b∈w.bs,H b=B?/\b≠wl)(ft:∀b∈w.bs,b∉ws.flatMap Wy.bs)(hk:∃Ws,KOk ins rows Ls [] n w Ws) :
 TiI C CW H x dx wl ins rows Ls (n+1) S (upd H7 wl (.lst ((ws.map λw=>Zf w.x)++[.ref w.x]))) (ws++[w]):=by
 have hx:x≠wl:=aC h.self h.wll (λz=>nomatch z);have k:KT H7 (upd H7 wl (.lst ((ws.map λw=>Zf w.x)++[.ref w.x]))):=λb xs e=>by rw[ac (aC e h.wll (λz=>nomatch z))];exact e
 have fw:∀v:Wy,WyAt CW H7 v->(∀b∈v.bs,b≠wl)->WyAt CW (upd H7 wl (.lst ((ws.map λw=>Zf w.x)++[.ref w.x]))) v:=λv hv hb =>
  hv.frame (S:=[wl]) (Yo (RC.mpr rfl)) k (λz=>aC hv.ins h.wll (λz=>nomatch z) (RC.mp z)) λb xC z=>hb b xC (RC.mp z)
 refine⟨λb o hb e=>?_,(ac hx).trans h.self,?_,h.wln,λv hv=>?_,?_,?_,by rw[RK,h.len];rfl,λa v hv=>?_⟩
 .rw[ac (aq e h.wln)];exact h.sb b o hb e
 .rw[ad,R4];rfl
 .rcases RM.mp hv with hv|hv
  .exact fw v (h.wa v hv) λb hb=>(h.fr b (fz hv hb)).2
  .rw[RC.mp hv];exact fw w wa λb hb=>(fr b hb).2
 .intro b hb;rw[List.flatMap_append]at hb;rcases RM.mp hb with hb|hb
  .exact h.fr b hb
  .rw[List.flatMap_singleton]at hb;exact fr b hb
 .rw[List.flatMap_append,List.flatMap_singleton,SW];exact⟨h.nd,wa.bsnd,λa ha b hb z=>ft b hb (z ▸ ha)⟩
 .rcases aI.mp hv with hv|⟨e,rfl⟩
  .exact h.k a v hv
  .rw[e,h.len];exact hk
theorem TiI.done{fd st:Ry}{Hd He:Hp}(h:TiI C CW H x dx wl ins rows Ls n S H7 ws)(hn:n=ins.length)(hS:S=rows.length)(s1:SameB x H7 He)(ex:He x=A? (.ins C dx (tbF S wl fd st)))(ef:He fd=A? (.dT []))(es:He st=A? (.lst []))
 (nf:H7 fd=B?) (ns:H7 st=B?) :
 TbAt C CW He ⟨x,dx,S,wl,fd,st,ws,[],[]⟩/\TInv ins rows Ls [] ws.length (λ_ _=>False) ⟨x,dx,S,wl,fd,st,ws,[],[]⟩/\SameB x H He/\∀b∈Tb.mut ⟨x,dx,S,wl,fd,st,ws,[],[]⟩,H b=none:=by
 have C2:wl≠x:=aC h.wll h.self (λz=>nomatch z)
 have bx:∀w∈ws,∀b∈w.bs,b≠x:=λw hw b hb z=>by
  obtain⟨o,e,_,h2,_⟩:=(h.wa w hw).some_bs b hb;rw[z,h.self]at e;exact h2 _ _ _ (RN e).symm
 have bo:∀w∈ws,∀b∈w.bs,∃o,H7 b=A? o:=λw hw b hb=>by
  obtain⟨o,e,_⟩:=(h.wa w hw).some_bs b hb;exact⟨o,e⟩
 have k:KT H7 He:=λb xs e=>s1 b _ (aC e h.self (λz=>nomatch z)) e;refine⟨⟨ex,s1 _ _ C2 h.wll,λw hw=>?_,ef,es,(by intro e he;cases he),(by intro e he;cases he),h.nd,λb hb=>⟨(h.fr b hb).2,?_⟩,?_⟩,TInv.nil (tb:=⟨x,dx,S,wl,fd,st,ws,[],[]⟩) rfl rfl hS (h.len.trans hn) h.k _,h.sb.trans s1,λb hb=>?_⟩
 .refine(h.wa w hw).keep k λb hb o e=>?_;by_cases z:b=x
  .unfold Wy.own at hb;rcases RR.mp hb with y|hb
   .exfalso;have e1:=(h.wa w hw).ins;rw[<-y,z,h.self]at e1;have e2:=RN e1;injection e2 with _ _ e3;have:(wyF w.nm w.pl w.nl w.al).lookup (RF "ways")=A? (.ref wl):=by rw[<-e3];exact qx
    rw[eu]at this;cases this
   .exact Yd z (bx w hw b hb)
  .exact s1 b o z e
 .obtain⟨w,hw,hb⟩:=UL.mp hb;obtain⟨o,e⟩:=bo w hw b hb;exact⟨aq e ns,aq e nf⟩
 .exact aq h.wll ns
 .unfold Tb.mut at hb;rcases RR.mp hb with rfl|hb
  .exact(h.null nf).1
  rcases RR.mp hb with rfl|hb
  .exact(h.null ns).1
  .obtain⟨w,hw,hb⟩:=UL.mp hb;exact(h.fr b (fz hw (u8 hb))).1
end
theorem mm{g:TG}{te:TE}{p:List Key×V->Bool}{Q:VK}
 (zb:∀R:VK,R (.ref d) H->tl σ H R) (hd:H d=A? (.dT kvs)) (hlen:kvs.length<=10000)
 (hs:∀(i:Nat)(kv:List Key×V)(pa b:Ry)(H2:Hp)(R:VK)(W':Hp->Prop),kvs[i]?=A? kv->SameB d H H2->H2 pa=A? (.tup [.ref b,kv.2])->H2 b=A? (.tup (kv.1.map kV))->(p kv=Bz->R kv.2 H2)->(p kv=C?->W' H2)->g (.ref pa) (cσ js σ) H2 λxl H3=>tt xl H3 λb H4=>if b=Bz then te xl H4 R else W' H4)
 (hq:∀(D:Ry)(H2:Hp),Ye H H2->H D=B?->H2 D=A? (.lst ((kvs.filter p).map (·.2)))->Q (.ref D) H2) :
 iY (oQ js (lc tl) g tt te) σ H Q:=by
 refine zb _ ⟨d,kvs,rfl,hd,λo D hD=>?_⟩;have Ae:D≠d:=λz=>by rw[z,ad]at hD;cases hD
 have DZ:H D=none:=by rw[ac Ae]at hD;exact hD
 refine⟨kvs.length,λj H2=>j<=kvs.length/\SameB d H H2/\H2 d=A? (.frz o (.dT kvs))/\H2 D=A? (.lst (((kvs.take j).filter p).map (·.2))),⟨Sn _,λb u hb e=>by rw[ac (aq e DZ),ac hb];exact e,by rw[ac Ae.symm,ad],ad⟩,?_⟩;rintro j H2 ⟨hj,sb,ed,eD⟩;by_cases zq:j=kvs.length
 .left;refine⟨⟨ed,by lia⟩,upd H2 d (.dT kvs),λb=>?_,?_⟩
  .by_cases hb:b=d
   .rw[hb];exact .inr ⟨o,_,ed,hd,ad⟩
   .exact .inl (ac hb)
  .rw[zq,T3]at eD;refine hq D _ (λb u e=>?_) DZ (by rw[ac Ae];exact eD);by_cases hb:b=d
   .rw[hb,hd]at e;rw[hb,ad];exact e
   .rw[ac hb];exact sb b u hb e
 .right;refine⟨by lia,⟨ed,by lia⟩,?_⟩;rintro x H3 ⟨pa,b,kv,hp,rfl,rfl,xQ,eb⟩;have D0:d≠pa:=λz=>by rw[<-z,ed]at hp;cases hp
  have Cj:D≠pa:=λz=>by rw[<-z,eD]at hp;cases hp
  have e2:(kvs.take (j+1)).filter p=(kvs.take j).filter p++(if p kv=Bz then[kv]else[]):=by
   rw[TY,xQ,UU];show _++Ww p [kv]=_;rw[VM,List.filter_nil]
  have hl:(((kvs.take j).filter p).map (·.2)).length<=10000:=by
   rw[Rw];have:=List.length_filter_le p (kvs.take j);rw[Sq]at this;lia
  have EH:SameB d H (upd H2 pa (.tup [.ref b,kv.2])):=λc u hc ec=>by rw[ac (aq (sb c u hc ec) hp)];exact sb c u hc ec
  refine hs j kv pa b _ _ _ xQ EH ad (by rw[ac (aq eb hp)];exact eb) (λFm=>?_) λFm=>?_
  .refine⟨_,by rw[ac Cj];exact eD,aS (by lia),by lia,λc u hc ec=>?_,?_,?_⟩
   .rw[ac (aq ec DZ)];exact EH c u hc ec
   .rw[ac Ae.symm,ac D0];exact ed
   .rw[ad,e2,Yb Fm,R4];rfl
  .refine⟨by lia,EH,by rw[ac D0];exact ed,?_⟩;rw[ac Cj,e2,Za (by rw[Fm];exact R0),T1];exact eD
def SameO(H H':Hp):Prop:=∀b o,H b=A? o->(∀z,o≠.tbl z)->H' b=A? o
theorem SameO.kt(s:SameO H H'):KT H H':=λb xs e=>s b _ e λ_ z=>nomatch z
end BB
namespace L2
open PySem BB
theorem TabSt.sameO{P:Ry}(t:TabSt H P pos qual)(s:SameT P H H'):SameO H H':=λb o e h=>s b o (λz=>by
 rw[z]at e;rcases t with y|⟨_,y,_⟩ <;> · rw[y]at e;cases e;exact h _ rfl) e
end L2
namespace BB
open PySem L2
theorem TbAt.sameO{tb:Tb}(h:TbAt CT CW H tb)(s:SameO H H'):TbAt CT CW H' tb:=by
 refine⟨s _ _ h.ins (λ_ z=>nomatch z),s _ _ h.wl (λ_ z=>nomatch z),λw hw=>?_,s _ _ h.fd (λ_ z=>nomatch z),s _ _ h.st (λ_ z=>nomatch z),λe he=>(h.fe e he).mono s.kt,λe he=>(h.se e he).mono s.kt,h.nd,h.sep,h.n1⟩;have yG:=h.wa w hw;refine yG.keep s.kt λb hb o e=>s b o e λz y=>?_;unfold Wy.own at hb;rcases RR.mp hb with rfl|hb
 .rw[yG.ins,y]at e;cases e
 .obtain⟨o',e',_,_,h3⟩:=yG.some_bs b hb;rw[e,y]at e';exact h3 _ (RN e').symm
def fg(F St:List NtE):List NtE:=F.filter λe=>!decide (e.note∈St.map (·.note))
theorem dJ{f:α->β}{p:β->Bool}{r:α->Bool}:∀{l:List α},(∀x∈l,p (f x)=r x)->(l.map f).filter p=(l.filter r).map f
 | [],_=>rfl
 | x::l,h=>by
   rw[R6,VM,VM,h x (RX ..),dJ λy hy=>h y (RT _ hy)];by_cases z:r x=Bz
   .rw[Yb z,Yb z,R6]
   .rw[Za z,Za z]
def nDv(note:List Int):Dv:=.tup (note.map Zj)
theorem r9{a b:List Int}(h:nDv a=nDv b):a=b:=by
 unfold nDv at h;injection h with h;exact jn h
theorem qq{note:List Int}(h:H a=A? (.tup (note.map Yh))):DAt H (nDv note) (.ref a):=by
 unfold nDv;rw[DAt];exact⟨a,_,CA,h,eW _⟩
theorem og:∀{St:List NtE},(∀e∈St,NtA H e)->DAts H (St.map λe=>nDv e.note) (St.map λe=>Zf e.na)
 | [],_=>by rw[T5,T5,DAts]
 | e::St,h=>by
   rw[R6,R6,DAts];exact⟨_,_,CA,qq (h e (RX ..)).na,og λx hx=>h x (RT _ hx)⟩
theorem jV:∀{St:List NtE},ej (St.map λe=>nDv e.note)<=3
 | []=>by rw[T5,ej];lia
 | e::St=>by
   have:=jV (St:=St);have h:=fC e.note;rw[R6,ej]
   have h2:(nDv e.note).deep<=3:=by
    unfold nDv;rw[Dv.deep];lia
   lia
theorem sW{St:List NtE}{note:List Int}:nDv note∈St.map (λe=>nDv e.note)↔note∈St.map (·.note):=by
 constructor
 .intro h;obtain⟨e,he,z⟩:=RP.mp h;exact RP.mpr ⟨e,he,r9 z⟩
 .intro h;obtain⟨e,he,rfl⟩:=RP.mp h;exact RP.mpr ⟨e,he,rfl⟩
end BB
namespace L2
open PySem BB
theorem TabSt.frb{P:Ry}(t:TabSt H P pos qual)(hS:∀b∈S,∃u,H b=A? u/\(∀φ,u≠.ext φ)/\∀z,u≠.tbl z)(f:FrB S H H'):TabSt H' P pos qual:=by
 have np:∀{z:Array Rz},H P=A? (.tbl z)->P∉S:=λe hb=>by
  obtain⟨u,h1,_,h3⟩:=hS _ hb;rw[e]at h1;exact h3 _ (RN h1).symm
 rcases t with h|⟨c',h1,φ,h2,h3⟩
 .exact .inl (f _ _ (np h) h)
 .refine .inr ⟨c',f _ _ (np h1) h1,φ,f _ _ (λhb=>?_) h2,h3⟩;obtain⟨u,g1,g2,_⟩:=hS _ hb;rw[h2]at g1;exact g2 _ (RN g1).symm
end L2
namespace BB
open PySem L2
theorem TbAt.mutOk{tb:Tb}(ht:TbAt CT CW H tb):∀b∈tb.mut,∃u,H b=A? u/\(∀φ,u≠.ext φ)/\∀z,u≠.tbl z:=λb hb=>by
 unfold Tb.mut at hb;rcases RR.mp hb with rfl|hb
 .exact⟨_,ht.fd,λ_ z=>(nomatch z),λ_ z=>nomatch z⟩
 .rcases RR.mp hb with rfl|hb
  .exact⟨_,ht.st,λ_ z=>(nomatch z),λ_ z=>nomatch z⟩
  .obtain⟨v,hv,hb⟩:=UL.mp hb;obtain⟨kd,yb,rfl⟩:=RP.mp hb;exact⟨_,(ht.wa v hv).ag kd yb,λ_ z=>(nomatch z),λ_ z=>nomatch z⟩
def mO(ks:List Key):List Int:=ks.map λk=>match k with
 |.inl i=>i
 |.inr _=>0
theorem eF:∀note:List Int,mO (eg note)=note
 | []=>rfl
 |i::note=>Zd (List.cons i) (eF note)
theorem pF{St:List NtE}:(nfv F).filter (λkv=>!decide (mO kv.1∈St.map (·.note)))=nfv (fg F St):=by
 unfold nfv fg;refine dJ λx _=>?_;rw[eF]
theorem eV{St:List NtE}{c:R1->List Nat->Prop}(h:PInv ins rows Ls F St c){e:NtE}:e∈fg F St↔e∈F/\e∉St:=by
 unfold fg;rw[Vr];constructor
 .rintro⟨h1,h2⟩;refine⟨h1,λz=>?_⟩;rw[Yc ((h.late h1).mpr z)]at h2;cases h2
 .rintro⟨h1,h2⟩;refine⟨h1,?_⟩;rw[Zb λz=>h2 ((h.late h1).mp z)];rfl
theorem l8{g:TG}{te:TE}{val:(Int×Int)×Int->V}{Q:VK}
 (zb:∀R:VK,R (.ref d) H->tl σ H R) (hd:H d=A? (.dT (dE es))) (hlen:es.length<=10000)
 (hs:∀(i:Nat)(e:(Int×Int)×Int)(p b:Ry)(H2:Hp)(R:VK),es[i]?=A? e->SameB d H H2->H2 p=A? (.tup [.ref b,.int e.2])->H2 b=A? (.tup ((ky e.1).map kV))->R (val e) H2->g (.ref p) (cσ js σ) H2 λxl H3=>te xl H3 R)
 (hq:∀(D:Ry)(H2:Hp),Ye H H2->H2 D=A? (.lst (es.map val))->Q (.ref D) H2) :
 iY (oQ js (lc tl) g bN te) σ H Q:=by
 refine zb _ ⟨d,dE es,rfl,hd,λo D hD=>?_⟩;have Ae:D≠d:=λz=>by rw[z,ad]at hD;cases hD
 have DZ:H D=none:=by rw[ac Ae]at hD;exact hD
 have hl:(dE es).length=es.length:=by unfold dE;rw[Rw]
 refine⟨es.length,λj H2=>j<=es.length/\SameB d H H2/\H2 d=A? (.frz o (.dT (dE es)))/\H2 D=A? (.lst ((es.take j).map val)),⟨Sn _,λb u hb e=>by rw[ac (aq e DZ),ac hb];exact e,by rw[ac Ae.symm,ad],ad⟩,?_⟩;rintro j H2 ⟨hj,sb,ed,eD⟩;by_cases zq:j=es.length
 .left;refine⟨⟨ed,by lia⟩,upd H2 d (.dT (dE es)),λb=>?_,?_⟩
  .by_cases hb:b=d
   .rw[hb];exact .inr ⟨o,_,ed,hd,ad⟩
   .exact .inl (ac hb)
  .rw[zq,T3]at eD;refine hq D _ (λb u e=>?_) (by rw[ac Ae];exact eD);by_cases hb:b=d
   .rw[hb,hd]at e;rw[hb,ad];exact e
   .rw[ac hb];exact sb b u hb e
 .right;refine⟨by lia,⟨ed,by lia⟩,?_⟩;rintro x H3 ⟨p,b,kv,hp,rfl,rfl,xQ,eb⟩
  obtain⟨e,he,rfl⟩:∃e,es[j]?=A? e/\(ky e.1,Yh e.2)=kv:=by
   unfold dE at xQ;rw[RG]at xQ;cases h:es[j]? with
   |none=>rw[h]at xQ;cases xQ
   |some e=>rw[h]at xQ;exact⟨e,CA,RN xQ⟩
  have D0:d≠p:=λz=>by rw[<-z,ed]at hp;cases hp
  have Cj:D≠p:=λz=>by rw[<-z,eD]at hp;cases hp
  refine hs j e p b _ _ he (λc u hc ec=>by rw[ac (aq (sb c u hc ec) hp)];exact sb c u hc ec) ad (by rw[ac (aq eb hp)];exact eb) ?_;refine⟨_,by rw[ac Cj];exact eD,aS (by rw[Rw,Sq];lia),by lia,λc u hc ec=>?_,?_,?_⟩
  .rw[ac (aq ec DZ),ac (aq (sb c u hc ec) hp)];exact sb c u hc ec
  .rw[ac Ae.symm,ac D0];exact ed
  .rw[ad,TY,he,R4];rfl
theorem nB:∀x σ H(Q Q':St->Hp->Prop),(∀a b,Q a b->Q' a b)->jG K 2 (bU (aw i) (bU (aw j) jF)) x σ H Q->jG K 2 (bU (aw i) (bU (aw j) jF)) x σ H Q' :=
 λ_ _ _ _ _ h⟨a,xs,e,hs,hl,v,r,e2,v2,r2,e3,e4,q⟩=>⟨a,xs,e,hs,hl,v,r,e2,v2,r2,e3,e4,h _ _ q⟩
structure WBk(H:Hp)(ins:List (R1×Int))(head:Th)(rows:List (List Th))(ba:Ry):Prop where
 ex:∃(ia ha ra:Ry)(v2:V)(Af yR:List Ry),H ba=A? (.tup [.ref ia,v2,.ref ha,.ref ra])/\H ia=A? (.tup (Af.map Zf))/\KsAt H ins Af/\H ra=A? (.tup (yR.map Zf))/\Sb (RowAt H) rows yR/\At H head ha
theorem WBk.mono{head:Th}{ba:Ry}(h:WBk H ins head rows ba)(k:KT H H'):WBk H' ins head rows ba:=by
 obtain⟨ia,ha,ra,v2,Af,yR,e1,e2,e3,e4,e5,e6⟩:=h.ex;exact⟨ia,ha,ra,v2,Af,yR,k _ _ e1,k _ _ e2,e3.mono k,k _ _ e4,Yj (λ_ _ e=>e.mono k) e5,e6.mono k⟩
structure WCd(ins:List (R1×Int))(rows:List (List Th))(t:Th)(ar:R1->Nat):Prop where
 gi:fX ins
 nq:∀k∈ins,k.1≠q
 rl:rows.length<=1000
 row:∀row∈rows,row.length=ins.length
 pt:∀(a:Nat)(nm:R1)(c:Int),ins[a]?=A? (nm,c)->∀p∈rows.map (λrow=>row.getD a bd),Ars ar p/\p.size<=100/\∀s k:Int,Yi s k∈p.walk->(∃k':Nat,k=(k':Int)/\(k':Int)<c)/\∃s':Nat,s=(s':Int)/\s'<rows.length
 ta:Ars ar t
 tc:∀p∈t.walk,p.isCall=C?
 ts:t.size<=100000
 big:rows.length * t.size<=4000
theorem cf(t:Th):(post t []).Nodup:=(fV t (by intro u h;cases h) T7).2.2.1
theorem oK(t:Th):bi (post t []):=(fV t (by intro u h;cases h) T7).2.1
theorem post_of{P:Th->Prop}(hk:∀t,P t->∀u∈t.kids,P u):∀(n:Nat),(∀(t:Th)(L:List Th),t.size<=n->P t->(∀u∈L,P u)->∀u∈post t L,P u)/\(∀(ts:List Th)(L:List Th),au ts<=n->(∀t∈ts,P t)->(∀u∈L,P u)->∀u∈aK ts L,P u):=by
 intro n;induction n with
 | zero =>
   refine⟨λt L h=>?_,λts L h=>?_⟩
   .have:=Th.size_pos t;lia
   .cases ts with
    |nil=>intro _ hL u hu;rw[aK]at hu;exact hL u hu
    |cons t ts=>rw[au]at h;have:=Th.size_pos t;lia
 | succ n ih =>
   have h1:∀(t:Th)(L:List Th),t.size<=n+1->P t->(∀u∈L,P u)->∀u∈post t L,P u:=λt L h ht hL u hu=>by
    have zr:au t.kids<=n:=by
     have:=t.size_eq;lia
    have hw:u∈aK t.kids L\/u=t:=by
     rw[post_eq]at hu;split at hu
     .exact .inl hu
     .rcases RM.mp hu with hu|hu
      .exact .inl hu
      .exact .inr (RC.mp hu)
    rcases hw with hw|rfl
    .exact ih.2 _ L zr (hk t ht) hL u hw
    .exact ht
   refine⟨h1,λts=>?_⟩;induction ts with
   |nil=>intro L _ _ hL u hu;rw[aK]at hu;exact hL u hu
   | cons t ts Om =>
     intro L h ht hL u hu;rw[au]at h;rw[aK]at hu;exact Om _ (by lia) (λx hx=>ht x (RT _ hx)) (h1 t L (by lia) (ht t (RX ..)) hL) u hu
theorem re{P:Th->Prop}(hk:∀t,P t->∀u∈t.kids,P u){t:Th}(h:P t):∀u∈post t [],P u:=(post_of hk t.size).1 t [] (RI _) h (by intro u hu;cases hu)
def lT(ins:List (R1×Int))(rows:List (List Th))(head u:Th):Th:=head.fill (bZ ins rows [u])
def Makes(es:CLs)(note:List Int):Prop:=∀e∈es,note[e.1.1.toNat]?=A? e.2
theorem cW{head u t:Th}{note:List Int}(nd:Ls.Nodup)(h:hG Ls head t es)(hc:∀s k:Int,Yi s k∈head.walk->k=0/\∃s':Nat,s=(s':Int)/\s'<rows.length)(hn:IsNote Ls (aD ins rows u) note)(hl:(aD ins rows u).length=rows.length):Makes es note↔lT ins rows head u=t:=by
 unfold lT;rw[h.iff]
 have key:∀e∈es,note[e.1.1.toNat]?=A? e.2↔Ls[e.2.toNat]?=A? (bZ ins rows [u] e.1.1 e.1.2):=λe he=>by
  obtain⟨⟨w,h1,h2⟩,h3⟩:=h.ok e he;obtain⟨h4,s',h5,h6⟩:=hc _ _ h3
  have hx:(aD ins rows u)[s']?=A? (bZ ins rows [u] e.1.1 e.1.2):=by
   unfold bZ;rw[h4,h5,RU];show _=A? (List.getD (aD ins rows u) s' bd);rw[Sf,RA (by lia)];rfl
  rw[h5,RU,h1,RU];rw[h5]at hx;rw[hn.iff nd hx]
 exact⟨λz e he=>(key e he).mp (z e he),λz e he=>(key e he).mpr (z e he)⟩
theorem kH{R:α->α->Prop}(h:l.Pairwise R){x y:α}(hi:l[i]?=A? x)(hj:l[j]?=A? y)(Ji:i<j):R x y:=by
 obtain⟨h1,rfl⟩:=Td.mp hi;obtain⟨h2,rfl⟩:=Td.mp hj;exact Wr.mp h i j h1 h2 Ji
structure vt(rows:List (List Th))(ar:R1->Nat)(head:Th):Prop where
 ar:Ars ar head
 sz:head.size<=10000
 c:∀s k:Int,Yi s k∈head.walk->k=0/\∃s':Nat,s=(s':Int)/\s'<rows.length
def lZ(ins:List (R1×Int))(rows:List (List Th))(t:Th):Prop:=∃F St,PInv ins rows (post t []) F St (ClAll ins St.length)/\∀e∈F,e∈St
theorem WCd.full{t:Th}{St:List NtE}(hc:WCd ins rows t ar)(hp:PInv ins rows (post t []) F St (ClAll ins St.length))(xc:∀e∈F,e∈St)(u:Th)(hu:u.Fit ins):∃e∈St,IsNote (post t []) (aD ins rows u) e.note/\e.n<=u.size:=by
 refine PInv.full (oK t) (cf t) (λnm c hm p Jk s k hw=>?_) hp xc u.size u (RI _) hu;obtain⟨a,ha⟩:=RS.mp hm;obtain⟨row,hr,rfl⟩:=Jk;rw[gQ hc.gi ha]at hw;exact(hc.pt a nm c ha _ (RP.mpr ⟨row,hr,rfl⟩)).2.2 s k hw
structure CountN(ins:List (R1×Int))(rows:List (List Th))(Ls:List Th)(N:List (List Int)):Prop where
 nd:N.Nodup
 sub:∀note∈N,∃t:Th,t.Fit ins/\IsNote Ls (aD ins rows t) note
 all:∀t:Th,t.Fit ins->∃note∈N,IsNote Ls (aD ins rows t) note
theorem CountN.over{N:List (List Int)}(h:CountN ins rows Ls N)(nd:Ls.Nodup)(o:Over ins rows Ls):30<N.length:=by
 obtain⟨l,h1,h2,h3⟩:=o
 have:=sub_len h2 (m:=N) λx hx=>by
  obtain⟨t,hf,hn⟩:=h3 x hx;obtain⟨note,hN,Bl⟩:=h.all t hf;rw[hn.uniq nd Bl];exact hN
 lia
theorem CountN.full{t:Th}{N:List (List Int)}{St:List NtE}(h:CountN ins rows (post t []) N)(hc:WCd ins rows t ar)(hp:PInv ins rows (post t []) F St (ClAll ins St.length))(xc:∀e∈F,e∈St):St.length=N.length:=by
 have h1:(St.map (·.note)).Nodup:=by
  rw[Wn,List.pairwise_map];refine hp.snd.imp_of_mem λ{a b}ha hb Aq e=>Aq ?_;obtain⟨i,hi⟩:=RS.mp (hp.s1 a ha);obtain⟨j,hj⟩:=RS.mp (hp.s1 b hb);have:=cU hp.f2 hi hj e;subst this;rw[hi]at hj;exact RN hj
 have l1:=sub_len h1 (m:=N) λx hx=>by
  obtain⟨e,he,rfl⟩:=RP.mp hx;have ht:=hp.f1 e (hp.s1 e he);obtain⟨note,hN,hn⟩:=h.all e.t ht.fit;rw[ht.note.uniq (cf t) hn];exact hN
 have l2:=sub_len h.nd (m:=St.map (·.note)) λx hx=>by
  obtain⟨u,hu,hn⟩:=h.sub x hx;obtain⟨e,he,Bl,_⟩:=hc.full hp xc u hu;exact RP.mpr ⟨e,he,Bl.uniq (cf t) hn⟩
 rw[Rw]at l1 l2;lia
theorem CountN.s30{t:Th}{N:List (List Int)}{St:List NtE}(h:CountN ins rows (post t []) N)(hc:WCd ins rows t ar)(hp:PInv ins rows (post t []) F St (ClAll ins St.length))(xc:∀e∈F,e∈St):N.length<=30:=by
 rw[<-h.full hc hp xc];exact hp.s30
def mkR(k0:R1)(c:List R1):Th:=c.foldl (λt n=>.knot n [t]) (.knot k0 [])
theorem bh(c:List R1)(n:R1):mkR k0 (c++[n])=.knot n [mkR k0 c]:=by
 unfold mkR;rw[List.foldl_append];rfl
theorem iS{P:List α->Prop}(h0:P [])(hs:∀l a,P l->P (l++[a])):∀l,P l:=λl=>by
 have:∀r:List α,P r.reverse:=by
  intro r;induction r with
  |nil=>exact h0
  |cons a r ih=>rw[SJ];exact hs _ _ ih
 have:=this l.reverse
 rwa [T6]at this
theorem dI:∀c:List R1,(mkR k0 c).size=c.length+1:=iS rfl λl a ih=>by
 rw[bh,RK,R8];show(mkR k0 l).size+0+1=_;rw[ih]
theorem sZ:∀c d:List R1,mkR k0 c=mkR k0 d->c=d:=by
 refine iS (λd h=>?_) λl a ih d h=>?_
 .have:=Zd Th.size h;rw[dI,dI]at this;exact(T9.mp (by simpa using this.symm)).symm
 .have:=Zd Th.size h;rw[dI,dI,RK,R8]at this;have hd:d≠[]:=λz=>by rw[z]at this;simp at this
  obtain⟨d',b,rfl⟩:∃d' b,d=d'++[b]:=⟨d.dropLast,d.getLast hd,(TJ hd).symm⟩;rw[bh,bh]at h;injection h with h1 h2;injection h2 with h2 _;rw[h1,ih _ h2]
def rQ(k0:R1)(c:List R1):List Th:=(SK (c.length+1)).map λj=>mkR k0 (c.take j)
theorem lM{c d:List R1}:mkR k0 d∈rQ k0 c↔d=c.take d.length:=by
 unfold rQ;constructor
 .intro h;obtain⟨j,hj,e⟩:=RP.mp h;have:=sZ _ _ e;rw[<-this,Sq,TZ]at*;rw[Nat.min_eq_left (by lia)]
 .intro h;refine RP.mpr ⟨d.length,TZ.mpr ?_,by rw[<-h]⟩;have:=Zd S4 h;rw[Sq]at this;lia
theorem rC:∀c:List R1,post (mkR k0 c) []=rQ k0 c:=by
 refine iS ?_ λl a ih=>?_
 .show post (.knot k0 []) []=[Zi k0 []];exact gM (by intro t h;cases h) (by intro u h;cases h) (by simp)
 .have xp:=oK (mkR k0 l);have yx:=cf (mkR k0 l);rw[bh,lU (c:=mkR k0 l) (pre:=[]) (rest:=[]) (by intro t h;cases h) T7 rfl (by intro u h;cases h),gM xp (λu hu=>?_) (λz=>?_),ih]
  .unfold rQ;have er:=@List.range_succ (l.length+1);rw[RK,R8,er,R4];refine congr (Zd HAppend.hAppend (Vl λj hj=>?_)) ?_
   .rw[TZ]at hj;rw[List.take_append_of_le_length (by lia)]
   .rw[Xx,show l.length+1=(l++[a]).length by rw[RK];rfl,T3,bh]
  .have hu:u∈[mkR k0 l]:=hu;rw[RC.mp hu];obtain⟨M,h1,_⟩:=qp (mkR k0 l);rw[h1];simp
  .rw[ih,<-bh,lM]at z;have:=Zd S4 z;rw[Sq,RK,R8]at this;lia
def ixR(c d:List R1):Int:=if d=c.take d.length then(d.length:Int)else -1
theorem jA{c:List R1}(ds:List (List R1)):IsNote (post (mkR k0 c) []) (ds.map (mkR k0)) (ds.map (ixR c)):=by
 refine⟨by rw[Rw,Rw],λs u hu=>?_⟩;rw[RG]at hu;obtain⟨d,hd,rfl⟩:=RW.mp hu;rw[RG,hd,rC];by_cases z:d=c.take d.length
 .refine .inl ⟨d.length,?_,Zd A? (Yb z)⟩;have hl:=Zd S4 z;rw[Sq]at hl;unfold rQ;rw[RG,UE (by lia)];show A? (mkR k0 (c.take d.length))=_;rw[<-z]
 .exact .inr ⟨λy=>z (lM.mp y),Zd A? (Za z)⟩
theorem mn{c:List R1}(h:j<=c.length):ixR c (c.take j)=(j:Int):=by
 have hl:(c.take j).length=j:=by rw[Sq];lia
 unfold ixR;rw[hl,Yb rfl]
theorem jv{c d:List R1}(h:c.length<d.length):ixR c d=-1:=by
 unfold ixR;refine Za λz=>?_;have:=Zd S4 z;rw[Sq]at this;lia
theorem gR(c d:List R1):(∃j,j<=c.length/\d=c.take j/\ixR c d=(j:Int))\/ixR c d=-1:=by
 unfold ixR;by_cases z:d=c.take d.length
 .have hl:=Zd S4 z;rw[Sq]at hl;exact .inl ⟨d.length,by lia,z,Yb z⟩
 .exact .inr (Za z)
def aW(k0 k1 k2 k3:R1):List (R1×Int):=[(k0,0),(k1,1),(k2,1),(k3,2)]
def ce(k0 k1 k2:R1):List Th:=[.knot k0 [],.knot k1 [.call 0 0],.knot k2 [.call 0 0],.call 0 0]
def cr(k0 k2:R1):List Th:=[.knot k0 [],.call 1 0,.knot k2 [.call 1 0],.call 1 0]
def fc(k0:R1):List Th:=[.knot k0 [],.knot k0 [],.call 0 0,.call 0 0]
section
variable{k3:R1}(g:fX (aW k0 k1 k2 k3))
include g
theorem kU:((aW k0 k1 k2 k3).map (·.1)).idxOf k0=0/\((aW k0 k1 k2 k3).map (·.1)).idxOf k1=1/\((aW k0 k1 k2 k3).map (·.1)).idxOf k2=2/\((aW k0 k1 k2 k3).map (·.1)).idxOf k3=3 :=
 ⟨gQ g (j:=0) rfl,gQ g (j:=1) rfl,gQ g (j:=2) rfl,gQ g (j:=3) rfl⟩
theorem fY:k0≠k1/\k0≠k2/\k1≠k2:=by
 exact⟨λz=>Yd (g.nd 0 1 _ _ rfl rfl z) (by decide),λz=>Yd (g.nd 0 2 _ _ rfl rfl z) (by decide),λz=>Yd (g.nd 1 2 _ _ rfl rfl z) (by decide)⟩
theorem vT{P:Th->Prop}(h0:P (.knot k0 []))(h1:∀x,x.Fit (aW k0 k1 k2 k3)->P x->P (.knot k1 [x]))(h2:∀x,x.Fit (aW k0 k1 k2 k3)->P x->P (.knot k2 [x]))(h3:∀x y,x.Fit (aW k0 k1 k2 k3)->P x->P (.knot k3 [x,y])):∀(n:Nat)(t:Th),t.size<=n->t.Fit (aW k0 k1 k2 k3)->P t:=by
 intro n;induction n with
 |zero=>intro t h;have:=Th.size_pos t;lia
 | succ n ih =>
   intro t hz hf;cases t with
   |call s k=>rw[Yn]at hf;exact hf.elim
   | knot nm ks =>
     rw[Yn]at hf;obtain⟨hm,hk⟩:=hf;have hz:au ks+1<=n+1:=hz;have hm:(nm,(ks.length:Int))∈[(k0,(0:Int)),(k1,1),(k2,1),(k3,2)]:=hm;simp only[RR,Prod.mk.injEq,List.not_mem_nil,or_false]at hm
     have one:∀{ks:List Th},((ks.length:Nat):Int)=1->au ks<=n->Fits (aW k0 k1 k2 k3) ks->∃x,ks=[x]/\x.Fit (aW k0 k1 k2 k3)/\P x:=λ{ks}h hs hf=>by
      match ks,h,hs,hf with
      | [x],_,hs,hf =>
        have hs:x.size+0<=n:=hs;exact⟨x,CA,hf.1,ih x (by lia) hf.1⟩
      | [],h,_,_=>cases h
      |_::_::_,h,_,_=>rw[RV,RV]at h;lia
     rcases hm with⟨rfl,h⟩|⟨rfl,h⟩|⟨rfl,h⟩|⟨rfl,h⟩
     .have:ks=[]:=T9.mp (by lia);rw[this];exact h0
     .obtain⟨x,rfl,hx,hp⟩:=one h (by lia) hk;exact h1 x hx hp
     .obtain⟨x,rfl,hx,hp⟩:=one h (by lia) hk;exact h2 x hx hp
     .match ks,h,hz,hk with
      | [x,y],_,hz,hk =>
        have hz:x.size+(y.size+0)+1<=n+1:=hz;exact h3 x y hk.1 (ih x (by lia) hk.1)
      | [],h,_,_=>cases h
      | [_],h,_,_=>cases h
      |_::_::_::_,h,_,_=>rw[RV,RV,RV]at h;lia
theorem eT:∀c:List R1,(∀x∈c,x=k1\/x=k2)->(mkR k0 c).Fit (aW k0 k1 k2 k3):=by
 refine iS (λ_=>?_) λl a ih h=>?_
 .show Yn _ (.knot k0 []);rw[Yn];exact⟨RX ..,trivial⟩
 .rw[bh,Yn];refine⟨?_,ih (λx hx=>h x (RL _ hx)),trivial⟩;rcases h a (by simp)with rfl|rfl
  .exact RT _ (RX ..)
  .exact RT _ (RT _ (RX ..))
theorem kg(rest:List (List Th))(t:Th)(hf:t.Fit (aW k0 k1 k2 k3)):∃c:List R1,(∀x∈c,x=k1\/x=k2)/\(aD (aW k0 k1 k2 k3) (ce k0 k1 k2::rest) t)[0]?=A? (mkR k0 c)/\(rest=[cr k0 k2]->(aD (aW k0 k1 k2 k3) (ce k0 k1 k2::rest) t)[1]?=A? (mkR k0 (c.filter (·≠k1)))):=by
 obtain⟨i0,i1,i2,i3⟩:=kU g;obtain⟨C3,Ck,BM⟩:=fY g;have gd:∀{ms:List Th}{j:Nat}{u:Th},ms[j]?=A? u->ms.getD j bd=u:=λh=>by rw[Sf,h];rfl
 refine vT g (P:=λt=>∃c:List R1,(∀x∈c,x=k1\/x=k2)/\(aD (aW k0 k1 k2 k3) (ce k0 k1 k2::rest) t)[0]?=A? (mkR k0 c)/\(rest=[cr k0 k2]->(aD (aW k0 k1 k2 k3) (ce k0 k1 k2::rest) t)[1]?=A? (mkR k0 (c.filter (·≠k1))))) ?_ ?_ ?_ ?_ t.size t (RI _) hf
 .refine⟨[],(by intro x h;cases h),?_,λe=>?_⟩
  .rw[ay,i0];rfl
  .subst e;rw[ay,i0];rfl
 .rintro x hx ⟨c,h1,h2,h3⟩;refine⟨c++[k1],λy hy=>?_,?_,λe=>?_⟩
  .rcases RM.mp hy with hy|hy
   .exact h1 y hy
   .exact .inl (RC.mp hy)
  .rw[ay,i1,bh,<-gd h2];rfl
  .have h3:=h3 e;subst e;rw[ay,i1,UU,show Ww (·≠k1) [k1]=[]by simp,T1,<-gd h3];rfl
 .rintro x hx ⟨c,h1,h2,h3⟩;refine⟨c++[k2],λy hy=>?_,?_,λe=>?_⟩
  .rcases RM.mp hy with hy|hy
   .exact h1 y hy
   .exact .inr (RC.mp hy)
  .rw[ay,i2,bh,<-gd h2];rfl
  .have h3:=h3 e;subst e;rw[ay,i2,UU,show Ww (·≠k1) [k2]=[k2]by simp[Tn BM],bh,<-gd h3];rfl
 .rintro x y hx ⟨c,h1,h2,h3⟩;refine⟨c,h1,?_,λe=>?_⟩
  .rw[ay,i3,<-gd h2];rfl
  .have h3:=h3 e;subst e;rw[ay,i3,<-gd h3];rfl
theorem pG(t:Th)(hf:t.Fit (aW k0 k1 k2 k3)):aD (aW k0 k1 k2 k3) [fc k0] t=[mkR k0 []]:=by
 obtain⟨i0,i1,i2,i3⟩:=kU g;refine vT g (P:=λt=>aD (aW k0 k1 k2 k3) [fc k0] t=[mkR k0 []]) ?_ ?_ ?_ ?_ t.size t (RI _) hf
 .rw[ay,i0];rfl
 .intro x _ _;rw[ay,i1];rfl
 .intro x _ h;rw[ay,i2]
  have:bZ (aW k0 k1 k2 k3) [fc k0] [x] 0 0=mkR k0 []:=by
   show(aD (aW k0 k1 k2 k3) [fc k0] x).getD 0 bd=_;rw[h];rfl
  rw[<-this];rfl
 .intro x y _ h;rw[ay,i3]
  have:bZ (aW k0 k1 k2 k3) [fc k0] [x,y] 0 0=mkR k0 []:=by
   show(aD (aW k0 k1 k2 k3) [fc k0] x).getD 0 bd=_;rw[h];rfl
  rw[<-this];rfl
theorem lF(rest:List (List Th)):∀c:List R1,(∀x∈c,x=k1\/x=k2)->(aD (aW k0 k1 k2 k3) (ce k0 k1 k2::rest) (mkR k0 c))[0]?=A? (mkR k0 c)/\(rest=[cr k0 k2]->(aD (aW k0 k1 k2 k3) (ce k0 k1 k2::rest) (mkR k0 c))[1]?=A? (mkR k0 (c.filter (·≠k1)))):=by
 obtain⟨i0,i1,i2,i3⟩:=kU g;obtain⟨C3,Ck,BM⟩:=fY g;have gd:∀{ms:List Th}{j:Nat}{u:Th},ms[j]?=A? u->ms.getD j bd=u:=λh=>by rw[Sf,h];rfl
 refine iS (λ_=>?_) λl a ih h=>?_
 .show(aD _ _ (Zi k0 []))[0]?=_/\(_->(aD _ _ (Zi k0 []))[1]?=_);refine⟨?_,λe=>?_⟩
  .rw[ay,i0];rfl
  .subst e;rw[ay,i0];rfl
 .obtain⟨h2,h3⟩:=ih λx hx=>h x (RL _ hx);rw[bh];rcases h a (by simp)with rfl|rfl
  .refine⟨?_,λe=>?_⟩
   .rw[ay,i1];show A? (Zi a [(aD _ _ (mkR k0 l)).getD 0 bd])=_;rw[gd h2]
   .have h3:=h3 e;subst e;rw[ay,i1,UU,show Ww (·≠a) [a]=[]by simp,T1,<-gd h3];rfl
  .refine⟨?_,λe=>?_⟩
   .rw[ay,i2];show A? (Zi a [(aD _ _ (mkR k0 l)).getD 0 bd])=_;rw[gd h2]
   .have h3:=h3 e;subst e;rw[ay,i2,UU,show Ww (·≠k1) [a]=[a]by simp[Tn BM],bh,<-gd h3];rfl
omit g in
theorem sI{x y:α}(hl:l.length=2)(h0:l[0]?=A? x)(h1:l[1]?=A? y):l=[x,y]:=by
 match l,hl with
 | [a,b],_ =>
   cases h0;cases h1;rfl
omit g in
theorem len_one{x:α}(hl:l.length=1)(h0:l[0]?=A? x):l=[x]:=by
 match l,hl with
 | [a],_ =>
   cases h0;rfl
theorem jP{t:Th}(h:t.Fit (aW k0 k1 k2 k3)):(aD (aW k0 k1 k2 k3) rows t).length=rows.length:=by
 cases t with
 |call s k=>rw[Yn]at h;exact h.elim
 |knot n ks=>rw[ay,Rw]
theorem m8{c:List R1}:CountN (aW k0 k1 k2 k3) [fc k0] (post (mkR k0 c) []) [[0]]:=by
 have key:∀t:Th,t.Fit (aW k0 k1 k2 k3)->IsNote (post (mkR k0 c) []) (aD (aW k0 k1 k2 k3) [fc k0] t) [0]:=λt ht=>by
  rw[pG g t ht];exact jA (k0:=k0) (c:=c) [[]]
 exact⟨by simp,λnote hn=>⟨mkR k0 [],eT g [] (by intro x h;cases h),by rw[RC.mp hn];exact key _ (eT g [] (by intro x h;cases h))⟩,λt ht=>⟨[0],by simp,key t ht⟩⟩
theorem ng{c:List R1}(hc:∀x∈c,x=k1\/x=k2):∃N,N.length=c.length+2/\CountN (aW k0 k1 k2 k3) [ce k0 k1 k2] (post (mkR k0 c) []) N:=by
 have key:∀t:Th,∀d:List R1,t.Fit (aW k0 k1 k2 k3)->(aD (aW k0 k1 k2 k3) [ce k0 k1 k2] t)[0]?=A? (mkR k0 d)->IsNote (post (mkR k0 c) []) (aD (aW k0 k1 k2 k3) [ce k0 k1 k2] t) [ixR c d]:=λt d ht h=>by
  rw[len_one (jP g ht) h];exact jA (k0:=k0) (c:=c) [d]
 have mk:∀d:List R1,(∀x∈d,x=k1\/x=k2)->∃t:Th,t.Fit (aW k0 k1 k2 k3)/\IsNote (post (mkR k0 c) []) (aD (aW k0 k1 k2 k3) [ce k0 k1 k2] t) [ixR c d]:=λd hd=>⟨mkR k0 d,eT g d hd,key _ d (eT g d hd) (lF g [] d hd).1⟩;refine⟨(SK (c.length+1)).map (λj:Nat=>[(j:Int)])++[[-1]],by rw[RK,Rw,TB];rfl,⟨?_,λnote hn=>?_,λt ht=>?_⟩⟩
 .rw[SW];refine⟨?_,by simp,λa ha b hb z=>?_⟩
  .refine List.Pairwise.map _ (λa b Aq z=>Aq ?_) List.nodup_range;injection z with z _;lia
  .obtain⟨j,_,rfl⟩:=RP.mp ha;rw[RC.mp hb]at z;injection z with z _;lia
 .rcases RM.mp hn with hn|hn
  .obtain⟨j,hj,rfl⟩:=RP.mp hn;rw[TZ]at hj;have:=mk (c.take j) λx hx=>hc x (Xd hx);rw[mn (by lia)]at this;exact this
  .rw[RC.mp hn];have:=mk (c++[k1]) λx hx=>(RM.mp hx).elim (hc x) λh=>.inl (RC.mp h);rw[jv (by rw[RK];exact UK _)]at this;exact this
 .obtain⟨d,hd,h1,_⟩:=kg g [] t ht;refine⟨_,?_,key t d ht h1⟩;rcases gR c d with⟨j,h2,_,h3⟩|h3
  .rw[h3];exact RL _ (RP.mpr ⟨j,TZ.mpr (by lia),rfl⟩)
  .rw[h3];simp
theorem ml{c:List R1}(hc:∀x∈c,x=k1\/x=k2)(hh:c.head?≠A? k2):∃N,N.length=c.length+3/\CountN (aW k0 k1 k2 k3) [ce k0 k1 k2,cr k0 k2] (post (mkR k0 c) []) N:=by
 obtain⟨C3,Ck,BM⟩:=fY g
 have key:∀t:Th,∀d:List R1,t.Fit (aW k0 k1 k2 k3)->(aD (aW k0 k1 k2 k3) [ce k0 k1 k2,cr k0 k2] t)[0]?=A? (mkR k0 d)->(aD (aW k0 k1 k2 k3) [ce k0 k1 k2,cr k0 k2] t)[1]?=A? (mkR k0 (d.filter (·≠k1)))->IsNote (post (mkR k0 c) []) (aD (aW k0 k1 k2 k3) [ce k0 k1 k2,cr k0 k2] t) [ixR c d,ixR c (d.filter (·≠k1))]:=λt d ht h h'=>by
  rw[sI (jP g ht) h h'];exact jA (k0:=k0) (c:=c) [d,d.filter (·≠k1)]
 have mk:∀d:List R1,(∀x∈d,x=k1\/x=k2)->∃t:Th,t.Fit (aW k0 k1 k2 k3)/\IsNote (post (mkR k0 c) []) (aD (aW k0 k1 k2 k3) [ce k0 k1 k2,cr k0 k2] t) [ixR c d,ixR c (d.filter (·≠k1))]:=λd hd=>by
  obtain⟨h1,h2⟩:=lF g [cr k0 k2] d hd;exact⟨mkR k0 d,eT g d hd,key _ d (eT g d hd) h1 (h2 rfl)⟩
 have G6:∀d:List R1,(∀x∈d,x=k1\/x=k2)->ixR c (d.filter (·≠k1))=if d.filter (·≠k1)=[]then 0 else -1:=λd hd=>by
  by_cases z:d.filter (·≠k1)=[]
  .rw[z,Yb rfl];rfl
  .rw[Za z];rcases gR c (d.filter (·≠k1))with⟨j,h1,h2,_⟩|h
   .exfalso;cases hf:d.filter (·≠k1)with
    |nil=>exact z hf
    | cons x l =>
      have hx:x∈d.filter (·≠k1):=by rw[hf];exact RX ..
      rw[Vr,decide_eq_true_iff]at hx;have IE:x=k2:=(hd x hx.1).resolve_left hx.2;rw[hf]at h2;cases c with
      |nil=>simp at h2
      | cons y c =>
        cases j with
        |zero=>simp at h2
        | succ j =>
          rw[List.take_succ_cons]at h2;injection h2 with h2 _;exact hh (by rw[List.head?_cons,<-h2,IE])
   .exact h
 refine⟨(SK (c.length+1)).map (λj:Nat=>[(j:Int),if(c.take j).filter (·≠k1)=[]then 0 else -1])++[[-1,0],[-1,-1]],by rw[RK,Rw,TB];rfl,⟨?_,λnote hn=>?_,λt ht=>?_⟩⟩
 .rw[SW];refine⟨?_,by decide,λa ha b hb z=>?_⟩
  .refine List.Pairwise.map _ (λa b Aq z=>Aq ?_) List.nodup_range;injection z with z _;lia
  .obtain⟨j,_,rfl⟩:=RP.mp ha;simp only[RR,List.not_mem_nil,or_false]at hb;rcases hb with rfl|rfl
   .injection z with z _;lia
   .injection z with z _;lia
 .rcases RM.mp hn with hn|hn
  .obtain⟨j,hj,rfl⟩:=RP.mp hn;rw[TZ]at hj;have hd:∀x∈c.take j,x=k1\/x=k2:=λx hx=>hc x (Xd hx);have:=mk (c.take j) hd;rw[mn (by lia),G6 _ hd]at this;exact this
  .simp only[RR,List.not_mem_nil,or_false]at hn;rcases hn with rfl|rfl
   .have hd:∀x∈Sh (c.length+1) k1,x=k1\/x=k2:=λx hx=>.inl (Vm hx);have:=mk _ hd;rw[jv (by rw[VJ];exact UK _),G6 _ hd,Yb (List.filter_eq_nil_iff.mpr λx hx=>by rw[Vm hx];simp)]at this;exact this
   .have hd:∀x∈c++[k2],x=k1\/x=k2:=λx hx=>(RM.mp hx).elim (hc x) λh=>.inr (RC.mp h);have:=mk _ hd;rw[jv (by rw[RK];exact UK _),G6 _ hd,Za (λz=>?_)]at this
    .exact this
    .have hk:=List.filter_eq_nil_iff.mp z k2 (by simp);rw[decide_eq_true_iff]at hk;exact hk (Tn BM)
 .obtain⟨d,hd,h1,h2⟩:=kg g [cr k0 k2] t ht;refine⟨_,?_,key t d ht h1 (h2 rfl)⟩;rw[G6 d hd];rcases gR c d with⟨j,h2,h4,h3⟩|h3
  .rw[h3,h4];exact RL _ (RP.mpr ⟨j,TZ.mpr (by lia),rfl⟩)
  .rw[h3];by_cases z:d.filter (·≠k1)=[]
   .rw[Yb z];simp
   .rw[Za z];simp
end
@[elab_as_elim] theorem bQ {G:Hp->Prop} (h:H a=B?) (k:∀ H',Ye H H'->H' a=A? o->G H'):G (upd H a o):=k _ (ao h _) ad
theorem lG(x:α):∀m:Nat,(Sh m [x]).flatten=Sh m x
 |0=>rfl
 |m+1=>by rw[Ti,U8,lG x m,Ti];rfl
theorem qm{g:TG}{te:TE}(f:Nat->V)(hn:n<=1000000)
 (hb:∀(i:Nat)H2(R:VK)(W':Hp->Prop),i<n->Ye H H2->(∀H3,Ye H2 H3->R (f i) H3)->g (.int (0+(i:Nat))) (cσ js σ) H2 λxl H3=>tt xl H3 λb H4=>if b=Bz then te xl H4 R else W' H4)
 (xN:∀D H',H D=B?->Ye H H'->H' D=A? (.lst ((SK n).map f))->fin D H') :
 ∀D,H D=B?->∃(m:Nat)(W:Nat->Hp->Prop),W 0 (upd H D (.lst []))/\ff js g tt te σ (Itr 0 n) D m W λH'=>fin D H':=by
 refine kQ (xs:=(SK n).map λi=>Yh (0+(i:Nat))) (SK n) f (by rw[Rw]) (by rw[Rw,TB];exact hn) (λi H2 s hi=>?_) (λH2 s=>?_) (λi H2 x H3 s hi hy=>?_) (λi x z H2 R W' hx hz s hR=>?_) xN
 .rw[Rw,TB]at hi;exact hi
 .show n<=_;rw[Rw,TB];exact RI _
 .rw[Rw,TB]at hi;refine⟨hy.1,?_⟩;rw[RG,UE hi,hy.2];rfl
 .have hi:i<n:=by
   have:=(glE hz);rw[TB]at this;exact this
  rw[UE hi]at hz;cases hz;rw[RG,UE hi]at hx;cases hx;exact hb i H2 R W' hi s hR
theorem jk{s k:Int}:Ars ar (.call s k):=λn ks h=>by
 rw[Zm,RC]at h;cases h
theorem jb{n:R1}{ks:List Th}(h:ks.length=ar n)(hk:∀u∈ks,Ars ar u):Ars ar (.knot n ks):=λm us hm=>by
 rw[Zm]at hm;rcases RR.mp hm with e|hm
 .injection e with e1 e2;rw[e1,e2];exact h
 .have:∀ts:List Th,(∀u∈ts,Ars ar u)->Zi m us∈walks ts->us.length=ar m:=λts=>by
   induction ts with
   |nil=>intro _ h;rw[walks]at h;cases h
   | cons t ts ih =>
     intro ht h;rw[walks]at h;rcases RM.mp h with h|h
     .exact ht t (RX ..) m us h
     .exact ih (λu hu=>ht u (RT _ hu)) h
  exact this ks hk hm
def ar4(k0:R1)(n:R1):Nat:=if n=k0 then 0 else 1
structure pO(k0:R1)(S:Nat)(row:List Th):Prop where
 len:row.length=4
 pt:∀(a:Nat)(p:Th),row[a]?=A? p->Ars (ar4 k0) p/\p.size<=100/\∀s k:Int,Yi s k∈p.walk->1<=a/\k=0/\∃s':Nat,s=(s':Int)/\s'<S
section
variable{k3:R1}
theorem gq(S:Nat)(a:Nat):Ars (ar4 k0) (.knot k0 [])/\(Zi k0 []).size<=100/\∀s k:Int,Yi s k∈(Zi k0 []).walk->1<=a/\k=0/\∃s':Nat,s=(s':Int)/\s'<S :=
 ⟨jb (Yb rfl).symm (by intro u h;cases h),by show 0+1<=100;decide,λs k h=>by
  rw[Zm,walks,RC]at h;cases h⟩
theorem fQ{S a:Nat}(h:s0<S)(ha:1<=a):Ars (ar4 k0) (.call (s0:Int) 0)/\(Yi (s0:Int) 0).size<=100/\∀s k:Int,Yi s k∈(Yi (s0:Int) 0).walk->1<=a/\k=0/\∃s':Nat,s=(s':Int)/\s'<S :=
 ⟨jk,by show 1<=100;decide,λs k hm=>by
  rw[Zm,RC]at hm;injection hm with h1 h2;exact⟨ha,h2,s0,h1,h⟩⟩
theorem kR{S a:Nat}{n:R1}(hn:n≠k0)(h:s0<S)(ha:1<=a):Ars (ar4 k0) (.knot n [.call (s0:Int) 0])/\(Zi n [.call (s0:Int) 0]).size<=100/\∀s k:Int,Yi s k∈(Zi n [.call (s0:Int) 0]).walk->1<=a/\k=0/\∃s':Nat,s=(s':Int)/\s'<S :=
 ⟨jb (Za hn).symm (λu hu=>by rw[RC.mp hu];exact jk),by show(1+0)+1<=100;decide,λs k hm=>by
  rw[Zm,walks,walks,Zm]at hm;rcases RR.mp hm with e|hm
  .cases e
  .rw[T1,RC]at hm;injection hm with h1 h2;exact⟨ha,h2,s0,h1,h⟩⟩
theorem kM{p0 p1 p2 p3:Th}{S:Nat}(h0:Ars (ar4 k0) p0/\p0.size<=100/\∀s k:Int,Yi s k∈p0.walk->1<=0/\k=0/\∃s':Nat,s=(s':Int)/\s'<S)(h1:Ars (ar4 k0) p1/\p1.size<=100/\∀s k:Int,Yi s k∈p1.walk->1<=1/\k=0/\∃s':Nat,s=(s':Int)/\s'<S)(h2:Ars (ar4 k0) p2/\p2.size<=100/\∀s k:Int,Yi s k∈p2.walk->1<=2/\k=0/\∃s':Nat,s=(s':Int)/\s'<S)(h3:Ars (ar4 k0) p3/\p3.size<=100/\∀s k:Int,Yi s k∈p3.walk->1<=3/\k=0/\∃s':Nat,s=(s':Int)/\s'<S):pO k0 S [p0,p1,p2,p3] :=
 ⟨rfl,λa p hp=>by
  match a,hp with
  |0,hp=>cases hp;exact h0
  |1,hp=>cases hp;exact h1
  |2,hp=>cases hp;exact h2
  |3,hp=>cases hp;exact h3
  |a+4,hp=>simp at hp⟩
theorem ug{S:Nat}(h1:k1≠k0)(h2:k2≠k0)(hS:0<S):pO k0 S (ce k0 k1 k2):=kM (gq S 0) (kR (s0:=0) h1 hS (by decide)) (kR (s0:=0) h2 hS (by decide)) (fQ (s0:=0) hS (by decide))
theorem uy{S:Nat}(h2:k2≠k0)(hS:1<S):pO k0 S (cr k0 k2):=kM (gq S 0) (fQ (s0:=1) hS (by decide)) (kR (s0:=1) h2 hS (by decide)) (fQ (s0:=1) hS (by decide))
theorem wj{S:Nat}(hS:0<S):pO k0 S (fc k0):=kM (gq S 0) (gq S 1) (fQ (s0:=0) hS (by decide)) (fQ (s0:=0) hS (by decide))
theorem tF(h1:k1≠k0)(h2:k2≠k0):∀c:List R1,(∀x∈c,x=k1\/x=k2)->Ars (ar4 k0) (mkR k0 c):=by
 refine iS (λ_=>(gq 0 0).1) λl a ih h=>?_;rw[bh];refine jb (Za ?_).symm λu hu=>?_
 .rcases h a (by simp)with rfl|rfl
  .exact h1
  .exact h2
 .rw[RC.mp hu];exact ih λx hx=>h x (RL _ hx)
theorem mM:∀c:List R1,∀p∈(mkR k0 c).walk,p.isCall=false:=by
 refine iS (λp hp=>?_) λl a ih p hp=>?_
 .have hp:p∈[Zi k0 []]:=hp;rw[RC.mp hp];rfl
 .rw[bh,Zm,walks,walks,T1]at hp;rcases RR.mp hp with rfl|hp
  .rfl
  .exact ih p hp
theorem wR{c:List R1}(g:fX (aW k0 k1 k2 k3))(hr:∀row∈rows,pO k0 rows.length row)(hl:rows.length<=2)(hc:∀x∈c,x=k1\/x=k2)(xp:c.length<=40):WCd (aW k0 k1 k2 k3) rows (mkR k0 c) (ar4 k0):=by
 obtain⟨C3,Ck,BM⟩:=fY g;refine⟨g,λk hk=>t6 (g.low k hk).1,by lia,λrow h=>(hr row h).len,λa nm m hi p hp=>?_,tF C3.symm Ck.symm c hc,mM c,by rw[dI];lia,?_⟩
 .obtain⟨row,xO,rfl⟩:=RP.mp hp;have hR:=hr row xO;have ha:a<4:=(glE hi)
  have hg:row[a]?=A? (row.getD a bd):=by
   have:=hR.len;rw[Sf,RA (by lia)];rfl
  obtain⟨h1,h2,h3⟩:=hR.pt a _ hg;refine⟨h1,h2,λs k hm=>?_⟩;obtain⟨h4,h5,h6⟩:=h3 s k hm;refine⟨⟨0,h5,?_⟩,h6⟩
  match a,h4,hi with
  |1,_,hi=>cases hi;decide
  |2,_,hi=>cases hi;decide
  |3,_,hi=>cases hi;decide
  |a+4,_,hi=>simp[aW]at hi
 .have:=Nat.mul_le_mul hl (show(mkR k0 c).size<=41 by rw[dI];lia);lia
theorem hd4(h:0<rows.length):vt rows (ar4 k0) (.call 0 0):=⟨jk,by decide,λs k hm=>by
 rw[Zm,RC]at hm;injection hm with h1 h2;exact⟨h2,0,h1,h⟩⟩
theorem vL{b:Int}:fX (aW (nameOf b 0) (nameOf b 1) (nameOf b 2) (nameOf b 3)):=by
 have gt:∀(i:Nat)(k:R1×Int),(aW (nameOf b 0) (nameOf b 1) (nameOf b 2) (nameOf b 3))[i]?=A? k->i<4/\k.1=nameOf b (i:Int)/\0<=k.2/\k.2<=3:=λi k h=>by
  match i,h with
  |0,h=>cases h;exact⟨by decide,CA,(by decide:(0:Int)<=0),(by decide:(0:Int)<=3)⟩
  |1,h=>cases h;exact⟨by decide,CA,(by decide:(0:Int)<=1),(by decide:(1:Int)<=3)⟩
  |2,h=>cases h;exact⟨by decide,CA,(by decide:(0:Int)<=1),(by decide:(1:Int)<=3)⟩
  |3,h=>cases h;exact⟨by decide,CA,(by decide:(0:Int)<=2),(by decide:(2:Int)<=3)⟩
  |i+4,h=>simp[aW]at h
 refine⟨by show 1<=4;decide,by show 4<=8;decide,λk hk=>?_,λk hk=>?_,⟨_,RX ..,CA⟩,λi j k l hi hj e=>?_⟩
 .obtain⟨i,hi⟩:=RS.mp hk;rw[(gt i k hi).2.1];exact⟨iX _ _,nI _ _⟩
 .obtain⟨i,hi⟩:=RS.mp hk;exact(gt i k hi).2.2
 .obtain⟨h1,h2,_⟩:=gt i k hi;obtain⟨h3,h4,_⟩:=gt j l hj;rw[h2,h4]at e;have:=mI (by lia) (by lia) (by lia) (by lia) e;lia
end
def nD(k1 k2:R1)(m:Nat):List R1:=(SK m).map λj=>if j%2=0 then k1 else k2
theorem lB:∀x∈nD k1 k2 m,x=k1\/x=k2:=λx hx=>by
 obtain⟨j,_,rfl⟩:=RP.mp hx;by_cases z:j%2=0
 .rw[Yb z];exact .inl rfl
 .rw[Za z];exact .inr rfl
theorem rN:(nD k1 k2 m).length=m:=by
 unfold nD;rw[Rw,TB]
theorem pP(h:k1≠k2):(nD k1 k2 m).head?≠A? k2:=by
 unfold nD;cases m with
 |zero=>simp
 | succ m =>
   rw[List.range_succ_eq_map,R6,List.head?_cons];exactλz=>h (RN z)
theorem qt(h:k1≠k2):(Sh m k1).head?≠A? k2:=by
 cases m with
 |zero=>simp
 | succ m =>
   rw[Ti,List.head?_cons];exactλz=>h (RN z)
end BB
namespace L2
open PySem PySem.Spec PyProof.Rows
theorem qd{l:PySem.W.OpenLaw}{k:Nat}{q:R3}{d:DefRec}{K:XO->RH}{ts:List Ry}{CX:Se->CXT}{sp:Se->Ry->Sp}
 (hn:l.most=A? n) (GB:n<=RZ) (BF:d.params.defaults=[]) (hr:Room k callerA)
 (hY:∀(w:Se)(h:SM),YP w h->(K w.params).In h) (hT:∀(w:Se)(h:SM),YP w h->∀P∈ts,h.get? P=A? (Wi #[])) (he:∀P:XO,ts=HD.i6 (K P))
 (F:∀(w:Se)(mg:R1->Option Rz)(fa:Ry)(h:SM),(K w.params).In h->h.Ns Te mg->mg d.name=A? (.ref fa) ->
  ∃(fd:Up)(c T:Ry),(∀(s:RE)(u:Rz),BindsTo s fd ⟨[u],[]⟩ [(x,u)])/\PySem.W.codeHdIn (K w.params) c T=Bz/\(K w.params).lookup T=B? /\
    ∀base:SM,(K w.params).In base->base.Ns Te mg->Lam mg base c T->FnOk l.prog w (K w.params) mg base (CX w) k fa fd [x] (sp w T))
 (yw:∀(w:Se)(T:Ry)(H:Hp)(a:Ry)(ns:List Int),ns.length<=n->SqL (K w.params) H a (ns.map Yh)->H T=A? (.tbl #[])->sp w T [.ref a] H (λv _=>v=.bl Bz) λ_ _ _=>False)
 (IY:∀(w:Se)(H:Hp)(s:RE)(e:Rz)(s':RE),CX w [] H s (λ_ _ _=>False) e s'->False) :
 PySem.W.WalkO q loose XP YP l.row.toRowW d [] (λf vs=>PySem.call f vs):=by
 refine Att.attach_call hn BF λw s₀ l' mg mb fa o pm cd doc a vs ns G Y ho hd yf EA CF hints hlen hg=>?_;have KX:=hY w _ Y;obtain⟨fd,c,T,hb,ht,IX,hF⟩:=F w mg fa _ KX G.T.g EA;have hC:=PySem.W.codeHd_of_K KX ht;have hT:=hT w _ Y T (by rw[he w.params];exact HD.mK ht)
 have Ab:l'.heap.BuiltinsAt mg T:=by
  obtain⟨bm,ob,b1,b2,b3,b4,b5,b6⟩:=G.T.bmain;refine⟨bm,ob,b1,b2,λz=>?_,λz=>?_,b3,b4,b5,b6⟩
  .obtain⟨o',es,ep,e,d',_⟩:=G.T.g;rw[z,e]at b3;cases b3;rw[d']at b6;cases b6
  .rw[z,hT]at b3;cases b3;cases b4
 exact o9 KX G.T.g G.T.b G.T.builtins G.T.nolimit hg CF hints (Ss hlen GB) hr hC hT Ab IX hF hb (λH hS Ja=>yw w T H a ns hlen hS Ja) λH e s'=>IY w H l' e s'
end L2
namespace LAW
open PySem L2 BB
def top(i:Nat):V0:=PySem.Challenge.pw_boughbook_k50_many_notes.main.body.getD i (.Pass ⟨0,0,0,0⟩)
theorem scm{P:List R1}(a:sc.kind=.function:=by rfl)(b:sc.isCoroutine=false:=by rfl)(c:sc.isGenerator=false:=by rfl)(d:N.Nodup:=by decide +kernel)(e:N.take P.length=P:=by rfl)(f:∀x∈P,sc.names.lookup x=A? .local\/sc.names.lookup x=A? .cell:=by decide +kernel)(g:∀y∈sc.names,y.2≠.free:=by decide +kernel):bp N P sc:=⟨a,b,c,d,e,f,g⟩
abbrev ND(l:List R1):Prop:=l.Nodup
abbrev sC(N:List R1)(k i:Nat):Prop:=bp N (N.take k) (ax (top i))
theorem mD:sC ["thing"] 1 7:=scm
theorem eU:sC ["thing","met","ahead","part"] 1 8:=scm
theorem mR:sC ["thing"] 1 10:=scm
theorem kO:sC ["call"] 1 11:=scm
theorem pM:sC ["book"] 1 13:=scm
theorem mU:sC ["book"] 1 14:=scm
theorem mf:sC ["book"] 1 15:=scm
theorem kC:sC ["book"] 1 16:=scm
theorem dP:sC ["entries","parts","numbers","done","part","kids"] 3 18:=scm
theorem b8:sC ["row","at","fresh","told","ahead","entry","late"] 2 19:=scm
theorem dv:sC ["tree","entries","at"] 1 20:=scm
theorem cw:sC ["pattern","row","number","needs","ahead","part","wished"] 3 23:=scm
theorem jL:sC ["rows","bits","knots","kids"] 4 24:=scm
theorem cO:sC ["rows","agreeing","sizes","numbers","told","bits","knots","kids","number"] 4 25:=scm
theorem cJ:bp ["self","kind","patterns","row","state","pattern","part"] ["self","kind","patterns","row"] (ax (inClass (top 26) 0)):=scm
theorem bH:bp ["self","state","part","needs","called","kid","wished","bits"] ["self","state","part","needs"] (ax (inClass (top 26) 1)):=scm
theorem gW:bp ["self"] ["self"] (ax (inClass (top 26) 2)):=scm
theorem aM:bp ["self","note","kid","needing","against","state","part","bits"] ["self","note"] (ax (inClass (top 26) 3)):=scm
theorem aB:bp ["self","last","sizes","told","first","rows","place","agreeing","low","high","bits","knots","kids"] ["self","last","sizes"] (ax (inClass (top 26) 4)):=scm
theorem bJ:bp ["self","bits","states","note","number","state","part"] ["self","bits","states"] (ax (inClass (top 26) 5)):=scm
theorem du:bp ["self","book","row","at","kind"] ["self","book","row"] (ax (inClass (top 27) 0)):=scm
theorem cV:bp ["self","ways","bits","knots","kids","note","tree"] ["self","ways","bits","knots","kids"] (ax (inClass (top 27) 1)):=scm
theorem bv:bp ["self","entry","sizes","ways","bits","knots","kids"] ["self","entry"] (ax (inClass (top 27) 2)):=scm
theorem cv:bp ["self","ways","done","late"] ["self"] (ax (inClass (top 27) 3)):=scm
theorem di:sC ["book","wish","row","at","table"] 2 28:=scm
theorem qB:sC ["needs","note"] 2 29:=scm
theorem cR:sC ["book","wish","row","at","needs","note","tree"] 2 30:=scm
theorem aX:sC ["base","n","letters","word","rest","k","size","at","step"] 2 32:=scm
theorem dk:sC ["kinds","names","tree","name"] 2 33:=scm
theorem bV:sC ["book","wish","both","signs","e"] 3 34:=scm
theorem sc__law_holds : sC ["cell", "base", "kinds", "head", "copying", "still", "many", "wish", "rules", "due", "book"] 1 35 := scm
theorem qV:sC ["script","cell"] 1 36:=scm
structure FX(K:RH)(mg:R1->Option Rz)(n:R1)(i:Nat)(ps:List R1) where
 f:Ry
 d:Up
 F:Fun K n n (top i) f d
 b:Binds K d ps []
 m:mg n=A? (.ref f)
structure FM(K:RH)(e:Ry)(n q:R1)(s:V0)(ps:List R1) where
 f:Ry
 d:Up
 F:Fun K n q s f d
 b:Binds K d ps []
 me:Meth K e n f
structure FMT(K:RH)(e:Ry)(n q:R1)(s:V0)(ps:List R1) extends FM K e n q s ps where
 tc:Ry
 tp:Ry
 th:d.code=.ref tc
 t:PySem.W.codeHdIn K tc tp=Bz
 u:K.lookup tp=B?
section
open PySem.W
variable{K:Frag}{n q:R1}{e:Ry}{oc kV dc pm cd ct:Rz}{od an:Option Ry}{sl:Array (Option Rz)}
abbrev HB(n q:R1)(st:V0)(ps:List R1):Prop:=∀(kV dc pm:Rz)(an:Option Ry)(cd ct:Rz)(us:List Rz),us.length=ps.length->Wh (fnOf n q (bM st) (bq st) (ax st) .none kV dc pm an cd ct) ⟨us,[]⟩=pure (ps.zip us)
theorem hb1{p0:R1}(h:∀(kV dc pm:Rz)(an:Option Ry)(cd ct u0:Rz),Wh (fnOf n q (bM st) (bq st) (ax st) .none kV dc pm an cd ct) ⟨[u0],[]⟩=pure [(p0,u0)]):HB n q st [p0]:=λa b c d e f us hl=>by obtain⟨u0,rfl⟩:=us1 hl;exact h a b c d e f u0
theorem hb2{p0:R1}(h:∀(kV dc pm:Rz)(an:Option Ry)(cd ct u0 u1:Rz),Wh (fnOf n q (bM st) (bq st) (ax st) .none kV dc pm an cd ct) ⟨[u0,u1],[]⟩=pure [(p0,u0),(p1,u1)]):HB n q st [p0,p1]:=λa b c d e f us hl=>by obtain⟨u0,u1,rfl⟩:=us2 hl;exact h a b c d e f u0 u1
theorem hb3{p0:R1}(h:∀(kV dc pm:Rz)(an:Option Ry)(cd ct u0 u1 u2:Rz),Wh (fnOf n q (bM st) (bq st) (ax st) .none kV dc pm an cd ct) ⟨[u0,u1,u2],[]⟩=pure [(p0,u0),(p1,u1),(p2,u2)]):HB n q st [p0,p1,p2]:=λa b c d e f us hl=>by obtain⟨u0,u1,u2,rfl⟩:=us3 hl;exact h a b c d e f u0 u1 u2
theorem hb4{p0 p3:R1}(h:∀(kV dc pm:Rz)(an:Option Ry)(cd ct u0 u1 u2 u3:Rz),Wh (fnOf n q (bM st) (bq st) (ax st) .none kV dc pm an cd ct) ⟨[u0,u1,u2,u3],[]⟩=pure [(p0,u0),(p1,u1),(p2,u2),(p3,u3)]):HB n q st [p0,p1,p2,p3]:=λa b c d e f us hl=>by obtain⟨u0,u1,u2,u3,rfl⟩:=us4 hl;exact h a b c d e f u0 u1 u2 u3
theorem hb5{p0 p3 p4:R1}(h:∀(kV dc pm:Rz)(an:Option Ry)(cd ct u0 u1 u2 u3 u4:Rz),Wh (fnOf n q (bM st) (bq st) (ax st) .none kV dc pm an cd ct) ⟨[u0,u1,u2,u3,u4],[]⟩=pure [(p0,u0),(p1,u1),(p2,u2),(p3,u3),(p4,u4)]):HB n q st [p0,p1,p2,p3,p4]:=λa b c d e f us hl=>by obtain⟨u0,u1,u2,u3,u4,rfl⟩:=us5 hl;exact h a b c d e f u0 u1 u2 u3 u4
noncomputable def fm(a:findIn K (.ref e) n=A? (A? (.ref f)):=by k_is)(i:isFn K (.ref f)=true:=by k_is)(l:K.lookup f=A? ⟨oc,od,.func (fnOf n q (bM st) (bq st) (ax st) .none kV dc pm an cd ct),sl⟩:=by k_is)(c:codeIn K cd q=true:=by k_is)(k:keepIn K (.ref f)=true:=by k_is)(hb:HB n q (st) ps:=by first|exact LAW.hb1 λ_ _ _ _ _ _ _=>rfl|exact LAW.hb2 λ_ _ _ _ _ _ _ _=>rfl|exact LAW.hb3 λ_ _ _ _ _ _ _ _ _=>rfl|exact LAW.hb4 λ_ _ _ _ _ _ _ _ _ _=>rfl|exact LAW.hb5 λ_ _ _ _ _ _ _ _ _ _ _=>rfl):FM K e n q st ps:=⟨f,_,lm l c k,(lm l c k).binds hb,⟨a,i,k⟩⟩
noncomputable def fmt{tc tp:Ry}{to:TC}(a:findIn K (.ref e) n=A? (A? (.ref f)):=by k_is)(i:isFn K (.ref f)=true:=by k_is)(l:K.lookup f=A? ⟨oc,od,.func (fnOf n q (bM st) (bq st) (ax st) .none kV dc pm an cd ct),sl⟩:=by k_is)(c:codeIn K cd q=true:=by k_is)(k:keepIn K (.ref f)=true:=by k_is)(hb:HB n q (st) ps:=by first|exact LAW.hb1 λ_ _ _ _ _ _ _=>rfl|exact LAW.hb2 λ_ _ _ _ _ _ _ _=>rfl|exact LAW.hb3 λ_ _ _ _ _ _ _ _ _=>rfl|exact LAW.hb4 λ_ _ _ _ _ _ _ _ _ _=>rfl|exact LAW.hb5 λ_ _ _ _ _ _ _ _ _ _ _=>rfl)(g:cd=.ref tc:=by rfl)(v:K.lookup tc=A? to:=by k_is)(x:tabAt to=A? tp:=by rfl)(t:codeHdIn K tc tp=true:=by kernel_rfl)(u:K.lookup tp=none:=by kernel_rfl):FMT K e n q st ps:=⟨fm a i l c k hb,tc,tp,g,t,u⟩
theorem na(a:findIn K (.ref e) n=A? none:=by k_is):NoAttr K e n:=a
variable(X:K.In h)(G:h.Ns Te mg)
noncomputable def fx{i:Nat}(a:nsIn K Te n=A? (A? (.ref f)):=by k_is)(l:K.lookup f=A? ⟨oc,od,.func (fnOf n n (bM (top i)) (bq (top i)) (ax (top i)) .none kV dc pm an cd ct),sl⟩:=by k_is)(c:codeIn K cd n=true:=by k_is)(k:keepIn K (.ref f)=true:=by k_is)(hb:HB n n (top i) ps:=by first|exact LAW.hb1 λ_ _ _ _ _ _ _=>rfl|exact LAW.hb2 λ_ _ _ _ _ _ _ _=>rfl|exact LAW.hb3 λ_ _ _ _ _ _ _ _ _=>rfl|exact LAW.hb4 λ_ _ _ _ _ _ _ _ _ _=>rfl|exact LAW.hb5 λ_ _ _ _ _ _ _ _ _ _ _=>rfl):FX K mg n i ps:=⟨f,_,lm l c k,(lm l c k).binds hb,mg_of X G a⟩
include X G
theorem bn(a:nsIn K Te n=A? none:=by k_is):mg n=none:=mg_none_of X G a
theorem gn(a:nsIn K Te n=A? (A? (.ref f)):=by k_is):mg n=A? (.ref f):=mg_of X G a
theorem cs(a:nsIn K Te n=A? (A? (.str x tk)):=by k_is):∃tk,mg n=A? (.str x tk):=⟨tk,mg_of X G a⟩
theorem ci{x:Int}(a:nsIn K Te n=A? (A? (.int x tk)):=by k_is):∃tk,mg n=A? (.int x tk):=⟨tk,mg_of X G a⟩
end
theorem pcF{X:Cx}{kk k:Nat}{n:R1}{st:Nat}{es:List Su}{t:TA}{p:UX}(g:FX X.K X.mg n st ps)(F:FnOk X.prog X.w X.K X.mg X.base CX0 k g.f g.d ps sp)(hr:Room kk X.A)(ha:PA X (e::es) t)(hle:k<=kk:=by first|decide|lia)(hg:Gl X n:=by rfl)(AA:(n == ("__debug__":R1))=false:=by decide)(he:Sk (e::es) X.env=(C?,TN e X.env)::Sk es X.env:=by rfl)(yv:(UP pos (Sk es X.env)).any (·.1)=false:=by rfl):PE X (.Call (.Name n p) (e::es) [] pos) (t9 sp [] E0 t) :=
 oC F (hr.mono hle) hg g.m g.F.kp g.b .nil fo ha AA he yv
structure TX(K:RH)(mg:R1->Option Rz) where
 c_CALL_SIGN:∃tk,mg "CALL_SIGN"=A? (.str (RF "?") tk)
 c_MOST_NOTES:∃tk,mg "MOST_NOTES"=A? (.int (30) tk)
 e_BookError:Ry
 x_BookError:mg "BookError"=A? (.ref e_BookError)
 e_NotOne:Ry
 x_NotOne:mg "NotOne"=A? (.ref e_NotOne)
 e_Great:Ry
 x_Great:mg "Great"=A? (.ref e_Great)
 e_Many:Ry
 x_Many:mg "Many"=A? (.ref e_Many)
 xe_Many:PySem.W.excIn K e_Many [.type "ValueError",.type "Exception",.type "BaseException",.type "object"] "ValueError.__new__"=Bz
 xg_Many:TH K (.ref e_Many) "__getattribute__"=A? (A? (.builtin "BaseException.__getattribute__"))
 xh_Many:TH K (.ref e_Many) "__getattr__"=A? B?
 xc_Many:TH K (.ref e_Many) "__class__"=A? (A? (.builtin "object.__class__"))
 xo_Many:PySem.W.mroIn K e_Many (.type "object")=A? Bz
 xb_Many:PySem.W.mroIn K e_Many (.type "BaseException")=A? Bz
 hit_Many_BookError:PySem.W.exmOne K (.ref e_Many) (.ref e_BookError)=A? Bz
 kit_Many_Many:Xb K (.ref e_Many) (.ref e_Many)=A? Bz
 kit_Many_ValueError:Xb K (.ref e_Many) (.type "ValueError")=A? Bz
 kit_Many_Great:Xb K (.ref e_Many) (.ref e_Great)=A? C?
 kit_Many_NotOne:Xb K (.ref e_Many) (.ref e_NotOne)=A? C?
 g_0:FX K mg "kids_of" 7 ["thing"]
 g_1:FX K mg "walked" 8 ["thing"]
 g_2:FX K mg "is_call" 10 ["thing"]
 g_3:FX K mg "called_by" 11 ["call"]
 g_4:FX K mg "ins_of" 13 ["book"]
 g_5:FX K mg "head_of" 14 ["book"]
 g_6:FX K mg "rules_of" 15 ["book"]
 g_7:FX K mg "states_of" 16 ["book"]
 g_8:FX K mg "entered" 18 ["entries","parts","numbers"]
 g_9:FX K mg "in_order" 19 ["row","at"]
 g_10:FX K mg "shared_row" 20 ["tree"]
 g_11:FX K mg "needs_of" 23 ["pattern","row","number"]
 g_12:FX K mg "keep_least" 24 ["rows","bits","knots","kids"]
 g_13:FX K mg "longer" 25 ["rows","agreeing","sizes","numbers"]
 g_24:FX K mg "notes_of" 28 ["book","wish"]
 g_25:FX K mg "makes" 29 ["needs","note"]
 g_26:FX K mg "whence" 30 ["book","wish"]
 g_27:FX K mg "_law_name" 32 ["base","n"]
 g_28:FX K mg "_law_row" 33 ["kinds","names"]
 g_29:FX K mg "_law_refused" 34 ["book","wish","both"]
 g_30:FX K mg "_law_holds" 35 ["cell"]
 g_31:FX K mg "law" 36 ["script"]
 e_Ways:Ry
 x_Ways:mg "Ways"=A? (.ref e_Ways)
 cl_Ways:Cls K e_Ways
 g_14:FM K e_Ways "__init__" "Ways.__init__" (inClass (top 26) 0) ["self","kind","patterns","row"]
 g_15:FM K e_Ways "add_way" "Ways.add_way" (inClass (top 26) 1) ["self","state","part","needs"]
 g_16:FM K e_Ways "all_bits" "Ways.all_bits" (inClass (top 26) 2) ["self"]
 g_17:FM K e_Ways "take_note" "Ways.take_note" (inClass (top 26) 3) ["self","note"]
 g_18:FM K e_Ways "rows_with" "Ways.rows_with" (inClass (top 26) 4) ["self","last","sizes"]
 g_19:FM K e_Ways "note_by" "Ways.note_by" (inClass (top 26) 5) ["self","bits","states"]
 mi_Ways:WZ K e_Ways=Bz/\UI K (.ref e_Ways)=Bz
 na_Ways_kind_name:NoAttr K e_Ways "kind_name"
 na_Ways_pairs:NoAttr K e_Ways "pairs"
 na_Ways_needing:NoAttr K e_Ways "needing"
 na_Ways_agreeing:NoAttr K e_Ways "agreeing"
 e_Table:Ry
 x_Table:mg "Table"=A? (.ref e_Table)
 cl_Table:Cls K e_Table
 g_20:FM K e_Table "__init__" "Table.__init__" (inClass (top 27) 0) ["self","book","row"]
 g_21:FM K e_Table "enter" "Table.enter" (inClass (top 27) 1) ["self","ways","bits","knots","kids"]
 g_22:FM K e_Table "settle" "Table.settle" (inClass (top 27) 2) ["self","entry"]
 g_23:FMT K e_Table "fill" "Table.fill" (inClass (top 27) 3) ["self"]
 mi_Table:WZ K e_Table=Bz/\UI K (.ref e_Table)=Bz
 na_Table_states:NoAttr K e_Table "states"
 na_Table_ways:NoAttr K e_Table "ways"
 na_Table_found:NoAttr K e_Table "found"
 na_Table_settled:NoAttr K e_Table "settled"
 n_0:mg "ValueError"=B?
 n_1:mg "all"=B?
 n_2:mg "enumerate"=B?
 n_3:mg "isinstance"=B?
 n_4:mg "len"=B?
 n_5:mg "list"=B?
 n_6:mg "min"=B?
 n_7:mg "range"=B?
 n_8:mg "reversed"=B?
 n_9:mg "tuple"=B?
 n_10:mg "zip"=B?
theorem TX.X_Many(T:TX K mg):gO K T.e_Many:=⟨T.xe_Many,T.xg_Many,T.xh_Many,T.xc_Many,T.xo_Many,T.xb_Many⟩
theorem w8:ND ["kid","done"]:=by decide +kernel
theorem wg:ND ["kid","fresh"]:=by decide +kernel
theorem vM:ND ["kid"]:=by decide +kernel
theorem wV:ND ["kid","self"]:=by decide +kernel
theorem lj:ND ["knots","note","tree"]:=by decide +kernel
theorem wQ:ND ["patterns","at"]:=by decide +kernel
theorem vF:ND ["note","entry","done"]:=by decide +kernel
theorem vf:ND ["state","kid","wished","note"]:=by decide +kernel
theorem wJ:ND ["k","kinds"]:=by decide +kernel
section
variable(T:TX K mg)
inductive jq(vs:List V)(H:Hp)(Q:VK)(_E:XK):Prop
 |mk (a:Ry) (t:Th):vs=[.ref a]->At H t a->(∀(r:Ry)(as:List Ry)(H':Hp),Ye H H'->H' r=A? (.tup (as.map Zf))->Ats H' t.kids as->Q (.ref r) H')->jq  vs H Q _E
theorem my:FnOk P w K mg base CX0 1 T.g_0.f T.g_0.d ["thing"] jq:=by
 refine T.g_0.F.okA mD λxi A outer s H vs Q E hr h=>?_;obtain⟨a,t,rfl,hA,k⟩:=h
 refine⟨_,(af (bT (be dY (aH aG (pv 0) aj (λ_ _=>rfl)) (eR (v:=.str (RF "?")) rfl T.c_CALL_SIGN.choose_spec ⟨_,CA⟩) (bj _)) (ak (aP (aE ae))) bA)
  (ak (aP (bB eI (pv 0) (bE aj) bW)))),?_⟩
 try dsimp only[xS,xj]
 cases t with
 | knot n ks =>
   rw[At]at hA;refine hid λZZ kZ=>?_;obtain⟨hn,as,h1,h2⟩:=hA;refine kZ ?_;refine⟨_,CA,a,_,0,.str n,CA,CA,Ze h1,at0,CA,_,CA,?_⟩;refine kG (λc=>Yd (Zc c) (λz=>hn (V.str.inj z))) (λ_=>?_);refine⟨_,CA,1,CA,a,_,CA,Ze h1,?_,λr hr=>?_⟩
   .intro z;have:=z.1;simp[Zh]at this
   .rw[dB];exact k r as _ (ao hr _) ad (h2.mono (nh hr))
 | call sn kn =>
   rw[At]at hA;refine⟨_,CA,a,_,0,.str q,CA,CA,Ze hA,at0,CA,_,CA,?_⟩;refine kG (λ_=>?_) (λc=>Yd (Yc rfl) c);refine⟨by show 0<=RZ;decide,λr hr=>?_⟩;exact k r [] _ (ao hr _) ad .nil
inductive ki(vs:List V)(H:Hp)(Q:VK)(_E:XK):Prop
 |mk (a:Ry) (t:Th):vs=[.ref a]->At H t a->t.size<=100000->(∀(r:Ry)(as:List Ry)(H':Hp),Ye H H'->H r=B?->H' r=A? (.lst (as.map Zf))->Ats H' t.walk as->Q (.ref r) H')->ki  vs H Q _E
theorem o8:FnOk P w K mg base CX0 2 T.g_1.f T.g_1.d ["thing"] ki:=by
 refine T.g_1.F.okA eU λxi A outer s H vs Q E hr h=>?_;obtain⟨a,t,rfl,hA,hsz,k⟩:=h
 refine⟨_,(af (av 1 eU.nd (bY ae))
  (af (av 2 eU.nd (bY (aa (pv 0) ae)))
  (af (gp SE (bS (pv 2) (λ_=>rfl)) (af (av 3 eU.nd (lf Sm VI VH kW (pv 2)))
  (af (aY (df Sm S6 S5 bL (pv 1) (aa (pv 3) ae)))
  (ak (aY (df Sm PySem.F.slot_list_extend PySem.F.type_list_extend mz (pv 2) (aa (tI vy (pcF T.g_0 (my T) hr (aa (pv 3) ae))) ae)))))))
  (ak (aP (pv 1)))))),?_⟩
 try dsimp only[xS,xj]
 refine⟨by show 0<=RZ;decide,λmt Fn=>?_⟩;refine⟨_,CA,by show 1<=RZ;decide,λah Bs=>?_⟩;have G7:H ah=none:=(ao Fn _).free Bs;have xx:ah≠mt:=λz=>by rw[z,ad]at Bs;cases Bs
 refine⟨λm σ H2=>Ex5 λ(ms as:List Ry)(Ms As:List Th)(p:Option V)=>An8 (σ=[A? (.ref a),A? (.ref mt),A? (.ref ah),p]) (Ye H H2) (H2 mt=A? (.lst (ms.map Zf))) (H2 ah=A? (.lst (as.map Zf))) (Ats H2 Ms ms) (Ats H2 As as) (Ms++walks As.reverse=t.walk) (m=au As),⟨_,[],[a],[],[t],B?,CA,?_,?_,?_,.nil,.cons (hA.mono ?_) .nil,?_,CA⟩,?_⟩
 .exact aV (ao Fn _) G7
 .rw[ac xx.symm,ad];rfl
 .rw[ad];rfl
 .exact Zg (aV (ao Fn _) G7)
 .simp[walks]
 rintro m σ H2 ⟨ms,as,Ms,As,p,rfl,sm,e1,e2,a1,a2,hw,rfl⟩
 have hlen:ms.length+au As<=100000:=by
  have h1:=Zd S4 hw;rw[RK,gD,Th.walk_len,<-a1.length]at h1;have h2:=jZ As;lia
 refine⟨_,CA,_,.inl ⟨_,Yg e2,CA⟩,?_⟩;refine kG (λc=>?_) (λc=>?_)
 ·-- a part is taken off
  refine⟨λi' H'=>∃m',m'<au As/\Ex5 λ(ms as:List Ry)(Ms As:List Th)(p:Option V)=>An8 (i'=[A? (.ref a),A? (.ref mt),A? (.ref ah),p]) (Ye H H') (H' mt=A? (.lst (ms.map Zf))) (H' ah=A? (.lst (as.map Zf))) (Ats H' Ms ms) (Ats H' As as) (Ms++walks As.reverse=t.walk) (m'=au As),λi' H' h=>h,?_⟩;have yy:as≠[]:=by intro z;subst z;simp at c
  obtain⟨xw,b,rfl⟩:∃xw b,as=xw++[b]:=⟨as.dropLast,as.getLast yy,(TJ yy).symm⟩;obtain⟨Us,x,rfl,a3,a4⟩:=a2.snoc_inv;have hs:au (Us++[x])=au Us+x.size:=by rw[bD,au,au];lia
  have DY:=x.size_eq;rw[hs]at hlen;refine⟨_,CA,.inl ⟨CA,_,Yg e2⟩,ah,_,.ref b,CA,CA,e2,by simp,?_⟩;have d1:((xw++[b]).map Zf).dropLast=xw.map Zf:=by simp
  rw[d1];refine⟨_,CA,.inl ⟨CA,_,Yg (by rw[ac xx.symm];exact e1)⟩,_,CA,mt,_,.ref b,CA,CA,by rw[ac xx.symm];exact e1,lbE (by lia),?_⟩;have k1:KT H2 (upd (upd H2 ah (.lst (xw.map Zf))) mt (.lst (ms.map Zf++[.ref b]))):=(dO e2).trans (dO (xs:=ms.map Zf) (by rw[ac xx.symm];exact e1));refine⟨_,CA,.inl ⟨CA,_,Yg (by rw[ac xx,ad])⟩,_,CA,b,x,CA,a4.mono k1,λr ks H3 s3 e3 a5=>?_⟩;refine⟨r,_,CA,Ze e3,λl hl=>?_⟩;have l1:l≠ah:=λz=>by rw[z,s3 ah _ (by rw[ac xx,ad])]at hl;cases hl
  have l2:l≠mt:=λz=>by rw[z,s3 mt _ ad]at hl;cases hl
  refine⟨ah,l,_,_,CA,CA,by rw[ac l1.symm];exact s3 ah _ (by rw[ac xx,ad]),Ze ad,TV (aS ?_),?_⟩
  .have q1:=a3.length;have q2:=a5.length;have q3:=gu Us;have q4:=gu x.kids;rw[Rw,UD,Rw];lia
  .have k2:KT H2 (upd (upd H3 l (.tup (ks.map Zf).reverse)) ah (.lst (xw.map Zf++(ks.map Zf).reverse))) :=
    k1.trans ((Zg s3).trans ((nh hl).trans (dO (xs:=xw.map Zf) (by rw[ac l1.symm];exact s3 ah _ (by rw[ac xx,ad])))))
   have k3:KT H3 (upd (upd H3 l (.tup (ks.map Zf).reverse)) ah (.lst (xw.map Zf++(ks.map Zf).reverse))) :=
    (nh hl).trans (dO (xs:=xw.map Zf) (by rw[ac l1.symm];exact s3 ah _ (by rw[ac xx,ad])))
   refine⟨au (Us++x.kids.reverse),?_,ms++[b],xw++ks.reverse,Ms++[x],Us++x.kids.reverse,A? (.ref b),CA,?_,?_,?_,?_,?_,?_,CA⟩
   .rw[bD,jZ,hs];lia
   .have s4:Ye H (upd (upd H2 ah (.lst (xw.map Zf))) mt (.lst (ms.map Zf++[.ref b]))):=aV (aV sm G7) Fn;have nl:H l=none:=s4.free (s3.free hl);exact aV (aV (s4.trans s3) nl) G7
   .rw[ac xx.symm,ac l2.symm,s3 mt _ ad,R4];rfl
   .rw[ad,R4,List.map_reverse]
   .exact(a1.mono k2).append (.cons (a4.mono k2) .nil)
   .exact(a3.mono k2).append (a5.mono k3).reverse
   .rw[<-hw,Uy,Ue,Ue,T6,gg];show Ms++([x]++(walks x.kids++walks Us.reverse))=Ms++walks (x::Us.reverse);rw[walks,x.walk_eq];rfl
 .have hz:as=[]:=by
   cases as with
   |nil=>rfl
   |cons y ys=>simp at c
  subst hz;have Oo:As=[]:=T9.mp a2.length.symm;subst Oo;refine⟨_,CA,k mt ms H2 sm Fn e1 ?_⟩;have yG:Ms=t.walk:=by simpa[walks]using hw
  rw[<-yG];exact a1
inductive iZ(vs:List V)(H:Hp)(Q:VK)(_E:XK):Prop
 |mk (a:Ry) (t:Th):vs=[.ref a]->At H t a->Q (.bl t.isCall) H->iZ  vs H Q _E
theorem jj:FnOk P w K mg base CX0 1 T.g_2.f T.g_2.d ["thing"] iZ:=by
 refine T.g_2.F.okA mR λxi A outer s H vs Q E hr h=>?_;obtain⟨a,t,rfl,hA,k⟩:=h;refine⟨_,(ak (aP (iA dY (aH aG (pv 0) aj (λ_ _=>rfl)) (eR (v:=.str (RF "?")) rfl T.c_CALL_SIGN.choose_spec ⟨_,CA⟩) (bj _)))),?_⟩
 try dsimp only[xS,xj]
 cases t with
 | knot n ks =>
   rw[At]at hA;refine hid λZZ kZ=>?_;obtain⟨hn,as,h1,h2⟩:=hA;refine kZ ?_;refine⟨_,CA,a,_,0,.str n,CA,CA,Ze h1,at0,CA,?_⟩;have e:decide (Yq n=Yq (RF "?"))=false:=Zb (λz=>hn (V.str.inj z));rw[e];exact k
 | call sn kn =>
   rw[At]at hA;refine⟨_,CA,a,_,0,.str q,CA,CA,Ze hA,at0,CA,?_⟩;have e:decide (Yq q=Yq (RF "?"))=true:=Yc rfl;rw[e];exact k
inductive fU(vs:List V)(H:Hp)(Q:VK)(_E:XK):Prop
 |mk (a:Ry) (sn kn:Int):vs=[.ref a]->At H (.call sn kn) a->(∀p,H p=B?->Q (.ref p) (upd H p (.tup [.int sn,.int kn])))->fU  vs H Q _E
theorem gr:FnOk P w K mg base CX0 1 T.g_3.f T.g_3.d ["call"] fU:=by
 refine T.g_3.F.okA kO λxi A outer s H vs Q E hr h=>?_;obtain⟨a,sn,kn,rfl,hA,k⟩:=h;refine⟨_,(ak (aP (aE (aa (aH aG (pv 0) aj (λ_ _=>rfl)) (aa (aH aG (pv 0) aj (λ_ _=>rfl)) ae))))),?_⟩
 try dsimp only[xS,xj]
 rw[At]at hA;exact⟨_,CA,a,_,1,_,CA,CA,Ze hA,at1,_,CA,a,_,2,_,CA,CA,Ze hA,at2,lnE rfl,λp hp=>k p hp⟩
inductive jY(vs:List V)(H:Hp)(Q:VK)(_E:XK):Prop
 |mk (b:Ry) (v1 v2 v3 v4:V):vs=[.ref b]->H b=A? (.tup [v1,v2,v3,v4])->Q v1 H->jY  vs H Q _E
inductive hZ(vs:List V)(H:Hp)(Q:VK)(_E:XK):Prop
 |mk (b:Ry) (v1 v2 v3 v4:V):vs=[.ref b]->H b=A? (.tup [v1,v2,v3,v4])->Q v4 H->hZ  vs H Q _E
theorem pq:FnOk P w K mg base CX0 1 T.g_4.f T.g_4.d ["book"] jY:=by
 refine T.g_4.F.okA pM λxi A outer s H vs Q E hr h=>?_;obtain⟨b,v1,v2,v3,v4,rfl,e,q⟩:=h;refine⟨_,(ak (aP (aH aG (pv 0) aj (λ_ _=>rfl)))),?_⟩
 try dsimp only[xS,xj]
 exact⟨_,CA,b,_,0,v1,CA,CA,Ze e,at0,q⟩
theorem ij:FnOk P w K mg base CX0 1 T.g_6.f T.g_6.d ["book"] hZ:=by
 refine T.g_6.F.okA mf λxi A outer s H vs Q E hr h=>?_;obtain⟨b,v1,v2,v3,v4,rfl,e,q⟩:=h;refine⟨_,(ak (aP (aH aG (pv 0) aj (λ_ _=>rfl)))),?_⟩
 try dsimp only[xS,xj]
 exact⟨_,CA,b,_,3,v4,CA,CA,Ze e,bz (j:=3) rfl,q⟩
inductive fP(vs:List V)(H:Hp)(Q:VK)(_E:XK):Prop
 |mk (b:Ry) (v1 v2 v3:V) (ra:Ry) (xs:List V):vs=[.ref b]->H b=A? (.tup [v1,v2,v3,.ref ra])->H ra=A? (.tup xs)->Q (.int xs.length) H->fP  vs H Q _E
theorem kL:FnOk P w K mg base CX0 2 T.g_7.f T.g_7.d ["book"] fP:=by
 refine T.g_7.F.okA kC λxi A outer s H vs Q E hr h=>?_;obtain⟨b,v1,v2,v3,ra,xs,rfl,e,e2,q⟩:=h;refine⟨_,(ak (aP (aZ bf rfl T.n_4 TF (aa (pcF T.g_6 (ij T) hr (aa (pv 0) ae)) ae)))),?_⟩
 try dsimp only[xS,xj]
 exact⟨_,CA,b,_,_,_,_,CA,e,ra,_,CA,.inr (Ze e2),q⟩
inductive jo(vs:List V)(H:Hp)(Q:VK)(_E:XK):Prop
 |mk (b:Ry) (v1 v2 v3 v4:V):vs=[.ref b]->H b=A? (.tup [v1,v2,v3,v4])->Q v3 H->jo  vs H Q _E
theorem mw:FnOk P w K mg base CX0 1 T.g_5.f T.g_5.d ["book"] jo:=by
 refine T.g_5.F.okA mU λxi A outer s H vs Q E hr h=>?_;obtain⟨b,v1,v2,v3,v4,rfl,e,q⟩:=h;refine⟨_,(ak (aP (aH aG (pv 0) aj (λ_ _=>rfl)))),?_⟩
 try dsimp only[xS,xj]
 exact⟨_,CA,b,_,2,v3,CA,CA,Ze e,bz (j:=2) rfl,q⟩
def nV(i:Nat):V:=.int (i:Nat)
theorem mj(n:R1)(ids:List Nat):(eZ (n,ids)).map kV=Yq n::ids.map nV:=by
 unfold eZ;rw[R6,Sr];rfl
theorem jd{F:α->β->Prop}:∀{a:List α}{b:List β},Sb F a b->Sb (λy x=>F x y) b a
 |_,_,.nil=>.nil
 |_,_,.cons h t=>.cons h (jd t)
inductive iT(vs:List V)(H:Hp)(Q:VK)(_E:XK):Prop
 |mk (ea la na:Ry) (as:List Ry) (t:Th) (E0:List (R1×List Nat)) (T0:List Th) (Jl:List (List Key×V)) (g:Int->Int->Th) (All:List Th):vs=[.ref ea,.ref la,.ref na]->H ea=A? (.dT (kvsOf E0))->Cl E0 T0->(∀e∈E0,e.2.length<=100000)->H la=A? (.lst (as.map Zf))->Ats H t.walk as->H na=A? (.dT Jl)->na≠ea->(∀s k,Yi s k∈t.walk->∃j:Nat,br Jl (ky (s,k))=A? (.int (j:Nat))/\T0[j]?=A? (g s k))->t.size<=100000->(∀u∈T0,u∈All)->(∀n ks,Zi n ks∈t.walk->(Zi n ks).fill g∈All)->All.length<=900000->(∀(E:List (R1×List Nat))(Ts:List Th)(at':Nat)(H':Hp),(∀b o,b≠ea->H b=A? o->H' b=A? o)->H' ea=A? (.dT (kvsOf E))->Cl E Ts->T0 <+: Ts->(∀u∈Ts,u∈All)->Ts[at']?=A? (t.fill g)->(∀e∈E,e.2.length<=100000)->Q (.int (at':Nat)) H')->iT  vs H Q _E
theorem mX:FnOk P w K mg base CX0 2 T.g_8.f T.g_8.d ["entries","parts","numbers"] iT:=by
 refine T.g_8.F.okA dP λxi A outer s H vs Q E hr h=>?_;obtain⟨ea,la,na,as,t,E0,T0,Jl,g,All,rfl,ee,Jm,Jn,el,hw,Bt,yy,BO,hsz,Fo,Jo,Oq,q⟩:=h
 refine⟨_,(af (av 3 dP.nd (bY ae))
  (af (bC SE rfl (uv rfl T.n_8 (pv 1)) (pgN 4 dP.nd) (ak (bT (bS (pcF T.g_2 (jj T) hr (aa (pv 4) ae)) (λ_=>rfl)) (ak (aY (df Sm S6 S5 bL (pv 3) (aa (gb (cB hr) (pv 2) (pcF T.g_3 (gr T) hr (aa (pv 4) ae)) (λ_ _=>rfl)) ae)))) (af (iC (i:=5) (N:=["kid","done"]) (js:=[B?,A? 3]) (g:=(aw 0)) (tt:=bN) (te:=(vC K "list" (vU) (bP 1))) dP.nd rfl (Or.inl rfl) rfl (dz rfl (by decide +kernel) (by decide +kernel) rfl rfl rfl) (je (bB eI (pv 4) (bE aj) bW)) (λ_ _ _ _ _ _=>(pgN 0 w8)) (aU rfl) (λ_ _ _ _ _ _=>cb) (λ_ _ _ _ _ _=>(lf Sm VI VH kW (pv 1))))
  (ak (aY (df Sm S6 S5 bL (pv 3) (aa (df WJ V1 PySem.F.type_dict_setdefault (e8 (cB hr)) (pv 0) (aa (aJ kN (bB nU (pv 4) bW (bE aj)) (cQ bR rfl T.n_9 UJ (aa (pv 5) ae))) (aa (aZ gJ rfl T.n_4 TF (aa (pv 0) ae)) ae))) ae))))))))
  (ak (aP (aH cu (pv 3) aj (λ_ _=>rfl)))))),?_⟩
 try dsimp only[xS,xj]
 have yt:as.length=t.walk.length:=hw.length;have zw:=t.walk_len;obtain⟨Ab,hok⟩:=sH g t;obtain⟨xo,zi⟩:∃xo,xo=t.walk.map (cj g):=⟨_,rfl⟩;rw[<-zi]at Ab hok;have zb:xo.length=t.walk.length:=by rw[zi,Rw]
 refine⟨lnE rfl,λdn zF=>?_⟩;have D1:dn≠ea:=λz=>by rw[z,ee]at zF;cases zF
 have DQ:la≠ea:=aC el ee (by intro z;cases z);refine⟨_,CA,la,_,CA,Yg (ao zF _ _ _ el),?_⟩
 refine sX (K:=K) (a:=la) (xs:=as.map Zf) (λi σ H2=>Ex5 λc4 c5 ds E Ts=>An9 (σ=[A? (.ref ea),A? (.ref la),A? (.ref na),A? (.ref dn),c4,c5]) ((∀b o,b≠ea->H b=A? o->H2 b=A? o)) (H2 ea=A? (.dT (kvsOf E))) (H2 dn=A? (.lst (ds.map nV))) (Cl E Ts) (Sb (λu id=>Ts[id]?=A? u) (bl (xo.drop (xo.length - i))).reverse ds) (T0 <+: Ts) ((∀u∈Ts,u∈All)) (∀e∈E,e.2.length<=100000))
  ⟨B?,B?,[],E0,T0,rfl,λb o hb e=>ao zF _ _ _ e,by rw[ac D1.symm];exact ee,ad,Jm,by rw[Nat.sub_zero,List.drop_length];exact .nil,List.prefix_rfl,Fo,Jn⟩ (λi σ H2 _⟨_,_,_,_,_,_,s2,_,_,_,_,_,_,_⟩=>Yg (s2 _ _ DQ el)) ?_ ?_
 .rintro i y σ H2 hi hy ⟨c4,c5,ds,E,Ts,rfl,s2,e2,BP,xp,yr,xX,yl,C4⟩
  have Jp:E.length<=900000:=by
   rw[xp.len];exact Ss (dw xp.nd yl) Oq
  rw[Rw,yt,<-zb]at hi hy;refine hid λZZ kZ=>?_;obtain⟨pa,rfl,G1⟩:=rZ hy;obtain⟨p,hp,Jq⟩:=hw.get G1;have Ot:KT H H2:=λb xs e=>s2 b _ (aC e ee (by intro z;cases z)) e;have D3:=Jq.mono Ot;have hn:xo.length - 1 - i<xo.length:=by lia
  have hx:xo[xo.length - 1 - i]?=A? (cj g p):=by rw[zi,RG,<-zi,hp];rfl
  have D4:xo.drop (xo.length - 1 - i)=cj g p::xo.drop (xo.length - i):=by
   rw[List.drop_eq_getElem_cons hn,show xo.length - 1 - i+1=xo.length - i by lia];congr 1;rw[RA hn]at hx;exact RN hx
  have BQ:=hok.drop (xo.length - 1 - i);rw[D4]at BQ;have Bd:xo.length - (i+1)=xo.length - 1 - i:=by lia
  have Iy:(bl (xo.drop (xo.length - i))).length<=100000:=by
   have:=mT (xo.drop (xo.length - i));rw[Uj]at this;lia
  obtain⟨S',D5⟩:=sR g t (i:=xo.length - 1 - i) hp;refine kZ ?_;rw[<-zi,D4]at D5;generalize xo.drop (xo.length - i)=S at D4 yr BQ Iy D5;cases p with
  | call sn kn =>
    obtain⟨j,Cm,Cg⟩:=BO sn kn (Rx hp)
    have Ou:Ts[j]?=A? (g sn kn):=by
     obtain⟨r,rfl⟩:=xX;rw[Sl (glE Cg)];exact Cg
    have Jr:=s2 _ _ yy Bt;refine⟨_,CA,pa,.call sn kn,CA,D3,Bz,CA,?_⟩;refine cE ?_;have Ov:=BP;refine⟨_,CA,.inl ⟨CA,_,Yg BP⟩,_,CA,_,CA,pa,sn,kn,CA,D3,λp3 zj=>?_⟩;refine gU zj λH3 s3 e3=>?_;have e3:H3 p3=A? (.tup ((ky (sn,kn)).map kV)):=e3;have hg:DGet H3 na (.ref p3) (A? (.int (j:Nat))):=by have:=DGet.t (s3 _ _ Jr) e3;rw[Cm]at this;exact this
    refine⟨na,_,CA,hg,dn,_,_,CA,CA,s3 _ _ BP,aS (by rw[Rw];have:=R9 yr;rw[UD]at this;lia),?_⟩;refine⟨_,_,ds++[j],E,Ts,CA,λb o hb e=>?_,?_,?_,xp,?_,xX,yl,C4⟩
    .rw[ac (aq e zF)];exact s3 _ _ (s2 b o hb e)
    .rw[ac D1.symm];exact s3 _ _ e2
    .rw[ad,R4];rfl
    .rw[Bd,D4,cj,bl,SJ];exact Yk yr (.cons Ou .nil)
  |knot n ts =>
  rw[cj,TopsOk]at BQ;have Fp:=D3;rw[At]at Fp;refine hid λZZ kZ=>?_;obtain⟨C5,Ow,Au,Js⟩:=Fp;have Jt:Ow.length=ts.length:=Js.length;obtain⟨m,hm⟩:∃m,m=ts.length:=⟨_,rfl⟩;refine kZ ?_;rw[<-hm]at BQ Jt;have C6:bl (cj g (.knot n ts)::S)=.knot n ((bl S).take m)::(bl S).drop m:=by rw[cj,bl,<-hm]
  refine⟨_,CA,pa,.knot n ts,CA,D3,C?,CA,?_⟩;refine cm ?_;refine⟨_,CA,1,CA,pa,_,CA,Ze Au,?_,λp2 xK=>?_⟩
  .rintro⟨z,_⟩;rw[RV,show(1:Int)=((1:Nat):Int)by rfl,HT.sIx_nat]at z;lia
  dsimp only;rw[dB];refine gU xK λH3 s3 e3=>?_;have BR:=s3 _ _ BP;have Ju:p2≠dn:=aC e3 BR (by intro z;cases z);refine⟨p2,CA,⟨_,Ze e3⟩,λD hD=>?_⟩;have Ae:D≠dn:=λz=>by rw[z,BR]at hD;cases hD
  refine⟨m,λj H4=>An3 (j<=m) ((∀b o,H3 b=A? o->b≠dn->H4 b=A? o)) (Ex2 λ(Bu ks:List Nat)=>An4 (H4 dn=A? (.lst (Bu.map nV))) (H4 D=A? (.lst (ks.map nV))) (Sb (λu id=>Ts[id]?=A? u) ((bl S).drop j).reverse Bu) (Sb (λu id=>Ts[id]?=A? u) ((bl S).take j) ks)),
   ⟨Sn _,λb o e hb=>?_,ds,[],?_,?_,?_,?_⟩,?_⟩
  .rw[ac (aq e hD)];exact e
  .rw[ac Ae.symm];exact BR
  .rw[ad];rfl
  .rw[VB];exact yr
  .rw[Uo];exact .nil
  rintro j H4 ⟨hj,kp,Bu,ks,ed,eD,Cn,hd2⟩;have Be:=kp _ _ e3 Ju;by_cases Ox:j=m
  .left;refine⟨⟨_,Ze Be,by rw[Rw];lia⟩,?_⟩;subst Ox;have Jv:=kp _ _ (s3 _ _ Au) (aC (s3 _ _ Au) BR (by intro z;cases z));have LL:=kp _ _ (s3 _ _ e2) D1.symm;have Av:((bl S).take j).length=ks.length:=R9 hd2;have CV:((bl S).drop j).reverse.length=Bu.length:=R9 Cn;rw[Sq]at Av;rw[UD,Uj]at CV;refine⟨_,CA,.inl ⟨CA,_,Yg ed⟩,_,CA,.inr (.inr (.inl ⟨CA,.inr ⟨_,LL⟩⟩)),_,CA,1,CA,pa,_,CA,Jv,λp3 H5 s5 e5=>?_⟩;rw[oJ]at e5;refine⟨_,CA,D,_,CA,.inl ⟨Yg (s5 _ _ eD),λp4 zS=>?_⟩⟩;refine gU zS λH6 s6 e6=>?_;refine ww (s6 _ _ e5) e6 (by rw[Rw];show 1+ks.length<=1000000;lia) λp5 H7 s7 e7=>?_;have BS:=s5.trans (s6.trans s7);have Jw:=BS _ _ LL;have LM:=BS _ _ ed;have Q9:E.length<1000000:=by lia
   have LN:∀b o,b≠ea->H b=A? o->H7 b=A? o:=λb o hb e=>BS _ _ (kp b o (s3 _ _ (s2 b o hb e)) (aq e zF));refine⟨_,CA,ea,_,CA,Jw,ea,p5,_,eZ (n,ks),kvsOf E,CA,CA,Jw,by rw[mj];exact e7,aS (by rw[gx];lia),λu hu=>?_,λyn=>?_⟩
   .obtain⟨i0,rfl,Oy⟩:=mH hu;have Oz:=xp.found Oy (jd hd2);refine⟨dn,_,_,CA,CA,LM,lbE (by lia),?_⟩;refine⟨_,_,Bu++[i0],E,Ts,CA,λb o hb e=>?_,?_,?_,xp,?_,xX,yl,C4⟩
    .rw[ac (aq e zF)];exact LN b o hb e
    .rw[ac D1.symm];exact Jw
    .rw[ad,R4];rfl
    .rw[Bd,D4,C6,SJ];exact Yk Cn (.cons Oz .nil)
   .obtain⟨Jx,C7⟩:=mr yn;rw[gx,C7];have Jy:=xp.snoc Jx (jd hd2)
    have up:∀(u:Th)(id:Nat),Ts[id]?=A? u->(Ts++[Zi n ((bl S).take j)])[id]?=A? u:=λu id h=>by
     rw[Sl (glE h)];exact h
    refine⟨dn,_,_,CA,CA,by rw[ac D1];exact LM,lbE (by lia),?_⟩
    refine⟨_,_,Bu++[E.length],E++[(n,ks)],Ts++[.knot n ((bl S).take j)],CA,λb o hb e=>?_,?_,?_,Jy,?_,xX.trans (List.prefix_append _ _),λu hu=>?_,λe he=>by
     rcases RM.mp he with he|he
     .exact C4 e he
     .rw[RC.mp he];show ks.length<=100000;lia⟩
    .rw[ac (aq e zF),ac hb];exact LN b o hb e
    .rw[ac D1.symm,ad]
    .rw[ad,R4];rfl
    .rw[Bd,D4,C6,SJ];refine Yk (Yj up Cn) (.cons ?_ .nil);rw[xp.len];simp
    .rcases RM.mp hu with hu|hu
     .exact yl u hu
     .rw[RC.mp hu];rw[C6]at D5;rw[(VO D5).1];exact Jo n ts (Rx hp)
  .right;have DW:j<m:=by lia
   refine⟨DW,⟨_,_,Ze Be,RA (by rw[Rw];lia)⟩,?_⟩;rintro x' H5 ⟨e1,_⟩;have yd:H5=H4:=e1;subst yd;have LO:j<(bl S).length:=by lia
   have OA:(bl S).drop j=(bl S)[j]::(bl S).drop (j+1):=List.drop_eq_getElem_cons LO;rw[OA,SJ]at Cn
   have xx:Bu≠[]:=by
    intro z;subst z;have:=R9 Cn;rw[RK]at this;simp at this
   refine hid λZZ kZ=>?_;obtain⟨D6,b,rfl⟩:∃D6 b,Bu=D6++[b]:=⟨Bu.dropLast,Bu.getLast xx,(TJ xx).symm⟩;obtain⟨Us,x2,OB,hU,hb2⟩:=P2.snoc_inv Cn;obtain⟨e5,e6⟩:=List.append_inj' OB rfl;refine kZ ?_;cases e6;subst e5;have yS:((bl S).take j).length=ks.length:=R9 hd2;rw[Sq]at yS;refine⟨_,CA,.inl ⟨CA,_,Yg ed⟩,dn,_,nV b,CA,CA,ed,by simp,?_⟩;have d1:((D6++[b]).map nV).dropLast=D6.map nV:=by simp
   rw[d1];have OC:(upd H5 dn (.lst (D6.map nV))) D=A? (.lst (ks.map nV)):=by rw[ac Ae];exact eD
   refine⟨_,OC,lbE (by lia),DW,λb' o e xC=>?_,D6,ks++[b],?_,?_,hU,?_⟩
   .rw[ac (aq e hD),ac xC];exact kp b' o e xC
   .rw[ac Ae.symm,ad]
   .rw[ad,R4];rfl
   .rw[TY,RA LO];exact Yk hd2 (.cons hb2 .nil)
 .rintro σ H2 ⟨c4,c5,ds,E,Ts,rfl,s2,e2,BP,xp,yr,xX,yl,C4⟩;rw[Rw,yt,<-zb,VA,VB,Ab]at yr
  obtain⟨at',rfl,C8⟩:∃at',ds=[at']/\Ts[at']?=A? (t.fill g):=by
   have Jz:Sb (λu id=>Ts[id]?=A? u) [t.fill g] ds:=yr;cases Jz with
   |cons a b=>cases b;exact⟨_,CA,a⟩
  refine⟨_,CA,dn,_,0,.int (at':Nat),CA,CA,Yg BP,at0,q E Ts at' H2 s2 e2 xp xX yl C8 C4⟩
def EnA(H:Hp)(e:R1×List Nat)(b:Ry):Prop:=H b=A? (.tup (.str e.1::e.2.map nV))
theorem jg{F:α->β->Prop}{a:List α}{b:List β}(h:Sb F a b){x:α}{y:β}(hx:a[i]?=A? x)(hy:b[i]?=A? y):F x y:=by
 obtain⟨y',h1,h2⟩:=Zl h hx;rw[hy]at h1;cases h1;exact h2
theorem om{F:α->β->Prop}{c:α}{l2:List α}:∀{l1:List α}{ks:List β},Sb F (l1++c::l2) ks->∃k1 kc k2,ks=k1++kc::k2/\Sb F l1 k1/\F c kc/\Sb F l2 k2
 | [],_,.cons h t=>⟨[],_,_,rfl,.nil,h,t⟩
 | x::l1,_,.cons h t=>by
   refine hid λZZ kZ=>?_;obtain⟨k1,kc,k2,e,h1,h2,h3⟩:=om t;refine kZ ?_;exact⟨_::k1,kc,k2,by rw[e];rfl,.cons h h1,h2,h3⟩
theorem vW{F:α->β->Prop}:∀{a:List α},(∀x∈a,∃y,F x y)->∃b,Sb F a b
 | [],_=>⟨[],.nil⟩
 | x::a,h=>by
   obtain⟨y,hy⟩:=h x (RX ..);obtain⟨b,hb⟩:=vW λz hz=>h z (RT _ hz);exact⟨y::b,.cons hy hb⟩
theorem l4{F:α->β->Prop}{a:List α}{b:List β}(h:Sb F a b){y:β}(hy:y∈b):∃x∈a,F x y:=by
 refine hid λZZ kZ=>?_;obtain⟨i,hi⟩:=RS.mp hy;obtain⟨x,hx,hf⟩:=Zo h hi;refine kZ ?_;exact⟨x,Rx hx,hf⟩
theorem qb{F:α->β->Prop}{a:List α}{b:List β}(h:Sb F a b){x:α}(hx:x∈a):∃y∈b,F x y:=by
 refine hid λZZ kZ=>?_;obtain⟨i,hi⟩:=RS.mp hx;obtain⟨y,hy,hf⟩:=Zl h hi;refine kZ ?_;exact⟨y,Rx hy,hf⟩
theorem lA:∀{l:List Nat}{N:Nat},l.Pairwise (· > ·)->(∀a∈l,a<N)->l.length<=N
 | [],_,_,_=>Sn _
 | a::l,N,h,hN=>by
   obtain⟨h1,h2⟩:=List.pairwise_cons.mp h;have:=lA h2 h1;have:=hN a (RX ..);rw[RV];lia
def mQ(as:List Nat):Nat:=match as.getLast? with|none=>0 |some a=>a+1
theorem j4(as:List Nat)(a:Nat):mQ (as++[a])=a+1:=by
 unfold mQ;rw[List.getLast?_concat]
theorem sk{as:List Nat}{N:Nat}(h:∀a∈as,a<N):mQ as<=N:=by
 unfold mQ;cases e:as.getLast? with
 |none=>exact Sn _
 |some a=>exact h a (List.mem_of_getLast? e)
inductive ie(vs:List V)(H:Hp)(Q:VK)(_E:XK):Prop
 |mk (ra:Ry) (at':Nat) (bs:List Ry) (E:List (R1×List Nat)) (Ts:List Th) (t:Th):vs=[.ref ra,.int (at':Nat)]->H ra=A? (.lst (bs.map Zf))->Sb (EnA H) E bs->Cl E Ts->Ts[at']?=A? t->E.length<=900000->(∀e∈E,e.2.length<=100000)->(∀(r tp:Ry)(cs:List Ry)(To:List (R1×List Nat))(ix:Nat)(H':Hp),Ye H H'->H' r=A? (.tup [.ref tp,.int (ix:Nat)])->H' tp=A? (.tup (cs.map Zf))->Sb (EnA H') To cs->Cl To (post t [])->(post t [])[ix]?=A? t->Q (.ref r) H')->ie  vs H Q _E
theorem mq:FnOk P w K mg base CX0 1 T.g_9.f T.g_9.d ["row","at"] ie:=by
 refine T.g_9.F.okA b8 λxi A outer s H vs Q E hr h=>?_;obtain⟨ra,at',bs,E,Ts,t,rfl,era,G8,xp,C8,Jp,OD,q⟩:=h
 refine⟨_,(af (av 2 b8.nd jh)
  (af (av 3 b8.nd (bY ae))
  (af (av 4 b8.nd (bY (aa (pv 1) ae)))
  (af (gp SE (bS (pv 4) (λ_=>rfl)) (af (av 5 b8.nd (aH cu (pv 0) (aH cu (pv 4) (oo nk aj) (λ_ _=>rfl)) (λ_ _=>rfl)))
  (af (iC (i:=6) (N:=["kid","fresh"]) (js:=[B?,A? 2]) (g:=(aw 0)) (tt:=(tB (oR (bP 0) (bP 1)))) (te:=(bP 0)) b8.nd rfl (Or.inl rfl) rfl (dz rfl (by decide +kernel) (by decide +kernel) rfl rfl rfl) (je (bB eI (pv 5) (bE aj) bW)) (λ_ _ _ _ _ _=>(pgN 0 wg)) (aU rfl) (λ_ _ _ _ _ _=>n8 (li (eX (cB hr) (pv 0) (pv 1)))) (λ_ _ _ _ _ _=>(pv 0)))
  (ak (bT (bS (pv 6) (λ_=>rfl)) (ak (aY (df Sm S6 S5 bL (pv 4) (aa (aH cu (pv 6) aj (λ_ _=>rfl)) ae)))) (af (iG (cB hr) (pv 2) (lf Sm VI VH kW (pv 4)) (aZ bf rfl T.n_4 TF (aa (pv 3) ae)) rfl)
  (ak (aY (df Sm S6 S5 bL (pv 3) (aa (aJ kN (bB nU (pv 5) bW (bE aj)) (cQ bR rfl T.n_9 UJ (aa (cD (N:=["kid","fresh"]) (js:=[B?,A? 2]) (g:=(aw 0)) (tt:=bN) (te:=(tV (bP 1) (bP 0))) rfl (dz rfl (by decide +kernel) (by decide +kernel) rfl rfl rfl) (je (bB eI (pv 5) (bE aj) bW)) (λ_ _ _ _ _ _=>(pgN 0 wg)) (aU rfl) (λ_ _ _ _ _ _=>cb) (λ_ _ _ _ _ _=>(gb (cB hr) (pv 1) (pv 0) (λ_ _=>rfl)))) ae))) ae))))))))))
  (ak (aP (aE (aa (cQ bR rfl T.n_9 UJ (aa (pv 3) ae)) (aa (gb (cB hr) (pv 2) (pv 1) (λ_ _=>rfl)) ae))))))))),?_⟩
 try dsimp only[xS,xj]
 have Ab:E.length=bs.length:=R9 G8;intro fr BJ;dsimp only[aw];refine gU BJ λH1 s1 e1=>?_;have e1:H1 fr=A? (.dK (fkv [])):=e1;refine⟨lnE rfl,λtl zb=>?_⟩;have s2:Ye H1 (upd H1 tl (.lst [])):=ao zb _;have e2:(upd H1 tl (.lst [])) tl=A? (.lst (([]:List Ry).map Zf)):=ad;have JA:H tl=none:=s1.free zb;have LP:fr≠tl:=λz=>by rw[<-z,e1]at zb;cases zb
 generalize(upd H1 tl (.lst []))=H2 at s2 e2 |-;refine⟨_,CA,lnE rfl,λah Bs=>?_⟩;have s3:Ye H2 (upd H2 ah (.lst [.int (at':Nat)])):=ao Bs _;have e3:(upd H2 ah (.lst [.int (at':Nat)])) ah=A? (.lst ([at'].map nV)):=ad;have Fq:H ah=none:=(s1.trans s2).free Bs;have JB:fr≠ah:=λz=>by rw[<-z,s2 _ _ e1]at Bs;cases Bs
 have JC:tl≠ah:=λz=>by rw[<-z,e2]at Bs;cases Bs
 generalize(upd H2 ah (.lst [.int (at':Nat)]))=H3 at s3 e3 |-;have OE:=s1.trans (s2.trans s3);refine⟨λm σ H4=>Ex8 λ(as FI:List Nat)(xs L:List Th)(To:List (R1×List Nat))(cs:List Ry)(c5 c6:Option V)=>ur (σ=[A? (.ref ra),A? (.int (at':Nat)),A? (.ref fr),A? (.ref tl),A? (.ref ah),c5,c6]) (Ye H H4) (H4 fr=A? (.dK (fkv FI))) (H4 tl=A? (.lst (cs.map Zf))) (H4 ah=A? (.lst (as.map nV))) (Sb (EnA H4) To cs) (Cl To L) (Sb (λid u=>Ts[id]?=A? u) FI L) (Sb (λid u=>Ts[id]?=A? u) as xs) (BB.finish xs.reverse L=post t []) (bi L) ((∀x∈xs,x∉L)) (as.Pairwise (· > ·)) (m=unt E.length FI * (E.length+1)+mQ as),⟨_,[at'],[],[t],[],[],[],B?,B?,CA,OE,s3 _ _ (s2 _ _ e1),s3 _ _ e2,e3,.nil,⟨CA,T7,λi e h=>by simp at h⟩,.nil,.cons C8 .nil,CA,λu hu=>by(cases hu),λu _ hu=>by(cases hu),List.pairwise_singleton ..,rfl⟩,?_⟩;rintro m σ H4 ⟨as,FI,xs,L,To,cs,c5,c6,rfl,s4,G9,JD,JE,Bv,Bw,Aw,DY,xN,G',xu,Fs,rfl⟩;have OF:To.length=cs.length:=R9 Bv;have OG:FI.length=L.length:=R9 Aw;have Hf:=Bw.len;refine⟨_,CA,_,.inl ⟨_,Yg JE,CA⟩,?_⟩;refine kG (λcc=>?_) (λcc=>?_)
 .refine ⟨λi' H'=>∃m',m'<unt E.length FI * (E.length+1)+mQ as/\Ex8 λ(as FI:List Nat)(xs L:List Th)(To:List (R1×List Nat))(cs:List Ry)(c5 c6:Option V)=>ur (i'=[A? (.ref ra),A? (.int (at':Nat)),A? (.ref fr),A? (.ref tl),A? (.ref ah),c5,c6]) (Ye H H') (H' fr=A? (.dK (fkv FI))) (H' tl=A? (.lst (cs.map Zf))) (H' ah=A? (.lst (as.map nV))) (Sb (EnA H') To cs) (Cl To L) (Sb (λid u=>Ts[id]?=A? u) FI L) (Sb (λid u=>Ts[id]?=A? u) as xs) (BB.finish xs.reverse L=post t []) (bi L) ((∀x∈xs,x∉L)) (as.Pairwise (· > ·)) (m'=unt E.length FI * (E.length+1)+mQ as),λi' H' h=>h,?_⟩;have yy:as≠[]:=by intro z;subst z;simp at cc
  refine hid λZZ kZ=>?_;obtain⟨xw,a,rfl⟩:∃xw a,as=xw++[a]:=⟨as.dropLast,as.getLast yy,(TJ yy).symm⟩
  obtain⟨Ft,x,rfl,Fu,Fv⟩:∃Ft x,xs=Ft++[x]/\Sb (λid u=>Ts[id]?=A? u) xw Ft/\Ts[a]?=A? x:=by
   obtain⟨us,v,e1,h1,h2⟩:=P2.snoc_inv (jd DY |> λh=>(show Sb (λu id=>Ts[id]?=A? u) xs (xw++[a])from h));exact⟨us,v,e1,jd h1,h2⟩
  rw[Ue,UT,U5,BB.finish]at xN;have LQ:a<E.length:=by rw[xp.len];exact(glE Fv)
  have Fw:∀p∈xw++[a],p<E.length:=λp hp=>by
   obtain⟨u,_,hu⟩:=qb DY hp;rw[xp.len];exact(glE hu)
  obtain⟨e,JF⟩:∃e,E[a]?=A? e:=⟨_,RA LQ⟩;obtain⟨n,ids⟩:=e;obtain⟨kids,JG,BU⟩:=xp.ent a _ JF;dsimp only at JG BU;rw[Fv]at JG;have Hh:x=.knot n kids:=RN JG;have Fx:=OD _ (Rx JF);dsimp only at Fx;obtain⟨b,hb,OH⟩:=Zl G8 JF;refine kZ ?_;have eb:H4 b=A? (.tup (.str n::ids.map nV)):=s4 _ _ OH;have JH:x∉L:=xu x (R5 _ (RX ..))
  have xY:∀id u,Ts[id]?=A? u->(id∈FI↔u∈L):=λid u hu=>by
   constructor
   .intro h;obtain⟨y,hy,hf⟩:=qb Aw h;rw[hu]at hf;cases hf;exact hy
   .intro h;obtain⟨j,hj,hf⟩:=l4 Aw h;rw[cY xp.nd hu hf];exact hj
  have Fy:atI ((xw++[a]).map nV) (-1)=A? (nV a):=by
   rw[R4];exact qr _ _
  refine⟨_,CA,_,CA,1,CA,ah,_,_,nV a,CA,CA,Yg JE,Fy,ra,_,_,.ref b,CA,CA,Yg (s4 _ _ era),at_nonneg (by lia) (by rw[RU,RG,hb];rfl),?_⟩;dsimp only[aw];refine⟨_,CA,1,CA,b,_,CA,Ze eb,?_,λp2 xK=>?_⟩
  .rintro⟨z,_⟩;rw[RV,show(1:Int)=((1:Nat):Int)by rfl,HT.sIx_nat]at z;lia
  dsimp only;rw[dB];refine gU xK λH5 s5 e5=>?_;have JI:=s5 _ _ G9;refine⟨p2,CA,⟨_,Ze e5⟩,g8 ids (λid=>decide (id∉FI)) nV (Ze e5) (by rw[Rw]) (by rw[Rw];lia) (λi y z Hx R hy hz sx r=>?_) (λi y z Hx R hy hz _ sx r=>?_) (λD hD=>?_)⟩
  .rw[RG,hz]at hy;cases hy;refine⟨_,CA,_,CA,fr,_,CA,DGet.k (k:=Sj ((z:Nat):Int)) (sx _ _ JI),_,CA,?_⟩;rw[nA];have:(!decide (z∈FI))=decide (z∉FI):=by by_cases h:z∈FI <;> simp[h]
   rw[this];exact r
  .rw[RG,hz]at hy;cases hy;exact⟨_,CA,r⟩
  refine gU hD λH6 s6 e6=>?_;have yO:=s5.trans s6;have Ag:=yO _ _ JE;refine⟨_,CA,_,.inl ⟨_,Yg e6,CA⟩,?_⟩;refine kG (λc1=>?_) (λc1=>?_)
  .refine hid λZZ kZ=>?_
   obtain⟨c,Co,Fz⟩:∃c Co,(ids.filter λid=>decide (id∉FI))=c::Co:=by
    cases hf:(ids.filter λid=>decide (id∉FI))with
    |nil=>rw[hf]at c1;cases c1
    |cons c r=>exact⟨c,r,CA⟩
   obtain⟨pre,rest,JJ,xX,OI,_⟩:=List.filter_eq_cons_iff.mp Fz;have JK:c∉FI:=Zc OI;rw[JJ]at BU;obtain⟨k1,kc,k2,FA,zG,⟨Hi,LR⟩,yS⟩:=om BU;refine kZ ?_;rw[Fz]at e6;refine⟨_,CA,.inl ⟨CA,_,Yg Ag⟩,_,CA,D,_,0,nV c,CA,CA,Yg e6,at0,ah,_,_,CA,CA,Ag,aS ?_,?_⟩
   .rw[Rw];have:=lA Fs Fw;lia
   have Fm:∀u∈k1,u∈L:=λu hu=>by
    obtain⟨id,hid,hf⟩:=l4 zG hu;have h1:id∈FI:=Decidable.byContradiction λz=>xX id hid (Yc z);exact(xY id u hf.2).mp h1
   have JL:kc∉L:=λz=>JK ((xY c kc LR).mpr z);have s7:Ye H (upd H6 ah (.lst ((xw++[a]).map nV++[nV c]))):=aV (s4.trans yO) Fq;refine⟨_,?_,xw++[a]++[c],FI,Ft++[x]++[kc],L,To,cs,_,_,CA,s7,by rw[ac JB];exact yO _ _ G9,by rw[ac JC];exact yO _ _ JD,by rw[ad,R4 (l₂:=[c])];rfl,Yj (λe' b' h'=>?_) Bv,Bw,Aw,Yk DY (.cons LR .nil),?_,G',?_,?_,CA⟩
   .rw[j4,j4];lia
   .have DO:H6 b'=A? (.tup (.str e'.1::e'.2.map nV)):=yO _ _ h';show(upd H6 ah _) b'=_;rw[ac (aC DO Ag (by intro z;cases z))];exact DO
   .rw[Ue,UT,U5,BB.finish,Ue,UT,U5,BB.finish];rw[<-xN];congr 1;rw[<-lU G' Bw.nd (t:=x) (c:=kc) (pre:=k1) (rest:=k2) (by rw[Hh];exact FA) Fm]
   .intro y hy;rcases RM.mp hy with hy|hy
    .exact xu y hy
    .rw[RC.mp hy];exact JL
   .rw[Vg];refine⟨Fs,List.pairwise_singleton ..,λp hp r hr=>?_⟩;rw[RC.mp hr];rcases RM.mp hp with hp|hp
    .have:=(Vg.mp Fs).2.2 p hp a (RX ..);lia
    .rw[RC.mp hp];exact Hi
  .have xc:∀id∈ids,id∈FI:=λid hid=>Decidable.byContradiction λz=>by
    have hm:id∈ids.filter λid=>decide (id∉FI):=Vr.mpr ⟨hid,Yc z⟩;cases hf:(ids.filter λid=>decide (id∉FI))with
    |nil=>rw[hf]at hm;cases hm
    |cons c r=>rw[hf]at c1;exact c1 rfl
   have OJ:∀u∈kids,u∈L:=λu hu=>by
    obtain⟨id,hid,hf⟩:=l4 BU hu;exact(xY id u hf.2).mp (xc id hid)
   have JM:a∉FI:=λz=>JH ((xY a x Fv).mp z);have FC:post x L=L++[x]:=gM G' (by rw[Hh];exact OJ) JH;refine hid λZZ kZ=>?_;obtain⟨_,FD,_,_⟩:=fV x G' Bw.nd;rw[FC]at FD xN;obtain⟨js,BV⟩:∃js,Sb (λid j=>FI[j]?=A? id) ids js:=vW λid hid=>RS.mp (xc id hid);refine kZ ?_;have D8:ids.length=js.length:=R9 BV
   have Ra:FI.length<=900000:=by
    have h1:=dw Bw.nd (m:=Ts) λu hu=>by
     obtain⟨id,_,hid⟩:=l4 Aw hu;exact Rx hid
    have h2:=R9 Aw;have h3:=xp.len;lia
   have FE:=yO _ _ JD;have JN:=yO _ _ G9;refine⟨_,CA,tl,_,CA,.inl (Yg FE),_,CA,_,CA,.inl ⟨CA,_,Yg Ag⟩,ah,_,nV a,CA,CA,Ag,by simp,?_⟩;have d1:((xw++[a]).map nV).dropLast=xw.map nV:=by simp
   rw[d1];have C9:(upd H6 ah (.lst (xw.map nV))) fr=A? (.dK (fkv FI)):=by rw[ac JB];exact JN
   have FG:(upd H6 ah (.lst (xw.map nV))) ah=A? (.lst (xw.map nV)):=ad;have FH:(upd H6 ah (.lst (xw.map nV))) tl=A? (.lst (cs.map Zf)):=by rw[ac JC];exact FE
   have s7:Ye H (upd H6 ah (.lst (xw.map nV))):=aV (s4.trans yO) Fq;have k7:KT H4 (upd H6 ah (.lst (xw.map nV))):=(Zg yO).trans (dO Ag);generalize(upd H6 ah (.lst (xw.map nV)))=H7 at C9 FG FH s7 k7 |-;refine⟨fr,_,CA,DPut.k (k:=Sj ((a:Nat):Int)) C9 (aS (by rw[sN];lia)),?_⟩;rw[(fT (sE JM)).2];have hv:Yh ((cs.map Zf).length:Nat)=Yh (FI.length:Nat):=by rw[Rw,<-OF,Hf,OG]
   rw[hv,<-ql];have Dc:(upd H7 fr (.dK (fkv (FI++[a])))) fr=A? (.dK (fkv (FI++[a]))):=ad;have FJ:(upd H7 fr (.dK (fkv (FI++[a])))) ah=A? (.lst (xw.map nV)):=by rw[ac JB.symm];exact FG
   have Dd:(upd H7 fr (.dK (fkv (FI++[a])))) tl=A? (.lst (cs.map Zf)):=by rw[ac LP.symm];exact FH
   have s8:Ye H (upd H7 fr (.dK (fkv (FI++[a])))):=aV s7 BJ;have k8:KT H7 (upd H7 fr (.dK (fkv (FI++[a])))):=λb' ys e=>by rw[ac (aC e C9 (by intro z;cases z))];exact e
   generalize(upd H7 fr (.dK (fkv (FI++[a]))))=H8 at Dc FJ Dd s8 k8 |-;have LS:=k7.trans k8;have LU:=LS _ _ eb;dsimp only;refine⟨_,CA,.inl ⟨CA,_,Yg Dd⟩,_,CA,1,CA,b,_,CA,LU,λp3 H9 s9 e9=>?_⟩;rw[oJ]at e9;have OK:=s9 _ _ LU;refine⟨_,CA,1,CA,b,_,CA,Ze OK,?_,λp4 zS=>?_⟩
   .rintro⟨z,_⟩;rw[RV,show(1:Int)=((1:Nat):Int)by rfl,HT.sIx_nat]at z;lia
   dsimp only;rw[dB];refine gU zS λHA sA eA=>?_;have JO:=(s9.trans sA) _ _ Dc;refine⟨p4,CA,⟨_,Ze eA⟩,g8 (ids.zip js) (λ_=>Bz) (λz=>nV z.2) (Ze eA) (by rw[V4,Rw];lia) (by rw[Rw];lia) (λi y z Hx R hy hz sx r=>r) (λi y z Hx R hy hz _ sx r=>?_) (λD2 OL=>?_)⟩
   .obtain⟨h1,h2⟩:=T2.mp hz;rw[RG,h1]at hy;cases hy;have hF:=jg BV h1 h2
    have De:br (fkv (FI++[a])) (Sj ((z.1:Nat):Int):Key)=A? (nV z.2):=by
     cases FK:br (fkv (FI++[a])) (Sj ((z.1:Nat):Int):Key)with
     | none =>
       have:=(fT FK).1;exact Yd (RL _ (Rx hF)) this
     | some u =>
       obtain⟨j0,rfl,Ah⟩:=gh FK
       have Cm:j0<FI.length:=by
        rcases Nat.lt_or_ge j0 FI.length with h|h
        .exact h
        .rw[Sx h]at Ah
         have h0:j0 - FI.length=0:=by
          have:=(glE Ah);simp at this;lia
         rw[h0]at Ah;have e0:a=z.1:=RN Ah;exact Yd (e0 ▸ Rx hF) JM
       rw[Sl Cm]at Ah;obtain⟨u1,OM,ON⟩:=Zl Aw Ah;obtain⟨u2,OO,LV⟩:=Zl Aw hF;rw[ON]at LV;cases LV;rw[cY Bw.nd OM OO];rfl
    refine⟨_,CA,_,CA,fr,_,CA,?_,r⟩;rw[<-De];exact DGet.k (k:=Sj ((z.1:Nat):Int)) (sx _ _ JO)
   rw[filter_tt]
   have OP:(ids.zip js).map (λz=>nV z.2)=js.map nV:=by
    have:(ids.zip js).map (λz=>nV z.2)=((ids.zip js).map (·.2)).map nV:=by rw[Sr];rfl
    rw[this,List.map_snd_zip (by lia)]
   rw[OP];refine gU OL λHB sB eB=>?_;refine⟨D2,_,CA,.inl ⟨Yg eB,λp6 OQ=>?_⟩⟩;refine gU OQ λHC sC eC=>?_;have LW:=sA.trans (sB.trans sC);refine ww (LW _ _ e9) eC (by rw[Rw];show 1+js.length<=1000000;lia) λp7 HD sD eD=>?_;have FL:=s9.trans (LW.trans sD);have FN:=FL _ _ Dd;refine⟨tl,_,_,CA,CA,FN,lbE (by lia),?_⟩;have kE:KT HD (upd HD tl (.lst (cs.map Zf++[.ref p7]))):=dO FN
   have zq:Sb (λj u=>L[j]?=A? u) js kids:=by
    refine cM (by rw[<-D8];exact R9 BU) λi j u hj hu=>?_;obtain⟨id,hid,JP⟩:=Zo BU hu;obtain⟨u',AU,Ar⟩:=Zl Aw (jg BV hid hj);rw[JP.2]at Ar;cases Ar;exact AU
   have JQ:(n,js)∉To:=λz=>by
    obtain⟨i,hi⟩:=RS.mp z;have:=Bw.found hi zq;rw[<-Hh]at this;exact JH (Rx this)
   have zx:=Bw.snoc JQ zq;rw[<-Hh]at zx;refine⟨_,?_,xw,FI++[a],Ft,L++[x],To++[(n,js)],cs++[p7],_,_,CA,aV (s8.trans FL) JA,by rw[ac LP];exact FL _ _ Dc,uAE,by rw[ac JC.symm];exact FL _ _ FJ,?_,zx,Yk Aw (.cons Fv .nil),Fu,xN,FD,?_,(Vg.mp Fs).1,CA⟩
   .have h1:=vA (N:=E.length) (F:=FI) LQ JM;have h2:=sk (as:=xw) (N:=E.length) λp hp=>Fw p (RL _ hp);have h3:(unt E.length (FI++[a])+1) * (E.length+1)<=unt E.length FI * (E.length+1):=VX _ h1;rw[Nat.add_mul,Nat.one_mul]at h3;lia
   .refine Yk (Yj (λe' b' h'=>?_) Bv) (.cons ?_ .nil)
    .exact(LS.trans ((Zg FL).trans kE)) _ _ h'
    .exact kE _ _ eD
   .intro y hy OR;rcases RM.mp OR with h|h
    .exact xu y (RL _ hy) h
    .rw[RC.mp h]at hy;obtain⟨id,hid,hf⟩:=l4 Fu hy;have:=cY xp.nd hf Fv;have:=(Vg.mp Fs).2.2 id hid a (RX ..);lia
 .have hz:as=[]:=by
   cases as with
   |nil=>rfl
   |cons y ys=>simp at cc
  subst hz;have Ld:xs=[]:=T9.mp (R9 DY).symm;subst Ld;have hL:L=post t []:=xN;subst hL;refine hid λZZ kZ=>?_;obtain⟨_,_,_,OS⟩:=fV t (L:=[]) (λu hu=>by cases hu) T7;obtain⟨ix,Br⟩:=RS.mp OS;obtain⟨id,hid,FO⟩:=Zo Aw Br;refine kZ ?_;have JR:=cY xp.nd FO C8;subst JR;refine⟨_,CA,tl,_,CA,.inl ⟨Yg JD,λtp IF=>?_⟩⟩;have s5:=ao IF (.tup (cs.map Zf))
  have De:br (fkv FI) (Sj ((id:Nat):Int):Key)=A? (nV ix):=by
   cases FK:br (fkv FI) (Sj ((id:Nat):Int):Key)with
   |none=>exact Yd (Rx hid) (fT FK).1
   | some u =>
     obtain⟨j0,rfl,Ah⟩:=gh FK;obtain⟨u',AU,Ar⟩:=Zl Aw Ah;rw[FO]at Ar;cases Ar;rw[cY Bw.nd AU Br];rfl
  refine⟨_,CA,_,CA,fr,nV ix,CA,?_,lnE rfl,λr Ci=>?_⟩
  .rw[<-De];exact DGet.k (k:=Sj ((id:Nat):Int)) (s5 _ _ G9)
  have s6:=s5.trans (ao Ci (.tup [.ref tp,nV ix]));exact q r tp cs To ix _ (s4.trans s6) ad (ao Ci _ _ _ ad) (Yj (λe' b' h'=>s6 _ _ h') Bv) Bw Br
inductive fq(vs:List V)(H:Hp)(Q:VK)(_E:XK):Prop
 |mk (a:Ry) (t:Th):vs=[.ref a]->At H t a->(∀p∈t.walk,p.isCall=C?)->t.size<=100000->(∀(r tp:Ry)(cs:List Ry)(To:List (R1×List Nat))(ix:Nat)(H':Hp),Ye H H'->H' r=A? (.tup [.ref tp,.int (ix:Nat)])->H' tp=A? (.tup (cs.map Zf))->Sb (EnA H') To cs->Cl To (post t [])->(post t [])[ix]?=A? t->Q (.ref r) H')->fq  vs H Q _E
theorem fA:∀{ts:List Th}{as:List Ry},Sb (At H) ts as->Ats H ts as
 |_,_,.nil=>.nil
 |_,_,.cons h t=>.cons h (fA t)
theorem qZ{E:List (R1×List Nat)}{bs:List Ry}(h:Sb (λ(kv:List Key×V)b=>H b=A? (.tup (kv.1.map kV))) (kvsOf E) bs):Sb (EnA H) E bs:=by
 refine cM (by rw[<-gx];exact R9 h) λj e b he hb=>?_
 have hk:(kvsOf E)[j]?=A? (eZ e,Yh (j:Nat)):=by
  unfold kvsOf;rw[RG,List.getElem?_zipIdx,he];simp
 have:=jg h hk hb;dsimp only at this;rw[show e=(e.1,e.2)from rfl,mj]at this;exact this
theorem fu:FnOk P w K mg base CX0 3 T.g_10.f T.g_10.d ["tree"] fq:=by
 refine T.g_10.F.okA dv λxi A outer s H vs Q E hr h=>?_;obtain⟨a,t,rfl,hA,xu,hsz,q⟩:=h
 refine⟨_,(af (av 1 dv.nd eE)
  (af (av 2 dv.nd (pcF T.g_8 (mX T) hr (aa (pv 1) (aa (pcF T.g_1 (o8 T) hr (aa (pv 0) ae)) (aa eE ae)))))
  (ak (aP (pcF T.g_9 (mq T) hr (aa (cQ (ja rfl) rfl T.n_5 PyProof.Rows.boot_list (aa (pv 1) ae)) (aa (pv 2) ae))))))),?_⟩
 try dsimp only[xS,xj]
 intro en Fb;dsimp only[aw];refine gU Fb λH1 s1 e1=>?_;have e1:H1 en=A? (.dT (kvsOf [])):=e1;refine⟨_,CA,_,CA,a,t,CA,hA.mono (Zg s1),hsz,λr as H2 s2 nr er hw=>?_⟩;intro nu JS;dsimp only;refine gU JS λH3 s3 e3=>?_;have LX:=s2.trans s3;have xx:nu≠en:=λz=>by rw[z,s2 _ _ e1]at JS;cases JS
 refine⟨en,r,nu,as,t,[],[],[],Yi,t.walk.map (·.fill Yi),CA,LX _ _ e1,⟨CA,T7,λi e h=>by simp at h⟩,(λe he=>by cases he),s3 _ _ er,hw.mono (Zg s3),e3,xx,λs k hm=>(by have:=xu _ hm;cases this),hsz,(λu hu=>by cases hu),λn ks hm=>RP.mpr ⟨_,hm,rfl⟩,by rw[Rw,t.walk_len];lia,λE Ts at' H4 k4 e4 xp _ yl C8 C4=>?_⟩;rw[nX]at C8;have s4:Ye H H4:=λb o e=>k4 b o (aq e Fb) (LX b o (s1 b o e));refine⟨_,CA,en,_,CA,e4,λl bs hl G8=>?_⟩;dsimp only;refine gU hl λH5 s5 e5=>?_
 have Jp:E.length<=900000:=by
  rw[xp.len];exact Ss (dw xp.nd yl) (by rw[Rw,t.walk_len];lia)
 refine⟨_,CA,l,at',bs,E,Ts,t,CA,e5,Yj (λe' b' h'=>s5 _ _ h') (qZ G8),xp,C8,Jp,C4,λr' tp cs To ix H6 s6 h1 h2 h3 h4 h5=>?_⟩;exact q r' tp cs To ix H6 (s4.trans (s5.trans s6)) h1 h2 h3 h4 h5
inductive ip(vs:List V)(H:Hp)(Q:VK)(_E:XK):Prop
 |mk (pa rt:Ry) (n:Nat) (p u:Th) (cs:List Ry) (To:List (R1×List Nat)) (Ls:List Th) (ar:R1->Nat):vs=[.ref pa,.ref rt,.int (n:Nat)]->At H p pa->H rt=A? (.tup (cs.map Zf))->Sb (EnA H) To cs->Cl To Ls->Ls[n]?=A? u->Ars ar p->(∀t∈Ls,Ars ar t)->p.size<=10000->(∀H',Ye H H'->(∀g,p.fill g≠u)->Q .non H')->(∀(d:Ry)(es:CLs)(H':Hp),Ye H H'->H d=B?->H' d=A? (.dT (dE es))->hG Ls p u es->Q (.ref d) H')->ip  vs H Q _E
theorem ig:FnOk P w K mg base CX0 2 T.g_11.f T.g_11.d ["pattern","row","number"] ip:=by
 refine T.g_11.F.okA cw λxi A outer s H vs Q E hr h=>?_;obtain⟨pa,rt,n,p,u,cs,To,Ls,ar,rfl,hA,FP,Bv,xp,hn,OT,OU,hsz,q1,q2⟩:=h
 refine⟨_,(af (av 3 cw.nd eE)
  (af (av 4 cw.nd (bY (aa (aE (aa (pv 0) (aa (pv 2) ae))) ae)))
  (af (gp SE (bS (pv 4) (λ_=>rfl)) (af (kP (lf Sm VI VH kW (pv 4)) (bc rfl (am (pgN 5 cw.nd) (am (pgN 6 cw.nd) aN))))
  (ak (bT (bS (pcF T.g_2 (jj T) hr (aa (pv 5) ae)) (λ_=>rfl)) (ak (bT (be rG (df WJ V1 PySem.F.type_dict_setdefault (e8 (cB hr)) (pv 3) (aa (pcF T.g_3 (gr T) hr (aa (pv 5) ae)) (aa (pv 6) ae))) (pv 6) (bj _)) (ak (aP iI)) bA)) (ak (bT (be rG (aH aG (pv 5) aj (λ_ _=>rfl)) (aH aG (aH aG (pv 1) (pv 6) (λ_ _=>rfl)) aj (λ_ _=>rfl)) (bj _)) (ak (aP iI)) (ak (aY (df Sm PySem.F.slot_list_extend PySem.F.type_list_extend pc (pv 4) (aa (mB rfl rfl T.n_5 rfl T.n_10 (aa (bB eI (pv 5) (bE aj) bW) (aa (bB eI (aH aG (pv 1) (pv 6) (λ_ _=>rfl)) (bE aj) bW) ae))) ae))))))))))
  (ak (aP (pv 3)))))),?_⟩
 try dsimp only[xS,xj]
 intro d hd;dsimp only[aw];refine gU hd λH1 s1 e1=>?_;have e1:H1 d=A? (.dT (dE [])):=e1;refine⟨_,CA,_,CA,lnE rfl,λt0 Cp=>⟨lnE rfl,λal yt=>?_⟩⟩;have Fl:d≠al:=λz=>by rw[<-z,(ao Cp _) _ _ e1]at yt;cases yt
 have s2:Ye H (upd (upd H1 t0 (.tup [.ref pa,.int (n:Nat)])) al (.lst [.ref t0])):=s1.trans ((ao Cp _).trans (ao yt _));have LY:(upd (upd H1 t0 (.tup [.ref pa,.int (n:Nat)])) al (.lst [.ref t0])) d=A? (.dT (dE [])):=(ao yt _) _ _ ((ao Cp _) _ _ e1);have Ea:(upd (upd H1 t0 (.tup [.ref pa,.int (n:Nat)])) al (.lst [.ref t0])) t0=A? (.tup [.ref pa,.int (n:Nat)]):=(ao yt _) _ _ ad;have LZ:(upd (upd H1 t0 (.tup [.ref pa,.int (n:Nat)])) al (.lst [.ref t0])) al=A? (.lst (([t0]:List Ry).map Zf)):=ad
 have FQ:H al=none:=by
  cases z:H al with
  |none=>rfl
  |some o=>rw[(ao Cp _) _ _ (s1 _ _ z)]at yt;cases yt
 generalize(upd (upd H1 t0 (.tup [.ref pa,.int (n:Nat)])) al (.lst [.ref t0]))=H2 at s2 LY Ea LZ |-
 refine⟨λm σ H3=>Ex5 λ(as:List Ry)(As:List (Th×Nat))(es:CLs)(c5 c6:Option V)=>An8 (σ=[A? (.ref pa),A? (.ref rt),A? (.int (n:Nat)),A? (.ref d),A? (.ref al),c5,c6]) (Ye H H3) (H3 al=A? (.lst (as.map Zf))) (H3 d=A? (.dT (dE es))) (Sb (NdAt H3) As as) (NeedI Ls p u es As) (es.length+au (As.map (·.1))<=10000) (m=au (As.map (·.1))),
  ⟨_,[t0],[(p,n)],[],B?,B?,CA,s2,LZ,LY,.cons ⟨pa,Ea,hA.mono (Zg s2)⟩ .nil,NeedI.start hn,?_,CA⟩,?_⟩
 .show 0+au [p]<=10000;rw[au,au];lia
 rintro m σ H3 ⟨as,As,es,c5,c6,rfl,s3,ea,ed,Hj,hN,FR,rfl⟩;have hlen:As.length=as.length:=R9 Hj;have OV:=fB (As.map (·.1));rw[Rw]at OV;refine⟨_,CA,_,.inl ⟨_,Yg ea,CA⟩,?_⟩;refine kG (λc=>?_) (λc=>?_)
 .refine⟨_,λi' H' h=>h,?_⟩;have yy:as≠[]:=by intro z;subst z;simp at c
  refine hid λZZ kZ=>?_;obtain⟨xw,b,rfl⟩:∃xw b,as=xw++[b]:=⟨as.dropLast,as.getLast yy,(TJ yy).symm⟩;obtain⟨FT,⟨part,w⟩,rfl,JT,pb,eb,L3⟩:=P2.snoc_inv Hj;refine kZ ?_;dsimp only at eb L3;rw[R4,bD]at FR |-;have OW:au ((([(part,w)]:List (Th×Nat))).map (·.1))=part.size:=by show au [part]=_;rw[au,au];lia
  rw[OW]at FR |-;have yT:=part.size_eq;refine⟨_,CA,.inl ⟨CA,_,Yg ea⟩,al,_,.ref b,CA,CA,ea,by simp,b,_,CA,Ze ((ac (aC eb ea (λz=>nomatch z))).trans eb),CA,_,_,CA,_,_,CA,CA,?_⟩;dsimp only[aw];have Cn:((xw++[b]).map Zf).dropLast=xw.map Zf:=by simp
  rw[Cn];have k4:KT H3 (upd H3 al (.lst (xw.map Zf))):=dO ea;have s4:Ye H (upd H3 al (.lst (xw.map Zf))):=aV s3 FQ;have Ai:(upd H3 al (.lst (xw.map Zf))) d=A? (.dT (dE es)):=(ac Fl).trans ed;have Eb:(upd H3 al (.lst (xw.map Zf))) al=A? (.lst (xw.map Zf)):=ad;have Rb:∀b,H b=B?->b≠al->b≠d->True:=λ_ _ _ _=>trivial;generalize(upd H3 al (.lst (xw.map Zf)))=H4 at k4 s4 Ai Eb |-;have zS:=L3.mono k4;have JU:=Yj (λa' b' h'=>NdAt.mono k4 h') JT;refine⟨_,CA,pb,part,CA,zS,_,CA,?_⟩;cases part with
  | call sn kn =>
    rw[show(Yi sn kn).isCall=Bz from rfl];refine cE ?_;refine⟨_,CA,.inr (.inr (.inl ⟨CA,.inr ⟨_,Ai⟩⟩)),_,CA,pb,sn,kn,CA,zS,λcc BA=>⟨_,CA,?_⟩⟩;refine gU BA λH5 s5 JV=>?_;have JV:H5 cc=A? (.tup ((ky (sn,kn)).map kV)):=JV;have L4:=Yj (λa' b' h'=>NdAt.mono (Zg s5) h') JU;have zC:(dE es).length=es.length:=by unfold dE;rw[Rw]
    refine⟨d,cc,.int (w:Nat),ky (sn,kn),dE es,CA,CA,s5 _ _ Ai,JV,aS (by lia),λu' hu=>?_,λhu=>?_⟩
    .rw[iB]at hu;obtain⟨v,hv,rfl⟩:=RW.mp hu;refine⟨_,CA,CA,_,CA,?_⟩;by_cases z:v=(w:Int)
     .subst z;rw[Yc rfl];refine cm ⟨_,?_,xw,FT,es,_,_,rfl,s4.trans s5,s5 _ _ Eb,s5 _ _ Ai,L4,hN.same hv,by lia,rfl⟩;lia
     .rw[Zb (λy=>z (V.int.inj y))];refine cE ?_;exact q1 _ (s4.trans s5) (hN.clash xp.nd hv z)
    .rw[iB]at hu
     have hv:cF es (sn,kn)=none:=by
      cases z:cF es (sn,kn)with
      |none=>rfl
      |some v=>rw[z]at hu;cases hu
     refine⟨_,CA,CA,_,CA,?_⟩;rw[Yc rfl,n5];have k6:KT H5 (upd H5 d (.dT (dE (dC es (sn,kn) (w:Int))))):=λb xs e=>by rw[ac (aC e (s5 _ _ Ai) (λz=>nomatch z))];exact e
     have Rc:=lI es (sn,kn) (w:Int);refine cm ⟨_,?_,xw,FT,dC es (sn,kn) (w:Int),_,_,rfl,aV (s4.trans s5) hd,(ac Fl.symm).trans (s5 _ _ Eb),ad,Yj (λa' b' h'=>NdAt.mono k6 h') L4,hN.put hv,by lia,rfl⟩;lia
  | knot nm ks =>
    rw[show(Zi nm ks).isCall=C? from rfl];refine cm ?_;have hw:=hN.ix (.knot nm ks,w) (by simp);dsimp only at hw;refine hid λZZ kZ=>?_;obtain⟨e0,DR⟩:∃e0,To[w]?=A? e0:=⟨_,RA (by rw[xp.len];exact hw)⟩;obtain⟨JW,ids⟩:=e0;obtain⟨kids,Hk,FU⟩:=xp.ent w _ DR;dsimp only at Hk FU;have BU:Sb (λid u=>Ls[id]?=A? u) ids kids:=Yj (λ_ _ h'=>h'.2) FU;obtain⟨ca,Hi,CJ⟩:=Zl Bv DR;have OX:H ca=A? (.tup (.str JW::ids.map nV)):=CJ;have FV:=s4 _ _ OX;have FW:=s4 _ _ FP;rw[At]at zS;obtain⟨C5,Rf,L5,FY⟩:=zS;refine kZ ?_;refine⟨_,CA,pb,_,0,.str nm,CA,CA,Ze L5,at0,_,CA,_,CA,rt,_,(w:Int),.ref ca,CA,CA,Ze FW,bz (j:=w) (gmE Hi),ca,_,0,.str JW,CA,CA,Ze FV,at0,CA,_,CA,?_⟩;by_cases zk:nm=JW
    .subst zk;rw[Yc rfl];refine cm ?_
     have Av:ks.length=kids.length:=by
      have yQ:=hN.sub (.knot nm ks,w) (by simp);have h1:=OT nm ks (yQ _ (by show _∈(Zi nm ks).walk;rw[Zm];exact RX ..));have h2:=(OU _ (Rx Hk)).len;lia
     refine⟨_,CA,.inl ⟨CA,_,Yg Eb⟩,?_⟩
     have hx:∀(x:V)(l:List V),¬(Zh (x::l).length 0 (A? 1)=0/\Zh (x::l).length (x::l).length B?=(x::l).length):=λx l z=>by
      have:=z.1;simp[Zh]at this
     refine⟨_,CA,1,CA,pb,_,CA,Ze L5,hx _ _,λr1 OY=>?_⟩;rw[dB];refine gU OY λH5 s5 OZ=>?_;refine⟨_,CA,_,CA,rt,_,(w:Int),.ref ca,CA,CA,Ze (s5 _ _ FW),bz (j:=w) (gmE Hi),1,CA,ca,_,CA,Ze (s5 _ _ FV),hx _ _,λr2 JX=>?_⟩;rw[dB];refine gU JX λH6 s6 O0=>?_;refine⟨r1,r2,_,_,CA,Ze (s6 _ _ OZ),Ze O0,λl ts H7 s7 nl el L6=>?_⟩;have BS:=s5.trans (s6.trans s7);have L7:=BS _ _ Eb;have Rg:al≠l:=λz=>by rw[<-z,s6 _ _ (s5 _ _ Eb)]at nl;cases nl
     have zb:=R9 L6;have L8:=FY.length;have Fx:ids.length=kids.length:=R9 BU;rw[V4,Rw,Rw]at zb;have Rh:=fB ks;refine⟨al,l,_,_,CA,CA,L7,el,TV (aS ?_),?_⟩
     .have h1:=fB (FT.map (·.1));rw[Rw]at h1;have h2:FT.length=xw.length:=R9 JU;have h3:(Zi nm ks).size=au ks+1:=by rw[Th.size]
      rw[Rw,Rw];lia
     have k8:KT H7 (upd H7 al (.lst (xw.map Zf++ts.map Zf))):=dO L7;have hz:au ((ks.zip ids).map (·.1))=au ks:=j5 ks ids (by lia);have h3:(Zi nm ks).size=au ks+1:=by rw[Th.size]
     refine⟨_,?_,xw++ts,FT++ks.zip ids,es,_,_,CA,aV (s4.trans BS) FQ,by rw[ad,R4],(ac Fl).trans (BS _ _ Ai),Yk (Yj (λa' b' h'=>NdAt.mono ((Zg BS).trans k8) h') JU) (cM (by rw[V4];lia) λj a b ha hb=>?_),hN.knot Hk BU Av,?_,CA⟩
     .rw[R4,bD,hz];lia
     .refine hid λZZ kZ=>?_;obtain⟨t1,i1⟩:=a;obtain⟨h4,h5⟩:=T2.mp ha;obtain⟨ka,FZ,O1⟩:=FY.at h4;refine kZ ?_;refine⟨ka,k8 _ _ ?_,O1.mono ((Zg BS).trans k8)⟩;exact jg L6 (x:=(Zf ka,nV i1)) (T2.mpr ⟨by rw[RG,FZ];rfl,by rw[RG,h5];rfl⟩) hb
     .rw[R4,bD,hz];lia
    .rw[Zb (λy=>zk (V.str.inj y))];refine cE ?_;exact q1 _ s4 (hN.other Hk zk)
 .have has:as=[]:=by
   cases as with
   |nil=>rfl
   |cons b as=>simp at c
  subst has
  have O2:As=[]:=by
   cases As with
   |nil=>rfl
   |cons a As=>simp at hlen
  subst O2;exact⟨_,CA,q2 d es H3 s3 hd ed hN.done⟩
inductive dm(vs:List V)(H:Hp)(Q:VK)(_E:XK):Prop
 |mk (d ka:Ry) (b n:Int) (ks:List Nat) (D:List Cand):vs=[.ref d,.int b,.int n,.ref ka]->cz H d D->(D.map (·.b)).Nodup->H ka=A? (.tup (ks.map nW))->D.length<1000000->(∀(H':Hp)(D':List Cand),SameB d H H'->cz H' d D'->Kept D ⟨b,n,ks⟩ D'->Q .non H')->dm  vs H Q _E
theorem fj:FnOk P w K mg base CX0 1 T.g_12.f T.g_12.d ["rows","bits","knots","kids"] dm:=by
 refine T.g_12.F.okA jL λxi A outer s H vs Q E hr h=>?_;obtain⟨d,ka,b,n,ks,D,rfl,⟨kvs,ed,hD⟩,yx,yU,hl,q⟩:=h;refine⟨_,(ak (bT (PW.pt (t5 (li (eX (cB hr) (pv 1) (pv 0))) (qT (be oq (pv 2) (aH aG (gb (cB hr) (pv 0) (pv 1) (λ_ _=>rfl)) aj (λ_ _=>rfl)) (bj _))))) (ak (iG (cB hr) (pv 0) (pv 1) (aE (aa (pv 2) (aa (pv 3) ae))) rfl)) bA)),?_⟩
 try dsimp only[xS,xj]
 have Av:D.length=kvs.length:=R9 hD;have zr:=kf hD
 have JY:(kvs.map (·.1)).Nodup:=by
  rw[zr];have:=jT yx;rw[Sr]at this;exact this
 have put:∀D',(∀p,H p=B?->Sb (RowE (upd (upd H p (.tup [.int n,.ref ka])) d (.dK (putK kvs (Sj b) (.ref p))))) D' (putK kvs (Sj b) (.ref p)))->Kept D ⟨b,n,ks⟩ D'->∀p,H p=B?->Q .non (upd (upd H p (.tup [.int n,.ref ka])) d (.dK (putK kvs (Sj b) (.ref p)))):=λD' h1 h2 p hp =>
  q _ D' (λc u hc e=>by rw[ac hc,ac (aq e hp)];exact e) ⟨_,ad,h1 p hp⟩ h2
 have kt:∀p,H p=B?->KT H (upd (upd H p (.tup [.int n,.ref ka])) d (.dK (putK kvs (Sj b) (.ref p)))):=λp hp c xs e=>by
  rw[ac (aC e ed (λz=>nomatch z)),ac (aq e hp)];exact e
 have ent:∀p,H p=B?->RowE (upd (upd H p (.tup [.int n,.ref ka])) d (.dK (putK kvs (Sj b) (.ref p)))) ⟨b,n,ks⟩ (Sj b,.ref p):=λp hp=>by
  have D0:p≠d:=λz=>by rw[z,ed]at hp;cases hp
  exact⟨CA,p,ka,CA,(ac D0).trans ad,kt p hp _ _ yU⟩
 have pd:∀p,H p=B?->(upd H p (.tup [.int n,.ref ka])) d=A? (.dK kvs):=λp hp=>by rw[ac (aq ed hp)];exact ed
 have xY:∀v,br kvs (Sj b)=A? v->∃(i:Nat)(e:Cand),kvs[i]?=A? (Sj b,v)/\D[i]?=A? e/\e.b=b/\∃a Hl,v=.ref a/\H a=A? (.tup [.int e.n,.ref Hl]):=λv hv=>by
  obtain⟨i,hi⟩:=RS.mp (oa hv);obtain⟨e,he,h1,a,Hl,h2,h3,_⟩:=Zo hD hi;exact⟨i,e,hi,he,(Wv h1).symm,a,Hl,h2,h3⟩
 have C7:(br kvs (Sj b)=B?\/∃(i:Nat)(e:Cand)(v:V),kvs[i]?=A? (Sj b,v)/\D[i]?=A? e/\e.b=b/\n<=e.n)->∀p,H p=B?->Q .non (upd (upd H p (.tup [.int n,.ref ka])) d (.dK (putK kvs (Sj b) (.ref p)))):=λh p hp=>by
  rcases h with h|⟨i,e,v,h1,h2,h3,h4⟩
  .have hk:=iQ h
   have hb:b∉D.map (·.b):=λz=>hk (by
    rw[zr];obtain⟨c,hc,e⟩:=RP.mp z;exact RP.mpr ⟨c,hc,by rw[e]⟩)
   refine put (D++[⟨b,n,ks⟩]) (λp hp=>?_) ⟨by rw[RK];exact RI _,λS hS=>hS.add hb⟩ p hp;have:=ent p hp;have k1:=kt p hp;rw[lV hk]at this k1 |-;exact Yk (Yj (λ_ _ h=>h.mono k1) hD) (.cons this .nil)
  .refine put (D.set i ⟨b,n,ks⟩) (λp hp=>?_) ⟨by rw[U3];lia,λS hS=>hS.set h2 h3 h4⟩ p hp;have:=ent p hp;have k1:=kt p hp;rw[lL JY h1]at this k1 |-;exact t4 (Yj (λ_ _ h=>h.mono k1) hD) i this
 have done:(br kvs (Sj b)=B?\/∃(i:Nat)(e:Cand)(v:V),kvs[i]?=A? (Sj b,v)/\D[i]?=A? e/\e.b=b/\n<=e.n)->∀p,H p=B?->∃a H4,Zf d=.ref a/\DPut (upd H p (.tup [.int n,.ref ka])) a (.int b) (.ref p) H4/\Q .non H4:=λh p hp=>⟨d,_,rfl,DPut.k (k:=Sj b) (pd p hp) (aS (by lia)),C7 h p hp⟩;refine⟨_,CA,_,CA,d,_,CA,DGet.k (k:=Sj b) ed,_,CA,?_⟩;cases hv:br kvs (Sj b)with
 |none=>exact cE (cE ⟨_,rfl,_,rfl,lnE rfl,λp hp=>⟨_,rfl,_,rfl,done (.inl hv) p hp⟩⟩)
 | some v =>
   refine cm ?_;refine hid λZZ kZ=>?_;obtain⟨i,e,h1,h2,h3,a,Hl,rfl,h4⟩:=xY v hv;refine kZ ?_;refine⟨_,CA,_,CA,_,CA,d,_,CA,by rw[<-hv];exact DGet.k (k:=Sj b) ed,a,_,0,.int e.n,CA,CA,Ze h4,at0,_,_,CA,CA,_,CA,?_⟩;by_cases xf:n<e.n
   .rw[Yc xf];exact cE ⟨_,rfl,_,rfl,lnE rfl,λp hp=>⟨_,rfl,_,rfl,done (.inr ⟨i,e,_,h1,h2,h3,by lia⟩) p hp⟩⟩
   .rw[Zb xf];refine cm (q H D SameB.refl ⟨kvs,ed,hD⟩ ⟨by lia,λS hS=>hS.keep (Rx h2) h3 (by show e.n<=n;lia)⟩)
inductive gC(vs:List V)(H:Hp)(Q:VK)(_E:XK):Prop
 |mk (d ag sz nl:Ry) (A Z:List Int) (ns:List Nat) (D:List Cand):vs=[.ref d,.ref ag,.ref sz,.ref nl]->cz H d D->H ag=A? (.lst (A.map Yh))->H sz=A? (.lst (Z.map Yh))->H nl=A? (.lst (ns.map nW))->(∀n∈ns,n<A.length/\n<Z.length)->D.length * ns.length<=900000->(∀e∈D,e.ks.length<=10)->(∀(r:Ry)(H':Hp)(D':List Cand),Ye H H'->H r=B?->cz H' r D'->D'.length<=D.length * ns.length->Least (λx=>∃e∈D,∃n∈ns,x=e.ext A Z n) D'->Q (.ref r) H')->gC  vs H Q _E
theorem oW:FnOk P w K mg base CX0 2 T.g_13.f T.g_13.d ["rows","agreeing","sizes","numbers"] gC:=by
 refine T.g_13.F.okA cO λxi A outer s H vs Q E hr h=>?_;obtain⟨d,ag,sz,nl,A,Z,ns,D,rfl,⟨kvs,ed,hD⟩,L9,Ec,Df,zp,hlen,zr,q⟩:=h
 refine⟨_,(af (av 4 cO.nd jh)
  (af (eM (bC SE rfl (iK (pv 0)) (bc rfl (am (pgN 5 cO.nd) (am (bc rfl (am (pgN 6 cO.nd) (am (pgN 7 cO.nd) aN))) aN))) (ak (bC SE rfl (cK (pv 3)) (pgN 8 cO.nd) (ak (aY (pcF T.g_12 (fj T) hr (aa (pv 4) (aa (aJ nK (pv 5) (aH cu (pv 1) (pv 8) (λ_ _=>rfl))) (aa (aJ cT (pv 6) (aH cu (pv 2) (pv 8) (λ_ _=>rfl))) (aa (aJ kN (pv 7) (aE (aa (pv 8) ae))) ae)))))))))))
  (ak (aP (pv 4))))),?_⟩
 try dsimp only[xS,xj]
 intro td BW;dsimp only[aw];refine gU BW λH1 s1 e1=>?_;have E5:td≠d:=λz=>by rw[z,ed]at BW;cases BW
 have CV:D.length=kvs.length:=R9 hD;have Ma:∀{H3:Hp},SameB d H H3->KT H H3:=λ{H3}s b xs e=>s b _ (aC e ed (λz=>nomatch z)) e;refine⟨_,CA,d,kvs,CA,s1 _ _ ed,λo=>?_⟩
 refine gz (a:=d) (o:=o) (kvs:=kvs) (λi σ H3=>Ex5 λ(c5 c6 c7 c8:Option V)(Dt:List Cand)=>An6 (σ=[A? (.ref d),A? (.ref ag),A? (.ref sz),A? (.ref nl),A? (.ref td),c5,c6,c7,c8]) (SameB d H H3) (H3 d=A? (.frz o (.dK kvs))) (cz H3 td Dt) (Dt.length<=i * ns.length) (Least (λx=>∃e∈D.take i,∃n∈ns,x=e.ext A Z n) Dt))
  ⟨B?,B?,B?,B?,[],rfl,λb u hb e=>by rw[ac hb];exact s1 _ _ e,ad,⟨[],(ac E5).trans e1,.nil⟩,Sn _,?_⟩ (λi σ H3 _⟨_,_,_,_,_,_,_,e,_,_,_⟩=>e) ?_ ?_
 .refine Least.nil.congr λc=>⟨λz=>z.elim,λ⟨e,he,_⟩=>?_⟩;rw[Uo]at he;cases he
 .rintro i kv p σ H3 xQ hp ⟨c5,c6,c7,c8,Dt,rfl,s3,yz,⟨kt,JZ,Dg⟩,BX,hle⟩;refine hid λZZ kZ=>?_;obtain⟨e,he,zG,a,ka,yS,ea,yU⟩:=Zo hD xQ;have Ri:i<kvs.length:=(glE xQ);obtain⟨k,v⟩:=kv;refine kZ ?_;dsimp only at zG yS;subst zG yS;refine gU hp λH4 s4 ep=>?_;have ep:H4 p=A? (.tup [.int e.b,.ref a]):=ep;have J0:SameB d H H4:=λb u hb z=>s4 _ _ (s3 b u hb z);refine⟨p,_,CA,Ze ep,CA,_,_,CA,_,_,CA,⟨a,_,CA,Ze (Ma J0 _ _ ea),CA,_,_,CA,_,_,CA,CA,CA,?_⟩⟩;dsimp only[aw];have BY:∀{b:Ry}{xs:List V},H b=A? (.lst xs)->b≠d:=λe=>aC e ed (λz=>nomatch z)
  have hmul:i * ns.length+ns.length<=D.length * ns.length:=by
   rw[<-V9];exact VX _ (by lia)
  refine⟨_,CA,nl,CA,⟨_,Yg (J0 _ _ (BY Df) Df)⟩,?_⟩
  refine dL (K:=K) (a:=nl) (xs:=ns.map nW) (λj σ H5=>Ex2 λ(c8:Option V)(Dt:List Cand)=>An6 (σ=[A? (.ref d),A? (.ref ag),A? (.ref sz),A? (.ref nl),A? (.ref td),A? (.int e.b),A? (.int e.n),A? (.ref ka),c8]) (SameB d H H5) (H5 d=A? (.frz o (.dK kvs))) (cz H5 td Dt) (Dt.length<=i * ns.length+j) (Least (λx=>(∃e∈D.take i,∃n∈ns,x=e.ext A Z n)\/∃n∈ns.take j,x=e.ext A Z n) Dt))
   ⟨c8,Dt,rfl,J0,s4 _ _ yz,⟨kt,s4 _ _ JZ,Yj (λ_ _ h=>h.mono (Zg s4)) Dg⟩,BX,hle.congr λc=>⟨.inl,λz=>z.elim id λ⟨n,hn,_⟩=>?_⟩⟩ (λj σ H5 _⟨_,_,_,z,_,_,_,_⟩=>Yg (z _ _ (BY Df) Df)) ?_ ?_
  .rw[Uo]at hn;cases hn
  .rintro j x σ H5 hx ⟨c8,Dt,rfl,s5,J1,Dh,J2,BZ⟩
   obtain⟨n,hn,rfl⟩:∃n,ns[j]?=A? n/\nW n=x:=by
    rw[RG]at hx;exact RW.mp hx
   have hj:j<ns.length:=(glE hn);obtain⟨O3,O4⟩:=zp n (Rx hn);have gA:A[n]?=A? (A.getD n 0):=by rw[Sf,RA O3];rfl
   have gZ:Z[n]?=A? (Z.getD n 0):=by rw[Sf,RA O4];rfl
   refine⟨_,CA,_,CA,_,CA,_,CA,ag,_,(n:Int),.int (A.getD n 0),CA,CA,Yg (s5 _ _ (BY L9) L9),bz (j:=n) (gmE gA),_,_,CA,CA,?_⟩;refine⟨_,CA,_,CA,_,CA,sz,_,(n:Int),.int (Z.getD n 0),CA,CA,Yg (s5 _ _ (BY Ec) Ec),bz (j:=n) (gmE gZ),_,_,CA,CA,?_⟩;have J3:=Ma s5 _ _ yU
   have go:∀(r:Ry)(H6:Hp),Ye H5 H6->H6 r=A? (.tup ((e.ks++[n]).map nW))->dm [.ref td,.int (SH e.b (A.getD n 0)),.int (e.n+Z.getD n 0),.ref r] H6 (λv H7=>Ex2 λ(c8:Option V)(Dt:List Cand)=>An6 ([A? (Zf d),A? (.ref ag),A? (.ref sz),A? (.ref nl),A? (.ref td),A? (.int e.b),A? (.int e.n),A? (.ref ka),A? (nW n)]=[A? (.ref d),A? (.ref ag),A? (.ref sz),A? (.ref nl),A? (.ref td),A? (.int e.b),A? (.int e.n),A? (.ref ka),c8]) (SameB d H H7) (H7 d=A? (.frz o (.dK kvs))) (cz H7 td Dt) (Dt.length<=i * ns.length+(j+1)) (Least (λx=>(∃e∈D.take i,∃n∈ns,x=e.ext A Z n)\/∃n∈ns.take (j+1),x=e.ext A Z n) Dt)) E0:=λr H6 s6 er=>by
    obtain⟨O5,O6,F0⟩:=Dh;refine⟨td,r,_,_,e.ks++[n],Dt,CA,⟨O5,s6 _ _ O6,Yj (λ_ _ h=>h.mono (Zg s6)) F0⟩,BZ.nd,er,by lia,λH7 D7 s7 B0 hK=>⟨_,D7,CA,λb u hb z=>?_,s7 _ _ E5.symm (s6 _ _ J1),B0,by have:=hK.len;lia,(hK.least _ BZ).congr λc=>?_⟩⟩
    .by_cases G0:b=td
     .rw[G0,BW]at z;cases z
     .exact s7 _ _ G0 (s6 _ _ (s5 _ _ hb z))
    .rw[take_snoc hn];constructor
     .rintro((h|⟨m,hm,h⟩)|h)
      .exact .inl h
      .exact .inr ⟨m,RL _ hm,h⟩
      .exact .inr ⟨n,by simp,h⟩
     .rintro(h|⟨m,hm,h⟩)
      .exact .inl (.inl h)
      .rcases RM.mp hm with hm|hm
       .exact .inl (.inr ⟨m,hm,h⟩)
       .rw[RC.mp hm]at h;exact .inr h
   refine⟨_,CA,_,CA,lnE rfl,λp2 xK=>?_⟩;have s6:Ye H5 (upd H5 p2 (.tup [nW n])):=ao xK _;have Be:(upd H5 p2 (.tup [nW n])) p2=A? (.tup [nW n]):=ad;have Av:=zr e (Rx he);refine⟨ka,p2,_,_,CA,CA,Ze (s6 _ _ J3),Ze Be,TV (aS (by rw[Rw];show e.ks.length+1<=1000000;lia)),λDi=>go p2 _ s6 ?_,λ_ h=>(by cases h),λ_ _ p3 zj=>?_⟩
   .have hz:e.ks=[]:=List.map_eq_nil_iff.mp Di;rw[hz];exact Be
   .refine go p3 _ (s6.trans (ao zj _)) ?_;rw[ad,R4];rfl
  .rintro σ H5 ⟨c8,Dt,rfl,s5,J1,Dh,J2,BZ⟩;refine⟨_,_,_,_,Dt,CA,s5,J1,Dh,?_,BZ.congr λc=>?_⟩
   .rw[Rw]at J2;rw[V9];exact J2
   .rw[show ns.take (ns.map nW).length=ns from Tt (by rw[Rw];exact RI _),take_snoc he];constructor
    .rintro(⟨e',xH,h⟩|h)
     .exact⟨e',RL _ xH,h⟩
     .exact⟨e,by simp,h⟩
    .rintro⟨e',xH,h⟩;rcases RM.mp xH with xH|xH
     .exact .inl ⟨e',xH,h⟩
     .rw[RC.mp xH]at h;exact .inr h
 .rintro σ H3 ⟨c5,c6,c7,c8,Dt,rfl,s3,yz,⟨kt,JZ,Dg⟩,BX,hle⟩;rw[Tt (by lia)]at hle;rw[<-CV]at BX;have k4:KT H3 (upd H3 d (.dK kvs)):=λb xs e=>by rw[ac (aC e yz (λz=>nomatch z))];exact e
  refine⟨upd H3 d (.dK kvs),λb=>?_,_,CA,q td _ Dt (λb u e=>?_) BW ⟨kt,(ac E5).trans JZ,Yj (λ_ _ h=>h.mono k4) Dg⟩ BX hle⟩
  .by_cases hb:b=d
   .rw[hb];exact .inr ⟨o,_,yz,s1 _ _ ed,ad⟩
   .exact .inl (ac hb)
  .by_cases hb:b=d
   .rw[hb,ed]at e;rw[hb,ad];exact e
   .rw[ac hb];exact s3 b u hb e
inductive dF(C:Ry)(vs:List V)(H:Hp)(Q:VK)(_E:XK):Prop
 |mk (w:Wy):vs=[.ref w.x]->WyAt C H w->w.ps.length<=1000000->Q (.int (ones w.ps.length)) H->dF C vs H Q _E
inductive d9(C:Ry)(vs:List V)(H:Hp)(Q:VK)(_E:XK):Prop
 |mk (w:Wy) (b:Int) (S:Nat):vs=[.ref w.x,.int b,.int (S:Nat)]->WyAt C H w->w.ps.length<=1000000->S<=100000->0<=b->(∀q∈w.ps,∃s:Nat,q.1=(s:Int)/\s<S)->(∀(r:Ry)(note:List Int)(H':Hp),Ye H H'->H' r=A? (.tup (note.map Yh))->NoteBy w.ps b S w.ps.length note->Q (.ref r) H')->d9 C vs H Q _E
theorem ck:FnOk P w K mg base CX0 1 T.g_16.f T.g_16.d ["self"] (dF T.e_Ways):=by
 refine T.g_16.F.okA gW λxi A outer s H vs Q E hr h=>?_;obtain⟨w,rfl,hw,hl,q⟩:=h;refine⟨_,(ak (aP (aJ qu (aJ rA aj (aZ bf rfl T.n_4 TF (aa (aT (pv 0) rfl) ae))) aj))),?_⟩
 try dsimp only[xS,xj]
 refine⟨_,CA,w.x,T.e_Ways,w.dx,_,_,CA,hw.ins,T.cl_Ways,T.na_Ways_pairs,oB,w.pl,_,CA,.inl (Yg hw.pl),_,_,CA,CA,⟨by lia,by rw[Rw];lia,by decide⟩,_,_,CA,CA,?_⟩;rw[Rw,Int.one_mul,RU];exact q
theorem iu:FnOk P w K mg base CX0 1 T.g_19.f T.g_19.d ["self","bits","states"] (d9 T.e_Ways):=by
 refine T.g_19.F.okA bJ λxi A outer s H vs Q E hr h=>?_;obtain⟨w,b,S,rfl,hw,hl,hS,hb,xB,q⟩:=h
 refine⟨_,(af (av 3 bJ.nd (aJ qX (bY (aa (oo nk aj) ae)) (pv 2)))
  (af (bC SE rfl (fJ rfl T.n_2 (aT (pv 0) rfl)) (bc rfl (am (pgN 4 bJ.nd) (am (bc rfl (am (pgN 5 bJ.nd) (am (pgN 6 bJ.nd) aN))) aN))) (ak (bT (be dY (aJ nK (aJ ve (pv 1) (pv 4)) aj) aj (bj _)) (ak (kP (pv 6) (uN (pv 3) (pv 5) set_list))) bA)))
  (ak (aP (cQ bR rfl T.n_9 UJ (aa (pv 3) ae)))))),?_⟩
 try dsimp only[xS,xj]
 refine⟨_,CA,lnE rfl,λl0 EB=>?_⟩;refine gU EB λH0 s0 e0=>?_;refine⟨_,CA,l0,_,_,CA,CA,e0,by lia,by lia,TV (aS (by rw[RU];show 1 * S<=1000000;lia)),λnl Bx=>?_⟩;dsimp only[aw]
 have J4:(Sh ((S:Nat):Int).toNat [Yh (-1)]).flatten=(Sh S (-1:Int)).map Yh:=by
  rw[RU,List.map_replicate];generalize S=n;induction n with
  |zero=>rfl
  |succ n ih=>rw[Ti,Ti,U8,ih];rfl
 rw[J4];have s1:Ye H (upd H0 nl (.lst ((Sh S (-1:Int)).map Yh))):=s0.trans (ao Bx _)
 have J5:H nl=none:=by
  cases z:H nl with
  |none=>rfl
  |some o=>rw[s0 _ _ z]at Bx;cases Bx
 have e1:(upd H0 nl (.lst ((Sh S (-1:Int)).map Yh))) nl=A? (.lst ((Sh S (-1:Int)).map Yh)):=ad;generalize(upd H0 nl (.lst ((Sh S (-1:Int)).map Yh)))=H1 at s1 e1 |-;refine⟨_,CA,w.x,T.e_Ways,w.dx,_,_,CA,s1 _ _ hw.ins,T.cl_Ways,T.na_Ways_pairs,oB,w.pl,CA,⟨_,Yg (s1 _ _ hw.pl)⟩,?_⟩
 refine eO (K:=K) (a:=w.pl) (xs:=w.ps.map λq=>Zf q.2.2) (λj σ H2=>Ex4 λ(c4 c5 c6:Option V)(note:List Int)=>An4 (σ=[A? (.ref w.x),A? (.int b),A? (.int (S:Nat)),A? (.ref nl),c4,c5,c6]) (Ye H H2) (H2 nl=A? (.lst (note.map Yh))) (NoteBy w.ps b S j note))
  ⟨B?,B?,B?,_,rfl,s1,e1,NoteBy.zero _ _ _⟩ (λj σ H2 _⟨_,_,_,_,_,s,_,_⟩=>Yg (s _ _ hw.pl)) ?_ ?_
 .rintro j x p σ H2 hx hp ⟨c4,c5,c6,note,rfl,s2,en,hN⟩;rw[RG]at hx;obtain⟨q',hq,rfl⟩:=RW.mp hx;refine gU hp λH3 s3 ep=>?_;have Mb:=Rx hq;have O7:=s3 _ _ (s2 _ _ (hw.pr q' Mb));have hj:=(glE hq);refine⟨p,_,CA,Ze ep,CA,_,_,CA,_,_,CA,⟨q'.2.2,_,CA,Ze O7,CA,_,_,CA,_,_,CA,CA,CA,?_⟩⟩;dsimp only[aw];refine⟨_,CA,_,CA,_,_,CA,CA,by lia,_,_,CA,CA,CA,_,CA,?_⟩;rw[iH,show(SH (b / 2 ^ ((j:Nat):Int).toNat) 1 == 1)=bt b j from by rw[<-uS hb j];exact(Bool.beq_eq_decide_eq ..)];have hlen:=hN.len;obtain⟨s0,C1,GO⟩:=xB q' Mb;refine kG (λc=>?_) (λc=>?_)
  .refine⟨_,CA,_,CA,_,CA,nl,_,q'.1,s0,CA,CA,s3 _ _ en,?_,?_⟩
   .rw[C1,Rw,hlen];unfold ixN;rw[Yb (by lia),Yb (by lia),RU]
   .refine⟨_,_,_,note.set s0 q'.2.1,CA,aV (s2.trans s3) J5,?_,hN.set hq c C1⟩;rw[ad,List.map_set]
  .exact⟨_,_,_,note,CA,s2.trans s3,s3 _ _ en,hN.skip hq (by cases z:bt b j with|false=>rfl|true=>exact Yd z c)⟩
 .rintro σ H2 ⟨c4,c5,c6,note,rfl,s2,en,hN⟩;rw[Rw]at hN;refine⟨_,CA,nl,_,CA,.inl ⟨Yg en,λr hr=>?_⟩⟩;exact q r note _ (s2.trans (ao hr _)) ad hN
inductive cZ(C:Ry)(vs:List V)(H:Hp)(Q:VK)(_E:XK):Prop
 |mk (w:Wy) (na:Ry) (note:List Int) (Ws:List bI):vs=[.ref w.x,.ref na]->WyAt C H w->H na=A? (.tup (note.map Yh))->w.ps.length=Ws.length->Ws.length<=1000000->(∀(k:Nat)(kd:Kd),w.ks[k]?=A? kd->NeedT Ws k kd.es)->(∀kd∈w.ks,(∀e∈kd.es,∃c:Nat,e.1.1=(c:Int)/\c<note.length)/\kd.ag.length<1000000)->(∀(H':Hp)(xb:List Kd),FrB (w.ks.map (·.a)) H H'->WyAt C H' {w with ks:=xb}->Took Ws note w.ks w.ks.length xb->Q .non H')->cZ C vs H Q _E
theorem gm:FnOk P w K mg base CX0 2 T.g_17.f T.g_17.d ["self","note"] (cZ T.e_Ways):=by
 refine T.g_17.F.okA aM λxi A outer s H vs Q E hr h=>?_;obtain⟨w,na,note,Ws,rfl,hw,Bt,yT,Ff,hN,zC,q⟩:=h
 refine⟨_,(ak (bC SE rfl (fJ rfl T.n_2 (aT (pv 0) rfl)) (bc rfl (am (pgN 2 aM.nd) (am (pgN 3 aM.nd) aN))) (af (av 4 aM.nd aj)
  (af (eM (bC SE rfl (eN (pv 3)) (bc rfl (am (bc rfl (am (pgN 5 aM.nd) (am (pgN 6 aM.nd) aN))) (am (pgN 7 aM.nd) aN))) (ak (bT (be rG (aH aG (pv 1) (pv 5) (λ_ _=>rfl)) (pv 6) (bj _)) (ak (u6 (i:=4) aM.nd rfl (Or.inl rfl) (pv 7) wv)) bA))))
  (ak (aY (df Sm S6 S5 bL (aH cu (aT (pv 0) rfl) (pv 2) (λ_ _=>rfl)) (aa (aJ nK (fH (pv 0) T.cl_Ways T.g_16.me (ck T) (hr.mono (by first|decide|lia)) T.g_16.b .nil fo ) (oo vx (pv 4))) ae)))))))),?_⟩
 try dsimp only[xS,xj]
 refine⟨_,CA,w.x,T.e_Ways,w.dx,_,_,CA,hw.ins,T.cl_Ways,T.na_Ways_needing,qY,w.nl,CA,⟨_,Yg hw.nl⟩,?_⟩
 refine eO (K:=K) (a:=w.nl) (xs:=w.ks.map λk=>Zf k.d) (λk σ H2=>Ex7 λ(c2 c3 c4 c5 c6 c7:Option V)(xb:List Kd)=>An4 (σ=[A? (.ref w.x),A? (.ref na),c2,c3,c4,c5,c6,c7]) (FrB (w.ks.map (·.a)) H H2) (WyAt T.e_Ways H2 {w with ks:=xb}) (Took Ws note w.ks k xb))
  ⟨B?,B?,B?,B?,B?,B?,w.ks,rfl,FrB.refl,hw,Took.zero _ _ _⟩ (λk σ H2 _⟨_,_,_,_,_,_,xb,_,_,h,ht⟩=>?_) ?_ ?_
 .have:=h.nl;dsimp only at this
  rw[show(xb.map λk=>Zf k.d)=(w.ks.map λk=>Zf k.d)from by
   have:=Zd (Xe Zf) ht.map.2;rw[Sr,Sr]at this;exact this]at this
  exact Yg this
 .rintro k x p σ H2 hx hp ⟨c2,c3,c4,c5,c6,c7,xb,rfl,f2,J6,ht⟩;rw[RG]at hx;obtain⟨kd,yb,rfl⟩:=RW.mp hx;have xE:=ht.hi k kd (RI _) yb;have F1:=Rx xE;have zD:=Rx yb;have Hm:=hN k kd yb;obtain⟨O8,yt⟩:=zC kd zD;refine gU hp λH3 s3 ep=>?_;have f3:=f2.trans (Zn s3);have zl:=J6.same s3
  have O9:∀{b:Ry}{o:HO},H b=A? o->(∀xs,o≠.lst xs)->b∉w.ks.map (·.a):=λe xu z=>by
   obtain⟨yo,hm,e'⟩:=RP.mp z;have:=hw.ag yo hm;rw[e',e]at this;exact xu _ (RN this)
  have Mc:∀{H3:Hp},FrB (w.ks.map (·.a)) H H3->KT H H3:=λf b xs e=>f b _ (O9 e λxs z=>by cases z) e;have yz:H3 kd.d=A? (.dT (dE kd.es)):=zl.nd kd F1;refine⟨p,_,CA,Ze ep,CA,_,_,CA,_,_,CA,CA,?_⟩;dsimp only[aw];refine⟨_,CA,kd.d,_,CA,yz,λo=>?_⟩
  refine ji (a:=kd.d) (o:=o) (es:=kd.es) (λj σ H4=>Ex4 λ(c5 c6 c7:Option V)(x:Int)=>An4 (σ=[A? (.ref w.x),A? (.ref na),A? (.int (k:Nat)),A? (.ref kd.d),A? (.int x),c5,c6,c7]) (SameB kd.d H3 H4) (H4 kd.d=A? (.frz o (.dT (dE kd.es)))) (Agst kd.es note Ws.length j x))
   ⟨_,_,_,0,rfl,Yl,ad,Agst.zero _ _ _⟩ (λj σ H4 _⟨_,_,_,_,_,_,e,_⟩=>e) ?_ ?_
  .rintro j e p2 b σ H4 he xK eb ⟨c5,c6,c7,x,rfl,s4,Ai,hA⟩;refine gU xK λH5 s5 Be=>?_;have By:=Rx he;refine hid λZZ kZ=>?_;obtain⟨c,hc,Dj⟩:=O8 e By;have J7:=s5 _ _ (s4 _ _ (aC (Mc f3 _ _ Bt) yz (λz=>nomatch z)) (Mc f3 _ _ Bt));obtain⟨Md,Me⟩:=hA.step he (Hm.rng e By);obtain⟨v,hv⟩:∃v,note[c]?=A? v:=⟨_,RA Dj⟩;refine kZ ?_;refine⟨p2,_,CA,Ze Be,CA,.ref b,_,CA,⟨b,_,CA,Ze (s5 _ _ eb),CA,_,_,CA,_,_,CA,CA,_,_,CA,CA,?_⟩⟩;dsimp only[aw];refine⟨_,CA,_,CA,na,_,e.1.1,.int v,CA,CA,Ze J7,?_,_,CA,CA,_,CA,?_⟩
   .rw[hc];exact bz (j:=c) (gmE hv)
   rw[hc,RU,hv]at Md Me;have Mf:SameB kd.d H3 H5:=λb u hb z=>s5 _ _ (s4 b u hb z);by_cases z:v=e.1.2
   .rw[z,Yc rfl];exact cm ⟨_,_,_,x,rfl,Mf,s5 _ _ Ai,Md (by rw[z])⟩
   .rw[Zb (λy=>z (V.int.inj y))];exact cE ⟨_,rfl,_,rfl,_,_,rfl,rfl,_,_,_,_,rfl,Mf,s5 _ _ Ai,Me (λy=>z (RN y))⟩
  .rintro σ H4 ⟨c5,c6,c7,x,rfl,s4,Ai,hA⟩;obtain⟨b0,bb⟩:=hA.done Hm
   have s5:Ye H3 (upd H4 kd.d (.dT (dE kd.es))):=λb u z=>by
    by_cases hb:b=kd.d
    .rw[hb,yz]at z;rw[hb,ad];exact z
    .rw[ac hb];exact s4 b u hb z
   refine⟨upd H4 kd.d (.dT (dE kd.es)),λb=>?_,?_⟩
   .by_cases hb:b=kd.d
    .rw[hb];exact .inr ⟨o,_,Ai,yz,ad⟩
    .exact .inl (ac hb)
   generalize(upd H4 kd.d (.dT (dE kd.es)))=H5 at s5 |-;have zt:=zl.same s5;have Mg:H5 kd.a=_:=zt.ag kd F1;refine⟨_,CA,w.x,T.e_Ways,w.dx,_,_,CA,zt.ins,T.cl_Ways,T.na_Ways_agreeing,ow,_,CA,w.al,_,(k:Int),.ref kd.a,CA,CA,Yg zt.al,bz (j:=k) (by rw[RG];show(xb[k]?).map _=_;rw[xE];rfl),.inl ⟨CA,_,Yg Mg⟩,?_⟩;refine⟨_,CA,w.x,w.dx,_,CA,zt.ins,eu,{w with ks:=xb},CA,zt,(by show w.ps.length<=1000000;lia),?_⟩;refine⟨_,CA,_,CA,_,_,CA,CA,kd.a,_,_,CA,CA,Mg,lbE (by lia),?_⟩;rw[show(ones ({w with ks:=xb}:Wy).ps.length)=ones Ws.length from by rw[<-yT]];have B1:=zt.setAg (l:=kd.ag++[SH (ones Ws.length) (S9 x)]) xE;rw[R4]at B1;exact⟨_,_,_,_,_,_,_,CA,f3.trans ((Zn s5).trans (Yo (RP.mpr ⟨kd,zD,CA⟩))),B1,ht.step yb b0 bb⟩
 .rintro σ H2 ⟨c2,c3,c4,c5,c6,c7,xb,rfl,f2,J6,ht⟩;rw[Rw]at ht;exact q H2 xb f2 J6 ht
inductive dh(C:Ry)(vs:List V)(H:Hp)(Q:VK)(_E:XK):Prop
 |mk (w:Wy) (sz:Ry) (last:Nat) (Z:List Int):vs=[.ref w.x,.int (last:Nat),.ref sz]->WyAt C H w->w.ps.length<=1000000->H sz=A? (.lst (Z.map Yh))->last<Z.length->last<=30->w.ks.length<=3->(∀k∈w.ks,last<k.ag.length)->(∀(r:Ry)(H':Hp)(D:List Cand),Ye H H'->H r=B?->cz H' r D->D.length<=100000->Least (λc=>∃ks:List Nat,ks.length=w.ks.length/\((∀n∈ks,n<=last)/\last∈ks)/\c=cnd (w.ks.map (·.ag)) Z (ones w.ps.length) ks) D->Q (.ref r) H')->dh C vs H Q _E
theorem fM:FnOk P w K mg base CX0 3 T.g_18.f T.g_18.d ["self","last","sizes"] (dh T.e_Ways):=by
 refine T.g_18.F.okA aB λxi A outer s H vs Q E hr h=>?_;obtain⟨w,sz,last,Z,rfl,hw,yT,Ec,Rj,Pa,Hn,Pb,q⟩:=h
 refine⟨_,(af (av 3 aB.nd jh)
  (af (bC SE rfl (cN rfl T.n_7 (aa (aZ bf rfl T.n_4 TF (aa (aT (pv 0) rfl) ae)) ae)) (pgN 4 aB.nd) (af (av 5 aB.nd (rS (qj (fH (pv 0) T.cl_Ways T.g_16.me (ck T) (hr.mono (by first|decide|lia)) T.g_16.b .nil fo ) (aE (aa aj (aa (aE ae) ae))) sU) rfl rfl (by decide) (by decide)))
  (af (bC SE rfl (fJ rfl T.n_2 (aT (pv 0) rfl)) (bc rfl (am (pgN 6 aB.nd) (am (pgN 7 aB.nd) aN))) (af (av 8 aB.nd (l5 (be dY (pv 6) (pv 4) (bj _)) (pv 1) aj))
  (af (av 9 aB.nd (l5 (be oq (pv 6) (pv 4) (bj _)) (pv 1) (aJ cT (pv 1) aj)))
  (ak (av 5 aB.nd (pcF T.g_13 (oW T) hr (aa (pv 5) (aa (pv 7) (aa (pv 2) (aa (qf rfl rfl T.n_5 rfl T.n_7 (aa (pv 8) (aa (pv 9) ae))) ae))))))))))
  (ak (eM (bC SE rfl (iK (pv 5)) (bc rfl (am (pgN 10 aB.nd) (am (bc rfl (am (pgN 11 aB.nd) (am (pgN 12 aB.nd) aN))) aN))) (ak (aY (pcF T.g_12 (fj T) hr (aa (pv 3) (aa (pv 10) (aa (pv 11) (aa (pv 12) ae)))))))))))))
  (ak (aP (pv 3))))),?_⟩
 try dsimp only[xS,xj]
 intro td BW;dsimp only[aw];refine gU BW λH1 s1 e1=>?_;have pw:∀p,p<=3->31 ^ p<=29791:=λp hp=>Ss (Xc (by decide) hp) (by decide);refine⟨_,CA,w.x,T.e_Ways,w.dx,_,_,CA,s1 _ _ hw.ins,T.cl_Ways,T.na_Ways_agreeing,ow,w.al,_,CA,.inl (Yg (s1 _ _ hw.al)),_,CA,by lia,by rw[Rw];lia,?_⟩;rw[Rw,RU]
 refine gB (lo:=0) (n:=w.ks.length) (λf σ H2=>wd λ(c4 c5 c6 c7 c8 c9 zT zU zV:Option V)(Dt:List Cand)=>An5 (σ=[A? (.ref w.x),A? (.int (last:Nat)),A? (.ref sz),A? (.ref td),c4,c5,c6,c7,c8,c9,zT,zU,zV]) (Ye H H2) (cz H2 td Dt) (Dt.length<=f * 29791) (Least (λc=>∃f',f'<f/\SrcP (w.ks.map (·.ag)) Z (ones w.ps.length) (loF last f') (hiF last f') w.ks.length c) Dt))
  ⟨B?,B?,B?,B?,B?,B?,B?,B?,B?,[],rfl,s1,⟨[],e1,.nil⟩,Sn _,Least.nil.congr λc=>⟨λz=>z.elim,λ⟨f',h,_⟩=>Yd h (Vp _)⟩⟩ ?_ ?_
 .rintro f σ H2 hf ⟨c4,c5,c6,c7,c8,c9,zT,zU,zV,Dt,rfl,s2,⟨kt,Ea,Dg⟩,yk,Dk⟩;rw[Int.zero_add];dsimp only[aw];intro rd DK
  have yV:∀{b:Ry},H2 b=B?->H b=none:=λ{b}z=>by
   cases y:H b with
   |none=>rfl
   |some o=>rw[s2 _ _ y]at z;cases z
  have s3:Ye H2 (upd H2 rd (.dK [])):=ao DK _;have e3:(upd H2 rd (.dK [])) rd=A? (.dK []):=ad;have Pd:rd≠td:=λz=>by rw[z,Ea]at DK;cases DK
  generalize(upd H2 rd (.dK []))=H3 at s3 e3 |-;have zl:=hw.same (s2.trans s3);refine⟨_,CA,w.x,w.dx,_,CA,zl.ins,eu,w,CA,zl,yT,?_⟩;refine⟨lnE rfl,λt0 Cp=>⟨lnE rfl,λt1 xT=>?_⟩⟩;have s4:Ye H3 (upd (upd H3 t0 (.tup [])) t1 (.tup [.int 0,.ref t0])):=(ao Cp _).trans (ao xT _);have Mh:(upd (upd H3 t0 (.tup [])) t1 (.tup [.int 0,.ref t0])) t0=A? (.tup []):=(ao xT _) _ _ ad;have Mi:(upd (upd H3 t0 (.tup [])) t1 (.tup [.int 0,.ref t0])) t1=A? (.tup [.int 0,.ref t0]):=ad;generalize(upd (upd H3 t0 (.tup [])) t1 (.tup [.int 0,.ref t0]))=H4 at s4 Mh Mi |-;refine⟨s4 _ _ e3,[(Sj (ones w.ps.length),.ref t1)],CA,(by show 1<=15;decide),?_⟩;have EA:gN [] [((Sj (ones w.ps.length):Key),Zf t1)]=[(Sj (ones w.ps.length),.ref t1)]:=rfl;rw[EA];have Pe:=s4 _ _ e3;have s5:Ye H2 (upd H4 rd (.dK [((Sj (ones w.ps.length):Key),Zf t1)])):=aV (s3.trans s4) DK;have k5:KT H4 (upd H4 rd (.dK [((Sj (ones w.ps.length):Key),Zf t1)])):=λb xs z=>by rw[ac (aC z Pe (λy=>nomatch y))];exact z
  have Dl:cz (upd H4 rd (.dK [((Sj (ones w.ps.length):Key),Zf t1)])) rd [⟨ones w.ps.length,0,[]⟩]:=⟨_,ad,.cons ⟨rfl,t1,t0,rfl,k5 _ _ Mi,k5 _ _ Mh⟩ .nil⟩;generalize(upd H4 rd (.dK [((Sj (ones w.ps.length):Key),Zf t1)]))=H5 at s5 Dl |-;dsimp only[aw];refine⟨_,CA,w.x,T.e_Ways,w.dx,_,_,CA,s5 _ _ (s2 _ _ hw.ins),T.cl_Ways,T.na_Ways_agreeing,ow,w.al,CA,⟨_,Yg (s5 _ _ (s2 _ _ hw.al))⟩,?_⟩
  refine eO (K:=K) (a:=w.al) (xs:=w.ks.map λk=>Zf k.a) (λp σ H6=>Ex9 λ(r:Ry)(c6 c7 c8 c9 zT zU zV:Option V)(D:List Cand)=>An6 (σ=[A? (.ref w.x),A? (.int (last:Nat)),A? (.ref sz),A? (.ref td),A? (.int (f:Nat)),A? (.ref r),c6,c7,c8,c9,zT,zU,zV]) (Ye H2 H6) ((r≠td/\H r=B?)) (cz H6 r D) (D.length<=31 ^ p) (Least (SrcP (w.ks.map (·.ag)) Z (ones w.ps.length) (loF last f) (hiF last f) p) D))
   ⟨rd,_,_,_,_,_,_,_,_,rfl,s5,⟨Pd,yV DK⟩,Dl,RI 1,(Least.one _).congr λc=>SrcP.zero ..⟩ (λp σ H6 _⟨_,_,_,_,_,_,_,_,_,_,s,_,_,_,_⟩=>Yg (s _ _ (s2 _ _ hw.al))) ?_ ?_
  .rintro p x p0 σ H6 hx Aj ⟨r,c6,c7,c8,c9,zT,zU,zV,D,rfl,s6,B2,⟨kr,F2,Ho⟩,F3,hle⟩;rw[RG]at hx;obtain⟨kd,yb,rfl⟩:=RW.mp hx;have zD:=Rx yb;have yv:=(glE yb);refine gU Aj λH7 s7 ep=>?_;refine⟨p0,_,CA,Ze ep,CA,_,_,CA,_,_,CA,CA,?_⟩;dsimp only[aw];refine bw (λi' H'=>An2 (H'=H7) (i'=[A? (.ref w.x),A? (.int (last:Nat)),A? (.ref sz),A? (.ref td),A? (.int (f:Nat)),A? (.ref r),A? (.int (p:Nat)),A? (.ref kd.a),A? (.int (loF last f p:Nat)),c9,zT,zU,zV])) (λkk hk=>?_) ?_
   .refine⟨_,CA,_,CA,CA,_,CA,?_⟩;by_cases z:p=f
    .rw[Yc (show Yh ((p:Nat):Int)=Yh ((f:Nat):Int)by rw[z])];refine cE ⟨_,rfl,hk _ _ ⟨rfl,?_⟩⟩;unfold loF;rw[Yb z];rfl
    .rw[Zb (show¬Yh ((p:Nat):Int)=Yh ((f:Nat):Int)fromλy=>z (by injection y with y;lia))];refine cm (hk _ _ ⟨rfl,?_⟩);unfold loF;rw[Za z];rfl
   rintro i' H' ⟨rfl,rfl⟩;refine bw (λi' Ak=>Ak=H'/\i'=[A? (.ref w.x),A? (.int (last:Nat)),A? (.ref sz),A? (.ref td),A? (.int (f:Nat)),A? (.ref r),A? (.int (p:Nat)),A? (.ref kd.a),A? (.int (loF last f p:Nat)),A? (.int (hiF last f p:Nat)),zT,zU,zV]) (λkk hk=>?_) ?_
   .refine⟨_,CA,_,CA,_,_,CA,CA,_,CA,?_⟩;by_cases z:p<f
    .rw[Yc (show(p:Int)<(f:Int)by lia)];refine cE ⟨_,rfl,hk _ _ ⟨rfl,?_⟩⟩;unfold hiF;rw[Yb z];rfl
    .rw[Zb (show¬(p:Int)<(f:Int)by lia)];refine cm ⟨_,rfl,_,_,rfl,rfl,hk _ _ ⟨rfl,?_⟩⟩;unfold hiF;rw[Za z];rfl
   rintro i' Ak ⟨rfl,rfl⟩;have M6:loF last f p<=last:=by unfold loF;split <;> lia
   have Rk:hiF last f p<=last+1:=by unfold hiF;split <;> lia
   refine⟨_,CA,_,CA,_,CA,_,CA,_,CA,loF last f p,hiF last f p,CA,by lia,by lia,λnl Bx=>?_⟩;have s8:Ye Ak (upd Ak nl (.lst ((Vf (loF last f p) (hiF last f p - loF last f p)).map nW))):=ao Bx _;have Df:(upd Ak nl (.lst ((Vf (loF last f p) (hiF last f p - loF last f p)).map nW))) nl=A? (.lst ((Vf (loF last f p) (hiF last f p - loF last f p)).map nW)):=ad;show gC _ (upd Ak nl (.lst ((Vf (loF last f p) (hiF last f p - loF last f p)).map nW))) _ _;generalize(upd Ak nl (.lst ((Vf (loF last f p) (hiF last f p - loF last f p)).map nW)))=H8 at s8 Df |-;have Hq:Ye H2 H8:=s6.trans (s7.trans s8);have Ed:=s7.trans s8;have xK:p<=2:=by lia
   have Pf:31 ^ p<=961:=Ss (Xc (by decide) xK) (by decide);have zp:(Vf (loF last f p) (hiF last f p - loF last f p)).length<=31:=by rw[List.length_range'];lia
   have hmul:D.length * (Vf (loF last f p) (hiF last f p - loF last f p)).length<=31 ^ p * 31:=Nat.mul_le_mul F3 zp;have hA:(w.ks.map (·.ag)).getD p []=kd.ag:=by rw[Sf,RG,yb];rfl
   refine⟨r,kd.a,sz,nl,kd.ag,Z,_,D,CA,⟨kr,Ed _ _ F2,Yj (λ_ _ h=>h.mono (Zg Ed)) Ho⟩,Hq _ _ (s2 _ _ (hw.ag kd zD)),Hq _ _ (s2 _ _ Ec),Df,λn hn=>?_,by lia,λe he=>?_,λr' H9 D9 s9 nr J8 Rl J'=>?_⟩
   .have:=(List.mem_range'_1.mp hn).2;have:=Pb kd zD;lia
   .refine hid λZZ kZ=>?_;obtain⟨ks,h1,_,h3⟩:=hle.sub e he;refine kZ ?_;rw[h3,vp];lia
   .have Ci:H2 r'=none:=by
     cases y:H2 r' with
     |none=>rfl
     |some o=>rw[Hq _ _ y]at nr;cases nr
    refine⟨r',_,_,_,_,_,_,_,D9,CA,Hq.trans s9,⟨λz=>(by rw[z,Ea]at Ci;cases Ci),yV Ci⟩,J8,by rw[Nat.pow_succ];lia,?_⟩;have:=hle.trans J';rw[<-hA]at this;exact this.congr λc=>SrcP.succ _ _ _ _ _ _ _ (λn=>by rw[List.mem_range'_1];lia) c
  .rintro σ H6 ⟨r,c6,c7,c8,c9,zT,zU,zV,D,rfl,s6,⟨B2,Mj⟩,⟨kvs,F2,Ho⟩,F3,hle⟩;rw[Rw]at F3 hle;have Rm:=Ss F3 (pw _ Hn);have Pg:D.length=kvs.length:=R9 Ho;refine⟨_,CA,r,kvs,CA,F2,λo=>?_⟩;have k0:KT H6 (upd H6 r (.frz o (.dK kvs))):=λb xs z=>by rw[ac (aC z F2 (λy=>nomatch y))];exact z
   have Ph:=s2.trans s6
   refine gz (a:=r) (o:=o) (kvs:=kvs) (λj σ H7=>Ex4 λ(zT zU zV:Option V)(Dm:List Cand)=>An7 (σ=[A? (.ref w.x),A? (.int (last:Nat)),A? (.ref sz),A? (.ref td),A? (.int (f:Nat)),A? (.ref r),c6,c7,c8,c9,zT,zU,zV]) (Ye H H7) (H7 r=A? (.frz o (.dK kvs))) (Sb (RowE H7) D kvs) (cz H7 td Dm) (Dm.length<=f * 29791+j) (Least (λc=>(∃f',f'<f/\SrcP (w.ks.map (·.ag)) Z (ones w.ps.length) (loF last f') (hiF last f') w.ks.length c)\/∃e∈D.take j,c=e) Dm))
    ⟨zT,zU,zV,Dt,rfl,λb u z=>by rw[ac (λy=>by rw[y,Mj]at z;cases z)];exact Ph _ _ z,ad,Yj (λ_ _ h=>h.mono k0) Ho,⟨kt,(ac B2.symm).trans (s6 _ _ Ea),Yj (λ_ _ h=>(h.mono (Zg s6)).mono k0) Dg⟩,yk,Dk.congr λc=>⟨.inl,λz=>z.elim id λ⟨e,he,_⟩=>by rw[Uo]at he;cases he⟩⟩ (λj σ H7 _⟨_,_,_,_,_,_,e,_,_,_,_⟩=>e) ?_ ?_
   .rintro j kv p0 σ H7 xQ Aj ⟨zT,zU,zV,Dm,rfl,s7,Cq,B0,⟨Ka,Hr,Dn⟩,Pj,Bf⟩;refine hid λZZ kZ=>?_;obtain⟨e,he,zG,a,ka,yS,ea,yU⟩:=Zo B0 xQ;have D8:=(glE xQ);obtain⟨k,v⟩:=kv;refine kZ ?_;dsimp only at zG yS;subst zG yS;refine gU Aj λH8 s8 ep=>?_;have ep:H8 p0=A? (.tup [.int e.b,.ref a]):=ep;refine⟨p0,_,CA,Ze ep,CA,_,_,CA,_,_,CA,⟨a,_,CA,Ze (s8 _ _ ea),CA,_,_,CA,_,_,CA,CA,CA,?_⟩⟩;dsimp only[aw];refine⟨_,CA,_,CA,_,CA,_,CA,td,ka,e.b,e.n,e.ks,Dm,CA,⟨Ka,s8 _ _ Hr,Yj (λ_ _ h=>h.mono (Zg s8)) Dn⟩,Bf.nd,s8 _ _ yU,by lia,λH9 D9 s9 J8 hK=>?_⟩;have k9:KT H8 H9:=λb xs z=>s9 _ _ (aC z (s8 _ _ Hr) (λy=>nomatch y)) z;refine⟨_,_,_,D9,CA,λb u z=>s9 _ _ (λy=>by rw[y,BW]at z;cases z) (s8 _ _ (s7 _ _ z)),s9 _ _ B2 (s8 _ _ Cq),Yj (λ_ _ h=>(h.mono (Zg s8)).mono k9) B0,J8,by have:=hK.len;lia,(hK.least _ Bf).congr λc=>?_⟩;rw[take_snoc he];constructor
    .rintro((h|⟨e',xH,h⟩)|h)
     .exact .inl h
     .exact .inr ⟨e',RL _ xH,h⟩
     .exact .inr ⟨e,by simp,h⟩
    .rintro(h|⟨e',xH,h⟩)
     .exact .inl (.inl h)
     .rcases RM.mp xH with xH|xH
      .exact .inl (.inr ⟨e',xH,h⟩)
      .rw[RC.mp xH]at h;exact .inr h
   .rintro σ H7 ⟨zT,zU,zV,Dm,rfl,s7,Cq,B0,⟨Ka,Hr,Dn⟩,Pj,Bf⟩;rw[Tt (by lia)]at Bf;have k8:KT H7 (upd H7 r (.dK kvs)):=λb xs z=>by rw[ac (aC z Cq (λy=>nomatch y))];exact z
    refine⟨upd H7 r (.dK kvs),λb=>?_,_,_,_,_,_,_,_,_,_,Dm,CA,λb u z=>by rw[ac (λy=>by rw[y,Mj]at z;cases z)];exact s7 _ _ z,⟨Ka,(ac B2.symm).trans Hr,Yj (λ_ _ h=>h.mono k8) Dn⟩,?_,(Bf.join hle).congr λc=>?_⟩
    .by_cases hb:b=r
     .rw[hb];exact .inr ⟨o,_,Cq,F2,ad⟩
     .exact .inl (ac hb)
    .rw[V9];lia
    .constructor
     .rintro(⟨f',h1,h2⟩|h)
      .exact⟨f',by lia,h2⟩
      .exact⟨f,by lia,h⟩
     .rintro⟨f',h1,h2⟩;by_cases z:f'=f
      .rw[z]at h2;exact .inr h2
      .exact .inl ⟨f',by lia,h2⟩
 .rintro σ H2 ⟨c4,c5,c6,c7,c8,c9,zT,zU,zV,Dt,rfl,s2,Dg,yk,Dk⟩;refine⟨_,CA,q td H2 Dt s2 BW Dg (by lia) (Dk.congr λc=>?_)⟩;constructor
  .rintro⟨f',Ar,ks,h1,h2,h3⟩;exact⟨ks,h1,(jB h1).mp ⟨f',Ar,h2⟩,h3⟩
  .rintro⟨ks,h1,h2,h3⟩;obtain⟨f',Ar,h4⟩:=(jB h1).mpr h2;exact⟨f',Ar,ks,h1,h4,h3⟩
def vE(C:Ry)(w:Wy)(s p:Int)(Ws:List bI)(nv:V)(H:Hp)(Q:VK):Prop:=(nv=.non/\Q .non H)\/∃(d:Ry)(L:CLs),nv=.ref d/\H d=A? (.dT (dE L))/\d∉w.ks.map (·.d)/\L.length<=100/\(∀e∈L,∃k:Nat,e.1.2=(k:Int)/\k<w.ks.length)/\∀(H':Hp)(a:Ry)(xb:List Kd),FrB (w.pl::w.ks.map (·.d)) H H'->WyAt C H' {w with ps:=w.ps++[(s,p,a)],ks:=xb}->(∀(k:Nat)(kd:Kd),xb[k]?=A? kd->NeedT (Ws++[(s,p,L)]) k kd.es/\kd.es.length<=100 * (Ws.length+1))->xb.map Kd.sh=w.ks.map Kd.sh->Q .non H'
inductive d7(C:Ry)(vs:List V)(H:Hp)(Q:VK)(_E:XK):Prop
 |mk (w:Wy) (s p:Int) (nv:V) (Ws:List bI):vs=[.ref w.x,.int s,.int p,nv]->WyAt C H w->w.ps.length=Ws.length->Ws.length<=5000->(∀(k:Nat)(kd:Kd),w.ks[k]?=A? kd->NeedT Ws k kd.es/\kd.es.length<=100 * Ws.length)->vE C w s p Ws nv H Q->d7 C vs H Q _E
theorem iw:FnOk P w K mg base CX0 1 T.g_15.f T.g_15.d ["self","state","part","needs"] (d7 T.e_Ways):=by
 refine T.g_15.F.okA bH λxi A outer s H vs Q E hr h=>?_;obtain⟨w,st,pt,nv,Ws,rfl,hw,yT,Ff,hN,Pk⟩:=h
 refine⟨_,(ak (bT (be oj (pv 3) iI (bj _)) (af (eM (bC SE rfl (eN (pv 3)) (bc rfl (am (bc rfl (am (pgN 4 bH.nd) (am (pgN 5 bH.nd) aN))) (am (pgN 6 bH.nd) aN))) (af (av 7 bH.nd (rn (cB hr) (aH cu (aT (pv 0) rfl) (pv 5) (λ_ _=>rfl)) (aE (aa (pv 4) (aa (pv 6) ae))) aj ⟨CA,CA,CA,CA⟩))
  (ak (iG (cB hr) (aH cu (aT (pv 0) rfl) (pv 5) (λ_ _=>rfl)) (aE (aa (pv 4) (aa (pv 6) ae))) (aJ vK (pv 7) (aJ rA aj (aZ bf rfl T.n_4 TF (aa (aT (pv 0) rfl) ae)))) rfl)))))
  (ak (aY (df Sm S6 S5 bL (aT (pv 0) rfl) (aa (aE (aa (pv 1) (aa (pv 2) ae))) ae))))) bA)),?_⟩
 try dsimp only[xS,xj]
 rcases Pk with⟨rfl,q⟩|⟨d,L,rfl,ed,zF,Hf,Pl,q⟩
 .exact⟨_,CA,CA,_,CA,cm q⟩
 refine⟨_,CA,CA,_,CA,cE ?_⟩;refine⟨_,CA,d,_,CA,ed,λo=>?_⟩;have Pm:∀k∈w.ks,k.d≠d:=λk hk z=>zF (RP.mpr ⟨k,hk,z⟩);have k0:KT H (upd H d (.frz o (.dT (dE L)))):=λb xs z=>by rw[ac (aC z ed (λy=>nomatch y))];exact z
 have Hs:WyAt T.e_Ways (upd H d (.frz o (.dT (dE L)))) w:=hw.keep k0 λb hb u e=>by
  refine(ac ?_).trans e;rintro rfl;rw[ed]at e;unfold Wy.own at hb;simp only[RR,RM]at hb;rcases hb with rfl|rfl|rfl|rfl|hb|hb
  .rw[hw.ins]at ed;cases ed
  .rw[hw.pl]at ed;cases ed
  .rw[hw.nl]at ed;cases ed
  .rw[hw.al]at ed;cases ed
  .exact zF hb
  .obtain⟨kd,hm,e'⟩:=RP.mp hb;have:=hw.ag kd hm;rw[e',ed]at this;cases this
 refine ji (a:=d) (o:=o) (es:=L) (λj σ H3=>Ex5 λ(c4 c5 c6 c7:Option V)(xb:List Kd)=>An6 (σ=[A? (.ref w.x),A? (.int st),A? (.int pt),A? (.ref d),c4,c5,c6,c7]) (FrB (d::w.ks.map (·.d)) H H3) (H3 d=A? (.frz o (.dT (dE L)))) (WyAt T.e_Ways H3 {w with ks:=xb}) ((∀(k:Nat)(kd:Kd),xb[k]?=A? kd->NeedT (Ws++[(st,pt,L.take j)]) k kd.es/\kd.es.length<=100 * Ws.length+j)) (xb.map Kd.sh=w.ks.map Kd.sh))
  ⟨B?,B?,B?,B?,w.ks,rfl,Yo (RX ..),ad,Hs,λk kd hk=>⟨by rw[Uo];exact(hN k kd hk).1.more st pt,(hN k kd hk).2⟩,rfl⟩ (λj σ H3 _⟨_,_,_,_,_,_,_,e,_,_,_⟩=>e) ?_ ?_
 .rintro j e p2 b σ H3 he xK eb ⟨c4,c5,c6,c7,xb,rfl,f3,yz,zl,F4,BE⟩;refine gU xK λH4 s4 Be=>?_;refine hid λZZ kZ=>?_;obtain⟨k,hk,Av⟩:=Pl e (Rx he)
  have hlen:xb.length=w.ks.length:=by
   have:=Zd S4 BE;rw[Rw,Rw]at this;exact this
  obtain⟨kd,yb⟩:∃kd,xb[k]?=A? kd:=⟨_,RA (by lia)⟩;have zD:=Rx yb;obtain⟨Hm,DN⟩:=F4 k kd yb;refine kZ ?_;have Rn:=(glE he)
  have Pn:xb.map (·.d)=w.ks.map (·.d):=by
   have:=Zd (Xe (·.1)) BE;rw[Sr,Sr]at this;exact this
  have F5:kd.d∈w.ks.map (·.d):=by rw[<-Pn];exact RP.mpr ⟨kd,zD,rfl⟩
  have JY:kd.d≠d:=λz=>zF (z ▸ F5);have Al:=zl.same s4;refine⟨p2,_,CA,Ze Be,CA,.ref b,_,CA,⟨b,_,CA,Ze (s4 _ _ eb),CA,_,_,CA,_,_,CA,CA,_,_,CA,CA,?_⟩⟩;dsimp only[aw];refine⟨_,CA,w.x,T.e_Ways,w.dx,_,_,CA,Al.ins,T.cl_Ways,T.na_Ways_needing,qY,_,CA,w.nl,_,e.1.2,.ref kd.d,CA,CA,Yg Al.nl,?_,kd.d,CA,.inr ⟨_,.inl (Al.nd kd zD)⟩,_,CA,_,CA,lnE rfl,λc1 Po=>?_⟩
  .rw[hk];exact bz (j:=k) (by rw[RG];show(xb[k]?).map _=_;rw[yb];rfl)
  refine gU Po λH5 s5 Kb=>?_;have Kb:H5 c1=A? (.tup ((ky (e.1.1,e.2)).map kV)):=Kb;have zt:=Al.same s5;refine⟨_,DGet.t (zt.nd kd zD) Kb,?_⟩;rw[iB];have hg:((cF kd.es (e.1.1,e.2)).map Yh).getD (.int 0)=.int ((cF kd.es (e.1.1,e.2)).getD 0):=by cases cF kd.es (e.1.1,e.2) <;> rfl
  rw[hg];dsimp only[aw];refine⟨_,CA,_,CA,w.x,T.e_Ways,w.dx,_,_,CA,zt.ins,T.cl_Ways,T.na_Ways_pairs,oB,w.pl,_,CA,.inl (Yg zt.pl),_,_,CA,CA,⟨by lia,by rw[Rw];show((w.ps.length:Nat):Int)<=_;lia,by decide⟩,_,_,CA,CA,?_⟩;refine⟨_,CA,w.x,T.e_Ways,w.dx,_,_,CA,zt.ins,T.cl_Ways,T.na_Ways_needing,qY,_,CA,w.nl,_,e.1.2,.ref kd.d,CA,CA,Yg zt.nl,?_,_,CA,_,CA,lnE rfl,λc2 yC=>?_⟩
  .rw[hk];exact bz (j:=k) (by rw[RG];show(xb[k]?).map _=_;rw[yb];rfl)
  refine gU yC λH6 s6 Kc=>?_;have Kc:H6 c2=A? (.tup ((ky (e.1.1,e.2)).map kV)):=Kc;have Ml:=zt.same s6;refine⟨kd.d,_,CA,DPut.t (Ml.nd kd zD) Kc (aS (by unfold dE;rw[Rw];lia)),?_⟩;rw[n5,Rw,show(({w with ks:=xb}:Wy).ps.length)=Ws.length from yT];have B1:=Ml.setEs (es:=dC kd.es (e.1.1,e.2) (Ua ((cF kd.es (e.1.1,e.2)).getD 0) (1 * 2 ^ ((Ws.length:Nat):Int).toNat))) yb;have Mm:=s4.trans (s5.trans s6);refine⟨_,_,_,_,_,CA,f3.trans ((Zn Mm).trans (Yo (RT _ F5))),(ac JY.symm).trans (Mm _ _ yz),B1,λk' yo xE=>?_,?_⟩
  .rw[TY,he];show NeedT (Ws++[(st,pt,L.take j++[e])]) k' yo.es/\_;by_cases z:k=k'
   .subst z;rw[SS (show k<xb.length by lia)]at xE;cases xE;have h1:=Hm.put (c:=e.1.1) (w:=e.2);rw[<-hk]at h1;have h2:=lI kd.es (e.1.1,e.2) (Ua ((cF kd.es (e.1.1,e.2)).getD 0) (1 * 2 ^ ((Ws.length:Nat):Int).toNat));exact⟨h1,Ss h2 (by lia)⟩
   .rw[SU z]at xE;obtain⟨h1,h2⟩:=F4 k' yo xE;exact⟨h1.other (by rw[hk];lia),by lia⟩
  .rw[<-BE];exact map_set _ yb rfl
 .rintro σ H3 ⟨c4,c5,c6,c7,xb,rfl,f3,yz,zl,F4,BE⟩;rw[T3]at F4;have k4:KT H3 (upd H3 d (.dT (dE L))):=λb xs z=>by rw[ac (aC z yz (λy=>nomatch y))];exact z
  have Al:=zl.keep (H':=upd H3 d (.dT (dE L))) k4 λb hb u e=>by
   refine(ac ?_).trans e;rintro rfl;rw[yz]at e;unfold Wy.own at hb;simp only[RR,RM]at hb;rcases hb with rfl|rfl|rfl|rfl|hb|hb
   .have:=zl.ins;rw[yz]at this;cases this
   .have:=zl.pl;rw[yz]at this;cases this
   .have:=zl.nl;rw[yz]at this;cases this
   .have:=zl.al;rw[yz]at this;cases this
   .obtain⟨kd,hm,e'⟩:=RP.mp hb;have:=zl.nd kd hm;rw[e',yz]at this;cases this
   .obtain⟨kd,hm,e'⟩:=RP.mp hb;have:=zl.ag kd hm;rw[e',yz]at this;cases this
  have f4:FrB (w.pl::w.ks.map (·.d)) H (upd H3 d (.dT (dE L))):=λb u hb z=>by
   by_cases Ht:b=d
   .rw[Ht,ed]at z;rw[Ht,ad];exact z
   .rw[ac Ht];exact f3 b u (λy=>(RR.mp y).elim Ht λy=>hb (RT _ y)) z
  refine⟨upd H3 d (.dT (dE L)),λb=>?_,?_⟩
  .by_cases hb:b=d
   .rw[hb];exact .inr ⟨o,_,yz,ed,ad⟩
   .exact .inl (ac hb)
  generalize(upd H3 d (.dT (dE L)))=H4 at Al f4 |-;refine⟨_,CA,w.x,T.e_Ways,w.dx,_,_,CA,Al.ins,T.cl_Ways,T.na_Ways_pairs,oB,.inl ⟨CA,_,Yg Al.pl⟩,_,CA,_,CA,lnE rfl,λa ha=>?_⟩;refine gU ha λH5 s5 ea=>?_;have zt:=Al.same s5;refine⟨w.pl,_,_,CA,CA,zt.pl,aS (by rw[Rw];show w.ps.length<=1000000;lia),?_⟩
  exact q _ a xb (f4.trans ((Zn s5).trans (Yo (RX ..)))) (zt.addP ea) (λk kd hk=>by
   obtain⟨h1,h2⟩:=F4 k kd hk;exact⟨h1,by lia⟩) BE
structure WIn(H:Hp)(rt:Ry)(cs:List Ry)(To:List (R1×List Nat))(Ls:List Th)(ar:R1->Nat)(m S:Nat)(pats:List Th):Prop where
 rt:H rt=A? (.tup (cs.map Zf))
 to:Sb (EnA H) To cs
 cl:Cl To Ls
 aL:∀t∈Ls,Ars ar t
 ap:∀p∈pats,Ars ar p/\p.size<=100/\∀s k:Int,Yi s k∈p.walk->(∃k':Nat,k=(k':Int)/\k'<m)/\∃s':Nat,s=(s':Int)/\s'<S
 hS:pats.length=S
 big:S * Ls.length<=4000
theorem WIn.mono{rt:Ry}{cs:List Ry}{To:List (R1×List Nat)}{S:Nat}(h:WIn H rt cs To Ls ar m S pats)(k:KT H H'):WIn H' rt cs To Ls ar m S pats :=
 ⟨k _ _ h.rt,Yj (λ_ _ z=>k _ _ z) h.to,h.cl,h.aL,h.ap,h.hS,h.big⟩
structure WOk(Ls pats:List Th)(w:Wy)(Ws:List bI):Prop where
 sp:WSp Ls pats (λ_ _=>True) Ws
 ps:w.ps.map (λq=>(q.1,q.2.1))=Ws.map (λq=>(q.1,q.2.1))
 nt:∀(k:Nat)(kd:Kd),w.ks[k]?=A? kd->NeedT Ws k kd.es/\kd.es.length<=100 * Ws.length
 len:Ws.length<=4000
structure WI(C:Ry)(H:Hp)(w0:Wy)(Ls pats:List Th)(H7:Hp)(w:Wy)(Ws:List bI)(d:Nat->Nat->Prop)(n:Nat):Prop where
 sb:SameB w0.x H H7
 wa:WyAt C H7 w
 eq:w.x=w0.x/\w.nm=w0.nm/\w.pl=w0.pl/\w.nl=w0.nl/\w.al=w0.al
 sh:w.ks.map Kd.sh=w0.ks.map Kd.sh
 sp:WSp Ls pats d Ws
 ps:w.ps.map (λq=>(q.1,q.2.1))=Ws.map (λq=>(q.1,q.2.1))
 nt:∀(k:Nat)(kd:Kd),w.ks[k]?=A? kd->NeedT Ws k kd.es/\kd.es.length<=100 * Ws.length
 len:Ws.length<=n
theorem WI.same{w0:Wy}{H7:Hp}{w:Wy}{d d':Nat->Nat->Prop}{n':Nat}(h:WI C H w0 Ls pats H7 w Ws d n)(s:Ye H7 H8)(e:∀st pt,(∃p,pats[st]?=A? p)->(∃u,Ls[pt]?=A? u)->d' st pt->d st pt)(hn:n<=n'):WI C H w0 Ls pats H8 w Ws d' n' :=
 ⟨h.sb.trans (Zk s),h.wa.same s,h.eq,h.sh,h.sp.congr e,h.ps,h.nt,Ss h.len hn⟩
theorem WI.psl{w0:Wy}{H7:Hp}{w:Wy}{d:Nat->Nat->Prop}(h:WI C H w0 Ls pats H7 w Ws d n):w.ps.length=Ws.length:=by
 have:=Zd S4 h.ps;rw[Rw,Rw]at this;exact this
inductive fK(C:Ry)(vs:List V)(H:Hp)(Q:VK)(_E:XK):Prop
 |mk (x dx ka pa rt:Ry) (nm:R1) (m S:Nat) (pats:List Th) (Dq cs:List Ry) (To:List (R1×List Nat)) (Ls:List Th) (ar:R1->Nat):vs=[.ref x,.ref ka,.ref pa,.ref rt]->H x=A? (.ins C dx [])->H ka=A? (.tup [.str nm,.int (m:Nat)])->m<=3->H pa=A? (.lst (Dq.map Zf))->Ats H pats Dq->WIn H rt cs To Ls ar m S pats->(∀(w:Wy)(H':Hp)(Ws:List bI),w.x=x->w.nm=nm->SameB x H H'->WyAt C H' w->w.ks.length=m->(∀k∈w.ks,k.ag=[])->WOk Ls pats w Ws->(∀b∈w.pl::w.nl::w.al::(w.ks.map (·.d)++w.ks.map (·.a)),H b=B?)->Q .non H')->fK C vs H Q _E
theorem kK:FnOk P w K mg base CX0 3 T.g_14.f T.g_14.d ["self","kind","patterns","row"] (fK T.e_Ways):=by
 refine T.g_14.F.okA cJ λxi A outer s H vs Q E hr h=>?_;obtain⟨x,dx,ka,pa,rt,nm,m,S,pats,Dq,cs,To,Ls,ar,rfl,ex,yU,hm,Au,yT,xY,q⟩:=h
 refine⟨_,(af (eK (pv 0) (aH aG (pv 1) aj (λ_ _=>rfl)) rfl)
  (af (eK (pv 0) (bY ae) rfl)
  (af (eK (pv 0) (cD (N:=["kid"]) (js:=[B?]) (g:=(aw 0)) (tt:=bN) (te:=rB) rfl (dz rfl (by decide +kernel) (by decide +kernel) rfl rfl rfl) (cN rfl T.n_7 (aa (aH aG (pv 1) aj (λ_ _=>rfl)) ae)) (λ_ _ _ _ _ _=>(pgN 0 vM)) (aU rfl) (λ_ _ _ _ _ _=>cb) (λ_ _ _ _ _ _=>eE)) rfl)
  (af (eK (pv 0) (cD (N:=["kid"]) (js:=[B?]) (g:=(aw 0)) (tt:=bN) (te:=(uJ iV)) rfl (dz rfl (by decide +kernel) (by decide +kernel) rfl rfl rfl) (cN rfl T.n_7 (aa (aH aG (pv 1) aj (λ_ _=>rfl)) ae)) (λ_ _ _ _ _ _=>(pgN 0 vM)) (aU rfl) (λ_ _ _ _ _ _=>cb) (λ_ _ _ _ _ _=>(bY ae))) rfl)
  (ak (bC SE rfl (fJ rfl T.n_2 (pv 2)) (bc rfl (am (pgN 4 cJ.nd) (am (pgN 5 cJ.nd) aN))) (ak (bC SE rfl (cN rfl T.n_7 (aa (aZ bf rfl T.n_4 TF (aa (pv 3) ae)) ae)) (pgN 6 cJ.nd) (ak (aY (dQ (pv 0) T.cl_Ways T.g_15.me (iw T) (hr.mono (by first|decide|lia)) T.g_15.b .nil fo (aa (pv 4) (aa (pv 6) (aa (pcF T.g_11 (ig T) hr (aa (pv 5) (aa (pv 3) (aa (pv 6) ae)))) ae)))))))))))))),?_⟩
 try dsimp only[xS,xj]
 refine⟨_,CA,ka,_,0,.str nm,CA,CA,Ze yU,at0,_,CA,x,T.e_Ways,dx,_,CA,ex,T.cl_Ways,T.na_Ways_kind_name,(by show 0<1000;decide),?_⟩;have b1:SameB x H (upd H x (.ins T.e_Ways dx (aF (RF "kind_name") (.str nm) []))):=Yl;have x1:(upd H x (.ins T.e_Ways dx (aF (RF "kind_name") (.str nm) []))) x=A? (.ins T.e_Ways dx (aF (RF "kind_name") (.str nm) [])):=ad
 have fr:∀{H1:Hp}{o:HO},SameB x H H1->H1 x=A? o->∀b,H1 b=B?->H b=B?/\b≠x:=λ{H1 o}s e b z=>by
  have hb:b≠x:=λy=>by rw[y,e]at z;cases z
  refine⟨?_,hb⟩;cases y:H b with
  |none=>rfl
  |some u=>rw[s b u hb y]at z;cases z
 generalize(upd H x (.ins T.e_Ways dx (aF (RF "kind_name") (.str nm) [])))=H1 at b1 x1 |-;refine⟨lnE rfl,λpl yv=>?_⟩;obtain⟨Mn,Hu⟩:=fr b1 x1 pl yv;refine⟨_,CA,x,T.e_Ways,dx,_,CA,(ac Hu.symm).trans x1,T.cl_Ways,T.na_Ways_pairs,(by show 1<1000;decide),?_⟩;have b2:SameB x H (upd (upd H1 pl (.lst [])) x (.ins T.e_Ways dx (aF (RF "pairs") (.ref pl) (aF (RF "kind_name") (.str nm) [])))):=b1.trans ((Zk (ao yv _)).trans Yl);have x2:(upd (upd H1 pl (.lst [])) x (.ins T.e_Ways dx (aF (RF "pairs") (.ref pl) (aF (RF "kind_name") (.str nm) [])))) x=A? (.ins T.e_Ways dx (aF (RF "pairs") (.ref pl) (aF (RF "kind_name") (.str nm) []))):=ad;have p2:(upd (upd H1 pl (.lst [])) x (.ins T.e_Ways dx (aF (RF "pairs") (.ref pl) (aF (RF "kind_name") (.str nm) [])))) pl=A? (.lst []):=(ac Hu).trans ad;generalize(upd (upd H1 pl (.lst [])) x (.ins T.e_Ways dx (aF (RF "pairs") (.ref pl) (aF (RF "kind_name") (.str nm) []))))=H2 at b2 x2 p2 |-;have kx:ka≠x:=aC yU ex (λz=>nomatch z);refine⟨_,CA,ka,_,1,.int (m:Nat),CA,CA,Ze (b2 _ _ kx yU),at1,(m:Nat),CA,by lia,by lia,?_⟩;rw[RU];refine lz (n:=m) (o:=.dT []) (by lia) (λi H3 R _ hR=>λd hd=>hR d hd) λnl H3 ds Bx s3 e3 dl Pp yr=>?_;obtain⟨Pq,Mo⟩:=fr b2 x2 nl Bx;refine⟨_,CA,x,T.e_Ways,dx,_,CA,s3 _ _ x2,T.cl_Ways,T.na_Ways_needing,(by show 2<1000;decide),?_⟩;have b3:=b2.trans (Zk s3)
 have Hv:∀d∈ds,d≠x/\H d=none:=λd hd=>by
  obtain⟨h1,h2,h3⟩:=yr d hd;obtain⟨h4,h5⟩:=fr b2 x2 d h2;exact⟨h5,h4⟩
 have b4:SameB x H (upd H3 x (.ins T.e_Ways dx (aF (RF "needing") (.ref nl) (aF (RF "pairs") (.ref pl) (aF (RF "kind_name") (.str nm) []))))):=b3.trans Yl;have x4:(upd H3 x (.ins T.e_Ways dx (aF (RF "needing") (.ref nl) (aF (RF "pairs") (.ref pl) (aF (RF "kind_name") (.str nm) []))))) x=A? (.ins T.e_Ways dx (aF (RF "needing") (.ref nl) (aF (RF "pairs") (.ref pl) (aF (RF "kind_name") (.str nm) [])))):=ad;have p4:(upd H3 x (.ins T.e_Ways dx (aF (RF "needing") (.ref nl) (aF (RF "pairs") (.ref pl) (aF (RF "kind_name") (.str nm) []))))) pl=A? (.lst []):=(ac Hu).trans (s3 _ _ p2);have n4:(upd H3 x (.ins T.e_Ways dx (aF (RF "needing") (.ref nl) (aF (RF "pairs") (.ref pl) (aF (RF "kind_name") (.str nm) []))))) nl=A? (.lst (ds.map Zf)):=(ac Mo).trans e3;have d4:∀d∈ds,(upd H3 x (.ins T.e_Ways dx (aF (RF "needing") (.ref nl) (aF (RF "pairs") (.ref pl) (aF (RF "kind_name") (.str nm) []))))) d=A? (.dT (dE [])):=λd hd=>(ac (Hv d hd).1).trans (yr d hd).1;generalize(upd H3 x (.ins T.e_Ways dx (aF (RF "needing") (.ref nl) (aF (RF "pairs") (.ref pl) (aF (RF "kind_name") (.str nm) [])))))=H4 at b4 x4 p4 n4 d4 |-;refine⟨_,CA,ka,_,1,.int (m:Nat),CA,CA,Ze (b4 _ _ kx yU),at1,(m:Nat),CA,by lia,by lia,?_⟩;rw[RU];refine lz (n:=m) (o:=.lst []) (by lia) (λi H5 R _ hR=>⟨lnE rfl,λd hd=>hR d hd⟩) λal H5 as yt s5 e5 Pr and' has=>?_;obtain⟨Pt,Pu⟩:=fr b4 x4 al yt;refine⟨_,CA,x,T.e_Ways,dx,_,CA,s5 _ _ x4,T.cl_Ways,T.na_Ways_agreeing,(by show 3<1000;decide),?_⟩
 have Mp:∀a∈as,a≠x/\H a=none:=λa ha=>by
  obtain⟨h1,h2,h3⟩:=has a ha;obtain⟨h4,h5⟩:=fr b4 x4 a h2;exact⟨h5,h4⟩
 rw[sF nm pl nl al];have Pw:pl≠nl:=λz=>by rw[z,Bx]at p2;cases p2
 have Px:pl≠al:=λz=>by rw[z,yt]at p4;cases p4
 have Py:nl≠al:=λz=>by rw[z,yt]at n4;cases n4
 obtain⟨md,ma,me⟩:=rg (ds:=ds) (as:=as) (dl.trans Pr.symm);have yb:∀k∈fD ds as,k.d∈ds/\k.a∈as:=λk hk=>⟨by rw[<-md];exact RP.mpr ⟨k,hk,rfl⟩,by rw[<-ma];exact RP.mpr ⟨k,hk,rfl⟩⟩
 have Av:(fD ds as).length=m:=by
  have:=Zd S4 md;rw[Rw]at this;exact this.trans dl
 have b6:SameB x H (upd H5 x (.ins T.e_Ways dx (wyF nm pl nl al))):=b4.trans ((Zk s5).trans Yl)
 have Hs:WyAt T.e_Ways (upd H5 x (.ins T.e_Ways dx (wyF nm pl nl al))) ⟨x,dx,nm,pl,nl,al,[],fD ds as⟩:=by
  refine⟨ad,(ac Hu).trans (s5 _ _ p4),(by intro q hq;cases hq),?_,?_,λk hk=>?_,λk hk=>?_,Pw,Px,Py,λk hk=>?_,?_,?_⟩
  .have:=Zd (Xe Zf) md;rw[Sr]at this;exact((ac Mo).trans (s5 _ _ n4)).trans (Zd (λz=>A? (HO.lst z)) this.symm)
  .have:=Zd (Xe Zf) ma;rw[Sr]at this;exact((ac Pu).trans e5).trans (Zd (λz=>A? (HO.lst z)) this.symm)
  .have h1:=(yb k hk).1;rw[(me k hk).1];exact(ac (Hv _ h1).1).trans (s5 _ _ (d4 _ h1))
  .have h1:=(yb k hk).2;rw[(me k hk).2];exact(ac (Mp _ h1).1).trans (has _ h1).1
  .obtain⟨_,h2,h3⟩:=has _ (yb k hk).2;exact⟨λz=>(by rw[z,p4]at h2;cases h2),λz=>(by rw[z,n4]at h2;cases h2),h3⟩
  .exact(Zd Wn ma).mpr and'
  .exact(Zd Wn md).mpr Pp
 have Dr:∀b∈pl::ds,H b=none:=λb hb=>by
  rcases RR.mp hb with rfl|hb
  .exact Mn
  .exact(Hv b hb).2
 have Ee:WI T.e_Ways H ⟨x,dx,nm,pl,nl,al,[],fD ds as⟩ Ls pats (upd H5 x (.ins T.e_Ways dx (wyF nm pl nl al))) ⟨x,dx,nm,pl,nl,al,[],fD ds as⟩ [] (λ_ _=>False) 0 :=
  ⟨b6,Hs,⟨rfl,rfl,rfl,rfl,rfl⟩,rfl,WSp.nil _ _,rfl,λk kd hk=>by
   have:=(me kd (Rx hk)).1;rw[this];exact⟨NeedT.nil k,Sn _⟩,Sn _⟩
 generalize(upd H5 x (.ins T.e_Ways dx (wyF nm pl nl al)))=H6 at Ee |-
 have Mq:∀w:Wy,w.ks.map Kd.sh=(fD ds as).map Kd.sh->w.ks.map (·.d)=ds/\w.ks.map (·.a)=as/\(∀k∈w.ks,k.ag=[])/\w.ks.length=m:=λw h=>by
  have h1:=Zd (Xe (·.1)) h;have h2:=Zd (Xe (·.2.1)) h;have h3:=Zd S4 h;rw[Sr,Sr]at h1 h2;rw[Rw,Rw]at h3;refine⟨(show w.ks.map (·.d)=(fD ds as).map (·.d)from h1).trans md,(show w.ks.map (·.a)=(fD ds as).map (·.a)from h2).trans ma,λk hk=>?_,h3.trans Av⟩;obtain⟨k',xE,e⟩:=RP.mp (h ▸ RP.mpr ⟨k,hk,rfl⟩);have e2:k'.ag=k.ag:=Zd (λz:Ry×Ry×List Int=>z.2.2) e;rw[<-e2];exact(me k' xE).2
 clear Hs b6 b4 x4 p4 n4 d4 b3 s3 s5 yr has;have Mr:pa≠x:=aC Au ex (λz=>nomatch z);refine⟨_,CA,pa,CA,⟨_,Yg (Ee.sb _ _ Mr Au)⟩,?_⟩
 refine eO (K:=K) (a:=pa) (xs:=Dq.map Zf) (λi σ H7=>Ex5 λ(c4 c5 c6:Option V)(w:Wy)(Ws:List bI)=>An2 (σ=[A? (.ref x),A? (.ref ka),A? (.ref pa),A? (.ref rt),c4,c5,c6]) (WI T.e_Ways H ⟨x,dx,nm,pl,nl,al,[],fD ds as⟩ Ls pats H7 w Ws (λs _=>s<i) (i * Ls.length)))
  ⟨B?,B?,B?,_,[],rfl,Ee.same (λ_ _ e=>e) (λs _ _ _ h=>by lia) (Sn _)⟩ (λi σ H7 _⟨_,_,_,_,_,_,h⟩=>Yg (h.sb _ _ Mr Au)) ?_ ?_
 .rintro i x' p σ H7 hx hp ⟨c4,c5,c6,w,Ws,rfl,hI⟩;rw[RG]at hx;refine hid λZZ kZ=>?_;obtain⟨pi,Ke,rfl⟩:=RW.mp hx;obtain⟨pat,zg,D3⟩:=yT.get Ke;have G3:=Rx zg;have yD:=(glE zg);obtain⟨Pz,hsz,Ds⟩:=xY.ap pat G3;refine kZ ?_;refine gU hp λH8 s8 ep=>?_;have Kf:∀{H9:Hp},SameB x H H9->KT H H9:=λ{H9}s b xs e=>s b _ (aC e ex (λz=>nomatch z)) e
  have B3:cs.length=Ls.length:=by
   have h1:To.length=cs.length:=R9 xY.to;rw[<-h1,xY.cl.len]
  refine⟨p,_,CA,Ze ep,CA,_,_,CA,_,_,CA,CA,?_⟩;dsimp only[aw];have Kg:SameB x H H8:=hI.sb.trans (Zk s8)
  have Ro:Ls.length<=4000:=by
   have h1:=xY.hS;have h2:=xY.big;have:1 * Ls.length<=S * Ls.length:=VX _ (by lia);lia
  refine⟨_,CA,rt,_,CA,.inr (Ze (Kf Kg _ _ xY.rt)),_,CA,by lia,by rw[Rw];lia,?_⟩;rw[Rw,RU,B3]
  refine gB (lo:=0) (n:=Ls.length) (λj σ H9=>Ex3 λ(c6:Option V)(w:Wy)(Ws:List bI)=>An2 (σ=[A? (.ref x),A? (.ref ka),A? (.ref pa),A? (.ref rt),A? (.int (i:Nat)),A? (.ref pi),c6]) (WI T.e_Ways H ⟨x,dx,nm,pl,nl,al,[],fD ds as⟩ Ls pats H9 w Ws (λs pt=>s<i\/(s=i/\pt<j)) (i * Ls.length+j)))
   ⟨c6,w,Ws,rfl,hI.same s8 (λs pt _ _ h=>by lia) (RI _)⟩ ?_ ?_
  .rintro j σ H9 hj ⟨c6,w,Ws,rfl,yc⟩;rw[Int.zero_add];refine hid λZZ kZ=>?_;obtain⟨u,hu⟩:∃u,Ls[j]?=A? u:=⟨_,RA hj⟩;have F6:=xY.mono (Kf yc.sb);have PB:=D3.mono (Kf yc.sb);obtain⟨g1,g2,g3,g4,g5⟩:=yc.eq;obtain⟨h1,h2,h3,h4⟩:=Mq w yc.sh;refine kZ ?_
   have zw:Ws.length<=5000:=by
    have q1:=yc.len;have q2:(i+1) * Ls.length<=S * Ls.length:=VX _ (by have:=xY.hS;lia);have q3:=xY.big;rw[V9]at q2;lia
   have Kh:∀{DL:Hp},Ye H9 DL->WyAt T.e_Ways DL w:=λs=>yc.wa.same s;refine⟨_,CA,x,w.dx,_,CA,by rw[<-(show w.x=x from g1)];exact yc.wa.ins,eu,_,CA,_,CA,_,CA,_,CA,_,CA,pi,rt,j,pat,u,cs,To,Ls,ar,CA,PB,F6.rt,F6.to,xY.cl,hu,Pz,xY.aL,by lia,λDL B7 xu=>?_,λd L DL B7 zF ed hL=>?_⟩
   .refine⟨w,_,_,_,Ws,by rw[g1];rfl,Kh B7,yc.psl,zw,yc.nt,.inl ⟨CA,?_⟩⟩;refine⟨_,w,Ws,CA,⟨yc.sb.trans (Zk B7),Kh B7,yc.eq,yc.sh,(yc.sp.none zg hu xu).congr λs pt _ _ h=>?_,yc.ps,yc.nt,by have:=yc.len;lia⟩⟩;lia
   .have BF:d∉w.ks.map (·.d):=λz=>by
     obtain⟨kd,hm,e⟩:=RP.mp z;have:=yc.wa.nd kd hm;rw[e,zF]at this;cases this
    refine⟨w,_,_,_,Ws,by rw[g1];rfl,Kh B7,yc.psl,zw,yc.nt,.inr ⟨d,L,CA,ed,BF,by have:=jW hL;lia,λe he=>?_,λNg a xb PD Ki PF BE=>?_⟩⟩
    .obtain⟨k',e1,e2⟩:=(Ds _ _ (hL.ok e he).2).1;exact⟨k',e1,by lia⟩
    .refine⟨_,_,Ws++[(_,_,L)],CA,⟨?_,Ki,⟨g1,g2,g3,g4,g5⟩,BE.trans yc.sh,(yc.sp.add zg hu hL).congr λs pt _ _ h=>?_,?_,?_,?_⟩⟩
     .intro b o hb e;refine PD b o (λz=>?_) (B7 _ _ (yc.sb b o hb e));rw[h1,g3]at z;rw[Dr b z]at e;cases e
     .lia
     .rw[R4,R4,yc.ps];rfl
     .intro k kd hk;rw[RK,R8];exact PF k kd hk
     .rw[RK,R8];have:=yc.len;lia
  .rintro σ H9 ⟨c6,w,Ws,rfl,yc⟩;refine⟨_,_,_,w,Ws,CA,yc.same (λ_ _ e=>e) (λs pt _ G4 h=>?_) (by rw[V9];exact RI _)⟩;obtain⟨u,hu⟩:=G4;have:=(glE hu);lia
 .rintro σ H7 ⟨c4,c5,c6,w,Ws,rfl,hI⟩;refine hid λZZ kZ=>?_;obtain⟨h1,h2,h3,h4⟩:=Mq w hI.sh;obtain⟨g1,g2,g3,g4,g5⟩:=hI.eq;refine kZ ?_;have yv:pats.length=Dq.length:=yT.length.symm;refine q w H7 Ws g1 g2 hI.sb hI.wa h4 h3 ⟨hI.sp.congr λs pt hs _ _=>?_,hI.ps,hI.nt,?_⟩ λb hb=>?_
  .obtain⟨p,hp⟩:=hs;have:=(glE hp);rw[Rw];lia
  .have:=hI.len;rw[Rw,<-yv,xY.hS]at this;exact Ss this xY.big
  .rw[h1,h2,g3,g4,g5]at hb;simp only[RR,RM]at hb;rcases hb with rfl|rfl|rfl|hb|hb
   .exact Mn
   .exact Pq
   .exact Pt
   .exact(Hv b hb).2
   .exact(Mp b hb).2
inductive eJ(CT CW CM:Ry)(vs:List V)(H:Hp)(Q:VK)(E:XK):Prop
 |mk (tb:Tb) (w:Wy) (b:Int) (n:Nat) (ka:Ry) (ks:List Nat):vs=[.ref tb.x,.ref w.x,.int b,.int (n:Nat),.ref ka]->TbAt CT CW H tb->w∈tb.ws->H ka=A? (.tup (ks.map nW))->(∀k∈ks,k<tb.settled.length)->ks.length<=3->0<=b->(∀q∈w.ps,∃s:Nat,q.1=(s:Int)/\s<tb.S)->w.ps.length<=1000000->tb.S<=100000->(tb.found.map (·.note)).Nodup->tb.found.length<=30->w.nm≠q->(∀(note:List Int)(H':Hp),NoteBy w.ps b tb.S w.ps.length note->note∉tb.found.map (·.note)->tb.found.length=30->Ye H H'->E (.ref CM) B? H')->(∀(c:NtE)(H':Hp)(F':List NtE),NoteBy w.ps b tb.S w.ps.length c.note->c.n=n+1->c.t=.knot w.nm (az tb.settled ks)->Entd tb.found c F'->SameB tb.fd H H'->TbAt CT CW H' {tb with found:=F'}->Q .non H')->eJ CT CW CM vs H Q E
theorem dX:FnOk P w K mg base (CX1 P w) 2 T.g_21.f T.g_21.d ["self","ways","bits","knots","kids"] (eJ T.e_Table T.e_Ways T.e_Many):=by
 refine T.g_21.F.ok1 cV (λvs H Q E h=>?_) (λxi A outer s H vs Q E hr h=>?_)
 .obtain⟨tb,w,b,n,ka,ks,rfl,_⟩:=h;rfl
 obtain⟨tb,w,b,n,ka,ks,rfl,ht,Cr,yU,zr,Av,hb,xB,yT,hS,yx,Mt,C5,qE,q⟩:=h
 refine⟨_,(af (av 5 cV.nd (dQ (pv 1) T.cl_Ways T.g_19.me (iu T) (hr.mono (by first|decide|lia)) T.g_19.b .nil fo (aa (pv 2) (aa (aT (pv 0) rfl) ae))))
  (af (bT (PW.pt (nj (li (eX (cB hr) (pv 5) (aT (pv 0) rfl))) (lg (be dY (aZ gJ rfl T.n_4 TF (aa (aT (pv 0) rfl) ae)) (eR (v:=.int (30)) rfl T.c_MOST_NOTES.choose_spec ⟨_,CA⟩) (bj _))))) (ak (qF T.X_Many T.x_Many cA)) bA)
  (ak (bT (PW.pt (t5 (li (eX (cB hr) (pv 5) (aT (pv 0) rfl))) (qT (be oq (aJ cT (pv 3) aj) (aH aG (gb (cB hr) (aT (pv 0) rfl) (pv 5) (λ_ _=>rfl)) aj (λ_ _=>rfl)) (bj _))))) (af (av 6 cV.nd (aJ nZ (aE (aa (aT (pv 1) rfl) ae)) (cQ bR rfl T.n_9 UJ (aa (cD (N:=["kid","self"]) (js:=[B?,A? 0]) (g:=(aw 0)) (tt:=bN) (te:=(tOp (pA K) (tOp (v6 K) (vR K (bP 1) "settled") (bP 0)) (tC (.int 2)))) rfl (dz rfl (by decide +kernel) (by decide +kernel) rfl rfl rfl) (je (pv 4)) (λ_ _ _ _ _ _=>(pgN 0 wV)) (aU rfl) (λ_ _ _ _ _ _=>cb) (λ_ _ _ _ _ _=>(aH aG (aH cu (aT (pv 1) rfl) (pv 0) (λ_ _=>rfl)) aj (λ_ _=>rfl)))) ae))))
  (ak (iG (cB hr) (aT (pv 0) rfl) (pv 5) (aE (aa (aJ cT (pv 3) aj) (aa (pv 5) (aa (pv 6) ae)))) rfl))) bA)))),?_⟩
 try dsimp only[xS,xj]
 have yu:=ht.wa w Cr;refine⟨_,CA,w.x,w.dx,_,CA,yu.ins,eu,_,CA,_,CA,tb.x,T.e_Table,tb.dx,_,_,CA,ht.ins,T.cl_Table,T.na_Table_states,vN,w,b,tb.S,CA,yu,yT,hS,hb,xB,λr note H1 s1 er hN=>?_⟩;dsimp only[aw];have xT:=ht.same s1;have ek:H1 r=A? (.tup ((eg note).map kV)):=by rw[qA];exact er
 refine bw (λi' H'=>i'=[A? (.ref tb.x),A? (.ref w.x),A? (.int b),A? (.int (n:Nat)),A? (.ref ka),A? (.ref r),B?]/\H'=H1/\(note∉tb.found.map (·.note)->tb.found.length≠30)) (λkk hk=>?_) ?_
 .refine⟨_,CA,_,CA,tb.x,T.e_Table,tb.dx,_,_,CA,xT.ins,T.cl_Table,T.na_Table_found,jl,tb.fd,_,CA,DGet.t xT.fd ek,_,CA,?_⟩;cases hv:br (nfv tb.found) (eg note)with
  | some v =>
    refine hid λZZ kZ=>?_;obtain⟨i,e,h1,h2,_⟩:=oN hv;refine kZ ?_;exact cm (cm (hk _ _ ⟨rfl,rfl,λz=>Yd (RP.mpr ⟨e,Rx h1,h2⟩) z⟩))
  | none =>
    refine cE ⟨_,rfl,tb.x,T.e_Table,tb.dx,_,_,rfl,xT.ins,T.cl_Table,T.na_Table_found,jl,tb.fd,_,rfl,xT.fd,rfl,_,rfl,?_⟩;rw[iE];by_cases z:tb.found.length=30
    .rw[Yc (show Yh ((tb.found.length:Nat):Int)=Yh 30 by rw[z];rfl)];exact cE (qE note H1 hN (jm hv) z s1)
    .rw[Zb (show¬Yh ((tb.found.length:Nat):Int)=Yh 30 fromλy=>z (by injection y with y;lia))];exact cm (hk _ _ ⟨rfl,rfl,λ_=>z⟩)
 rintro i' H' ⟨rfl,rfl,Fg⟩;refine rm (λb' Ak=>Ak=H'/\(b'=Bz->∃F':NtE->List NtE,∀c:NtE,c.note=note->c.n=n+1->putK (nfv tb.found) (eg c.note) (.ref c.a)=nfv (F' c)/\Entd tb.found c (F' c))/\(b'=C?->∃e∈tb.found,e.note=note/\e.n<=n+1)) (λk2 yS=>?_) ?_ ?_
 .refine⟨_,CA,_,CA,tb.x,T.e_Table,tb.dx,_,_,CA,xT.ins,T.cl_Table,T.na_Table_found,jl,tb.fd,_,CA,DGet.t xT.fd ek,_,CA,?_⟩;cases hv:br (nfv tb.found) (eg note)with
  | none =>
    refine cE (yS _ _ ⟨rfl,λ_=>⟨λc=>tb.found++[c],λc hc _=>?_⟩,λz=>(nomatch z)⟩);subst hc;exact⟨tJ hv,.add (jm hv) (Fg (jm hv))⟩
  | some v =>
    obtain⟨i,e,h1,h2,rfl⟩:=oN hv;have By:=Rx h1;have Hw:=xT.fe e By;refine cm ⟨_,rfl,_,_,rfl,rfl,_,rfl,tb.x,T.e_Table,tb.dx,_,_,rfl,xT.ins,T.cl_Table,T.na_Table_found,jl,_,rfl,tb.fd,_,rfl,by rw[<-hv];exact DGet.t xT.fd ek,e.a,_,0,.int (e.n:Nat),rfl,rfl,Ze Hw.a,at0,_,_,rfl,rfl,_,rfl,?_⟩;by_cases z:n+1<e.n
    .rw[Yc (show(n:Int)+1<(e.n:Int)by lia)];refine yS _ _ ⟨rfl,λ_=>⟨λc=>tb.found.set i c,λc hc Dj=>?_⟩,λz=>(nomatch z)⟩;subst hc;exact⟨sy yx h1 h2,.set i e h1 h2 (by lia)⟩
    .rw[Zb (show¬(n:Int)+1<(e.n:Int)by lia)];exact yS _ _ ⟨rfl,λz=>(nomatch z),λ_=>⟨e,By,h2,by lia⟩⟩
 .rintro Ak ⟨rfl,hF,_⟩;obtain⟨F',PH⟩:=hF rfl;refine bw (λMu H5=>Ex1 λtr=>An3 (Mu=[A? (.ref tb.x),A? (.ref w.x),A? (.int b),A? (.int (n:Nat)),A? (.ref ka),A? (.ref r),A? (.ref tr)]) (Ye Ak H5) (At H5 (.knot w.nm (az tb.settled ks)) tr)) (λkk hk=>?_) ?_
  .refine⟨_,CA,w.x,T.e_Ways,w.dx,_,_,CA,(xT.wa w Cr).ins,T.cl_Ways,T.na_Ways_kind_name,vZ,lnE rfl,λp1 yF=>?_⟩;refine gU yF λH2 s2 Mv=>?_;have Ef:=xT.same s2;have F7:=s2 _ _ (s1 _ _ yU);refine⟨_,CA,ka,CA,⟨_,Ze F7⟩,lY ks (λk=>Zf (((tb.settled[k]?).map (·.ta)).getD 0)) (Ze F7) (by rw[Rw]) (by rw[Rw];lia) (λi x z H3 R W' hx hz s3 hR=>?_) (λD H3 hD s3 e3=>?_)⟩
   .rw[RG,hz]at hx;cases hx;have Mw:=zr z (Rx hz);have ez:=RA Mw;have Kj:=Ef.same s3;have PJ:=Kj.se _ (VL Mw);refine⟨_,CA,tb.x,T.e_Table,tb.dx,_,_,CA,Kj.ins,T.cl_Table,T.na_Table_settled,kh,_,CA,tb.st,_,(z:Int),.ref (tb.settled[z]).a,CA,CA,Yg Kj.st,bz (j:=z) (gmE ez),_,_,2,.ref (tb.settled[z]).ta,CA,CA,Ze PJ.a,at2,?_⟩;have:=hR H3 (λ_ _ e=>e);rw[ez]at this;exact this
   .have Hj:=nQ (H:=H3) zr λe he=>((Ef.same s3).se e he);refine⟨D,_,CA,.inl ⟨Yg e3,λp2 xK=>?_⟩⟩;refine gU xK λH4 s4 Be=>?_;have Hz:(ks.map λk=>Zf (((tb.settled[k]?).map (·.ta)).getD 0))=(ks.map λk=>((tb.settled[k]?).map (·.ta)).getD 0).map Zf:=by rw[Sr];rfl
    have F8:=s2.trans (s3.trans s4)
    have mk:∀(tr:Ry)(H5:Hp),Ye H4 H5->H5 tr=A? (.tup (.str w.nm::(ks.map λk=>Zf (((tb.settled[k]?).map (·.ta)).getD 0))))->At H5 (.knot w.nm (az tb.settled ks)) tr:=λtr H5 s5 e5=>by
     rw[Hz]at e5;rw[At];exact⟨C5,_,e5,Hj.mono (Zg (s4.trans s5))⟩
    refine⟨p1,p2,_,_,CA,CA,Ze (s4 _ _ (s3 _ _ Mv)),Ze Be,by simp,TV (aS (by rw[Rw];show 1+_<=1000000;lia)),λDi=>?_,λ_ p3 zj=>?_⟩
    .refine hk _ _ ⟨p1,rfl,F8,mk p1 H4 (λ_ _ e=>e) ?_⟩;rw[Di];exact s4 _ _ (s3 _ _ Mv)
    .exact hk _ _ ⟨p3,rfl,F8.trans (ao zj _),mk p3 _ (ao zj _) ad⟩
  rintro Mu H5 ⟨tr,rfl,s5,PK⟩;refine⟨_,CA,_,_,CA,CA,_,CA,_,CA,lnE rfl,λpe PL=>?_⟩;refine gU PL λH6 s6 PM=>?_;have HE:=s5.trans s6;have HF:=xT.same HE;refine⟨_,CA,tb.x,T.e_Table,tb.dx,_,_,CA,HF.ins,T.cl_Table,T.na_Table_found,jl,_,CA,tb.fd,_,CA,DPut.t HF.fd (HE _ _ ek) (aS (by rw[iE];lia)),?_⟩;have hc:=PH ⟨n+1,note,.knot w.nm (az tb.settled ks),pe,r,tr⟩ rfl rfl;have h1:=hc.1;dsimp only at h1;rw[h1];refine q ⟨n+1,note,.knot w.nm (az tb.settled ks),pe,r,tr⟩ _ _ hN rfl rfl hc.2 ((Zk (s1.trans HE)).trans Yl) (HF.setFound λe he=>?_);rcases hc.2.mem e he with he|rfl
  .exact HF.fe e he
  .exact⟨PM,HE _ _ er,PK.mono (Zg s6)⟩
 .rintro Ak ⟨rfl,_,hF⟩;refine hid λZZ kZ=>?_;obtain⟨e,he,h1,h2⟩:=hF rfl;refine kZ ?_;exact q ⟨n+1,note,.knot w.nm (az tb.settled ks),0,0,0⟩ Ak tb.found hN rfl rfl (.keep e he h1 h2) (Zk s1) xT
inductive dU(CT CW CM:Ry)(vs:List V)(H:Hp)(Q:VK)(E:XK):Prop
 |mk (tb:Tb) (e:NtE) (ins:List (R1×Int)) (rows:List (List Th)) (Ls:List Th) (old:List NtE) (cl:R1->List Nat->Prop):vs=[.ref tb.x,.ref e.a]->TbAt CT CW H tb->TInv ins rows Ls old tb.ws.length cl tb->fX ins->Ls.Nodup->tb.S<=100000->e∈tb.found->e∉tb.settled->(∀y∈tb.found,y∉tb.settled->keyLt y.key e.key=C?)->(∀H',FrB tb.mut H H'->Over ins rows Ls->E (.ref CM) B? H')->(∀(xm:Tb)(H':Hp),FrB tb.mut H H'->TbAt CT CW H' xm->xm.x=tb.x->xm.settled=tb.settled++[e]->xm.mut=tb.mut->xm.ws.length=tb.ws.length->TInv ins rows Ls tb.settled xm.ws.length (λnm ks=>(cl nm ks/\∀k∈ks,k<tb.settled.length)\/((∃m:Nat,ins[m]?=A? (nm,((ks.length:Nat):Int)))/\(∀n∈ks,n<=tb.settled.length)/\tb.settled.length∈ks)) xm->Q .non H')->dU CT CW CM vs H Q E
theorem gG:FnOk P w K mg base (CX1 P w) 4 T.g_22.f T.g_22.d ["self","entry"] (dU T.e_Table T.e_Ways T.e_Many):=by
 refine T.g_22.F.ok1 bv (λvs H Q E h=>?_) (λxi A outer s H vs Q E hr h=>?_)
 .obtain⟨tb,e,ins,rows,Ls,old,cl,rfl,_⟩:=h;rfl
 obtain⟨tb,e,ins,rows,Ls,old,cl,rfl,ht,hI,hg,yx,hS,HG,zC,zE,qE,q⟩:=h
 refine⟨_,(af (aY (df Sm S6 S5 bL (aT (pv 0) rfl) (aa (pv 1) ae)))
  (af (iC (i:=2) (N:=["knots","note","tree"]) (js:=[B?,B?,B?]) (g:=(jG K 3 (bU (aw 0) (bU (aw 1) (bU (aw 2) jF))))) (tt:=bN) (te:=(bP 0)) bv.nd rfl (Or.inl rfl) rfl (dz rfl (by decide +kernel) (by decide +kernel) rfl rfl rfl) (cK (aT (pv 0) rfl)) (λ_ _ _ _ _ _=>(bc rfl (am (pgN 0 lj) (am (pgN 1 lj) (am (pgN 2 lj) aN))))) (gH (bG aR (aU rfl) (bG aR (aU rfl) (bG aR (aU rfl) gw)))) (λ_ _ _ _ _ _=>cb) (λ_ _ _ _ _ _=>(pv 0)))
  (ak (bC VW rfl (cK (aT (pv 0) rfl)) (pgN 3 bv.nd) (af (aY (dQ (pv 3) T.cl_Ways T.g_17.me (gm T) (hr.mono (by first|decide|lia)) T.g_17.b .nil fo (aa (aH aG (pv 1) aj (λ_ _=>rfl)) ae)))
  (ak (eM (bC VW rfl (iK (dQ (pv 3) T.cl_Ways T.g_18.me (fM T) (hr.mono (by first|decide|lia)) T.g_18.b .nil fo (aa (aJ qu (aZ bf rfl T.n_4 TF (aa (pv 2) ae)) aj) (aa (pv 2) ae)))) (bc rfl (am (pgN 4 bv.nd) (am (bc rfl (am (pgN 5 bv.nd) (am (pgN 6 bv.nd) aN))) aN))) (ak (aY (dQ (pv 0) T.cl_Table T.g_21.me (dX T) (hr.mono (by first|decide|lia)) T.g_21.b .nil l9 (aa (pv 3) (aa (pv 4) (aa (pv 5) (aa (pv 6) ae))))))))))))))),?_⟩
 try dsimp only[xS,xj]
 obtain⟨Ee,Kk⟩:=hI.settle HG zC zE;have Hw:=ht.fe e HG;have Fg:(tb.settled++[e]).length<=30:=Ee.p.s30;rw[RK,R8]at Fg;refine⟨_,CA,tb.x,T.e_Table,tb.dx,_,_,CA,ht.ins,T.cl_Table,T.na_Table_settled,kh,.inl ⟨CA,_,Yg ht.st⟩,_,CA,tb.st,_,_,CA,CA,ht.st,lbE (by lia),?_⟩;have f1:FrB tb.mut H (upd H tb.st (.lst ((tb.settled.map λe=>Zf e.a)++[.ref e.a]))):=Yo (by unfold Tb.mut;simp);have xT:=ht.push Hw;generalize(upd H tb.st (.lst ((tb.settled.map λe=>Zf e.a)++[.ref e.a])))=H1 at f1 xT |-;refine⟨_,CA,tb.x,T.e_Table,tb.dx,_,_,CA,xT.ins,T.cl_Table,T.na_Table_settled,kh,tb.st,CA,⟨_,Yg xT.st⟩,fN (tb.settled++[e]) (λy=>Yh (y.n:Nat)) (Yg xT.st) (by rw[Rw]) (by rw[Rw,RK,R8];lia) (λi x z H2 R W' hx hz s2 hR=>?_) (λsz H2 hsz s2 Ec=>?_)⟩
 .rw[RG,hz]at hx;cases hx;have F9:=(xT.same s2).se z (Rx hz);refine⟨z.a,_,CA,Ze F9.a,CA,_,_,CA,_,_,CA,_,_,CA,CA,?_⟩;exact⟨_,CA,hR H2 (λ_ _ e=>e)⟩
 dsimp only[aw];have Ef:=xT.same s2
 have Kl:sz∉tb.mut:=λz=>by
  have Bg:∀{b:Ry}{o:HO},H1 b=A? o->b≠sz:=λe z=>by rw[z,hsz]at e;cases e
  unfold Tb.mut at z;rcases RR.mp z with z|z
  .exact Bg xT.fd z.symm
  .rcases RR.mp z with z|z
   .exact Bg xT.st z.symm
   .obtain⟨v,hv,z⟩:=UL.mp z;obtain⟨kd,yb,z⟩:=RP.mp z;exact Bg ((xT.wa v hv).ag kd yb) z
 refine⟨_,CA,tb.x,T.e_Table,tb.dx,_,_,CA,Ef.ins,T.cl_Table,T.na_Table_ways,ui,tb.wl,CA,⟨_,Yg Ef.wl⟩,?_⟩
 refine dL (K:=K) (a:=tb.wl) (xs:=tb.ws.map λw=>Zf w.x) (λi σ H3=>Ex5 λ(c3 c4 c5 c6:Option V)(xm:Tb)=>An5 (σ=[A? (.ref tb.x),A? (.ref e.a),A? (.ref sz),c3,c4,c5,c6]) (FrB tb.mut H2 H3) (TbAt T.e_Table T.e_Ways H3 xm) ((xm.x=tb.x/\xm.settled=tb.settled++[e]/\xm.mut=tb.mut/\xm.ws.map (·.x)=tb.ws.map (·.x)/\xm.wl=tb.wl)) (TInv ins rows Ls tb.settled i (λnm ks=>(cl nm ks/\∀k∈ks,k<tb.settled.length)\/((∃m:Nat,m<i/\ins[m]?=A? (nm,((ks.length:Nat):Int)))/\(∀n∈ks,n<=tb.settled.length)/\tb.settled.length∈ks)) xm))
  ⟨B?,B?,B?,B?,{tb with settled:=tb.settled++[e]},rfl,FrB.refl,Ef,⟨rfl,rfl,rfl,rfl,rfl⟩,Ee.congr λnm ks z=>z.elim id λz=>?_⟩ (λi σ H3 _⟨_,_,_,_,xm,_,_,h3,⟨_,_,_,hx,hw⟩,_⟩=>?_) ?_ ?_
 .refine hid λZZ kZ=>?_;obtain⟨⟨m,hm,_⟩,_⟩:=z;refine kZ ?_;exact Yd hm (Vp _)
 .have:=h3.wl;have e3:=Zd (Xe Zf) hx;rw[Sr,Sr]at e3;rw[hw,show(xm.ws.map λw=>Zf w.x)=(tb.ws.map λw=>Zf w.x)from e3]at this;exact Yg this
 .rintro i x σ H3 hx ⟨c3,c4,c5,c6,xm,rfl,f3,h3,⟨x1,x2,x3,x4,x5⟩,Du⟩
  have C2:∃w',xm.ws[i]?=A? w'/\x=.ref w'.x:=by
   have yL:(tb.ws.map (·.x))[i]?.map Zf=A? x:=by rw[<-RG,Sr];exact hx
   rw[<-x4,RG,Option.map_map]at yL;obtain⟨w',h1,h2⟩:=RW.mp yL;exact⟨w',h1,h2.symm⟩
  obtain⟨w',yG,rfl⟩:=C2;have Cr:=Rx yG;have yu:=h3.wa w' Cr;have Mx:e∈xm.settled:=by rw[x2];simp
  have Ga:=h3.se e Mx;obtain⟨Ws,hk⟩:=Du.k i w' yG;rw[Za (S7 _)]at hk;have z9:=Du.p.f1 e (Du.p.s1 e Mx);dsimp only[aw];refine⟨_,CA,w'.x,w'.dx,_,CA,yu.ins,eu,_,CA,e.a,_,1,.ref e.na,CA,CA,Ze Ga.a,at1,w',e.na,e.note,Ws,CA,yu,Ga.na,hk.psl,(by have:=hk.len;lia),hk.nt,λkd yb=>⟨λy hy=>?_,by have:=hk.ag.len kd yb;lia⟩,λH4 xb f4 Al Eg=>?_⟩
  .rw[z9.note.len,cg z9];exact hk.nc kd yb y hy
  have Rp:xb.length=w'.ks.length:=Eg.len;have yh:=hk.take Eg;have hi:=(Td.mp yG).1
  have yl:∀b∈w'.ks.map (·.a),b∈tb.mut:=λb hb=>by
   rw[<-x3];unfold Tb.mut;exact RT _ (RT _ (UL.mpr ⟨w',Cr,hb⟩))
  refine hid λZZ kZ=>?_
  obtain⟨t3,h4,⟨y1,y2,y3,y4,y5⟩,Km,zl⟩:∃t3:Tb,TbAt T.e_Table T.e_Ways H4 t3/\(t3.x=tb.x/\t3.settled=tb.settled++[e]/\t3.mut=tb.mut/\t3.ws.map (·.x)=tb.ws.map (·.x)/\t3.wl=tb.wl)/\TInv ins rows Ls tb.settled (i+1) (λnm ks=>(cl nm ks/\∀k∈ks,k<tb.settled.length)\/((∃m:Nat,m<i/\ins[m]?=A? (nm,((ks.length:Nat):Int)))/\(∀n∈ks,n<=tb.settled.length)/\tb.settled.length∈ks)) t3/\t3.ws[i]?=A? {w' with ks:=xb}:=by
   refine⟨{xm with ws:=xm.ws.set i {w' with ks:=xb}},h3.setWy yG f4 Al rfl ?_,⟨x1,x2,?_,?_,x5⟩,Du.take x2 yG hk Eg,SS hi⟩
   .unfold Wy.bs;show w'.pl::w'.nl::w'.al::(xb.map (·.d)++xb.map (·.a))=_;rw[Eg.map.1,Eg.map.2]
   .rw[<-x3];unfold Tb.mut;show xm.fd::xm.st::(xm.ws.set i _).flatMap _=_;rw[WN,WN,map_set _ yG (by show xb.map (·.a)=_;exact Eg.map.1)]
   .rw[<-x4];exact map_set (λw:Wy=>w.x) yG rfl
  refine kZ ?_;have Kn:FrB tb.mut H2 H4:=f3.trans (f4.more yl)
  have Gb:H4 sz=A? (.lst (((tb.settled++[e]).map λy=>((y.n:Nat):Int)).map Yh)):=by
   rw[Sr];exact Kn _ _ Kl Ec
  have Ko:∀k∈xb,k.ag.length=tb.settled.length+1:=λk hk=>by
   have:=yh.ag.len k hk;rw[RK,R8]at this;exact this
  refine⟨_,CA,w'.x,w'.dx,_,CA,Al.ins,eu,_,CA,sz,_,CA,.inl (Yg Gb),_,_,CA,CA,_,CA,{w' with ks:=xb},sz,tb.settled.length,(tb.settled++[e]).map λy=>((y.n:Nat):Int),?_,Al,?_,Gb,?_,?_,?_,λk hk=>?_,λr H5 D s5 hr Dl F3 hle=>?_⟩
  .rw[Rw,Rw,RK,R8];refine Zd (λz:Int=>[Zf w'.x,.int z,.ref sz]) ?_;lia
  .have:=yh.len;have h':=yh.psl;lia
  .rw[Rw,RK,R8];lia
  .lia
  .exact yh.m3
  .rw[Ko k hk];lia
  obtain⟨kvs,Kp,Dl⟩:=Dl;refine⟨r,kvs,CA,Kp,λo=>?_⟩;have k0:KT H5 (upd H5 r (.frz o (.dK kvs))):=λb xs z=>by rw[ac (aC z Kp (λy=>nomatch y))];exact z
  have BJ:∀{Ha:Hp}{u:HO},FrB tb.mut H4 Ha->FrB tb.mut H4 (upd Ha r u):=λf b u hb z=>by rw[ac (λy=>by rw[y,hr]at z;cases z)];exact f b u hb z
  have CV:D.length=kvs.length:=R9 Dl;have xB:∀y∈tb.settled++[e],Told ins rows Ls y:=λy hy=>Km.p.f1 y (Km.p.s1 y (by rw[y2];exact hy))
  refine gz (a:=r) (o:=o) (kvs:=kvs) (λj σ H7=>Ex4 λ(c4 c5 c6:Option V)(t:Tb)=>An8 (σ=[A? (.ref tb.x),A? (.ref e.a),A? (.ref sz),A? (.ref w'.x),c4,c5,c6]) (FrB tb.mut H4 H7) (H7 r=A? (.frz o (.dK kvs))) (Sb (RowE H7) D kvs) (TbAt T.e_Table T.e_Ways H7 t) ((t.x=tb.x/\t.settled=tb.settled++[e]/\t.mut=tb.mut/\t.ws.map (·.x)=tb.ws.map (·.x)/\t.wl=tb.wl/\t.ws[i]?=A? {w' with ks:=xb})) ((∀c∈D.take j,∃note,NoteBy w'.ps c.b rows.length w'.ps.length note)) (TInv ins rows Ls tb.settled (i+1) (λnm ks=>((cl nm ks/\∀k∈ks,k<tb.settled.length)\/((∃m:Nat,m<i/\ins[m]?=A? (nm,((ks.length:Nat):Int)))/\(∀n∈ks,n<=tb.settled.length)/\tb.settled.length∈ks))\/(nm=w'.nm/\∃c∈D.take j,ks=c.ks)) t))
   ⟨c4,c5,c6,t3,rfl,BJ (Zn s5),ad,Yj (λ_ _ h=>h.mono k0) Dl,(h4.same s5).beside Kp (λ_ z=>nomatch z) (λ_ z=>nomatch z) (λ_ z=>nomatch z) (λ_ _ _ z=>nomatch z),⟨y1,y2,y3,y4,y5,zl⟩,?_,Km.congr λnm ks z=>z.elim id λ⟨_,c,hc,_⟩=>?_⟩ (λj σ H7 _⟨_,_,_,_,_,_,e7,_,_,_,_,_⟩=>e7) ?_ ?_
  .intro c hc;rw[Uo]at hc;cases hc
  .rw[Uo]at hc;cases hc
  .rintro j kv p0 σ H7 xQ Aj ⟨d4,d5,d6,t,rfl,f7,Cq,B0,h7,⟨z1,z2,z3,z4,z5,z6⟩,HH,zH⟩;refine hid λZZ kZ=>?_;obtain⟨c,hc,zG,a,ka,yS,ea,yU⟩:=Zo B0 xQ;have PN:=Rx hc;obtain⟨k,v⟩:=kv;refine kZ ?_;dsimp only at zG yS;subst zG yS;refine gU Aj λH8 s8 ep=>?_;have ep:H8 p0=A? (.tup [.int c.b,.ref a]):=ep;refine hid λZZ kZ=>?_;obtain⟨js,D8,⟨Cm,Cg⟩,Kq⟩:=hle.sub c PN;have BX:js.length=xb.length:=D8
   have BV:∀n∈js,n<(tb.settled++[e]).length:=λn hn=>by
    rw[RK,R8];have:=Cm n hn;lia
   obtain⟨Dj,Gd⟩:=jw (AG:=xb.map (·.ag)) (all:=ones w'.ps.length) js BV (λy hy=>(xB y hy).n);refine kZ ?_;have zI:c=cnd (xb.map (·.ag)) ((tb.settled++[e]).map λy=>((y.n:Nat):Int)) (ones w'.ps.length) js:=Kq;rw[<-zI]at Dj Gd
   have PQ:0<=c.b:=by
    have:=(yh.ag.bits (Z:=(tb.settled++[e]).map λy=>((y.n:Nat):Int)) BX BV).1;rw[<-yh.psl]at this;rw[zI];exact this
   have h8:=h7.same s8;refine⟨p0,_,CA,Ze ep,CA,_,_,CA,_,_,CA,⟨a,_,CA,Ze (s8 _ _ ea),CA,_,_,CA,_,_,CA,CA,CA,?_⟩⟩;dsimp only[aw];have Ge:H8 tb.x=A? (.ins T.e_Table t.dx (tbF t.S t.wl t.fd t.st)):=by rw[<-z1];exact h8.ins
   have yF:=zH.p;refine⟨_,CA,tb.x,t.dx,_,CA,Ge,kI,_,CA,_,CA,_,CA,_,CA,t,{w' with ks:=xb},c.b,au (az (tb.settled++[e]) js),ka,c.ks,?_,h8,Rx z6,s8 _ _ yU,?_,?_,PQ,?_,?_,?_,yF.f2,yF.f3,yh.nq,λnote H9 hN xu hF s9=>?_,λx H9 F' hN My Kr hE yQ h9=>?_⟩
   .rw[z1,Dj];rfl
   .rw[Gd,z2];exact BV
   .rw[Gd,BX];exact yh.m3
   .rw[zH.S];exact yh.pz
   .have:=yh.len;have h':=yh.psl;lia
   .rw[zH.S,<-hI.S];exact hS
   .rw[zH.S,zI]at hN;have:=yh.told (c:=⟨(Zi w'.nm (az (tb.settled++[e]) js)).size,note,.knot w'.nm (az (tb.settled++[e]) js),0,0,0⟩) hg yx xB BX BV hN rfl rfl;exact qE H9 ((f1.trans (Zn s2)).trans (Kn.trans (f7.trans (Zn (s8.trans s9))))) (yF.over hF xu this.fit this.note)
   .have Ks:=hN;rw[zH.S]at Ks;rw[zH.S,zI]at hN;rw[Gd,z2]at Kr;have hx:=yh.told hg yx xB BX BV hN Kr My;have k9:KT H8 H9:=λb xs z=>yQ _ _ (aC z h8.fd (λy=>nomatch y)) z;refine⟨_,_,_,{t with found:=F'},CA,f7.trans ((Zn s8).trans λb u hb z=>yQ b u (λy=>hb (by rw[y,<-z3];unfold Tb.mut;simp)) z),yQ _ _ (aC (s8 _ _ Cq) h8.fd (λy=>nomatch y)) (s8 _ _ Cq),Yj (λ_ _ h=>(h.mono (Zg s8)).mono k9) B0,h9,⟨z1,z2,z3,z4,z5,z6⟩,λc' xP=>?_,?_⟩
    .rw[take_snoc hc]at xP;rcases RM.mp xP with xP|xP
     .exact HH c' xP
     .rw[RC.mp xP];exact⟨_,Ks⟩
    .refine(zH.enter (nm:=w'.nm) (js:=js) hE hx (by rw[z2];exact Kr) λy hy=>?_).congr λnm ks z=>?_
     .rw[z2]at hy;have h1:=Kk y hy;have h2:=(xB e (by simp)).n;have h3:e.t∈az (tb.settled++[e]) js:=RP.mpr ⟨_,Cg,by rw[Sx (RI _),VA];rfl⟩;have h4:=rJ h3;have h5:x.n=au (az (tb.settled++[e]) js)+1:=My;lia
     .rcases z with z|⟨rfl,c',xP,rfl⟩
      .exact .inl (.inl z)
      .rw[take_snoc hc]at xP;rcases RM.mp xP with xP|xP
       .exact .inl (.inr ⟨rfl,c',xP,rfl⟩)
       .rw[RC.mp xP];exact .inr ⟨rfl,Gd⟩
  .rintro σ H7 ⟨d4,d5,d6,t,rfl,f7,Cq,B0,h7,⟨z1,z2,z3,z4,z5,z6⟩,HH,zH⟩;rw[Tt (by lia)]at HH zH;refine⟨H7,Thaws.refl _ _,_,_,_,_,t,CA,Kn.trans f7,h7,⟨z1,z2,z3,z4,z5⟩,zH.more λnm ks z=>?_⟩
   .rcases z with z|⟨⟨m,hm,Cs⟩,zG,yS⟩
    .exact .inl (.inl (.inl z))
    .by_cases y:m=i
     .subst y;right;have zk:=yh.nm;rw[Cs]at zk;injection zk with zk;have e1:nm=w'.nm:=Zd WL zk;have e2:((ks.length:Nat):Int)=((xb.length:Nat):Int):=Zd XM zk;have Av:ks.length=xb.length:=by lia
      subst e1
      have zW:∀{l:List Nat},(∀n∈l,n<=tb.settled.length)->∀n∈l,n<(tb.settled++[e]).length:=λh n hn=>by
       rw[RK,R8];have:=h n hn;lia
      refine hid λZZ kZ=>?_;obtain⟨c0,Gf,Dw,GG⟩:=hle.le _ ⟨ks,Av,⟨zG,yS⟩,rfl⟩;obtain⟨js,D8,⟨Cm,Cg⟩,Kq⟩:=hle.sub c0 Gf;obtain⟨a1,a2⟩:=jw (AG:=xb.map (·.ag)) (all:=ones w'.ps.length) js (zW Cm) (λy hy=>(xB y hy).n);obtain⟨b1,b2⟩:=jw (AG:=xb.map (·.ag)) (all:=ones w'.ps.length) ks (zW zG) (λy hy=>(xB y hy).n);have zI:c0=cnd (xb.map (·.ag)) ((tb.settled++[e]).map λy=>((y.n:Nat):Int)) (ones w'.ps.length) js:=Kq;rw[<-zI]at a1 a2;obtain⟨y,hy,g1,g2⟩:=zH.p.cl w'.nm c0.ks (.inr ⟨rfl,c0,Gf,rfl⟩);rw[z2,a2]at g1 g2;obtain⟨note,hN⟩:=HH c0 Gf;refine kZ ?_;have n1:=yh.ag.note (nm:=w'.nm) (js:=js) (Z:=(tb.settled++[e]).map λy=>((y.n:Nat):Int)) yx (yh.ix hg) rfl yh.sp yh.ps D8 (zW Cm) xB (λy hy=>cg (xB y hy)) yh.call (by rw[zI]at hN;exact hN);have n2:=yh.ag.note (nm:=w'.nm) (js:=ks) (Z:=(tb.settled++[e]).map λy=>((y.n:Nat):Int)) yx (yh.ix hg) rfl yh.sp yh.ps Av (zW zG) xB (λy hy=>cg (xB y hy)) yh.call (by rw[Dw]at hN;exact hN);refine⟨y,hy,by rw[z2,g1.uniq yx n1];exact n2,?_⟩;have PR:c0.n<=((au (az (tb.settled++[e]) ks):Nat):Int):=by rw[<-b1];exact GG
      rw[z2];have q1:(Zi w'.nm (az (tb.settled++[e]) js)).size=au (az (tb.settled++[e]) js)+1:=rfl;have q2:(Zi w'.nm (az (tb.settled++[e]) ks)).size=au (az (tb.settled++[e]) ks)+1:=rfl;lia
     .exact .inl (.inl (.inr ⟨⟨m,by lia,Cs⟩,zG,yS⟩))
 .rintro σ H3 ⟨c3,c4,c5,c6,xm,rfl,f3,h3,⟨x1,x2,x3,x4,x5⟩,Du⟩;have hl:=Zd S4 x4;rw[Rw,Rw]at hl;rw[Rw]at Du;refine q xm H3 ((f1.trans (Zn s2)).trans f3) h3 x1 x2 x3 hl ?_;rw[hl];refine Du.congr λnm ks z=>z.imp id λ⟨⟨m,hm⟩,z⟩=>⟨⟨m,?_,hm⟩,z⟩;rw[hI.n];exact(glE hm)
def aA:Su:=match bq (inClass (top 27) 3)with
 | [_,.While _ [_,_,.Expr (.Call _ [.Call _ _ [⟨_,l,_⟩] _] _ _) _] _ _]=>l
 |_=>.Name "" ⟨0,0,0,0⟩
def uL:Su->WE
 |.Lambda p _ _ _=>p
 |_=>bM (inClass (top 27) 3)
def uB:Su->Su
 |.Lambda _ b _ _=>b
 |e=>e
def tj:Su->UR
 |.Lambda _ _ s _=>s
 |_=>ax (inClass (top 27) 3)
def bu:Su->UX
 |.Lambda _ _ _ p=>p
 |_=>⟨0,0,0,0⟩
def cC:R1:="Table.fill.<locals>."++"<lambda>"
def rL(f c':Ry):Sp:=λvs H Q _=>∃e:NtE,vs=[.ref e.a]/\LamAt H f c' "<lambda>" cC (uL aA) (uB aA) (tj aA) []/\CodeAt H c' cC/\NtA H e/\∀(κ:Ry)(H':Hp),Ye H H'->jC H' κ e.key->Q (.ref κ) H'
theorem vz:lE ["entry"] ["entry"] [] (tj aA):=by
 refine⟨CA,CA,CA,by decide +kernel,by decide +kernel,CA,by decide +kernel,by decide +kernel,λx h=>?_,λx y c1 h1 h2=>?_⟩
 .exfalso;have hm:=Tz h;have xc:∀z∈(tj aA).names,z.2≠.free:=by decide +kernel
  exact xc _ hm rfl
 .exact Yd (Tz h1) (by simp)
include T in
theorem vh(f c':Ry):pD P w K mg base CX0 2 f (rL f c'):=by
 refine vq (k:=1) (c':=c') (name:="<lambda>") (qual:=cC) (params:=uL aA) (body:=uB aA) vz (λpm zc us hl=>?_) (λvs H Q E h=>?_) λA outer s H vs Q E hr h=>?_
 .obtain⟨u,rfl⟩:=us1 hl;rfl
 .obtain⟨e,rfl,hl,hc,_,_⟩:=h;exact⟨CA,hl,hc,λb' hb=>(nomatch hb),λx c1 hx=>(nomatch hx)⟩
 .obtain⟨e,rfl,hl,hc,he,q⟩:=h;refine⟨_,[],.nil,bB eI (pv 0) bW (bE aj),?_⟩;have e0:fgt (([]:List (R1×Ry)).map (·.2)) H=H:=funext λb=>da (λz=>nomatch z);rw[e0];refine⟨_,CA,_,CA,e.a,_,CA,Ze he.a,?_,λp hp=>?_⟩
  .show¬(Zh 3 0 B?=0/\Zh 3 3 (A? 2)=3);decide
  have e1:rst (([]:List (R1×Ry)).map (·.2)) H (upd H p (.tup (eY [.int (e.n:Nat),.ref e.na,.ref e.ta] B? (A? 2))))=upd H p (.tup [.int (e.n:Nat),.ref e.na]):=funext λb=>Za (λz=>nomatch z);refine Eq.subst (motive:=λh=>Q (.ref p) h) e1.symm (q p _ (ao hp _) ⟨e.na,ad,?_⟩);exact ao hp _ _ _ he.na
theorem WOk.kok{a:Nat}{w:Wy}(h:WOk Ls (rows.map λrow=>row.getD a bd) w Ws)(hi:ins[a]?=A? (nm,((m:Nat):Int)))(hn:w.nm=nm)(hm:w.ks.length=m)(m3:m<=3)(ha:∀k∈w.ks,k.ag=[])
 (hc:∀p∈rows.map (λrow=>row.getD a bd),∀s k:Int,Yi s k∈p.walk->(∃k':Nat,k=(k':Int)/\k'<m)/\∃s':Nat,s=(s':Int)/\s'<rows.length) (nq:nm≠q):KOk ins rows Ls [] a w Ws :=
 ⟨by rw[hn,hm];exact hi,by lia,h.sp,h.ps,λk kd hk=>(h.nt k kd hk).1,h.len,by rw[hm];exact hc,KAg.nil ha,by rw[hn];exact nq⟩
inductive fk(C CW:Ry)(vs:List V)(H:Hp)(Q:VK)(_E:XK):Prop
 |mk (x dx ba ia ra rt:Ry) (v2 v3:V) (Af yR:List Ry) (ins:List (R1×Int)) (rows:List (List Th)) (cs:List Ry) (To:List (R1×List Nat)) (Ls:List Th) (ar:R1->Nat):vs=[.ref x,.ref ba,.ref rt]->H x=A? (.ins C dx [])->H ba=A? (.tup [.ref ia,v2,v3,.ref ra])->H ia=A? (.tup (Af.map Zf))->KsAt H ins Af->H ra=A? (.tup (yR.map Zf))->Sb (RowAt H) rows yR->ins.length<=1000->rows.length<=1000->(∀row∈rows,row.length=ins.length)->(∀(a:Nat)(nm:R1)(c:Int),ins[a]?=A? (nm,c)->nm≠q/\∃m:Nat,c=(m:Int)/\m<=3/\WIn H rt cs To Ls ar m rows.length (rows.map λrow=>row.getD a bd))->(∀(tb:Tb)(H':Hp),tb.x=x->tb.settled=[]->tb.S=rows.length->SameB x H H'->TbAt C CW H' tb->TInv ins rows Ls [] tb.ws.length (λ_ _=>False) tb->(∀b∈tb.mut,H b=B?)->Q .non H')->fk C CW vs H Q _E
theorem jN:FnOk P w K mg base CX0 5 T.g_20.f T.g_20.d ["self","book","row"] (fk T.e_Table T.e_Ways):=by
 refine T.g_20.F.okA du λxi A outer s H vs Q E hr h=>?_;obtain⟨x,dx,ba,ia,ra,rt,v2,v3,Af,yR,ins,rows,cs,To,Ls,ar,rfl,ex,Gg,HI,zr,era,HJ,yD,Rq,xO,xY,q⟩:=h
 refine⟨_,(af (eK (pv 0) (pcF T.g_7 (kL T) hr (aa (pv 1) ae)) rfl)
  (af (eK (pv 0) (bY ae) rfl)
  (af (bC SE rfl (sY rfl T.n_2 (pcF T.g_4 (pq T) hr (aa (pv 1) ae))) (bc rfl (am (pgN 3 du.nd) (am (pgN 4 du.nd) aN))) (ak (aY (df Sm S6 S5 bL (aT (pv 0) rfl) (aa (nY ⟨T.mi_Ways.1,T.g_14.me.1,T.g_14.me.2,T.mi_Ways.2⟩ (kK T) (hr.mono (by first|decide|lia)) rfl T.x_Ways T.g_14.b .nil fo (aa (pv 4) (aa (cD (N:=["patterns","at"]) (js:=[B?,A? 3]) (g:=(aw 0)) (tt:=bN) (te:=(tOp (pA K) (bP 0) (bP 1))) rfl (dz rfl (by decide +kernel) (by decide +kernel) rfl rfl rfl) (je (pcF T.g_6 (ij T) hr (aa (pv 1) ae))) (λ_ _ _ _ _ _=>(pgN 0 wQ)) (aU rfl) (λ_ _ _ _ _ _=>cb) (λ_ _ _ _ _ _=>(aH aG (pv 0) (pv 1) (λ_ _=>rfl)))) (aa (pv 2) ae)))) ae)))))
  (af (eK (pv 0) eE rfl)
  (ak (eK (pv 0) (bY ae) rfl)))))),?_⟩
 try dsimp only[xS,xj]
 have Mz:rows.length=yR.length:=R9 HJ;have PU:ins.length=Af.length:=R9 zr;have nx:∀{b:Ry}{xs:List V},H b=A? (.tup xs)->b≠x:=λe=>aC e ex (λz=>nomatch z);refine⟨_,CA,ba,_,_,_,ra,_,CA,Gg,era,_,CA,x,T.e_Table,dx,_,CA,ex,T.cl_Table,T.na_Table_states,(by show 0<1000;decide),?_⟩;rw[Rw,<-Mz];have b1:SameB x H (upd H x (.ins T.e_Table dx (aF (RF "states") (.int (rows.length:Nat)) []))):=Yl;have x1:(upd H x (.ins T.e_Table dx (aF (RF "states") (.int (rows.length:Nat)) []))) x=A? (.ins T.e_Table dx (aF (RF "states") (.int (rows.length:Nat)) [])):=ad;generalize(upd H x (.ins T.e_Table dx (aF (RF "states") (.int (rows.length:Nat)) [])))=H1 at b1 x1 |-;refine⟨lnE rfl,λwl zw=>?_⟩;have C2:wl≠x:=λz=>by rw[z,x1]at zw;cases zw
 have PV:H wl=none:=by
  cases z:H wl with
  |none=>rfl
  |some o=>rw[b1 wl o C2 z]at zw;cases zw
 refine⟨_,CA,x,T.e_Table,dx,_,CA,(ac C2.symm).trans x1,T.cl_Table,T.na_Table_ways,(by show 1<1000;decide),?_⟩
 have I0:TiI T.e_Table T.e_Ways H x dx wl ins rows Ls 0 rows.length (upd (upd H1 wl (.lst [])) x (.ins T.e_Table dx (aF (RF "ways") (.ref wl) (aF (RF "states") (.int (rows.length:Nat)) [])))) [] :=
  ⟨b1.trans ((Zk (ao zw _)).trans Yl),ad,(ac C2).trans ad,PV,(by intro w hw;cases hw),(by intro b hb;cases hb),T7,rfl,λa w hw=>by simp at hw⟩
 generalize(upd (upd H1 wl (.lst [])) x (.ins T.e_Table dx (aF (RF "ways") (.ref wl) (aF (RF "states") (.int (rows.length:Nat)) []))))=H2 at I0 |-;refine⟨_,CA,ba,_,_,_,_,CA,I0.sb _ _ (nx Gg) Gg,ia,CA,⟨_,Ze (I0.sb _ _ (nx HI) HI)⟩,?_⟩
 refine qS (K:=K) (a:=ia) (xs:=Af.map Zf) (λi σ H3=>Ex3 λ(c3 c4:Option V)(ws:List Wy)=>An2 (σ=[A? (.ref x),A? (.ref ba),A? (.ref rt),c3,c4]) (TiI T.e_Table T.e_Ways H x dx wl ins rows Ls i rows.length H3 ws))
  ⟨B?,B?,[],rfl,I0⟩ (λi σ H3 _⟨_,_,_,_,h⟩=>Ze (h.sb _ _ (nx HI) HI)) ?_ ?_
 .rintro i x' p σ H3 hx hp ⟨c3,c4,ws,rfl,I3⟩;rw[RG]at hx;refine hid λZZ kZ=>?_;obtain⟨ka,FZ,rfl⟩:=RW.mp hx;obtain⟨⟨nm,c⟩,hi,yU⟩:=Zo zr FZ;obtain⟨C5,m,rfl,Hn,hW⟩:=xY i nm c hi;refine kZ ?_;have PX:=(glE hi);have I4:=I3.same (ao (p:=p) hp (.tup [.int (i:Nat),.ref ka]));have ep:(upd H3 p (.tup [.int (i:Nat),.ref ka])) p=A? (.tup [.int (i:Nat),.ref ka]):=ad;generalize(upd H3 p (.tup [.int (i:Nat),.ref ka]))=H4 at I4 ep |-;refine⟨p,_,CA,Ze ep,CA,_,_,CA,_,_,CA,CA,?_⟩;dsimp only[aw];refine⟨_,CA,x,T.e_Table,dx,_,_,CA,I4.self,T.cl_Table,T.na_Table_ways,qx,.inl ⟨CA,_,Yg I4.wll⟩,?_⟩;have kt:∀{H9:Hp},SameB x H H9->KT H H9:=λ{H9}s b xs e=>s b _ (nx e) e;have B4:=kt I4.sb _ _ era;have Kt:=Yj (λ_ _ e=>RowAt.mono (kt I4.sb) e) HJ;refine⟨_,CA,_,CA,ba,_,_,_,_,CA,I4.sb _ _ (nx Gg) Gg,ra,CA,⟨_,Ze B4⟩,oM (F:=λH(row:List Th)a=>At H (row.getD i bd) a) (xs:=yR.map Zf) rows (λH1 H2 z p kt h=>h.mono kt) (by rw[Rw];exact Mz) (by rw[Rw];lia) (λj Hx sx hj=>⟨_,_,Ze (sx _ _ B4),RA hj⟩) (λHx sx=>⟨_,Ze (sx _ _ B4),RI _⟩) (λj Hx y Hy sx hj hy=>⟨hy.1,hy.2 _ (Ze (sx _ _ B4))⟩) (λj y row Hx R W' hy MA sx hR=>?_) (λpa H5 Dq G1 s5 Au Jk=>?_)⟩
  .rw[RG]at hy;refine hid λZZ kZ=>?_;obtain⟨rj,Ku,rfl⟩:=RW.mp hy;obtain⟨as,PY,has⟩:=(jg Kt MA Ku).mono (Zg sx);have PZ:=xO row (Rx MA)
   have P0:row[i]?=A? (row.getD i bd):=by
    rw[Sf,RA (by lia)];rfl
   obtain⟨ai,BG,P1⟩:=has.get' P0;refine kZ ?_;refine⟨_,CA,_,CA,rj,_,(i:Nat),.ref ai,CA,CA,Ze PY,?_,hR Hx ai (λ_ _ e=>e) P1⟩;exact bz (gmE BG)
  have I5:=I4.same s5;refine⟨_,CA,λy dy hy G5 xx=>?_⟩;have P4:=hW.mono (kt I5.sb);have Rr:wl≠y:=aq I5.wll hy;have ze:∀{b:Ry}{o:HO},H5 b=A? o->(upd (upd H5 dy (.own y)) y (.ins T.e_Ways dy [])) b=A? o:=λe=>by rw[ac (aq e hy),ac (aq e G5)];exact e
  have k5:KT H5 (upd (upd H5 dy (.own y)) y (.ins T.e_Ways dy [])):=λb xs e=>ze e;refine⟨y,dy,ka,pa,rt,nm,m,rows.length,_,Dq,cs,To,Ls,ar,CA,ad,ze (kt I5.sb _ _ yU),Hn,ze Au,fA (P2.mapl (R:=At (upd (upd H5 dy (.own y)) y (.ins T.e_Ways dy []))) (f:=λrow:List Th=>row.getD i bd) (Yj (λ_ _ e=>At.mono k5 e) Jk)),P4.mono k5,λw H8 Ws wx wn Kg P5 wm P6 P7 P8=>?_⟩;have P9:Ye H5 H8:=jQ hy G5 Kg;have I8:=I5.same P9
  have Dx:∀b∈w.bs,H5 b=none:=λb hb=>by
   have:=P8 b hb;cases z:H5 b with
   |none=>rfl
   |some o=>rw[ze z]at this;cases this
  have I9:=I8.add P5 (λb hb=>⟨(I5.null (Dx b hb)).1,(I5.null (Dx b hb)).2.2⟩) (λb hb z=>by
   obtain⟨v,hv,Qa⟩:=UL.mp z;obtain⟨o,e,_⟩:=(I5.wa v hv).some_bs b Qa;rw[Dx b hb]at e;cases e) ⟨Ws,P7.kok hi wn wm Hn P6 (λp hp=>(hW.ap p hp).2.2) C5⟩
  refine⟨CA,wl,_,_,CA,CA,I8.wll,aS (by rw[Rw,I8.len];lia),?_⟩;exact⟨_,_,_,CA,wx ▸ I9⟩
 .rintro σ H3 ⟨c3,c4,ws,rfl,I3⟩;rw[Rw,<-PU]at I3;refineλfd Gh=>?_;have e3:(upd H3 fd (.dT [])) x=A? (.ins T.e_Table dx (jE rows.length wl)):=(ac (I3.null Gh).2.1.symm).trans I3.self;refine⟨_,CA,x,T.e_Table,dx,_,CA,e3,T.cl_Table,T.na_Table_found,(by show 2<1000;decide),?_⟩;have b4:SameB x H3 (upd (upd H3 fd (.dT [])) x (.ins T.e_Table dx (aF (RF "found") (.ref fd) (jE rows.length wl)))):=(Zk (ao Gh _)).trans Yl;have x4:(upd (upd H3 fd (.dT [])) x (.ins T.e_Table dx (aF (RF "found") (.ref fd) (jE rows.length wl)))) x=A? (.ins T.e_Table dx (aF (RF "found") (.ref fd) (jE rows.length wl))):=ad;have f4:(upd (upd H3 fd (.dT [])) x (.ins T.e_Table dx (aF (RF "found") (.ref fd) (jE rows.length wl)))) fd=A? (.dT []):=(ac (I3.null Gh).2.1).trans ad;generalize(upd (upd H3 fd (.dT [])) x (.ins T.e_Table dx (aF (RF "found") (.ref fd) (jE rows.length wl))))=H4 at b4 x4 f4 |-;refine⟨lnE rfl,λst xB=>?_⟩;have Kv:st≠x:=λz=>by rw[z,x4]at xB;cases xB
  have Qb:st≠fd:=λz=>by rw[z,f4]at xB;cases xB
  have GH:H3 st=none:=by
   cases z:H3 st with
   |none=>rfl
   |some o=>rw[b4 st o Kv z]at xB;cases xB
  refine⟨_,CA,x,T.e_Table,dx,_,CA,(ac Kv.symm).trans x4,T.cl_Table,T.na_Table_settled,(by show 3<1000;decide),?_⟩;rw[qh];refine hid λZZ kZ=>?_;obtain⟨h1,h2,h3,h4⟩:=I3.done (fd:=fd) (st:=st) (Hd:=H4) (He:=upd (upd H4 st (.lst [])) x (.ins T.e_Table dx (tbF rows.length wl fd st))) rfl rfl (b4.trans ((Zk (ao xB _)).trans Yl)) ad ((ac (I3.null Gh).2.1).trans ((ac Qb.symm).trans f4)) ((ac Kv).trans ad) Gh GH;refine kZ ?_;exact q _ _ rfl rfl rfl h3 h1 h2 h4
inductive fy(CT CW CM tp:Ry)(vs:List V)(H:Hp)(Q:VK)(E:XK):Prop
 |mk (tb:Tb) (ins:List (R1×Int)) (rows:List (List Th)) (Ls:List Th):vs=[.ref tb.x]->TbAt CT CW H tb->TInv ins rows Ls [] tb.ws.length (λ_ _=>False) tb->fX ins->Ls.Nodup->tb.S<=100000->tb.settled=[]->TabSt H tp (bu aA) cC->(∀H',FrB (tp::tb.mut) H H'->TabSt H' tp (bu aA) cC->Over ins rows Ls->E (.ref CM) B? H')->(∀(xm:Tb)(H':Hp),FrB (tp::tb.mut) H H'->TabSt H' tp (bu aA) cC->TbAt CT CW H' xm->xm.x=tb.x->PInv ins rows Ls xm.found xm.settled (ClAll ins xm.settled.length)->(∀e∈xm.found,e∈xm.settled)->Q .non H')->fy CT CW CM tp vs H Q E
theorem iL(L:Lam mg base T.g_23.tc T.g_23.tp):FnOk P w K mg base (CX1 P w) 6 T.g_23.f T.g_23.d ["self"] (fy T.e_Table T.e_Ways T.e_Many T.g_23.tp):=by
 refine T.g_23.F.okT1 T.g_23.th cv (λvs H Q E h=>?_) (λA outer s H vs Q E hr h=>?_)
 .obtain⟨tb,ins,rows,Ls,rfl,_⟩:=h;rfl
 obtain⟨tb,ins,rows,Ls,rfl,ht,hI,hg,yx,hS,C1,xV,qE,q⟩:=h
 refine⟨_,(af (bC VW rfl (cK (aT (pv 0) rfl)) (pgN 1 cv.nd) (ak (bT (qL (bS (aT (pv 1) rfl) (λ_=>rfl))) (ak (aY (dQ (pv 0) T.cl_Table T.g_21.me (dX T) (hr.mono (by first|decide|lia)) T.g_21.b .nil l9 (aa (pv 1) (aa (fH (pv 1) T.cl_Ways T.g_16.me (ck T) (hr.mono (by first|decide|lia)) T.g_16.b .nil fo ) (aa aj (aa (aE ae) ae))))))) bA)))
  (ak (gp VW (be oq (aZ bf rfl T.n_4 TF (aa (aT (pv 0) rfl) ae)) (aZ gJ rfl T.n_4 TF (aa (aT (pv 0) rfl) ae)) (bj _)) (af (av 2 cv.nd (cD (N:=["knots","note","tree"]) (js:=[B?,B?,B?]) (g:=(jG K 3 (bU (aw 0) (bU (aw 1) (bU (aw 2) jF))))) (tt:=bN) (te:=(bP 1)) rfl (dz rfl (by decide +kernel) (by decide +kernel) rfl rfl rfl) (cK (aT (pv 0) rfl)) (λ_ _ _ _ _ _=>(bc rfl (am (pgN 0 lj) (am (pgN 1 lj) (am (pgN 2 lj) aN))))) (gH (bG aR (aU rfl) (bG aR (aU rfl) (bG aR (aU rfl) gw)))) (λ_ _ _ _ _ _=>cb) (λ_ _ _ _ _ _=>(pv 1))))
  (af (eM (iC (i:=3) (N:=["note","entry","done"]) (js:=[B?,B?,A? 2]) (g:=(jG K 2 (bU (aw 0) (bU (aw 1) jF)))) (tt:=(tR (tOp (oO K 150) (bP 0) (bP 2)))) (te:=(bP 1)) cv.nd rfl (Or.inl rfl) rfl (dz rfl (by decide +kernel) (by decide +kernel) rfl rfl rfl) (eN (aT (pv 0) rfl)) (λ_ _ _ _ _ _=>(bc rfl (am (pgN 0 vF) (am (pgN 1 vF) aN)))) (gH (bG aR (aU rfl) (bG aR (aU rfl) gw))) (λ_ _ _ _ _ _=>n8 (be (pX (B:=150) (qK hr)) (pv 0) (pv 2) (by with_unfolding_all rfl))) (λ_ _ _ _ _ _=>(pv 1))))
  (ak (aY (dQ (pv 0) T.cl_Table T.g_22.me (gG T) (hr.mono (by first|decide|lia)) T.g_22.b .nil l9 (aa (sJ (k:=2) rfl (hr.mono (by first|decide|lia)) rfl T.n_6 (aa (pv 3) ae) (uX (pos:=bu aA) (params:=uL aA) (body:=uB aA) (scope:=tj aA) (cl:=[]) L rfl rfl)) ae))))))))),?_⟩
 try dsimp only[xS,xj]
 refine⟨_,CA,tb.x,T.e_Table,tb.dx,_,_,CA,ht.ins,T.cl_Table,T.na_Table_ways,ui,tb.wl,CA,⟨_,Yg ht.wl⟩,?_⟩
 refine dL (K:=K) (a:=tb.wl) (xs:=tb.ws.map λw=>Zf w.x) (λi σ H1=>Ex4 λ(c1 c2 c3:Option V)(xm:Tb)=>An5 (σ=[A? (.ref tb.x),c1,B?,B?]) (FrB tb.mut H H1) (TbAt T.e_Table T.e_Ways H1 xm) ((xm.x=tb.x/\xm.settled=[]/\xm.mut=tb.mut/\xm.ws=tb.ws/\xm.wl=tb.wl/\xm.S=tb.S)) (TInv ins rows Ls [] xm.ws.length (λnm ks=>(∃m:Nat,m<i/\ins[m]?=A? (nm,0))/\ks=[]) xm))
  ⟨B?,B?,B?,tb,rfl,FrB.refl,ht,⟨rfl,C1,rfl,rfl,rfl,rfl⟩,hI.congr λnm ks z=>?_⟩ (λi σ H1 _⟨_,_,_,xm,_,_,h1,⟨_,_,_,hw,hl,_⟩,_⟩=>?_) ?_ ?_
 .refine hid λZZ kZ=>?_;obtain⟨⟨m,hm,_⟩,_⟩:=z;refine kZ ?_;exact Yd hm (Vp _)
 .have:=h1.wl;rw[hw,hl]at this;exact Yg this
 .rintro i x σ H1 hx ⟨c1,c2,c3,xm,rfl,f1,h1,⟨x1,x2,x3,x4,x5,x6⟩,Bh⟩;rw[RG]at hx;obtain⟨w',yG,rfl⟩:=RW.mp hx;have Kx:xm.ws[i]?=A? w':=by rw[x4];exact yG
  have Cr:=Rx Kx;have yu:=h1.wa w' Cr;have yD:=(glE Kx);obtain⟨Ws,hk⟩:=Bh.k i w' Kx;rw[Yb yD]at hk;dsimp only[aw];refine⟨_,CA,w'.x,T.e_Ways,w'.dx,_,_,CA,yu.ins,T.cl_Ways,T.na_Ways_agreeing,ow,!w'.ks.isEmpty,.inl ⟨_,Yg yu.al,by cases w'.ks <;> rfl⟩,?_⟩;cases Ky:w'.ks.isEmpty with
  | true =>
    have zr:w'.ks=[]:=List.isEmpty_iff.mp Ky;refine cE ⟨_,rfl,tb.x,xm.dx,_,rfl,by rw[<-x1];exact h1.ins,kI,_,rfl,_,rfl,w'.x,w'.dx,_,rfl,yu.ins,eu,w',rfl,yu,(by have:=hk.len;have h':=hk.psl;lia),lnE rfl,λka FZ=>?_⟩;refine gU FZ λH2 s2 yU=>?_;have h2:=h1.same s2;have yF:=Bh.p;have Kz:([]:List Nat).length=w'.ks.length:=by rw[zr];rfl
    have Ah:∀n∈([]:List Nat),n<xm.settled.length:=by intro n hn;cases hn
    have Gi:∀e∈xm.settled,Told ins rows Ls e:=λe he=>by rw[x2]at he;cases he
    have Dy:ones w'.ps.length=(cnd (w'.ks.map (·.ag)) [] (ones w'.ps.length) []).b:=rfl;refine⟨xm,w',ones w'.ps.length,0,ka,[],?_,h2,Cr,yU,Ah,by simp,?_,by rw[Bh.S];exact hk.pz,(by have:=hk.len;have h':=hk.psl;lia),by rw[x6];exact hS,yF.f2,yF.f3,hk.nq,λnote H3 hN xu hF s3=>?_,λc H3 F' hN Dj MB hE yQ h3=>?_⟩
    .rw[x1];rfl
    .rw[Dy,hk.psl];exact(hk.ag.bits (Z:=[]) Kz Ah).1
    .rw[Bh.S,Dy]at hN;have:=hk.told (c:=⟨(Zi w'.nm (az xm.settled [])).size,note,.knot w'.nm (az xm.settled []),0,0,0⟩) hg yx Gi Kz Ah hN rfl rfl;refine qE H3 (((f1.trans (Zn (s2.trans s3))).more λb hb=>RT _ hb)) ?_ (yF.over hF xu this.fit this.note);exact xV.frb ht.mutOk (f1.trans (Zn (s2.trans s3)))
    .have Ks:=hN;rw[Bh.S,Dy]at hN;have hx:=hk.told hg yx Gi Kz Ah hN MB (by rw[Dj];rfl);refine⟨_,B?,B?,{xm with found:=F'},CA,f1.trans (((Zn s2).trans λb u hb z=>yQ b u (λy=>hb (by rw[y,<-x3];unfold Tb.mut;simp)) z)),h3,⟨x1,x2,x3,x4,x5,x6⟩,?_⟩;refine(Bh.enter (nm:=w'.nm) (js:=[]) hE hx MB λy hy=>?_).congr λnm ks z=>?_
     .rw[x2]at hy;cases hy
     .obtain⟨⟨m,hm,Cs⟩,rfl⟩:=z;by_cases y:m=i
      .subst y;have zk:=hk.nm;rw[Cs]at zk;exact .inr ⟨Zd WL (RN zk),rfl⟩
      .exact .inl ⟨⟨m,by lia,Cs⟩,rfl⟩
  | false =>
    have zr:w'.ks≠[]:=λz=>by rw[z]at Ky;cases Ky
    refine cm ⟨_,B?,B?,xm,rfl,f1,h1,⟨x1,x2,x3,x4,x5,x6⟩,Bh.congr λnm ks z=>?_⟩;obtain⟨⟨m,hm,Cs⟩,rfl⟩:=z;by_cases y:m=i
    .subst y;have zk:=hk.nm;rw[Cs]at zk;have:=Zd XM (RN zk);have h0:(0:Int)=((w'.ks.length:Nat):Int):=this;exact Yd (T9.mp (by lia)) zr
    .exact⟨⟨m,by lia,Cs⟩,CA⟩
 rintro σ H1 ⟨c1,c2,c3,Qc,rfl,f1,h1,⟨x1,x2,x3,x4,x5,x6⟩,Bh⟩;rw[Rw]at Bh;have zX:=xV.frb ht.mutOk f1
 refine⟨λm σ H2=>Ex4 λ(d1 d2 d3:Option V)(t:Tb)=>An9 (σ=[A? (.ref tb.x),d1,d2,d3]) (FrB (T.g_23.tp::tb.mut) H H2) (TabSt H2 T.g_23.tp (bu aA) cC) (TbAt T.e_Table T.e_Ways H2 t) (t.x=tb.x) (t.mut=tb.mut) (t.S=tb.S) ((∃old,TInv ins rows Ls old t.ws.length (ClAll ins t.settled.length) t)) (m=30 - t.settled.length),
  ⟨_,_,_,_,Qc,CA,f1.more (λb hb=>RT _ hb),zX,h1,x1,x3,x6,⟨[],Bh.congr λnm ks z=>?_⟩,CA⟩,?_⟩
 .obtain⟨⟨m,hm⟩,hk⟩:=z;rw[x2]at hk
  have:ks=[]:=by
   cases ks with
   |nil=>rfl
   |cons k ks=>exact Yd (hk k (RX ..)) (Vp _)
  subst this;refine⟨⟨m,?_,hm⟩,CA⟩;have:=(glE hm);have h':=Bh.n;rw[x4]at h';lia
 rintro m σ H2 ⟨d1,d2,d3,t,rfl,f2,yp,h2,y1,y3,y6,⟨old,Gj⟩,rfl⟩;have xK:=Gj.p;have zm:H2 tb.x=A? (.ins T.e_Table t.dx (tbF t.S t.wl t.fd t.st)):=by rw[<-y1];exact h2.ins
 refine⟨_,CA,tb.x,T.e_Table,t.dx,_,_,CA,zm,T.cl_Table,T.na_Table_settled,kh,t.st,_,CA,.inl (Yg h2.st),_,CA,tb.x,T.e_Table,t.dx,_,_,CA,zm,T.cl_Table,T.na_Table_found,jl,t.fd,_,CA,h2.fd,_,_,CA,CA,_,CA,?_⟩;rw[Rw,iE];by_cases xf:t.settled.length<t.found.length
 .rw[Yc (show((t.settled.length:Nat):Int)<((t.found.length:Nat):Int)by lia)];refine cE ⟨_,λi' H' h=>h,?_⟩;obtain⟨e0,DR,GG⟩:=xK.some_late xf;have Rt:=xK.s30;have Ru:=xK.f3;refine⟨_,CA,tb.x,T.e_Table,t.dx,_,_,CA,zm,T.cl_Table,T.na_Table_settled,kh,t.st,CA,⟨_,Yg h2.st⟩,fN t.settled (λe=>Zf e.na) (Yg h2.st) (by rw[Rw]) (by rw[Rw];lia) (λi x z H3 R W' hx hz s3 hR=>?_) (λdn H3 zF s3 BP=>?_)⟩
  .rw[RG,hz]at hx;cases hx;have F9:=(h2.same s3).se z (Rx hz);refine⟨z.a,_,CA,Ze F9.a,CA,_,_,CA,_,_,CA,_,_,CA,CA,?_⟩;exact⟨_,CA,hR H3 (λ_ _ e=>e)⟩
  have h3:=h2.same s3;have Gk:=yp.mono s3;dsimp only[aw];change iY _ _ _ _;refine mm (d:=t.fd) (kvs:=nfv t.found) (p:=λkv=>!decide (mO kv.1∈t.settled.map (·.note))) (λR hR=>⟨_,rfl,tb.x,T.e_Table,t.dx,_,_,rfl,s3 _ _ zm,T.cl_Table,T.na_Table_found,jl,hR⟩) h3.fd (by rw[iE];lia) (λi kv pa b H4 R W' xQ DV Au eb KA KC=>?_) (λla H4 s4 DQ MC=>?_)
  .obtain⟨e,he,rfl⟩:∃e,t.found[i]?=A? e/\(eg e.note,Zf e.a)=kv:=by
    unfold nfv at xQ;rw[RG]at xQ;exact RW.mp xQ
   dsimp only at Au eb KA KC;rw[qA]at eb;have BF:dn≠t.fd:=aC BP h3.fd (λz=>nomatch z);have k4:KT H3 H4:=λc xs ec=>DV c _ (aC ec h3.fd (λz=>nomatch z)) ec;refine⟨pa,_,CA,Ze Au,CA,_,_,CA,_,_,CA,CA,?_⟩;dsimp only[aw];refine⟨_,CA,_,CA,dn,_,nDv e.note,t.settled.map λe=>nDv e.note,CA,Yg (DV _ _ BF BP),qq eb,og λy hy=>(h3.se y hy).mono k4,Ss jV (by decide),λr hr=>⟨r,CA,?_⟩⟩;have Hz:r=Bz↔e.note∉t.settled.map (·.note):=hr.trans (not_congr sW);rw[eF]at KA KC;by_cases z:e.note∈t.settled.map (·.note)
   .have:r=false:=by
     cases r with
     |false=>rfl
     |true=>exact Yd z (Hz.mp rfl)
    subst this;refine KC ?_;rw[Yc z];rfl
   .rw[Hz.mpr z];refine⟨_,CA,KA ?_⟩;rw[Zb z];rfl
  rw[pF]at MC;have h4:=h3.same s4;have Ct:=Gk.mono s4;have F8:=s3.trans s4;dsimp only[aw]
  refine⟨_,CA,tb.x,t.dx,_,CA,F8 _ _ zm,kI,_,CA,Ct,λf c' H5 s5 et yf Qd hf=>?_⟩;have MD:=Ct.sameO s5;have h5:=h4.sameO MD;have Gm:=MD _ _ MC (λ_ z=>nomatch z);have Gn:TabSt H5 T.g_23.tp (bu aA) cC:=.inr ⟨c',et,yf⟩;have Qe:FrB (T.g_23.tp::tb.mut) H2 H5:=λb o hb e=>s5 b o (λz=>hb (by rw[z];exact RX ..)) (F8 b o e)
  have Qf:(nfv (fg t.found t.settled)).map (·.2)=(fg t.found t.settled).map λe=>Zf e.a:=by
   unfold nfv;rw[Sr];rfl
  rw[Qf]at Gm;have AW:0<(fg t.found t.settled).length:=List.length_pos_of_mem ((eV xK).mpr ⟨DR,GG⟩)
  have ME:∀{i:Nat}{x:V},((fg t.found t.settled).map λe=>Zf e.a)[i]?=A? x->∃e,(fg t.found t.settled)[i]?=A? e/\x=.ref e.a:=λh=>by
   rw[RG]at h;obtain⟨e,h1,h2⟩:=RW.mp h;exact⟨e,h1,h2.symm⟩
  refine⟨la,f,_,λi=>(((fg t.found t.settled)[i]?).map NtE.key).getD (0,[]),rL f c',CA,CA,Gm,by rw[Rw];exact AW,vh T f c',λi x H6 hx s6=>?_,λi x H6 hx s6 zE=>?_⟩
  .obtain⟨e,he,rfl⟩:=ME hx;have By:=((eV xK).mp (Rx he)).1;refine⟨e,CA,Qd.mono s6,yf.mono s6,(h5.same s6).fe e By,λκ H7 s7 hk=>⟨κ,CA,s7,?_⟩⟩;rw[he];exact hk
  obtain⟨e,he,rfl⟩:=ME hx;obtain⟨HG,zC⟩:=(eV xK).mp (Rx he);have h6:=h5.same s6;have MF:FrB (T.g_23.tp::tb.mut) H2 H6:=Qe.trans (Zn s6);have Cu:=Gn.mono s6;have sub:∀b∈t.mut,b∈T.g_23.tp::tb.mut:=λb hb=>by rw[y3]at hb;exact RT _ hb
  refine⟨t,e,ins,rows,Ls,old,_,by rw[y1];rfl,h6,Gj,hg,yx,by rw[y6];exact hS,HG,zC,λy hy zM=>?_,λH7 f7 ho=>qE H7 (f2.trans (MF.trans (f7.more sub))) (Cu.frb h6.mutOk f7) ho,λt' H7 f7 h7 z1 z2 z3 z4 zH=>?_⟩
  .obtain⟨j,hj⟩:=RS.mp ((eV xK).mpr ⟨hy,zM⟩);have:=zE j (by rw[Rw];exact(glE hj));rw[hj,he]at this;exact this
  have GO:=zH.p.s30;rw[z2,RK,R8]at GO;refine⟨30 - t'.settled.length,?_,_,_,_,t',CA,f2.trans (MF.trans (f7.more sub)),Cu.frb h6.mutOk f7,h7,z1.trans y1,z3.trans y3,?_,⟨_,zH.congr λnm ks z=>?_⟩,CA⟩
  .rw[z2,RK,R8];lia
  .have g1:=zH.S;have g2:=Gj.S;lia
  .rw[z2,RK,R8]at z;rcases z.succ with z|z
   .exact .inl z
   .exact .inr z
 .rw[Zb (show¬((t.settled.length:Nat):Int)<((t.found.length:Nat):Int)by lia)];refine cm ?_;exact q t H2 f2 yp h2 y1 xK (xK.all (by lia))
inductive l6(vs:List V)(H:Hp)(Q:VK)(_E:XK):Prop
 |mk (d na:Ry) (es:CLs) (note:List Int):vs=[.ref d,.ref na]->H d=A? (.dT (dE es))->H na=A? (.tup (note.map Yh))->es.length<=10000->note.length<=1000000->(∀e∈es,∃s:Nat,e.1.1=(s:Int)/\s<note.length)->(∀(b:Bool)(H':Hp),Ye H H'->(b=Bz↔Makes es note)->Q (.bl b) H')->l6  vs H Q _E
theorem rp:FnOk P w K mg base CX0 1 T.g_25.f T.g_25.d ["needs","note"] l6:=by
 refine T.g_25.F.okA qB λxi A outer s H vs Q E hr h=>?_;obtain⟨d,na,es,note,rfl,ed,Bt,DN,Bx,zC,q⟩:=h;refine⟨_,(ak (aP (aZ (rM rfl) rfl T.n_1 PyProof.Rows.boot_all (aa (rT (cD (N:=["state","kid","wished","note"]) (js:=[B?,B?,B?,A? 1]) (g:=(jG K 2 (bU (jG K 2 (bU (aw 0) (bU (aw 1) jF))) (bU (aw 2) jF)))) (tt:=bN) (te:=(tOp (rEq) (tOp (pA K) (bP 3) (bP 0)) (bP 2))) rfl (dz rfl (by decide +kernel) (by decide +kernel) rfl rfl rfl) (eN (pv 0)) (λ_ _ _ _ _ _=>(bc rfl (am (bc rfl (am (pgN 0 vf) (am (pgN 1 vf) aN))) (am (pgN 2 vf) aN)))) (gH (bG nB (gH (bG aR (aU rfl) (bG aR (aU rfl) gw))) (bG aR (aU rfl) gw))) (λ_ _ _ _ _ _=>cb) (λ_ _ _ _ _ _=>(iA dY (aH aG (pv 3) (pv 0) (λ_ _=>rfl)) (pv 2) (bj _))))) ae)))),?_⟩
 try dsimp only[xS,xj]
 change iY _ _ _ _;refine l8 (d:=d) (es:=es) (val:=λe=>V.bl ((note[e.1.1.toNat]?).getD 0 == e.2)) (λR hR=>⟨_,rfl,hR⟩) ed DN (λi e p b H2 R he sb ep eb hR=>?_) (λD H2 s2 eD=>?_)
 .obtain⟨s',h1,h2⟩:=zC e (Rx he);have yx:na≠d:=aC Bt ed (λz=>nomatch z);have Qg:H2 b=A? (.tup [.int e.1.1,.int e.1.2]):=eb;refine⟨p,_,CA,Ze ep,CA,_,_,CA,⟨b,_,CA,Ze Qg,CA,_,_,CA,_,_,CA,CA,_,_,CA,CA,?_⟩⟩;dsimp only[aw];refine⟨_,CA,_,CA,na,_,(s':Int),.int (note[s']),CA,by rw[h1],Ze (sb _ _ yx Bt),bz (j:=s') (by rw[RG,RA h2];rfl),_,CA,CA,?_⟩
  have:V.bl (decide (Yh note[s']=Yh e.2))=V.bl ((note[e.1.1.toNat]?).getD 0 == e.2):=by
   rw[iH,h1,RU,RA h2];rfl
  rw[this];exact hR
 .refine⟨D,es.map λe=>(note[e.1.1.toNat]?).getD 0 == e.2,CA,?_,q _ H2 s2 ?_⟩
  .rw[Sr];exact Yg eD
  .rw[List.all_map,WO];unfold Makes;refine forall_congr' λe=>forall_congr' λhe=>?_;obtain⟨s',h1,h2⟩:=zC e he;show((note[e.1.1.toNat]?).getD 0 == e.2)=Bz↔_;rw[h1,RU,RA h2,beq_iff_eq];exact⟨λz=>Zd A? z,λz=>RN z⟩
inductive eL(CT CW CM tp:Ry)(vs:List V)(H:Hp)(Q:VK)(E:XK):Prop
 |mk (ba wa:Ry) (ins:List (R1×Int)) (head:Th) (rows:List (List Th)) (t:Th) (ar:R1->Nat):vs=[.ref ba,.ref wa]->WBk H ins head rows ba->At H t wa->WCd ins rows t ar->TabSt H tp (bu aA) cC->(∀H',SameT tp H H'->TabSt H' tp (bu aA) cC->Over ins rows (post t [])->E (.ref CM) B? H')->(∀(l:Ry)(ps:List Ry)(F St:List NtE)(H':Hp),SameT tp H H'->TabSt H' tp (bu aA) cC->H' l=A? (.lst (ps.map Zf))->Sb (λ(e:NtE)p=>H' p=A? (.tup [.ref e.na,.ref e.ta])) St ps->(∀e∈St,NtA H' e)->PInv ins rows (post t []) F St (ClAll ins St.length)->(∀e∈F,e∈St)->Q (.ref l) H')->eL CT CW CM tp vs H Q E
theorem dM(L:Lam mg base T.g_23.tc T.g_23.tp):FnOk P w K mg base (CX1 P w) 8 T.g_24.f T.g_24.d ["book","wish"] (eL T.e_Table T.e_Ways T.e_Many T.g_23.tp):=by
 refine T.g_24.F.ok1 di (λvs H Q E h=>?_) (λxi A outer s H vs Q E hr h=>?_)
 .obtain⟨ba,wa,ins,head,rows,t,ar,rfl,_⟩:=h;rfl
 obtain⟨ba,wa,ins,head,rows,t,ar,rfl,hb,hA,hc,xV,qE,q⟩:=h
 refine⟨_,(af (kP (pcF T.g_10 (fu T) hr (aa (pv 1) ae)) (bc rfl (am (pgN 2 di.nd) (am (pgN 3 di.nd) aN))))
  (af (av 4 di.nd (nY ⟨T.mi_Table.1,T.g_20.me.1,T.g_20.me.2,T.mi_Table.2⟩ (jN T) (hr.mono (by first|decide|lia)) rfl T.x_Table T.g_20.b .nil fo (aa (pv 0) (aa (pv 2) ae))))
  (af (aY (fH (pv 4) T.cl_Table T.g_23.me (iL T L) (hr.mono (by first|decide|lia)) T.g_23.b .nil l9 ))
  (ak (aP (cD (N:=["knots","note","tree"]) (js:=[B?,B?,B?]) (g:=(jG K 3 (bU (aw 0) (bU (aw 1) (bU (aw 2) jF))))) (tt:=bN) (te:=(vQ (b9 (bP 1) (b9 (bP 2) iV)))) rfl (dz rfl (by decide +kernel) (by decide +kernel) rfl rfl rfl) (cK (aT (pv 4) rfl)) (λ_ _ _ _ _ _=>(bc rfl (am (pgN 0 lj) (am (pgN 1 lj) (am (pgN 2 lj) aN))))) (gH (bG aR (aU rfl) (bG aR (aU rfl) (bG aR (aU rfl) gw)))) (λ_ _ _ _ _ _=>cb) (λ_ _ _ _ _ _=>(aE (aa (pv 1) (aa (pv 2) ae)))))))))),?_⟩
 try dsimp only[xS,xj]
 refine⟨_,CA,wa,t,CA,hA,hc.tc,hc.ts,λr rt cs To ix H1 s1 er FP Bv xp Br=>?_⟩;refine⟨r,_,CA,Ze er,CA,_,_,CA,_,_,CA,CA,?_⟩;dsimp only[aw];refine⟨_,CA,_,CA,λx dx hx MG xx=>?_⟩;have HK:∀{b:Ry}{o:HO},H1 b=A? o->(upd (upd H1 dx (.own x)) x (.ins T.e_Table dx [])) b=A? o:=λe=>by rw[ac (aq e hx),ac (aq e MG)];exact e
 have k1:KT H (upd (upd H1 dx (.own x)) x (.ins T.e_Table dx [])):=λb xs e=>HK (s1 _ _ e);refine hid λZZ kZ=>?_;obtain⟨ia,ha,ra,v2,Af,yR,e1,e2,e3,e4,e5,e6⟩:=(hb.mono k1).ex;refine kZ ?_
 have Hf:(post t []).length<=t.size:=by
  have:=(qI t []).2;rw[U4]at this;lia
 refine⟨x,dx,ba,ia,ra,rt,v2,.ref ha,Af,yR,ins,rows,cs,To,post t [],ar,CA,ad,e1,e2,e3,e4,e5,(by have:=hc.gi.le;lia),hc.rl,hc.row,λa nm c hi=>⟨hc.nq _ (Rx hi),?_⟩,λtb H2 z1 z2 z3 AH h2 Gj BJ=>?_⟩
 .have BO:=hc.gi.num _ (Rx hi);obtain⟨m,rfl⟩:=Int.eq_ofNat_of_zero_le BO.1;refine⟨m,CA,by have:=BO.2;dsimp only at this;lia,HK FP,Yj (λ_ _ e=>HK e) Bv,xp,re (λu hu v hv=>Ars.kids hu hv) hc.ta,λp hp=>?_,Rw _,Ss (Nat.mul_le_mul_left _ Hf) hc.big⟩;obtain⟨h1,h3,h4⟩:=hc.pt a nm _ hi p hp;refine⟨h1,h3,λs k hm=>?_⟩;refine hid λZZ kZ=>?_;obtain⟨⟨k',h5,h6⟩,h7⟩:=h4 s k hm;refine kZ ?_;exact⟨⟨k',h5,by lia⟩,h7⟩
 have s2:Ye H1 H2:=jQ hx MG AH;have Bi:=s1.trans s2;have yp:=xV.mono Bi
 have nul:∀b∈tb.mut,H b=none:=λb xC=>by
  have:=BJ b xC;cases z:H b with
  |none=>rfl
  |some o=>rw[HK (s1 _ _ z)]at this;cases this
 have toT:∀{H3:Hp},FrB (T.g_23.tp::tb.mut) H2 H3->SameT T.g_23.tp H H3:=λf b o xC e=>f b o (λz=>by
  rcases RR.mp z with z|z
  .exact xC z
  .rw[nul b z]at e;cases e) (Bi b o e)
 refine⟨CA,?_⟩;refine⟨_,CA,x,tb.dx,_,CA,by rw[<-z1];exact h2.ins,kI,tb,ins,rows,post t [],by rw[z1];rfl,h2,Gj,hc.gi,cf t,by rw[z3];have:=hc.rl;lia,z2,yp,λH3 f3 t3 ho=>qE H3 (toT f3) t3 ho,λt' H3 f3 t3 h3 y1 zj xc=>?_⟩;have Qh:=zj.s30;refine⟨_,CA,x,T.e_Table,t'.dx,_,_,CA,by rw[<-z1,<-y1];exact h3.ins,T.cl_Table,T.na_Table_settled,kh,t'.st,CA,⟨_,Yg h3.st⟩,oM (F:=λH(e:NtE)p=>H p=A? (.tup [.ref e.na,.ref e.ta])) (xs:=t'.settled.map λe=>Zf e.a) t'.settled (λHa Hb z p kt h=>kt _ _ h) (by rw[Rw]) (by rw[Rw];lia) (λi Hx sx hi=>⟨_,_,Yg (sx _ _ h3.st),RA hi⟩) (λHx sx=>⟨_,Yg (sx _ _ h3.st),RI _⟩) (λi Hx y Hy sx hi hy=>⟨hy.1,hy.2 _ (Yg (sx _ _ h3.st))⟩) (λi y z Hx R W' hy hz sx hR=>?_) (λl H4 ps hl s4 el yT=>?_)⟩
 .rw[RG,hz]at hy;cases hy;have F9:=(h3.same sx).se z (Rx hz);refine⟨z.a,_,CA,Ze F9.a,CA,_,_,CA,_,_,CA,_,_,CA,CA,?_⟩;dsimp only[aw];exact⟨_,CA,_,CA,lnE rfl,λp hp=>hR _ p (ao hp _) ad⟩
 .refine q l ps t'.found t'.settled H4 ((toT f3).trans (s4.t _)) (t3.mono s4) el yT (λe he=>(h3.se e he).mono (Zg s4)) zj xc
inductive gX(CT CW CM tp:Ry)(vs:List V)(H:Hp)(Q:VK)(E:XK):Prop
 |mk (ba wa:Ry) (ins:List (R1×Int)) (head:Th) (rows:List (List Th)) (t:Th) (ar:R1->Nat):vs=[.ref ba,.ref wa]->WBk H ins head rows ba->At H t wa->WCd ins rows t ar->vt rows ar head->TabSt H tp (bu aA) cC->(∀H',SameT tp H H'->TabSt H' tp (bu aA) cC->Over ins rows (post t [])->E (.ref CM) B? H')->(∀H',SameT tp H H'->TabSt H' tp (bu aA) cC->lZ ins rows t->(∀u:Th,u.Fit ins->lT ins rows head u≠t)->Q .non H')->(∀(ua:Ry)(u:Th)(H':Hp),SameT tp H H'->TabSt H' tp (bu aA) cC->lZ ins rows t->At H' u ua->u.Fit ins->lT ins rows head u=t->(∀v:Th,v.Fit ins->lT ins rows head v=t->u.size<=v.size)->Q (.ref ua) H')->gX CT CW CM tp vs H Q E
theorem mZ(L:Lam mg base T.g_23.tc T.g_23.tp):FnOk P w K mg base (CX1 P w) 10 T.g_26.f T.g_26.d ["book","wish"] (gX T.e_Table T.e_Ways T.e_Many T.g_23.tp):=by
 refine T.g_26.F.ok1 cR (λvs H Q E h=>?_) (λxi A outer s H vs Q E hr h=>?_)
 .obtain⟨ba,wa,ins,head,rows,t,ar,rfl,_⟩:=h;rfl
 obtain⟨ba,wa,ins,head,rows,t,ar,rfl,hb,hA,hc,hh,xV,qE,q0,q⟩:=h
 refine⟨_,(af (kP (pcF T.g_10 (fu T) hr (aa (pv 1) ae)) (bc rfl (am (pgN 2 cR.nd) (am (pgN 3 cR.nd) aN))))
  (af (av 4 cR.nd (pcF T.g_11 (ig T) hr (aa (pcF T.g_5 (mw T) hr (aa (pv 0) ae)) (aa (pv 2) (aa (pv 3) ae)))))
  (af (bC VW rfl (cK (oC (dM T L) (hr.mono (by first|decide|lia)) rfl T.g_24.m T.g_24.F.kp T.g_24.b .nil l9 (aa (pv 0) (aa (pv 1) ae)))) (bc rfl (am (pgN 5 cR.nd) (am (pgN 6 cR.nd) aN))) (ak (bT (PW.pt (nj (be oj (pv 4) iI (bj _)) (lg (bS (pcF T.g_25 (rp T) hr (aa (pv 4) (aa (pv 5) ae))) (λ_=>rfl))))) (ak (aP (pv 6))) bA)))
  (ak (aP iI))))),?_⟩
 try dsimp only[xS,xj]
 refine⟨_,CA,wa,t,CA,hA,hc.tc,hc.ts,λr rt cs To ix H1 s1 er FP Bv xp Br=>?_⟩;refine⟨r,_,CA,Ze er,CA,_,_,CA,_,_,CA,CA,?_⟩;dsimp only[aw];have hb1:=hb.mono (Zg s1);refine hid λZZ kZ=>?_;obtain⟨ia,ha,ra,v2,Af,yR,e1,e2,e3,e4,e5,e6⟩:=hb1.ex;refine kZ ?_;refine bw (λi' H'=>Ex1 λ(nv:V)=>An3 (i'=[A? (.ref ba),A? (.ref wa),A? (.ref rt),A? (.int (ix:Nat)),A? nv,B?,B?]) (Ye H1 H') (((nv=.non/\∀g,head.fill g≠t)\/∃(d:Ry)(es:CLs),nv=.ref d/\H' d=A? (.dT (dE es))/\hG (post t []) head t es))) (λkk hk=>?_) ?_
 .refine⟨_,CA,ba,_,_,_,_,CA,e1,_,CA,_,CA,ha,rt,ix,head,t,cs,To,post t [],ar,CA,e6,FP,Bv,xp,Br,hh.ar,re (λu hu v hv=>Ars.kids hu hv) hc.ta,hh.sz,λH2 s2 xu=>?_,λd es H2 s2 _ ed hn=>?_⟩
  .exact hk _ _ ⟨.non,rfl,s2,.inl ⟨rfl,xu⟩⟩
  .exact hk _ _ ⟨.ref d,rfl,s2,.inr ⟨d,es,rfl,ed,hn⟩⟩
 rintro i' H2 ⟨nv,rfl,s2,MH⟩;have Bi:=s1.trans s2;have yp:=xV.mono Bi;refine⟨_,CA,_,CA,ba,wa,ins,head,rows,t,ar,CA,hb.mono (Zg Bi),hA.mono (Zg Bi),hc,yp,λH3 s3 t3 ho=>qE H3 ((Bi.t _).trans s3) t3 ho,λl ps F St H3 s3 t3 el yT MI hp xc=>?_⟩;have Qi:=yp.sameO s3;have Cv:lZ ins rows t:=⟨F,St,hp,xc⟩;have Qj:St.length=ps.length:=R9 yT;have Gp:∀e∈St,Told ins rows (post t []) e:=λe he=>hp.f1 e (hp.s1 e he);refine⟨l,CA,⟨_,Yg el⟩,?_⟩
 refine dL (K:=K) (a:=l) (xs:=ps.map Zf) (λi σ H4=>Ex2 λ(c5 c6:Option V)=>An3 (σ=[A? (.ref ba),A? (.ref wa),A? (.ref rt),A? (.int (ix:Nat)),A? nv,c5,c6]) (Ye H3 H4) (∀e∈St.take i,lT ins rows head e.t≠t))
  ⟨B?,B?,rfl,λ_ _ e=>e,by intro e he;rw[Uo]at he;cases he⟩ (λi σ H4 _⟨_,_,_,s4,_⟩=>Yg (s4 _ _ el)) ?_ ?_
 .rintro i x σ H4 hx ⟨c5,c6,rfl,s4,xu⟩;rw[RG]at hx;obtain⟨p,Ke,rfl⟩:=RW.mp hx;obtain⟨e,he,ep⟩:=Zo yT Ke;have By:=Rx he;have xx:=MI e By;have z9:=Gp e By;refine⟨p,_,CA,Ze (s4 _ _ ep),CA,_,_,CA,_,_,CA,CA,?_⟩;dsimp only[aw]
  have Gq:lT ins rows head e.t≠t->∀f∈St.take (i+1),lT ins rows head f.t≠t:=λh f hf=>by
   rw[take_snoc he]at hf;rcases RM.mp hf with hf|hf
   .exact xu f hf
   .rw[RC.mp hf];exact h
  rcases MH with⟨rfl,Bq⟩|⟨d,es,rfl,ed,hn⟩
  .refine⟨_,CA,CA,_,CA,?_⟩;rw[Yc (show V.non=V.non from rfl)];refine cm (cm ⟨_,_,rfl,s4,Gq λz=>?_⟩);exact Bq _ z
  .have Ai:=s4 _ _ (Qi _ _ ed (λ_ z=>nomatch z));refine⟨_,CA,CA,_,CA,?_⟩;rw[Zb (show¬Zf d=V.non fromλz=>nomatch z)];have Bx:e.note.length=rows.length:=by rw[z9.note.len,cg z9]
   have zk:(∀e'∈es,∃s:Nat,e'.1.1=(s:Int)/\s<e.note.length):=λe' xH=>by
    obtain⟨_,s',h1,h2⟩:=hh.c _ _ (hn.ok e' xH).2;exact⟨s',h1,by lia⟩
   refine cE ⟨_,rfl,_,rfl,d,e.na,es,e.note,rfl,Ai,s4 _ _ xx.na,?_,?_,zk,λb H5 s5 Qk=>⟨b,rfl,?_⟩⟩
   .exact Ss (jW hn) hh.sz
   .have:=hc.rl;lia
   have MJ:=Qk.trans (cW (cf t) hn hh.c z9.note (cg z9));cases b with
   |false=>exact cm ⟨_,_,rfl,s4.trans s5,Gq λz=>by cases MJ.mpr z⟩
   | true =>
     refine cE ⟨_,rfl,?_⟩;refine q e.ta e.t H5 ((Bi.t _).trans (s3.trans ((s4.trans s5).t _))) (t3.mono (s4.trans s5)) Cv (xx.ta.mono (Zg (s4.trans s5))) z9.fit (MJ.mp rfl) λv hv Ql=>?_;refine hid λZZ kZ=>?_;obtain⟨f,hf,Cz,Qm⟩:=hc.full hp xc v hv
     have KD:(aD ins rows v).length=rows.length:=by
      cases v with
      |call s k=>rw[Yn]at hv;exact hv.elim
      |knot n ks=>rw[ay,Rw]
     have h1:=(cW (cf t) hn hh.c Cz KD).mpr Ql;have h2:=(cW (cf t) hn hh.c (Gp f hf).note (cg (Gp f hf))).mp h1;obtain⟨j,hj⟩:=RS.mp hf;refine kZ ?_
     have Qn:i<=j:=by
      refine Wu λz=>?_;exact xu f (Rx (i:=j) (by rw[List.getElem?_take,Yb (by lia)];exact hj)) h2
     have Fb:e.n<=f.n:=by
      rcases Nat.eq_or_lt_of_le Qn with z|z
      .subst z;rw[he]at hj;cases hj;exact RI _
      .have:=kH hp.s2 he hj z;have:=oH this;have h9:(e.n:Int)<=(f.n:Int):=this;lia
     have:=z9.n;lia
 .rintro σ H4 ⟨c5,c6,rfl,s4,xu⟩;rw[Rw,<-Qj,T3]at xu;refine q0 H4 ((Bi.t _).trans (s3.trans (s4.t _))) (t3.mono s4) Cv λu hu ho=>?_;refine hid λZZ kZ=>?_;obtain⟨f,hf,Cz,Qm⟩:=hc.full hp xc u hu;refine kZ ?_;rcases MH with⟨rfl,Bq⟩|⟨d,es,rfl,ed,hn⟩
  .exact Bq _ ho
  .have KD:(aD ins rows u).length=rows.length:=by
    cases u with
    |call s k=>rw[Yn]at hu;exact hu.elim
    |knot n ks=>rw[ay,Rw]
   have h1:=(cW (cf t) hn hh.c Cz KD).mpr ho;exact xu f hf ((cW (cf t) hn hh.c (Gp f hf).note (cg (Gp f hf))).mp h1)
inductive gf(vs:List V)(H:Hp)(Q:VK)(_E:XK):Prop
 |mk (base n:Int):vs=[.int base,.int n]->0<=base->0<=n->Q (.str (nameOf base n)) H->gf  vs H Q _E
theorem cG:FnOk P w K mg base CX0 1 T.g_27.f T.g_27.d ["base","n"] gf:=by
 refine T.g_27.F.okA aX λxi A outer s H vs Q E hr h=>?_;obtain⟨b,n,rfl,h0,hn,q⟩:=h
 refine⟨_,(af (av 2 aX.nd cA)
  (af (av 3 aX.nd cA)
  (af (av 4 aX.nd (aJ eQ (pv 0) aj))
  (af (bC SE rfl (cN rfl T.n_7 (aa aj ae)) (pgN 5 aX.nd) (af (av 3 aX.nd (aJ fF (pv 3) (aH mJ (pv 2) (aJ cq (pv 4) aj) (λ_ _=>rfl))))
  (ak (av 4 aX.nd (aJ eQ (pv 4) aj)))))
  (af (bT (be dY (aJ cq (pv 0) aj) aj (bj _)) (ak (aP (bB mx (pv 3) bW (bE (aJ cT (pv 1) aj))))) bA)
  (af (av 6 aX.nd (aJ cT aj (aJ cq (aJ eQ (pv 0) aj) aj)))
  (af (av 7 aX.nd (aJ cq (aJ cq (aJ eQ (pv 0) aj) aj) (pv 6)))
  (af (av 8 aX.nd (aH mJ (pv 2) (aJ cq (aJ cT (df PySem.F.plainAttrs_str PySem.F.slot_str_index PySem.F.type_str_index rK (pv 2) (aa (aH mJ (pv 3) (pv 7) (λ_ _=>rfl)) ae)) (pv 1)) aj) (λ_ _=>rfl)))
  (ak (aP (aJ fF (aJ fF (bB mx (pv 3) bW (bE (pv 7))) (pv 8)) (bB mx (pv 3) (bE (aJ cT (pv 7) aj)) (bE (pv 6)))))))))))))),?_⟩
 try dsimp only[xS,xj]
 refine⟨_,CA,_,_,CA,CA,⟨by decide,by decide⟩,?_⟩;refine⟨8,CA,by decide,by decide,?_⟩;refine gB (n:=8) (λi σ H2=>Ex1 λkv=>An2 (H2=H) (σ=[A? (.int b),A? (.int n),A? (.str cH),A? (.str (b7 (b / 112) i)),A? (.int (b / 112 / 26 ^ i)),kv,B?,B?,B?])) ⟨B?,rfl,?_⟩ ?_ ?_
 .have e1:b7 (b / 112) 0=RF "":=by
   show(⟨([]:List Nat).toArray⟩:R1)=RF "";decide +kernel
  have e2:b / 112 / 26 ^ 0=b / 112:=by rw[Int.pow_zero,XU]
  rw[e1,e2];rfl
 .rintro i σ H2 hi ⟨kv,rfl,rfl⟩;have h1:=Tr (b / 112 / 26 ^ i) (by decide:(26:Int)≠0);have h2:=T4 (b / 112 / 26 ^ i) (by decide:(0:Int)<26);refine⟨_,CA,_,CA,_,CA,_,_,CA,CA,(by show(0:Int)<26;decide),cH,_,_,CA,CA,bX (by rw[il];decide),j1 h1 h2,_,_,CA,CA,bX ?_,?_⟩
  .rw[cP];show i+1<=1000000;lia
  .refine⟨_,CA,_,_,CA,CA,⟨by decide,by decide⟩,A? (.int (0+i)),CA,?_⟩
   have e1:b / 112 / 26 ^ (i+1)=b / 112 / 26 ^ i / 26:=by
    rw[Int.pow_succ,Int.ediv_ediv_of_nonneg (Int.le_of_lt (Int.pow_pos (by decide)))]
   rw[ny,e1];rfl
 .rintro σ H2 ⟨kv,rfl,rfl⟩;have hw:=cP (b / 112) 8;refine⟨_,CA,_,_,CA,CA,(by show(0:Int)<2;decide),CA,_,CA,?_⟩;refine kG (λc=>?_) (λc=>?_)
  .have c':b%2=1:=V.int.inj (Zc c);refine⟨_,CA,_,CA,_,_,CA,CA,_,CA,_,CA,bX (by rw[hw];decide),?_⟩;have e:nameOf b n=dN (b7 (b / 112) 8) B? (A? (n+1)):=by unfold nameOf;rw[Yb c']
   rw[e]at q;exact q
  .have c':¬b%2=1:=λz=>c (Yc (Zd Yh z));have hs:=gy b;have ha:=qU b;refine⟨_,CA,_,_,CA,CA,⟨by decide,by decide⟩,_,_,CA,CA,(by show(0:Int)<8;decide),_,_,CA,CA,?_⟩;refine⟨_,CA,_,_,CA,CA,⟨by decide,by decide⟩,_,_,CA,CA,(by show(0:Int)<7;decide),_,CA,_,_,CA,CA,(by show(0:Int)<db b;lia),?_⟩;have hk:(nAt b).toNat<8:=by lia
   have yu:atI (b7 (b / 112) 8).cps.toList (nAt b)=A? (97+((b / 112 / 26 ^ (nAt b).toNat)%26).toNat):=by
    refine at_nonneg ha.1 ?_;show(dW (b / 112) 8)[(nAt b).toNat]?=_;unfold dW;rw[RG,UE hk];rfl
   have h1:=Tr (b / 112 / 26 ^ (nAt b).toNat) (by decide:(26:Int)≠0);have h2:=T4 (b / 112 / 26 ^ (nAt b).toNat) (by decide:(0:Int)<26);have h3:=Tr ((((b / 112 / 26 ^ (nAt b).toNat)%26).toNat:Int)+n) (by decide:(26:Int)≠0);have h4:=T4 ((((b / 112 / 26 ^ (nAt b).toNat)%26).toNat:Int)+n) (by decide:(0:Int)<26);refine⟨_,CA,_,CA,CA,_,CA,_,CA,_,nAt b,_,CA,CA,bX (by rw[hw];decide),yu,cH,_,_,[],CA,CA,ph _ (by lia),_,CA,_,_,CA,CA,_,_,CA,CA,(by show(0:Int)<26;decide),cH,_,_,CA,CA,bX (by rw[il];decide),j1 h3 h4,?_⟩;have l1:=dg (b7 (b / 112) 8) B? (A? (nAt b));have l2:=dg (b7 (b / 112) 8) (A? (nAt b+1)) (A? (db b));rw[hw]at l1 l2;refine⟨_,CA,_,CA,_,CA,_,CA,bX (by rw[hw];decide),_,CA,_,_,CA,CA,bX ?_,_,CA,_,CA,_,_,CA,CA,_,CA,_,CA,_,CA,_,CA,bX (by rw[hw];decide),_,_,CA,CA,bX ?_,?_⟩
   .show(dN (b7 (b / 112) 8) B? (A? (nAt b))).length+1<=1000000;lia
   .rw[strLen_append];show(dN (b7 (b / 112) 8) B? (A? (nAt b))).length+1+(dN (b7 (b / 112) 8) (A? (nAt b+1)) (A? (db b))).length<=1000000;lia
   .have e:nameOf b n=dN (b7 (b / 112) 8) B? (A? (nAt b))++⟨#[i8 b n]⟩++dN (b7 (b / 112) 8) (A? (nAt b+1)) (A? (db b)):=by unfold nameOf;rw[Za c']
    rw[e]at q;exact q
inductive iq(vs:List V)(H:Hp)(Q:VK)(_E:XK):Prop
 |mk (kr na a0:Ry) (rest:List V) (k0:R1) (c0:V) (names:List R1):vs=[.ref kr,.ref na]->H kr=A? (.tup (.ref a0::rest))->H a0=A? (.tup [.str k0,c0])->k0≠q->H na=A? (.lst (names.map Yq))->(∀x∈names,x≠q)->(∀(r:Ry)(H':Hp),Ye H H'->At H' (mkR k0 names) r->Q (.ref r) H')->iq  vs H Q _E
theorem im:FnOk P w K mg base CX0 1 T.g_28.f T.g_28.d ["kinds","names"] iq:=by
 refine T.g_28.F.okA dk λxi A outer s H vs Q E hr h=>?_;obtain⟨kr,na,a0,rest,k0,c0,names,rfl,Qo,Qp,nq,Bt,C5,k⟩:=h
 refine⟨_,(af (av 2 dk.nd (aE (aa (aH aG (aH aG (pv 0) aj (λ_ _=>rfl)) aj (λ_ _=>rfl)) ae)))
  (af (bC SE rfl (cK (pv 1)) (pgN 3 dk.nd) (ak (av 2 dk.nd (aE (aa (pv 3) (aa (pv 2) ae))))))
  (ak (aP (pv 2))))),?_⟩
 try dsimp only[xS,xj]
 refine⟨_,CA,kr,_,0,.ref a0,CA,CA,Ze Qo,at0,a0,_,0,.str k0,CA,CA,Ze Qp,at0,lnE rfl,λt0 Cp=>?_⟩;refine bQ Cp λH1 s1 e1=>?_;dsimp only[aw]
 have h0:At H1 (mkR k0 []) t0:=by
  show At H1 (.knot k0 []) t0;rw[At];exact⟨nq,[],e1,fA .nil⟩
 refine⟨_,CA,na,CA,⟨_,Yg (s1 _ _ Bt)⟩,?_⟩;refine dL (K:=K) (a:=na) (xs:=names.map Yq) (λi σ H2=>Ex2 λ(c3:Option V)(ta:Ry)=>An3 (σ=[A? (.ref kr),A? (.ref na),A? (.ref ta),c3]) (Ye H H2) (At H2 (mkR k0 (names.take i)) ta)) ⟨B?,t0,rfl,s1,h0⟩ (λi σ H2 _⟨_,_,_,s2,_⟩=>Yg (s2 _ _ Bt)) ?_ ?_
 .rintro i x σ H2 hx ⟨c3,ta,rfl,s2,h2⟩;rw[RG]at hx;obtain⟨n,hn,rfl⟩:=RW.mp hx;dsimp only[aw];refine⟨_,CA,_,CA,lnE rfl,λp hp=>?_⟩;refine bQ hp λH3 s3 e3=>⟨_,p,rfl,s2.trans s3,?_⟩;rw[take_snoc hn,bh,At];exact⟨C5 n (Rx hn),[ta],e3,fA (.cons (h2.mono (Zg s3)) .nil)⟩
 .rintro σ H2 ⟨c3,ta,rfl,s2,h2⟩;rw[Rw,T3]at h2;exact⟨_,CA,k ta H2 s2 h2⟩
inductive d8(tp:Ry)(vs:List V)(H:Hp)(Q:VK)(_E:XK):Prop
 |mk (ba wa:Ry) (both:Bool) (ins:List (R1×Int)) (head:Th) (rows:List (List Th)) (t:Th) (ar:R1->Nat):vs=[.ref ba,.ref wa,.bl both]->WBk H ins head rows ba->At H t wa->WCd ins rows t ar->vt rows ar head->TabSt H tp (bu aA) cC->¬lZ ins rows t->(∀H',SameT tp H H'->TabSt H' tp (bu aA) cC->Q (.bl Bz) H')->d8 tp vs H Q _E
inductive fW(CT CW tp:Ry)(vs:List V)(H:Hp)(Q:VK)(_E:XK):Prop
 |mk (ba wa:Ry) (ins:List (R1×Int)) (head:Th) (rows:List (List Th)) (t:Th) (ar:R1->Nat):vs=[.ref ba,.ref wa]->WBk H ins head rows ba->At H t wa->WCd ins rows t ar->TabSt H tp (bu aA) cC->¬Over ins rows (post t [])->(∀(l:Ry)(ps:List Ry)(F St:List NtE)(H':Hp),SameT tp H H'->TabSt H' tp (bu aA) cC->H' l=A? (.lst (ps.map Zf))->Sb (λ(e:NtE)p=>H' p=A? (.tup [.ref e.na,.ref e.ta])) St ps->(∀e∈St,NtA H' e)->PInv ins rows (post t []) F St (ClAll ins St.length)->(∀e∈F,e∈St)->Q (.ref l) H')->fW CT CW tp vs H Q _E
theorem lp(L:Lam mg base T.g_23.tc T.g_23.tp):FnOk P w K mg base CX0 8 T.g_24.f T.g_24.d ["book","wish"] (fW T.e_Table T.e_Ways T.g_23.tp) :=
 (dM T L).x0 λvs H Q E h=>by
  obtain⟨ba,wa,ins,head,rows,t,ar,e,hb,hA,hc,xV,xu,q⟩:=h;exact⟨ba,wa,ins,head,rows,t,ar,e,hb,hA,hc,xV,λ_ _ _ ho=>(xu ho).elim,q⟩
theorem dZ(L:Lam mg base T.g_23.tc T.g_23.tp):FnOk P w K mg base CX0 12 T.g_29.f T.g_29.d ["book","wish","both"] (d8 T.g_23.tp):=by
 refine T.g_29.F.okA bV λxi A outer s H vs Q E hr h=>?_;obtain⟨ba,wa,both,ins,head,rows,t,ar,rfl,hb,hA,hc,hh,xV,xu,k⟩:=h
 refine⟨_,(af (av 3 bV.nd (bY ae))
  (af (oZ (Ch:=T.e_BookError) (i:=4) (tb:=λR=>(vj (λσ H Q=>(bP 2) σ H λx H1=>∃k,uP K x H1 k/\Q k H1) (rf (mE (gX T.e_Table T.e_Ways T.e_Many T.g_23.tp) [] R (b9 (bP 0) (b9 (bP 1) iV)))) (rf (mE (eL T.e_Table T.e_Ways T.e_Many T.g_23.tp) [] R (b9 (bP 0) (b9 (bP 1) iV)))))) (ts:=λea C=>(p8 (uJ (b9 (tCB (qC K ea C) (b9 (bP 4) (b9 (tC (.ref T.e_Many)) iV))) (b9 (tCB (qC K ea C) (b9 (bP 4) (b9 (tC (.ty "ValueError")) iV))) (b9 (tCB (qC K ea C) (b9 (bP 4) (b9 (tC (.ref T.e_Great)) iV))) (b9 (tCB (qC K ea C) (b9 (bP 4) (b9 (tC (.ref T.e_NotOne)) iV))) iV))))) (aw 3))) (λY R=>(ak (bT (bS (pv 2) (λ_=>rfl)) (ak (aY (mh (mZ T L) (hr.mono (by first|decide|lia)) rfl T.g_26.m T.g_26.F.kp T.g_26.b .nil (aa (pv 0) (aa (pv 1) ae))))) (ak (aY (mh (dM T L) (hr.mono (by first|decide|lia)) rfl T.g_24.m T.g_24.F.kp T.g_24.b .nil (aa (pv 0) (aa (pv 1) ae)))))))) (λea oe C zJ hX=>(ak (av 3 bV.nd (bY (aa (aZ (fZ eS zJ hX) rfl T.n_3 U1 (aa (pv 4) (aa (eR (v:=.ref T.e_Many) rfl T.x_Many rfl) ae))) (aa (aZ (fZ eS zJ hX) rfl T.n_3 U1 (aa (pv 4) (aa (tP (v:=.ty "ValueError") rfl T.n_0 PyProof.Rows.Boot.«ValueError» rfl) ae))) (aa (aZ (fZ eS zJ hX) rfl T.n_3 U1 (aa (pv 4) (aa (eR (v:=.ref T.e_Great) rfl T.x_Great rfl) ae))) (aa (aZ (fZ eS zJ hX) rfl T.n_3 U1 (aa (pv 4) (aa (eR (v:=.ref T.e_NotOne) rfl T.x_NotOne rfl) ae))) ae)))))))) bV.nd rfl rfl rfl rfl rfl T.x_BookError)
  (ak (aP (iA (sQ (uK hr)) (pv 3) (bY (aa ik (aa ik (aa ik (aa ik ae))))) (bj _)))))),?_⟩
 try dsimp only[xS,xj]
 refine⟨lnE rfl,λsa Qq=>?_⟩;have s1:=ao Qq (.lst []);have h1:=hA.mono (Zg s1);have hb1:=hb.mono (Zg s1);have xT:=xV.mono s1;generalize upd H sa (.lst [])=H1 at s1 h1 hb1 xT |-;dsimp only[p8,tC,aw,vn];refine pV (λxA c H2=>An4 (xA=[A? (.ref ba),A? (.ref wa),A? (.bl both),A? (.ref sa),B?]) (c=.ref T.e_Many) (SameT T.g_23.tp H1 H2) (TabSt H2 T.g_23.tp (bu aA) cC)) (λR' hR=>?_) ?_
 .refine⟨_,CA,_,CA,?_⟩;refine kG (λ_=>?_) (λ_=>?_)
  .exact⟨_,CA,_,CA,ba,wa,ins,head,rows,t,ar,CA,hb1,h1,hc,hh,xT,λH2 s2 t2 _=>hR _ _ _ ⟨CA,CA,s2,t2⟩,λH2 s2 t2 hf=>(xu hf).elim,λ_ _ H2 s2 t2 hf=>(xu hf).elim⟩
  .exact⟨_,CA,_,CA,ba,wa,ins,head,rows,t,ar,CA,hb1,h1,hc,xT,λH2 s2 t2 _=>hR _ _ _ ⟨CA,CA,s2,t2⟩,λl ps F St H2 s2 t2 _ _ _ hp xc=>(xu ⟨F,St,hp,xc⟩).elim⟩
 .rintro xA c H2 ⟨rfl,rfl,s2,t2⟩;refine⟨_,CA,⟨T.X_Many,T.hit_Many_BookError⟩,λea Hw=>?_⟩;refine⟨_,CA,_,_,CA,T.kit_Many_Many,_,CA,_,_,CA,T.kit_Many_ValueError,_,CA,_,_,CA,T.kit_Many_Great,_,CA,_,_,CA,T.kit_Many_NotOne,lnE rfl,λla DQ=>?_⟩;refine⟨_,CA,lnE rfl,λlb GI=>?_⟩;refine⟨la,lb,[Bz,Bz,C?,C?],[Bz,Bz,C?,C?],CA,CA,Yg (ao GI _ _ _ ad),Yg ad,?_⟩;exact k _ ((s1.t _).trans (s2.trans (((ao DQ _).trans (ao GI _)).t _))) (t2.mono ((ao DQ _).trans (ao GI _)))
structure KB(H:Hp)(kr:Ry)(b:Int):Prop where
 ex:∃a0 a1 a2 a3:Ry,H kr=A? (.tup [.ref a0,.ref a1,.ref a2,.ref a3])/\H a0=A? (.tup [.str (nameOf b 0),.int 0])/\H a1=A? (.tup [.str (nameOf b 1),.int 1])/\H a2=A? (.tup [.str (nameOf b 2),.int 1])/\H a3=A? (.tup [.str (nameOf b 3),.int 2])
theorem KB.mono{kr:Ry}{b:Int}(h:KB H kr b)(k:KT H H'):KB H' kr b:=by
 refine hid λZZ kZ=>?_;obtain⟨a0,a1,a2,a3,e,e0,e1,e2,e3⟩:=h.ex;refine kZ ?_;exact⟨a0,a1,a2,a3,k _ _ e,k _ _ e0,k _ _ e1,k _ _ e2,k _ _ e3⟩
theorem cL{p:Ry}{s k:Int}(e:H p=A? (.tup [.str (RF "?"),.int s,.int k])):At H (.call s k) p:=by
 rw[At];exact e
theorem iF{p:Ry}{n:R1}(nq:n≠q)(e:H p=A? (.tup [.str n])):At H (.knot n []) p:=by
 rw[At];exact⟨nq,[],e,fA .nil⟩
theorem mv{p:Ry}{n:R1}{t:Th}(nq:n≠q)(e:H p=A? (.tup [.str n,.ref a]))(h:At H t a):At H (.knot n [t]) p:=by
 rw[At];exact⟨nq,[a],e,fA (.cons h .nil)⟩
theorem m4{p a0 a1 a2 a3:Ry}{t0 t1 t2 t3:Th}(e:H p=A? (.tup [.ref a0,.ref a1,.ref a2,.ref a3]))(h0:At H t0 a0)(h1:At H t1 a1)(h2:At H t2 a2)(h3:At H t3 a3):RowAt H [t0,t1,t2,t3] p:=⟨[a0,a1,a2,a3],e,fA (.cons h0 (.cons h1 (.cons h2 (.cons h3 .nil))))⟩
inductive sp__law_holds(tp:Ry)(vs:List V)(H:Hp)(Q:VK)(_E:XK):Prop
 |mk (c:Int):vs=[.int c]->0<=c->TabSt H tp (bu aA) cC->(∀H',SameT tp H H'->TabSt H' tp (bu aA) cC->Q (.bl Bz) H')->sp__law_holds tp vs H Q _E
theorem ok__law_holds(L:Lam mg base T.g_23.tc T.g_23.tp):FnOk P w K mg base CX0 15 T.g_30.f T.g_30.d ["cell"] (sp__law_holds T.g_23.tp):=by
 refine T.g_30.F.okA sc__law_holds λxi A outer s H vs Q E hr h=>?_;obtain⟨c,rfl,Gf,xV,k⟩:=h
 refine⟨_,(af (av 1 sc__law_holds.nd (aJ eQ (pv 0) aj))
  (af (av 2 sc__law_holds.nd (aE (aa (aE (aa (pcF T.g_27 (cG T) hr (aa (pv 1) (aa aj ae))) (aa aj ae))) (aa (aE (aa (pcF T.g_27 (cG T) hr (aa (pv 1) (aa aj ae))) (aa aj ae))) (aa (aE (aa (pcF T.g_27 (cG T) hr (aa (pv 1) (aa aj ae))) (aa aj ae))) (aa (aE (aa (pcF T.g_27 (cG T) hr (aa (pv 1) (aa aj ae))) (aa aj ae))) ae))))))
  (af (av 3 sc__law_holds.nd (aE (aa cA (aa aj (aa aj ae)))))
  (af (av 4 sc__law_holds.nd (aE (aa (aE (aa (aH aG (aH aG (pv 2) aj (λ_ _=>rfl)) aj (λ_ _=>rfl)) ae)) (aa (aE (aa (aH aG (aH aG (pv 2) aj (λ_ _=>rfl)) aj (λ_ _=>rfl)) (aa (aE (aa cA (aa aj (aa aj ae)))) ae))) (aa (aE (aa (aH aG (aH aG (pv 2) aj (λ_ _=>rfl)) aj (λ_ _=>rfl)) (aa (aE (aa cA (aa aj (aa aj ae)))) ae))) (aa (aE (aa cA (aa aj (aa aj ae)))) ae))))))
  (af (av 5 sc__law_holds.nd (aE (aa (aE (aa (aH aG (aH aG (pv 2) aj (λ_ _=>rfl)) aj (λ_ _=>rfl)) ae)) (aa (aE (aa cA (aa aj (aa aj ae)))) (aa (aE (aa (aH aG (aH aG (pv 2) aj (λ_ _=>rfl)) aj (λ_ _=>rfl)) (aa (aE (aa cA (aa aj (aa aj ae)))) ae))) (aa (aE (aa cA (aa aj (aa aj ae)))) ae))))))
  (af (av 6 sc__law_holds.nd (aJ cq (pv 0) aj))
  (af (av 7 sc__law_holds.nd (pcF T.g_28 (im T) hr (aa (pv 2) (aa (aJ qX (bY (aa (aH aG (aH aG (pv 2) aj (λ_ _=>rfl)) aj (λ_ _=>rfl)) ae)) (pv 6)) ae))))
  (af (av 8 sc__law_holds.nd (aE (aa (pv 4) ae)))
  (af (av 9 sc__law_holds.nd (aJ cT (pv 6) aj))
  (af (bT (be dY (aJ cq (pv 1) aj) aj (bj _)) (af (av 8 sc__law_holds.nd (aE (aa (pv 4) (aa (pv 5) ae))))
  (ak (av 9 sc__law_holds.nd (aJ cT (pv 6) aj)))) bA)
  (af (bT (PW.pt (nj (be dY (aJ cq (pv 1) aj) aj (bj _)) (lg (be dY (aJ cq (aJ eQ (pv 1) aj) aj) aj (bj _))))) (ak (av 7 sc__law_holds.nd (pcF T.g_28 (im T) hr (aa (pv 2) (aa (cD (N:=["k","kinds"]) (js:=[B?,A? 2]) (g:=(aw 0)) (tt:=bN) (te:=(tOp (pA K) (tOp (pA K) (bP 1) (tOp (rI0 λi j=>.int (i+j)) (tC (.int 1)) (tOp (rI (λ_ j=>0<j) λi j=>.int (i%j)) (bP 0) (tC (.int 2))))) (tC (.int 0)))) rfl (dz rfl (by decide +kernel) (by decide +kernel) rfl rfl rfl) (cN rfl T.n_7 (aa (pv 6) ae)) (λ_ _ _ _ _ _=>(pgN 0 wJ)) (aU rfl) (λ_ _ _ _ _ _=>cb) (λ_ _ _ _ _ _=>(aH aG (aH aG (pv 1) (aJ cT aj (aJ cq (pv 0) aj)) (λ_ _=>rfl)) aj (λ_ _=>rfl)))) ae))))) bA)
  (af (bT (be dY (aJ cq (pv 1) aj) aj (bj _)) (af (av 8 sc__law_holds.nd (aE (aa (aE (aa (aE (aa (aH aG (aH aG (pv 2) aj (λ_ _=>rfl)) aj (λ_ _=>rfl)) ae)) (aa (aE (aa (aH aG (aH aG (pv 2) aj (λ_ _=>rfl)) aj (λ_ _=>rfl)) ae)) (aa (aE (aa cA (aa aj (aa aj ae)))) (aa (aE (aa cA (aa aj (aa aj ae)))) ae))))) ae)))
  (ak (av 9 sc__law_holds.nd aj))) bA)
  (af (av 10 sc__law_holds.nd (aE (aa (pv 2) (aa (pv 2) (aa (pv 3) (aa (pv 8) ae))))))
  (af (bT (be vI (pv 9) aj (bj _)) (ak (aP (uD (pcF T.g_29 (dZ T L) hr (aa (pv 10) (aa (pv 7) (aa ik ae)))) (ut (pcF T.g_29 (dZ T L) hr (aa (pv 10) (aa (pv 7) (aa ik ae)))))))) bA)
  (ak (aP (iA dY (aZ bf rfl T.n_4 TF (aa (pcF T.g_24 (lp T L) hr (aa (pv 10) (aa (pv 7) ae))) ae)) (pv 9) (bj _)))))))))))))))))),?_⟩
 try dsimp only[xS,xj]
 refine⟨_,CA,_,_,CA,CA,⟨by decide,by decide⟩,?_⟩;have Dw:0<=c / 35:=Int.ediv_nonneg Gf (by decide);dsimp only[aw];generalize Lj:c / 35=b at Dw |-;have nq:∀i,nameOf b i≠q:=λi=>t6 (iX b i);have g:=vL (b:=b);obtain⟨C3,Ck,BM⟩:=fY g
 refine bw (λi' H1=>Ex1 λkr=>An3 (i'=[A? (.int c),A? (.int b),A? (.ref kr),B?,B?,B?,B?,B?,B?,B?,B?]) (Ye H H1) (KB H1 kr b)) (λkk hk=>?_) ?_
 .refine⟨_,CA,b,0,CA,Dw,by decide,lnE rfl,λp0 Aj=>?_⟩;refine bQ Aj λH1 s1 e1=>?_;refine⟨_,CA,b,1,CA,Dw,by decide,lnE rfl,λp1 yF=>?_⟩;refine bQ yF λH2 s2 e2=>?_;refine⟨_,CA,b,2,CA,Dw,by decide,lnE rfl,λp2 xK=>?_⟩;refine bQ xK λH3 s3 e3=>?_;refine⟨_,CA,b,3,CA,Dw,by decide,lnE rfl,λp3 zj=>?_⟩;refine bQ zj λH4 s4 e4=>?_;refine⟨lnE rfl,λkr Qr=>?_⟩;refine bQ Qr λH5 s5 e5=>?_;have Gr:=s4.trans s5;have Gs:=s3.trans Gr;have MK:=s2.trans Gs;exact hk _ _ ⟨kr,rfl,s1.trans MK,p0,p1,p2,p3,e5,MK _ _ e1,Gs _ _ e2,Gr _ _ e3,s5 _ _ e4⟩
 rintro i' H1 ⟨kr,rfl,s1,hK⟩
 refine⟨lnE rfl,λhd D5=>?_⟩;refine bQ D5 λH2 s2 e2=>?_;dsimp only[aw];have KG:=cL e2;have ML:=hK.mono (Zg s2);have Bi:=s1.trans s2
 refine bw (λi' H3=>Ex1 λcp=>An3 (i'=[A? (.int c),A? (.int b),A? (.ref kr),A? (.ref hd),A? (.ref cp),B?,B?,B?,B?,B?,B?]) (Ye H2 H3) (RowAt H3 (ce (nameOf b 0) (nameOf b 1) (nameOf b 2)) cp)) (λkk hk=>?_) ?_
 .refine hid λZZ kZ=>?_;obtain⟨a0,a1,a2,a3,ek,e0,e1,yd,e3⟩:=ML.ex;refine kZ ?_;refine⟨_,CA,kr,_,0,.ref a0,CA,CA,Ze ek,at0,a0,_,0,.str (nameOf b 0),CA,CA,Ze e0,at0,lnE rfl,λp0 Aj=>?_⟩;refine bQ Aj λH3 s3 f0=>?_;refine⟨_,CA,kr,_,1,.ref a1,CA,CA,Ze (s3 _ _ ek),at1,a1,_,0,.str (nameOf b 1),CA,CA,Ze (s3 _ _ e1),at0,lnE rfl,λp1 yF=>?_⟩;refine bQ yF λH4 s4 f1=>?_;refine⟨lnE rfl,λp2 xK=>?_⟩;refine bQ xK λH5 s5 f2=>?_;have Gs:=s3.trans (s4.trans s5);refine⟨_,CA,kr,_,2,.ref a2,CA,CA,Ze (Gs _ _ ek),at2,a2,_,0,.str (nameOf b 2),CA,CA,Ze (Gs _ _ yd),at0,lnE rfl,λp3 zj=>?_⟩;refine bQ zj λH6 s6 f3=>?_;refine⟨lnE rfl,λp4 zS=>?_⟩;refine bQ zS λH7 s7 f4=>?_;refine⟨lnE rfl,λp5 KH=>?_⟩;refine bQ KH λH8 s8 f5=>?_;refine⟨lnE rfl,λcp KI=>?_⟩;refine bQ KI λH9 s9 f9=>?_;have Dz:=s8.trans s9;have Eh:=s6.trans (s7.trans Dz);have MM:=s4.trans (s5.trans Eh);refine hk _ _ ⟨cp,rfl,s3.trans MM,m4 f9 (iF (nq 0) (MM _ _ f0)) (mv (nq 1) (Eh _ _ f2) ((cL f1).mono (Zg (s5.trans Eh)))) (mv (nq 2) (Dz _ _ f4) ((cL f3).mono (Zg (s7.trans Dz)))) ((cL f5).mono (Zg s9))⟩
 rintro i' H3 ⟨cp,rfl,s3,KI⟩;have MN:=ML.mono (Zg s3)
 refine bw (λi' H4=>Ex1 λst=>An3 (i'=[A? (.int c),A? (.int b),A? (.ref kr),A? (.ref hd),A? (.ref cp),A? (.ref st),B?,B?,B?,B?,B?]) (Ye H3 H4) (RowAt H4 (cr (nameOf b 0) (nameOf b 2)) st)) (λkk hk=>?_) ?_
 .refine hid λZZ kZ=>?_;obtain⟨a0,a1,a2,a3,ek,e0,e1,yd,e3⟩:=MN.ex;refine kZ ?_;refine⟨_,CA,kr,_,0,.ref a0,CA,CA,Ze ek,at0,a0,_,0,.str (nameOf b 0),CA,CA,Ze e0,at0,lnE rfl,λp0 Aj=>?_⟩;refine bQ Aj λH4 s4 f0=>?_;refine⟨lnE rfl,λp1 yF=>?_⟩;refine bQ yF λH5 s5 f1=>?_;have Gr:=s4.trans s5;refine⟨_,CA,kr,_,2,.ref a2,CA,CA,Ze (Gr _ _ ek),at2,a2,_,0,.str (nameOf b 2),CA,CA,Ze (Gr _ _ yd),at0,lnE rfl,λp3 zj=>?_⟩;refine bQ zj λH6 s6 f3=>?_;refine⟨lnE rfl,λp4 zS=>?_⟩;refine bQ zS λH7 s7 f4=>?_;refine⟨lnE rfl,λp5 KH=>?_⟩;refine bQ KH λH8 s8 f5=>?_;refine⟨lnE rfl,λst xB=>?_⟩;refine bQ xB λH9 s9 f9=>?_;have Dz:=s8.trans s9;have Eh:=s6.trans (s7.trans Dz);have MO:=s5.trans Eh;refine hk _ _ ⟨st,rfl,s4.trans MO,m4 f9 (iF (nq 0) (MO _ _ f0)) ((cL f1).mono (Zg Eh)) (mv (nq 2) (Dz _ _ f4) ((cL f3).mono (Zg (s7.trans Dz)))) ((cL f5).mono (Zg s9))⟩
 rintro i' H4 ⟨st,rfl,s4,xB⟩;have MP:=MN.mono (Zg s4);have KJ:=KI.mono (Zg s4)
 have Qs:=Tr c (by decide:(35:Int)≠0);have Qt:=T4 c (by decide:(0:Int)<35);refine⟨_,CA,_,_,CA,CA,(by decide:(0:Int)<35),?_⟩;dsimp only[aw];obtain⟨m,hm⟩:=Int.eq_ofNat_of_zero_le Qs;rw[hm]at Qt |-;have Qu:m<35:=by lia
 refine bw (λi' H5=>Ex1 λwa=>An3 (i'=[A? (.int c),A? (.int b),A? (.ref kr),A? (.ref hd),A? (.ref cp),A? (.ref st),A? (.int (m:Nat)),A? (.ref wa),B?,B?,B?]) (Ye H4 H5) (At H5 (mkR (nameOf b 0) (Sh m (nameOf b 1))) wa)) (λkk hk=>?_) ?_
 .refine hid λZZ kZ=>?_;obtain⟨a0,a1,a2,a3,ek,e0,e1,yd,e3⟩:=MP.ex;refine kZ ?_;refine⟨_,CA,_,CA,kr,_,1,.ref a1,CA,CA,Ze ek,at1,a1,_,0,.str (nameOf b 1),CA,CA,Ze e1,at0,lnE rfl,λl0 EB=>?_⟩;refine bQ EB λH5 s5 f5=>?_;refine⟨_,CA,l0,(m:Nat),_,CA,CA,f5,by lia,by lia,bX (by show 1 * (m:Int).toNat<=1000000;rw[RU];lia),λl1 yE=>?_⟩;refine bQ yE λH6 s6 f6=>?_;have yO:=s5.trans s6
  have Mt:(Sh (m:Int).toNat [Yq (nameOf b 1)]).flatten=(Sh m (nameOf b 1)).map Yq:=by
   rw[RU,List.map_replicate,lG]
  rw[Mt]at f6;exact⟨kr,l1,a0,_,_,_,_,CA,yO _ _ ek,yO _ _ e0,nq 0,f6,λx hx=>by rw[Vm hx];exact nq 1,λr H7 s7 Qv=>hk _ _ ⟨r,CA,yO.trans s7,Qv⟩⟩
 rintro i' H5 ⟨wa,rfl,s5,yu⟩
 refine⟨_,CA,lnE rfl,λra Qw=>?_⟩;refine bQ Qw λH6 s6 e6=>?_;dsimp only[aw];refine⟨_,CA,_,_,CA,CA,?_⟩;dsimp only[aw];have yO:=s5.trans s6;have Qx:=Bi.trans (s3.trans (s4.trans yO));have hb3:=Tr b (by decide:(3:Int)≠0);have KL:=KJ.mono (Zg yO);have KN:=xB.mono (Zg yO);have Qy:=MP.mono (Zg yO);have KO:=yu.mono (Zg s6);refine bw (λi' H7=>Ex2 λ(ra:Ry)(due:Int)=>An3 (i'=[A? (.int c),A? (.int b),A? (.ref kr),A? (.ref hd),A? (.ref cp),A? (.ref st),A? (.int (m:Nat)),A? (.ref wa),A? (.ref ra),A? (.int due),B?]) (Ye H6 H7) (((b%3≠1/\H7 ra=A? (.tup [.ref cp])/\due=(m:Int)+2)\/(b%3=1/\H7 ra=A? (.tup [.ref cp,.ref st])/\due=(m:Int)+3)))) (λkk hk=>?_) ?_
 .refine⟨_,CA,_,_,CA,CA,(by decide:(0:Int)<3),CA,_,CA,?_⟩;by_cases z:b%3=1
  .rw[Yc (show Yh (b%3)=Yh 1 by rw[z])];refine cE ⟨_,rfl,_,rfl,lnE rfl,λrb KP=>?_⟩;refine bQ KP λH7 s7 e7=>?_;dsimp only[aw];exact⟨_,CA,_,_,CA,CA,hk _ _ ⟨rb,_,CA,s7,.inr ⟨z,e7,CA⟩⟩⟩
  .rw[Zb (show¬Yh (b%3)=Yh 1 fromλy=>z (V.int.inj y))];exact cm (hk _ _ ⟨ra,_,rfl,λ_ _ e=>e,.inl ⟨z,e6,rfl⟩⟩)
 rintro i' H7 ⟨HL,Gu,rfl,s7,DA⟩;have MQ:=Qy.mono (Zg s7);have KQ:=KO.mono (Zg s7);refine bw (λi' H8=>Ex2 λ(wa:Ry)(cs:List R1)=>An6 (i'=[A? (.int c),A? (.int b),A? (.ref kr),A? (.ref hd),A? (.ref cp),A? (.ref st),A? (.int (m:Nat)),A? (.ref wa),A? (.ref HL),A? (.int Gu),B?]) (Ye H7 H8) (At H8 (mkR (nameOf b 0) cs) wa) ((∀x∈cs,x=nameOf b 1\/x=nameOf b 2)) (cs.length=m) (cs.head?≠A? (nameOf b 2))) (λkk hk=>?_) ?_
 .have old:kk [A? (.int c),A? (.int b),A? (.ref kr),A? (.ref hd),A? (.ref cp),A? (.ref st),A? (.int (m:Nat)),A? (.ref wa),A? (.ref HL),A? (.int Gu),B?] H7 :=
   hk _ _ ⟨wa,Sh m (nameOf b 1),rfl,λ_ _ e=>e,KQ,λx hx=>.inl (Vm hx),VJ ..,qt BM⟩
  refine⟨_,CA,_,_,CA,CA,(by decide:(0:Int)<3),CA,_,CA,?_⟩;by_cases z:b%3=1
  .rw[Yc (show Yh (b%3)=Yh 1 by rw[z])];refine cE ⟨_,rfl,_,_,rfl,rfl,⟨by decide,by decide⟩,_,_,rfl,rfl,(by decide:(0:Int)<2),rfl,_,rfl,?_⟩;by_cases y:b / 3%2=1
   .rw[Yc (show Yh (b / 3%2)=Yh 1 by rw[y])];refine hid λZZ kZ=>?_;obtain⟨a0,a1,a2,a3,ek,e0,e1,yd,e3⟩:=MQ.ex;refine kZ ?_;refine cE ⟨_,rfl,_,rfl,(m:Nat),rfl,by lia,by lia,?_⟩;rw[RU];refine qm (λi=>Yq (if i%2=0 then nameOf b 1 else nameOf b 2)) (by lia) (λi H8 R W' hi s8 hR=>?_) (λl1 H8 yE s8 f8=>?_)
    .have HM:=hR H8 (λ_ _ e=>e);refine⟨_,CA,_,CA,_,_,CA,CA,(by decide:(0:Int)<2),_,_,CA,CA,?_⟩;by_cases x:i%2=0
     .rw[Yb x]at HM;have e:(1:Int)+(0+(i:Nat))%2=1:=by lia
      rw[e];exact⟨kr,_,1,.ref a1,CA,CA,Ze (s8 _ _ ek),at1,a1,_,0,_,CA,CA,Ze (s8 _ _ e1),at0,HM⟩
     .rw[Za x]at HM;have e:(1:Int)+(0+(i:Nat))%2=2:=by lia
      rw[e];exact⟨kr,_,2,.ref a2,CA,CA,Ze (s8 _ _ ek),at2,a2,_,0,_,CA,CA,Ze (s8 _ _ yd),at0,HM⟩
    .have yt:(SK m).map (λi=>Yq (if i%2=0 then nameOf b 1 else nameOf b 2))=(nD (nameOf b 1) (nameOf b 2) m).map Yq:=by
      unfold nD;rw[Sr];rfl
     rw[yt]at f8;exact⟨kr,l1,a0,_,_,_,_,CA,s8 _ _ ek,s8 _ _ e0,nq 0,f8,λx hx=>(lB x hx).elim (λh=>by rw[h];exact nq 1) λh=>by rw[h];exact nq 2,λr H9 s9 Qz=>hk _ _ ⟨r,_,CA,s8.trans s9,Qz,lB,rN,pP BM⟩⟩
   .rw[Zb (show¬Yh (b / 3%2)=Yh 1 fromλz=>y (V.int.inj z))];exact cm old
  .rw[Zb (show¬Yh (b%3)=Yh 1 fromλy=>z (V.int.inj y))];exact cm (cm old)
 rintro i' H8 ⟨HN,cs,rfl,s8,KR,Ao,B3,KS⟩;have Ed:=s7.trans s8;have MR:=MQ.mono (Zg s8);have Gv:=KL.mono (Zg Ed);have KU:=KN.mono (Zg Ed);refine bw (λi' H9=>Ex4 λ(ra:Ry)(yR:List Ry)(rows:List (List Th))(N:List (List Int))=>An8 (i'=[A? (.int c),A? (.int b),A? (.ref kr),A? (.ref hd),A? (.ref cp),A? (.ref st),A? (.int (m:Nat)),A? (.ref HN),A? (.ref ra),A? (.int ((N.length:Nat):Int)),B?]) (Ye H8 H9) (H9 ra=A? (.tup (yR.map Zf))) (Sb (RowAt H9) rows yR) ((∀row∈rows,pO (nameOf b 0) rows.length row)) (0<rows.length) (rows.length<=2) (CountN (aW (nameOf b 0) (nameOf b 1) (nameOf b 2) (nameOf b 3)) rows (post (mkR (nameOf b 0) cs) []) N)) (λkk hk=>?_) ?_
 .refine⟨_,CA,_,_,CA,CA,(by decide:(0:Int)<3),CA,_,CA,?_⟩;by_cases z:b%3=2
  .rw[Yc (show Yh (b%3)=Yh 2 by rw[z])];refine hid λZZ kZ=>?_;obtain⟨a0,a1,a2,a3,ek,e0,e1,yd,e3⟩:=MR.ex;refine kZ ?_;refine cE ⟨_,rfl,kr,_,0,.ref a0,rfl,rfl,Ze ek,at0,a0,_,0,.str (nameOf b 0),rfl,rfl,Ze e0,at0,lnE rfl,λp0 Aj=>?_⟩;refine bQ Aj λH9 s9 f0=>?_;refine⟨_,CA,kr,_,0,.ref a0,CA,CA,Ze (s9 _ _ ek),at0,a0,_,0,.str (nameOf b 0),CA,CA,Ze (s9 _ _ e0),at0,lnE rfl,λp1 yF=>?_⟩;refine bQ yF λHa sa f1=>?_;refine⟨lnE rfl,λp2 xK=>?_⟩;refine bQ xK λHb sb f2=>?_;refine⟨lnE rfl,λp3 zj=>?_⟩;refine bQ zj λHc sc f3=>?_;refine⟨lnE rfl,λp4 zS=>?_⟩;refine bQ zS λHd sd f4=>?_;refine⟨lnE rfl,λrb KP=>?_⟩;refine bQ KP λHe se f5=>?_;dsimp only[aw];have QA:=sd.trans se;have QB:=sc.trans QA;have QC:=sb.trans QB;have QD:=sa.trans QC;exact hk _ _ ⟨rb,[p4],[fc (nameOf b 0)],[[0]],rfl,s9.trans QD,f5,.cons ((m4 f4 (iF (nq 0) ((sa.trans (sb.trans (sc.trans sd))) _ _ f0)) (iF (nq 0) ((sb.trans (sc.trans sd)) _ _ f1)) ((cL f2).mono (Zg (sc.trans sd))) ((cL f3).mono (Zg sd))).mono (Zg se)) .nil,λrow xO=>by rw[RC.mp xO];exact wj (by show 0<1;decide),by show 0<1;decide,by show 1<=2;decide,m8 g⟩
  .rw[Zb (show¬Yh (b%3)=Yh 2 fromλy=>z (V.int.inj y))];refine cm ?_;rcases DA with⟨h1,h2,h3⟩|⟨h1,h2,h3⟩
   .obtain⟨N,hN,hC⟩:=ng g Ao;refine hk _ _ ⟨HL,[cp],[ce (nameOf b 0) (nameOf b 1) (nameOf b 2)],N,?_,λ_ _ e=>e,s8 _ _ h2,.cons Gv .nil,λrow xO=>by rw[RC.mp xO];exact ug C3.symm Ck.symm (by show 0<1;decide),by show 0<1;decide,by show 1<=2;decide,hC⟩;rw[h3,hN,B3];rfl
   .obtain⟨N,hN,hC⟩:=ml g Ao KS;refine hk _ _ ⟨HL,[cp,st],[ce (nameOf b 0) (nameOf b 1) (nameOf b 2),cr (nameOf b 0) (nameOf b 2)],N,?_,λ_ _ e=>e,s8 _ _ h2,.cons Gv (.cons KU .nil),λrow xO=>?_,by show 0<2;decide,by show 2<=2;decide,hC⟩
    .rw[h3,hN,B3];rfl
    .rcases RR.mp xO with rfl|xO
     .exact ug C3.symm Ck.symm (by show 0<2;decide)
     .rw[RC.mp xO];exact uy Ck.symm (by show 1<2;decide)
 rintro i' H9 ⟨ra,yR,rows,N,rfl,s9,era,HJ,QE,QF,JX,hC⟩;have MS:=Ed.trans s9;have QG:=s3.trans (s4.trans (yO.trans MS));refine⟨_,CA,_,CA,_,CA,_,CA,lnE rfl,λba QH=>?_⟩;refine bQ QH λHa sa ea=>?_;dsimp only[aw];have KW:=Qx.trans (MS.trans sa);have Bj:=xV.mono KW;have QI:=MR.mono (Zg (s9.trans sa));refine hid λZZ kZ=>?_;obtain⟨a0,a1,a2,a3,ek,e0,e1,yd,e3⟩:=QI.ex;refine kZ ?_
 have hW:WBk Ha (aW (nameOf b 0) (nameOf b 1) (nameOf b 2) (nameOf b 3)) (.call 0 0) rows ba :=
  ⟨kr,hd,ra,.ref kr,[a0,a1,a2,a3],yR,ea,ek,.cons e0 (.cons e1 (.cons yd (.cons e3 .nil))),sa _ _ era,Yj (λ_ _ e=>RowAt.mono (Zg sa) e) HJ,KG.mono (Zg (QG.trans sa))⟩
 have DB:=KR.mono (Zg (s9.trans sa));have yf:=wR g QE JX Ao (by lia);have MT:=hd4 (k0:=nameOf b 0) QF;refine⟨_,CA,_,_,CA,CA,_,CA,?_⟩;by_cases z:30<N.length
 .rw[Yc (show(30:Int)<((N.length:Nat):Int)by lia)]
  have Bq:¬lZ (aW (nameOf b 0) (nameOf b 1) (nameOf b 2) (nameOf b 3)) rows (mkR (nameOf b 0) cs):=λ⟨F,St,hp,xc⟩=>by
   have:=hC.s30 yf hp xc;lia
  refine cE ⟨_,rfl,_,rfl,ba,HN,C?,_,_,rows,_,_,rfl,hW,DB,yf,MT,Bj,Bq,λHb sb tb=>⟨Bz,rfl,cE ?_⟩⟩;have so:=Bj.sameO sb;exact⟨_,CA,_,CA,ba,HN,Bz,_,_,rows,_,_,CA,hW.mono so.kt,DB.mono so.kt,yf,MT,tb,Bq,λHc sc tc=>k Hc ((KW.t _).trans (sb.trans sc)) tc⟩
 .rw[Zb (show¬(30:Int)<((N.length:Nat):Int)by lia)];have xu:¬Over (aW (nameOf b 0) (nameOf b 1) (nameOf b 2) (nameOf b 3)) rows (post (mkR (nameOf b 0) cs) []):=λho=>z (hC.over (cf _) ho);refine cm ⟨_,rfl,_,rfl,ba,HN,_,_,rows,_,_,rfl,hW,DB,yf,Bj,xu,λl ps F St Hb sb tb el yT MI hp xc=>⟨l,_,rfl,.inl (Yg el),_,rfl,rfl,?_⟩⟩;have h1:=hC.full yf hp xc;have h2:St.length=ps.length:=R9 yT;rw[Yc (show Yh (((ps.map Zf).length:Nat):Int)=Yh ((N.length:Nat):Int)by rw[Rw,<-h2,h1])];exact k Hb ((KW.t _).trans sb) tb
inductive mC(K:RH)(tp:Ry)(vs:List V)(H:Hp)(Q:VK)(_E:XK):Prop
 |mk (a:Ry) (ns:List Int):vs=[.ref a]->SqL K H a (ns.map Yh)->ns.length<=63->H tp=A? (.tbl #[])->(∀H',Q (.bl Bz) H')->mC K tp vs H Q _E
theorem vc(L:Lam mg base T.g_23.tc T.g_23.tp):FnOk P w K mg base CX0 20 T.g_31.f T.g_31.d ["script"] (mC K T.g_23.tp):=by
 refine T.g_31.F.okA qV λxi A outer s H vs Q E hr h=>?_;obtain⟨a,ns,rfl,hS,zp,xV,k⟩:=h
 refine⟨_,(af (bC SE rfl (cK (bB tL (pv 0) bW (bE aj))) (pgN 1 qV.nd) (ak (bT (qL (bS (pcF T.g_30 (ok__law_holds T L) hr (aa (aJ cq (pv 1) (aJ uq aj aj)) ae)) (λ_=>rfl))) (ak (aP ik)) bA)))
  (ak (aP ik))),?_⟩
 try dsimp only[xS,xj]
 refine⟨_,CA,_,CA,a,_,CA,hS,λl hl=>?_⟩;refine bQ hl λH1 s1 e1=>?_;have zX:TabSt H1 T.g_23.tp (bu aA) cC:=.inl (s1 _ _ xV)
 obtain⟨ms,QJ⟩:∃ms:List Int,eY (ns.map Yh) B? (A? 8)=ms.map Yh:=by
  unfold eY;rw[<-List.map_drop,<-List.map_take];exact⟨_,CA⟩
 rw[QJ]at e1;refine⟨l,CA,⟨_,Yg e1⟩,?_⟩;refine dL (K:=K) (a:=l) (xs:=ms.map Yh) (λi σ H2=>Ex1 λc=>An3 (σ=[A? (.ref a),c]) (SameT T.g_23.tp H1 H2) (TabSt H2 T.g_23.tp (bu aA) cC)) ⟨B?,rfl,SameT.refl _ _,zX⟩ (λi σ H2 _⟨_,_,s2,_⟩=>Yg ((zX.sameO s2) _ _ e1 (λ_ z=>nomatch z))) ?_ ?_
 .rintro i x σ H2 hx ⟨c,rfl,s2,t2⟩;rw[RG]at hx;obtain⟨n,_,rfl⟩:=RW.mp hx;dsimp only[aw];refine⟨_,CA,_,_,CA,CA,⟨by decide,by decide,by decide⟩,_,_,CA,CA,(by decide:(0:Int)<10 ^ (60:Int).toNat),?_⟩;exact⟨_,CA,Tr n (by decide:(10:Int) ^ (60:Int).toNat≠0),t2,λH3 s3 t3=>⟨Bz,CA,cm ⟨_,CA,s2.trans s3,t3⟩⟩⟩
 .rintro σ H2 ⟨c,rfl,s2,t2⟩;exact k H2
end
theorem walk{l:PySem.W.OpenLaw}{q:R3}{d:DefRec}{K:XO->RH}(hn:l.most=A? 63)(BF:d.params.defaults=[])(hd:d.name="law")(hY:∀(w:Se)(h:SM),YP w h->(K w.params).In h){ts:List Ry}(hT:∀(w:Se)(h:SM),YP w h->∀P∈ts,h.get? P=A? (Wi #[]))(he:∀P:XO,ts=HD.i6 (K P))
 (F:∀(w:Se)(mg:R1->Option Rz)(h:SM),(K w.params).In h->h.Ns Te mg->TX (K w.params) mg):PySem.W.WalkO q loose XP YP l.row.toRowW d [] (λf vs=>PySem.call f vs) :=
 L2.qd (n:=63) (k:=20) (x:="script") (CX:=λ_=>CX0) (sp:=λw T=>mC (K w.params) T) hn (by decide) BF ⟨rfl,by decide,by decide⟩ hY hT he (λw mg fa h KX G hm=>by
  have T:=F w mg h KX G;obtain⟨_,_,_,_,_,_,_,_,_,e,_⟩:=T.g_31.F.ex;rw[hd]at hm;have e2:T.g_31.f=fa:=(Value.ref.inj (RN (hm.symm.trans T.g_31.m))).symm;subst e2;exact⟨_,_,_,λs v=>by rw[e];exact .of_eq rfl,T.g_23.t,T.g_23.u,λbase _ _ L=>vc T L⟩) (λ_ _ _ a ns hl hS hT=>⟨a,ns,rfl,hS,hl,hT,λ_=>rfl⟩) λ_ _ _ _ _ z=>z
end LAW
open PySem PySem.W PyProof.Rows
set_option maxRecDepth 100000 in
theorem PySem.Challenge.cw_boughbook_k50_many_notes_holds : PySem.Challenge.rw_boughbook_k50_many_notes.Holds := by
 w_on;(refine holds_law LAW.ws λQK=>?_);(refine holds_open (q:=LAW.vw) (N:=90000) (loose:=[]) (XP:=XL LAW.vw []) (Yf:=Hook.obs (kmHook LAW.d0.heap_1 LAW.ks LAW.ke LAW.ts)) (Ya:=Hook.val (kmHook LAW.d0.heap_1 LAW.ks LAW.ke LAW.ts)) (YP:=Hook.says (kmHook LAW.d0.heap_1 LAW.ks LAW.ke LAW.ts)) (Xt:=LAW.xt) (HD.pH (by kernel_rfl) (by kernel_rfl) (λ_=>by kernel_rfl) LAW.lk0 LAW.lk1 LAW.lk2 LAW.lk3 LAW.lk4 LAW.lk5 (HD.Pc.km LAW.kp LAW.kt)) (Hook.of (kmHook LAW.d0.heap_1 LAW.ks LAW.ke LAW.ts)) (Hook.keeps (kmHook LAW.d0.heap_1 LAW.ks LAW.ke LAW.ts)) (λs e=>xl_of s (Xg.mp e).1) XL.keeps (by rfl) (by rfl) (by rfl) (λs e=>recFacts_of (Xg.mp e).2) (by rfl) (by assumption) (by decide +kernel) ⟨rfl,rfl,rfl,rfl,rfl,by decide +kernel⟩ ?_ ?_);w_witness2
 k_fill
 exact LAW.walk (l:=PySem.Challenge.rw_boughbook_k50_many_notes) rfl rfl rfl (λw h Y=>PySem.W.km_in_of Y) (λw h Y=>PySem.W.km_tabs_of Y) LAW.te λw mg h x g=>by constructor <;> first|exact LAW.fx x g|exact LAW.bn x g|exact LAW.fm|exact LAW.na|exact LAW.gn x g|exact by k_is|exact by kit_is|exact⟨by k_is,by k_is,by k_is,by k_is⟩|exact⟨by k_is,by k_is⟩|exact LAW.cs x g|exact LAW.ci x g|k_exc|kts_exm|exact LAW.fmt
